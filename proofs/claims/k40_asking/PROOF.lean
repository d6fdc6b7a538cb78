import PyProof.Rows.All
import Wide.All
import OpenK.AllK
import Wide.FinOn
import Lean
import PyProof.EqAt
import PyProof.EqKinds
import PyProof.TupleCall
import PyProof.ExcBaseAll.ValueError
import PyProof.ExcClass2
import PyProof.ExcAttrAll.ValueError
import PyProof.Rows.StrWeight2
import PyProof.FactsAll.str_0
import PyProof.FactsAll.str_5
import KE.KSortAsk
import KE.KSortTup
import KE.KSortKey
import PyProof.Conv_int_bool
import PyProof.StrOps2
import PySem.Challenge.RW_markhall_k40_asking
set_option Elab.async false
set_option linter.all false
set_option maxRecDepth 100000
namespace Hd
open PySem PySem.W PyProof.Rows
def E3:Stmt→Bool
 | .Assign _ _ _=>false
 | _=>true
noncomputable def view:Program:={PySem.Challenge.rw_markhall_k40_asking.row.toRowW.prog with main:={PySem.Challenge.rw_markhall_k40_asking.row.toRowW.prog.main with body:=PySem.Challenge.rw_markhall_k40_asking.row.toRowW.prog.main.body.filter E3}}
local macro_rules|`(tactic| o_head $H)=>`(tactic| (refine holds_open (q:=Hd.view) (loose:=[]) (Xt:=fun s=>xlAt Hd.view [] s&&recOk (RowW.records PySem.Challenge.rw_markhall_k40_asking.row.toRowW) s) (XP:=XL Hd.view []) (Yf:=Hook.obs $H) (Ya:=Hook.val $H) (YP:=Hook.says $H) (N:=9000) ?hl (Hook.of $H) (Hook.keeps $H) (fun s e=>xl_of s (Bool.and_eq_true_iff.mp e).1) XL.keeps (by rfl) (by rfl) (by rfl) (fun s e=>recFacts_of (Bool.and_eq_true_iff.mp e).2) (by rfl) (by first|assumption|decide +kernel) (by decide +kernel) ⟨rfl,rfl,rfl,rfl,rfl,by decide +kernel⟩ ?hw ?hc;(case hl=>(intro w;unfold openEnds fencedOpening topFrom;rw[PySem.W.Fast.te14082659384304107361,PySem.W.Fast.te10274390034422433532,PySem.W.Fast.te14289696077712309145,PySem.W.Fast.te4187177175401517315,PySem.W.Fast.te1435165496053646825,PySem.W.Fast.te14364793385576792824];kernel_rfl))))
set_option maxHeartbeats 0 in
open_top top for PySem.Challenge.rw_markhall_k40_asking
end Hd
namespace L2
open PySem PySem.Spec PyProof.Rows
abbrev Key:=Sum Int Str
def xy:Key→Value→Bool
 | .inl k,v=>Value.isInt k v
 | .inr x,v=>Value.isStrOf x v
def keyH (w:World):Key→Int
 | .inl k=>hashInt k
 | .inr x=>hashStr w x
theorem eG:∀{k:Key}{v:Value},xy k v=true→(∃ i t,k=Sum.inl i∧v=Value.int i t)∨(∃ x t,k=Sum.inr x∧v=Value.str x t)
 | .inl i,v,h=>by
   obtain⟨t,e⟩:=Value.isInt_shape (k:=i) (v:=v) h
   exact .inl ⟨i,t,rfl,e⟩
 | .inr x,v,h=>by
   obtain⟨t,e⟩:=Value.isStrOf_shape (x:=x) (v:=v) h
   exact .inr ⟨x,t,rfl,e⟩
theorem E4 (a b:Int):decide ((Sum.inl a:Key)=Sum.inl b)=(a==b):=by
 by_cases e:a=b
 ·subst e;simp
 ·have h:¬(Sum.inl a:Key)=Sum.inl b:=fun q=>e (Sum.inl.inj q)
  rw[decide_eq_false h]
  exact(beq_eq_false_iff_ne.mpr e).symm
theorem E7 (a b:Str):decide ((Sum.inr a:Key)=Sum.inr b)=decide (a=b):=by
 by_cases e:a=b
 ·subst e;simp
 ·have h:¬(Sum.inr a:Key)=Sum.inr b:=fun q=>e (Sum.inr.inj q)
  rw[decide_eq_false h,decide_eq_false e]
theorem E5 (a:Int) (b:Str):decide ((Sum.inl a:Key)=Sum.inr b)=false:=decide_eq_false (fun q=>nomatch q)
theorem E6 (a:Str) (b:Int):decide ((Sum.inr a:Key)=Sum.inl b)=false:=decide_eq_false (fun q=>nomatch q)
def se (prog:Program)(w:World):PySem.KeyKind prog w Key where
 is:=xy
 hash:=keyH w
 inj:=fun v a b ha hb=>by
  rcases eG ha with⟨i,t,rfl,rfl⟩|⟨x,t,rfl,rfl⟩
  ·rcases eG hb with⟨j,u,rfl,e⟩|⟨y,u,rfl,e⟩
   ·injection e with e1 _;rw[e1]
   ·exact nomatch e
  ·rcases eG hb with⟨j,u,rfl,e⟩|⟨y,u,rfl,e⟩
   ·exact nomatch e
   ·injection e with e1 _;rw[e1]
 byValue:=fun k v h=>by
  rcases eG h with⟨i,t,rfl,rfl⟩|⟨x,t,rfl,rfl⟩<;>rfl
 pyHash:=fun hv h=>by
  rcases eG hv with⟨i,t,rfl,rfl⟩|⟨x,t,rfl,rfl⟩
  ·exact wpAny_pyHash_int h
  ·exact wpAny_pyHash_str h
 eqBool:=fun hu hv h=>by
  rcases eG hu with⟨i,t,rfl,rfl⟩|⟨x,t,rfl,rfl⟩
  ·rcases eG hv with⟨j,u,rfl,rfl⟩|⟨y,u,rfl,rfl⟩
   ·rw[E4] at h;exact wpAny_eqBool_int h
   ·rw[E5] at h;exact SeqAt.EqAt.int_str i t y u _ _ _ _ h
  ·rcases eG hv with⟨j,u,rfl,rfl⟩|⟨y,u,rfl,rfl⟩
   ·rw[E6] at h;exact SeqAt.EqAt.str_int x t j u _ _ _ _ h
   ·rw[E7] at h;exact wpAny_eqBool_str h
 «strs»:=fun k x t v h=>by
  rcases eG h with⟨i,u,rfl,e⟩|⟨y,u,rfl,e⟩
  ·exact nomatch e
  ·injection e with e1 _
   subst e1
   cases v<;>rfl
end L2
namespace L2
open PySem PySem.Spec PyProof.Rows
inductive V where
 | non|bl (b:Bool)|int (i:Int)|str (x:Str)|byt (b:Array UInt8)|flt (b:UInt64)|ref (a:Addr)|ty (n:String)
 deriving DecidableEq
def RelV:V→Value→Prop
 | .non,u=>u=Value.none
 | .bl b,u=>u=Value.bool b
 | .int i,u=>∃ t,u=Value.int i t
 | .str x,u=>∃ t,u=Value.str x t
 | .byt b,u=>∃ t,u=Value.bytes b t
 | .flt b,u=>∃ t,u=Value.float b t
 | .ref a,u=>u=Value.ref a
 | .ty n,u=>u=Value.type n
abbrev Vals:List V→List Value→Prop:=Paired RelV
theorem Vals.length {xs:List V}{us:List Value}(r:Vals xs us):xs.length=us.length:=Paired.length r
theorem Vals.get:∀{xs:List V}{us:List Value}{i:Nat}{x:V},Vals xs us→xs[i]?=some x→∃ u,us[i]?=some u∧RelV x u
 | _,_,_,_,.nil,e=>by simp at e
 | _,_,0,_,.cons r _,e=>by simp at e;subst e;exact⟨_,rfl,r⟩
 | _,_,i+1,x,.cons _ t,e=>by
   obtain⟨u,h1,h2⟩:=Vals.get (i:=i) (x:=x) t (by simpa using e)
   exact⟨u,by simpa using h1,h2⟩
theorem Vals.append:∀{xs ys:List V}{us ws:List Value},Vals xs us→Vals ys ws→Vals (xs++ys) (us++ws)
 | _,_,_,_,.nil,s=>s
 | _,_,_,_,.cons r t,s=>.cons r (Vals.append t s)
def RelO:Option V→Option Value→Prop
 | some v,some u=>RelV v u
 | none,none=>True
 | _,_=>False
def KV {κ:Type}:List (κ×V)→List (κ×Value)→Prop:=Paired fun(p:κ×V)(q:κ×Value)=>p.1=q.1∧RelV p.2 q.2
def kV:Key→V
 | .inl i=>.int i
 | .inr x=>.str x
inductive HO where
  
 | lst (xs:List V)
  
 | tup (xs:List V)
  
 | dK (kvs:List (Key×V))|dT (kvs:List (List Key×V))
  
 | set (S:Int→Bool) (n:Nat)
  
 | ins (C dx:Addr)(fs:List (Str×V))
  
 | own (x:Addr)
  
 | xd (fs:List (Str×V))
  
 | met (f x:Addr)
  
 | rng (lo hi:Int)
  
 | frz (o:Obj)(u:HO)
  
 | tbl (ps:Array Value)
  
 | ext (φ:Heap→Prop)
abbrev Hp:=Addr→Option HO
def upd (H:Hp)(a:Addr)(o:HO):Hp:=fun b=>if b=a then some o else H b
theorem bR {H:Hp}{a:Addr}{o:HO}:upd H a o a=some o:=by unfold upd;rw[if_pos rfl]
theorem ak {H:Hp}{a b:Addr}{o:HO}(h:b≠a):upd H a o b=H b:=by unfold upd;rw[if_neg h]
theorem ya {H:Hp}{a b:Addr}{o u:HO}(h:H a=some o)(h':H b=some u)(d:o≠u):a≠b:=by
 intro e;subst e;rw[h] at h';exact d (Option.some.inj h')
theorem aE {H:Hp}{a b:Addr}{o:HO}(h:H a=some o)(h':H b=none):a≠b:=by
 intro e;subst e;rw[h] at h';cases h'
section
variable (P:Program)(w:World)
def bE (H:Hp)(h:Heap)(a:Addr):HO→Prop
 | .lst xs=>xs.length≤sizeLine∧∃(its:List Value) (n:Nat),Vals xs its∧h.get? a=some {cls:=.type "list",data:=.seq its.toArray n}
 | .tup xs=>xs.length≤sizeLine∧∃ its:List Value,Vals xs its∧IsTup h a its.toArray
 | .dK kvs=>kvs.length≤sizeLine∧(a==sysModules)=false∧∃ vs,KV kvs vs∧h.DictOf (se P w) a vs
 | .dT kvs=>kvs.length≤sizeLine∧(a==sysModules)=false∧∃ xs:List (List Key×Addr×Value),
   Paired (fun(p:List Key×V)(q:List Key×Addr×Value)=>p.1=q.1∧H q.2.1=some (.tup (p.1.map kV))∧RelV p.2 q.2.2) kvs xs ∧
   ∃ o es ep,h.get? a=some o∧o.ExactDict∧o.data=.dict es ep∧es.toList=xs.map (entryOfKey (tupleKind (se P w)))∧(xs.map (·.1)).Nodup
 | .set S n=>h.SetOf (intKind P w) a S n
 | .ins C dx fs=>H dx=some (.own a)∧fs.length≤1000∧dx≠a∧h.get? a=some (PySem.W.instObj C dx) ∧
   ∃ mA,h.Ns1 dx mA∧(∀ f,RelO (fs.lookup f) (mA f))∧PySem.Within mA (fs.map (·.1))
 | .own _=>∃ o,h.get? a=some o
 | .xd fs=>∃ mA,h.Ns1 a mA∧∀ f,RelO (fs.lookup f) (mA f)
 | .rng lo hi=>∃ t u v,h.get? a=some {cls:=.type "range",data:=.fields #[.int lo t,.int hi u,.int 1 v]}
 | .frz o u=>h.get? a=some o∧bE H h a u
 | .tbl ps=>h.get? a=some {cls:=.none,data:=.fields ps}
 | .met f x=>h.get? a=some (PySem.W.methodObj (.ref f) (.ref x))
 | .ext φ=>φ h∧(∃ o,h.get? a=some o)∧∀ h1 h2:Heap,φ h1→(∀ o,h1.get? a=some o→h2.get? a=some o)→φ h2
def HOk (H:Hp)(h:Heap):Prop:=∀ a o,H a=some o→bE P w H h a o
end
section
variable {P:Program}{w:World}{H H':Hp}{h h':Heap}{a:Addr}{o:HO}
theorem bE.lt (x:bE P w H h a o):a<h.objs.size:=by
 cases o with
 | lst xs=>obtain⟨_,_,_,_,e⟩:=x;exact Heap.lt_size e
 | tup xs=>obtain⟨_,_,_,p⟩:=x;exact p.lt
 | dK kvs=>obtain⟨_,_,_,_,o,_,_,e,_⟩:=x;exact Heap.lt_size e
 | dT kvs=>obtain⟨_,_,_,_,o,_,_,e,_⟩:=x;exact Heap.lt_size e
 | set S n=>obtain⟨o,_,_,_,e,_⟩:=x;exact Heap.lt_size e
 | ins C dx fs=>obtain⟨_,_,_,e,_⟩:=x;exact Heap.lt_size e
 | own y=>obtain⟨_,e⟩:=x;exact Heap.lt_size e
 | xd fs=>obtain⟨_,⟨_,_,_,e,_⟩,_⟩:=x;exact Heap.lt_size e
 | rng lo hi=>obtain⟨_,_,_,e⟩:=x;exact Heap.lt_size e
 | frz ob u=>obtain⟨e,_⟩:=x;exact Heap.lt_size e
 | tbl ps=>exact Heap.lt_size (show h.get? a=some _ from x)
 | met f y=>exact Heap.lt_size (show h.get? a=some _ from x)
 | ext φ=>obtain⟨_,⟨_,e⟩,_⟩:=x;exact Heap.lt_size e
theorem Paired.mapP {α β:Type}{F G:α→β→Prop}:∀{l₁:List α}{l₂:List β},Paired F l₁ l₂→(∀ a b,F a b→G a b)→Paired G l₁ l₂
 | _,_,.nil,_=>.nil
 | _,_,.cons r t,f=>.cons (f _ _ r) (Paired.mapP t f)
theorem bE.stay (x:bE P w H h a o)(k:∀ b u,(b=a∨H b=some (.own a))→h.get? b=some u→h'.get? b=some u)
  (ho:∀ b,H b=some (.own a)→H' b=some (.own a)) (ht:∀ b xs,H b=some (.tup xs)→H' b=some (.tup xs)):bE P w H' h' a o:=by
 induction o with
 | lst xs=>obtain⟨z,its,n,r,e⟩:=x;exact⟨z,its,n,r,k _ _ (.inl rfl) e⟩
 | tup xs=>obtain⟨z,its,r,ob,e,c⟩:=x;exact⟨z,its,r,ob,k _ _ (.inl rfl) e,c⟩
 | dK kvs=>obtain⟨z,y,vs,r,ob,es,ep,e,c⟩:=x;exact⟨z,y,vs,r,ob,es,ep,k _ _ (.inl rfl) e,c⟩
 | dT kvs =>
   obtain⟨z,y,xs,r,ob,es,ep,e,c⟩:=x
   exact⟨z,y,xs,Paired.mapP r fun p q z=>⟨z.1,ht _ _ z.2.1,z.2.2⟩,ob,es,ep,k _ _ (.inl rfl) e,c⟩
 | set S n=>obtain⟨ob,es,ep,t,e,c⟩:=x;exact⟨ob,es,ep,t,k _ _ (.inl rfl) e,c⟩
 | ins C dx fs =>
   obtain⟨d,z,ne,e,mA,⟨od,es,ep,e2,c⟩,r⟩:=x
   exact⟨ho _ d,z,ne,k _ _ (.inl rfl) e,mA,⟨od,es,ep,k _ _ (.inr d) e2,c⟩,r⟩
 | own y=>obtain⟨ob,e⟩:=x;exact⟨ob,k _ _ (.inl rfl) e⟩
 | xd fs=>obtain⟨mA,⟨od,es,ep,e,c⟩,r⟩:=x;exact⟨mA,⟨od,es,ep,k _ _ (.inl rfl) e,c⟩,r⟩
 | rng lo hi=>obtain⟨t,u,v,e⟩:=x;exact⟨t,u,v,k _ _ (.inl rfl) e⟩
 | frz ob u ih=>obtain⟨e,q⟩:=x;exact⟨k _ _ (.inl rfl) e,ih q⟩
 | tbl ps =>
   have e:h.get? a=some {cls:=.none,data:=.fields ps}:=x
   show h'.get? a=some {cls:=.none,data:=.fields ps}
   exact k a _ (.inl rfl) e
 | met f y =>
   have e:h.get? a=some (PySem.W.methodObj (.ref f) (.ref y)):=x
   show h'.get? a=some (PySem.W.methodObj (.ref f) (.ref y))
   exact k a _ (.inl rfl) e
 | ext φ=>obtain⟨p,⟨o,e⟩,st⟩:=x;exact⟨st _ _ p fun o q=>k _ _ (.inl rfl) q,⟨o,k _ _ (.inl rfl) e⟩,st⟩
theorem HOk.lt (x:HOk P w H h)(e:H a=some o):a<h.objs.size:=(x a o e).lt
theorem HOk.fresh (x:HOk P w H h)(e:h.objs.size≤a):H a=none:=by
 cases q:H a with
 | none=>rfl
 | some u=>exact absurd (Nat.lt_of_lt_of_le (x.lt q) e) (Nat.lt_irrefl _)
theorem HOk.kept (x:HOk P w H h)(k:∀ b u,h.get? b=some u→h'.get? b=some u):HOk P w H h':=fun a o e =>
 (x a o e).stay (fun b u _ q=>k b u q) (fun _ q=>q) fun _ _ q=>q
theorem HOk.laid (x:HOk P w H h)(k:∀ b u,h.get? b=some u→h'.get? b=some u)(hp:h.objs.size≤a)(new:bE P w (upd H a o) h' a o):HOk P w (upd H a o) h':=fun b u e=>by
 have hn:=x.fresh hp
 by_cases hb:b=a
 ·subst hb;rw[bR] at e;cases e;exact new
 ·rw[ak hb] at e
  exact(x b u e).stay (fun c v _ q=>k c v q) (fun c q=>by rw[ak (aE q hn)];exact q) fun c xs q=>by rw[ak (aE q hn)];exact q
end
def Rd (H:Hp)(a:Addr)(u:HO):Prop:=H a=some u∨∃ o,H a=some (.frz o u)
theorem Rd.ok {P:Program}{w:World}{H:Hp}{h:Heap}{a:Addr}{u:HO}(r:Rd H a u)(x:HOk P w H h):bE P w H h a u:=by
 rcases r with r|⟨o,r⟩
 ·exact x a u r
 ·obtain⟨_,q⟩:=x a _ r
  exact q
def Mut:Option HO→Prop
 | some (.lst _)=>True
 | some (.dK _)=>True
 | some (.dT _)=>True
 | some (.set _ _)=>True
 | some (.ins _ _ _)=>True
 | some (.ext _)=>True
 | _=>False
section
variable {P:Program}{w:World}{H:Hp}{h h':Heap}{x e:Addr}{o':HO}
theorem HOk.write (ok:HOk P w H h)(mu:Mut (H x)) (he:e=x∨H e=some (.own x)) (k:∀ b u,b≠e→h.get? b=some u→h'.get? b=some u)(heo:∃ u,h'.get? e=some u)
  (new:bE P w (upd H x o') h' x o'):HOk P w (upd H x o') h':=fun b u q=>by
 have nown:∀ c y,H c=some (.own y)→c≠x:=fun c y r z=>by subst z;rw[r] at mu;exact mu
 have ntup:∀ c xs,H c=some (.tup xs)→c≠x:=fun c xs r z=>by subst z;rw[r] at mu;exact mu
 by_cases hb:b=x
 ·subst hb;rw[bR] at q;cases q;exact new
 ·rw[ak hb] at q
  by_cases hbe:b=e
  ·have q':H b=some (.own x):=by
    rcases he with z|z
    ·exact absurd (hbe.trans z) hb
    ·rw[hbe];exact z
   rw[q] at q';cases q'
   obtain⟨v,hv⟩:=heo
   exact⟨v,by rw[hbe];exact hv⟩
  ·refine(ok b u q).stay (fun c v hc r=>k c v ?_ r) (fun c r=>by rw[ak (nown c b r)];exact r) fun c xs r=>by rw[ak (ntup c xs r)];exact r
   rcases hc with rfl|hc
   ·exact hbe
   ·rintro rfl
    rcases he with z|z
    ·exact nown c b hc z
    ·rw[hc] at z;cases z;exact hb rfl
end
structure Un (fs ex:List Addr)(H H':Hp)(h h':Heap):Prop where
 keep:∀ b o,h.get? b=some o→H b=none→b∉fs→b∉ex→h'.get? b=some o
 slot:∀ b o,h.get? b=some o→H b=none→b∈fs→b∉ex→∃ sl,h'.get? b=some {o with slots:=sl}
 free:∀ b o,h.get? b=some o→H b=none→b∉ex→H' b=none
 there:∀ b o,h.get? b=some o→b∉ex→∃ o',h'.get? b=some o'
 tups:∀ b xs,H b=some (.tup xs)→H' b=some (.tup xs)
 frzs:∀ b o u,H b=some (.frz o u)→H' b=some (.frz o u)
 tbls:∀ b ps,H b=some (.tbl ps)→∃ more,H' b=some (.tbl (ps++more))
section
variable {fs fs' ex ex':List Addr}{H H1 H2:Hp}{h h1 h2 h':Heap}{a x e:Addr}{o:HO}
theorem Un.any (u:Un fs ex H H1 h h1){b:Addr}{ob:Obj}(q:h.get? b=some ob)(n:H b=none)(hx:b∉ex):∃ sl,h1.get? b=some {ob with slots:=sl}:=by
 by_cases hb:b∈fs
 ·exact u.slot b ob q n hb hx
 ·exact⟨ob.slots,u.keep b ob q n hb hx⟩
theorem Un.kept (k:∀ b u,h.get? b=some u→h'.get? b=some u):Un fs ex H H h h' :=
 ⟨fun b ob q _ _ _=>k b ob q,fun b ob q _ _ _=>⟨ob.slots,k b ob q⟩,fun _ _ _ n _=>n,fun b ob q _=>⟨ob,k b ob q⟩,fun _ _ q=>q,fun _ _ _ q=>q,fun _ ps q=>⟨#[],by rw[q];simp⟩⟩
theorem Un.refl:Un fs ex H H h h:=Un.kept fun _ _ q=>q
theorem Un.laid (k:∀ b u,h.get? b=some u→h'.get? b=some u)(hp:h.objs.size≤a)(hn:H a=none):Un fs ex H (upd H a o) h h' where
 keep:=fun b u q _ _ _=>k b u q
 slot:=fun b u q _ _ _=>⟨u.slots,k b u q⟩
 free:=fun b u q n _=>by rw[ak (Nat.ne_of_lt (Nat.lt_of_lt_of_le (Heap.lt_size q) hp))];exact n
 there:=fun b u q _=>⟨u,k b u q⟩
 tups:=fun b xs q=>by rw[ak (aE q hn)];exact q
 frzs:=fun b u xs q=>by rw[ak (aE q hn)];exact q
 tbls:=fun b ps q=>⟨#[],by rw[ak (aE q hn),q];simp⟩
theorem Un.write (mu:Mut (H x)) (he:e=x∨H e=some (.own x)) (k:∀ b u,b≠e→h.get? b=some u→h'.get? b=some u)(heo:∃ u,h'.get? e=some u):Un fs ex H (upd H x o) h h':=by
 have hx:∀ b,H b=none→b≠x:=fun b n z=>by subst z;rw[n] at mu;exact mu
 have hb:∀ b,H b=none→b≠e:=fun b n z=>by
  subst z
  rcases he with r|r
  ·exact hx b n r
  ·rw[n] at r;cases r
 have hm:∀ b u,H b=some u→¬ Mut (some u)→b≠x:=fun b u q nm z=>by subst z;rw[q] at mu;exact nm mu
 refine⟨fun b u q n _ _=>k b u (hb b n) q,fun b u q n _ _=>⟨u.slots,k b u (hb b n) q⟩,fun b u q n _=>by rw[ak (hx b n)];exact n,fun b u q _=>?_,
  fun b xs q=>by rw[ak (hm b _ q fun z=>z)];exact q,fun b u xs q=>by rw[ak (hm b _ q fun z=>z)];exact q,fun b ps q=>⟨#[],by rw[ak (hm b _ q fun z=>z),q];simp⟩⟩
 by_cases hbe:b=e
 ·subst hbe;exact heo
 ·exact⟨u,k b u hbe q⟩
end
def trk (h:Heap)(H:Hp):List Addr:=(List.range h.objs.size).filter fun a=>(H a).isSome
def hidT (h:Heap)(H:Hp):Heap:=PySem.W.hideAll h (trk h H)
theorem Ej (h:Heap)(H:Hp):(hidT h H).objs.size=h.objs.size:=PySem.W.hideAll_size _ _
theorem Ei {h:Heap}{H:Hp}{b:Addr}{o:Obj}(e:h.get? b=some o)(n:H b=none):(hidT h H).get? b=some o :=
 PySem.W.hideAll_get _ e fun hm=>by
  have q:(H b).isSome=true:=(List.mem_filter.mp hm).2
  rw[n] at q;simp at q
theorem GO {h:Heap}{H:Hp}{b:Addr}{o:Obj}(e:(hidT h H).get? b=some o):h.get? b=some o∧H b=none:=by
 have e':h.get? b=some o:=PySem.W.of_hideAll (trk h H) e
 refine⟨e',?_⟩
 cases q:H b with
 | none=>rfl
 | some x =>
   have hm:b∈trk h H:=List.mem_filter.mpr ⟨List.mem_range.mpr (Heap.lt_size e'),by simp [q]⟩
   have z:(hidT h H).get? b=none:=PySem.W.hideAll_none (trk h H) hm
   rw[z] at e;cases e
def AU (g h:Heap)(L:Addr):List (Addr×Obj):=(List.range h.objs.size).filterMap fun a=>if a=L∨(g.get? a).isSome=true then none else (h.get? a).map fun o=>(a,o)
def rest (g h:Heap)(L d:Addr):List (Addr×Obj):=(AU g h L).filter fun p=>decide (p.1≠d)
end L2
namespace L2
open PySem PySem.Spec PyProof.Rows
structure Mod (K:PySem.W.Frag)(mg:Str→Option Value)(base:Heap):Prop where
 kin:K.In base
 glob:base.Ns mainGlobals mg
 blt:∃ mb,base.Ns builtinsNs mb∧∀ x:Str,x≠"__name__"→mb x=bootBuiltins x
 nolimit:base.NoLimit
structure Cx where
 prog:Program
 w:World
 K:PySem.W.Frag
 mg:Str→Option Value
 base:Heap
 A:Around
 N:List Str
 s₀:Shared
 H₀:Hp
 env:Env
 outer:List Env
 stack:List Env
 ex:List Addr
 fn:Str→Bool
 calm:Bool
 pn:List (Addr×Obj)
 xe:Value→Shared→Prop
def frs (l:List Env):List Addr:=l.filterMap (·.frame)
abbrev Cx.fs (X:Cx):List Addr:=frs X.outer
def Vis (sc:Scope) (x:Str):Prop:=sc.names.lookup x=some .local∨sc.names.lookup x=some .cell∨sc.names.lookup x=some .free
def Loc (sc:Scope) (x:Str):Prop:=sc.names.lookup x=some .local∨sc.names.lookup x=some .cell
def Look (env:Env)(h:Heap)(m:Str→Option Value) (x:Str)(u:Value):Prop :=
 (env.kindOf x=some .local∧m x=some u)∨((env.kindOf x=some .cell∨env.kindOf x=some .free)∧∃ c,env.cells.lookup x=some c∧h.IsCell c (some u))
structure Cx.Ok (X:Cx):Prop where
 mod:Mod X.K X.mg X.base
 kind:X.env.scope.kind=.function
 glob:X.env.globals=mainGlobals
 blt:X.env.builtins=builtinsNs
 above:X.s₀.heap.objs.size≤X.env.locals
 inj:∀ x y c,X.env.cells.lookup x=some c→X.env.cells.lookup y=some c→x=y
 has:∀ x,(X.env.kindOf x=some .cell∨X.env.kindOf x=some .free)→∃ c,X.env.cells.lookup x=some c
 cab:∀ x c,X.fn x=true→X.env.cells.lookup x=some c→X.s₀.heap.objs.size≤c
 hd:X.calm=true→X.A.handled=none
 frames:X.A.frames=some X.stack
 stk:X.stack=X.outer∨(X.stack=X.env::X.outer∧X.env.frame=some X.env.locals)
 exf:∀ b∈X.ex,b≠X.env.locals∧∀ x c,X.env.cells.lookup x=some c→c≠b
 bs:∀ b o,X.base.get? b=some o→X.s₀.heap.get? b=some o∧X.H₀ b=none
 bsz:X.base.objs.size≤X.s₀.heap.objs.size
 noex:∀ b o,X.base.get? b=some o→b∉X.ex
 exfs:∀ b∈X.ex,b∉X.fs
 funs:X.s₀.heap.FunFrames X.base X.outer
 frf:∀ b∈X.fs,X.H₀ b=none
structure Inv (X:Cx)(pins:List (Addr×Obj)) (σ:List (Option V)) (H:Hp)(s:Shared):Prop where
 ok:X.Ok
 os:s.os=X.s₀.os
 bare:AllBare s.gens
 base:Un X.fs X.ex X.H₀ H X.s₀.heap s.heap
 loc:∃ m,s.heap.Ns X.env.locals m∧∀(i:Nat) (x:Str)(v:V),X.N[i]?=some x→σ[i]?=some (some v)→Vis X.env.scope x→∃ u,RelV v u∧Look X.env s.heap m x u
 cell:∀ x c,X.env.cells.lookup x=some c→∃ v,s.heap.IsCell c v
 free:H X.env.locals=none
 bK:∀ x c,X.env.cells.lookup x=some c→H c=none
 pin:∀ p∈X.pn++pins,s.heap.get? p.1=some p.2∧H p.1=none∧p.1≠X.env.locals∧p.1∉X.fs∧∀ v,p.2.data≠.cell v
 hok:HOk X.prog X.w H s.heap
 len:σ.length=X.N.length
section
variable {X:Cx}{pins:List (Addr×Obj)}{σ:List (Option V)}{H H':Hp}{s:Shared}{h':Heap}
theorem Cx.Ok.nofr (ok:X.Ok){b:Addr}{o:Obj}(e:X.base.get? b=some o):b∉X.fs:=fun hb=>by
 have:=(ok.funs.mem hb).1
 rw[e] at this;cases this
theorem Inv.bs (I:Inv X pins σ H s):∀ b o,X.base.get? b=some o→s.heap.get? b=some o∧H b=none:=fun b o e =>
 ⟨I.base.keep b o (I.ok.bs b o e).1 (I.ok.bs b o e).2 (I.ok.nofr e) (I.ok.noex b o e),I.base.free b o (I.ok.bs b o e).1 (I.ok.bs b o e).2 (I.ok.noex b o e)⟩
theorem Inv.bk (I:Inv X pins σ H s):∀ b o,X.base.get? b=some o→s.heap.get? b=some o:=fun b o e=>(I.bs b o e).1
theorem Inv.mod (I:Inv X pins σ H s):Mod X.K X.mg X.base:=I.ok.mod
theorem Inv.kIn (I:Inv X pins σ H s):X.K.In s.heap:=I.ok.mod.kin.keeps I.bk
theorem Inv.lt (I:Inv X pins σ H s):X.env.locals<s.heap.objs.size:=let ⟨_,hn,_⟩:=I.loc;hn.lt
theorem Inv.sz (I:Inv X pins σ H s):X.s₀.heap.objs.size≤s.heap.objs.size:=Nat.le_trans I.ok.above (Nat.le_of_lt I.lt)
theorem Inv.nofs (I:Inv X pins σ H s){a:Addr}(h:s.heap.objs.size≤a):a∉X.fs:=fun hb=>by
 obtain⟨_,o,ho,_⟩:=I.ok.funs.mem hb
 exact absurd (Nat.lt_of_lt_of_le (Heap.lt_size ho) (Nat.le_trans I.sz h)) (Nat.lt_irrefl _)
theorem Inv.cne (I:Inv X pins σ H s):∀ x c,X.env.cells.lookup x=some c→c≠X.env.locals:=fun x c e z=>by
 obtain⟨v,o,ho,hd⟩:=I.cell x c e
 obtain⟨m,⟨o',es,ep,ho',hd',_⟩,_⟩:=I.loc
 rw[z,ho'] at ho;cases ho;rw[hd'] at hd;cases hd
theorem Inv.funs (I:Inv X pins σ H s):s.heap.FunFrames X.base X.outer:=by
 have all:∀(l:List Env),(∀ b∈frs l,b∈X.fs)→X.s₀.heap.FunFrames X.base l→s.heap.FunFrames X.base l:=by
  intro l
  induction l with
  | nil=>intro _ _;trivial
  | cons env r ih =>
    intro hs hl
    obtain⟨hk,⟨L,o,hf,hn,ho,hd⟩,hr⟩:=hl
    have hL:L∈X.fs:=hs L (by unfold frs;rw[List.filterMap_cons,hf];exact List.mem_cons_self)
    obtain⟨sl,e⟩:=I.base.slot L o ho (I.ok.frf L hL) hL fun z=>I.ok.exfs L z hL
    exact⟨hk,⟨L,_,hf,hn,e,hd⟩,ih (fun b hb=>hs b (by unfold frs;rw[List.filterMap_cons,hf];exact List.mem_cons_of_mem _ hb)) hr⟩
 exact all X.outer (fun _ hb=>hb) I.ok.funs
theorem Inv.stack (I:Inv X pins σ H s):s.heap.FunFrames X.base X.stack:=by
 rcases I.ok.stk with e|⟨e,hf⟩
 ·rw[e];exact I.funs
 ·rw[e]
  obtain⟨m,hn,_⟩:=I.loc
  refine .cons (by rw[I.ok.kind];decide) hf hn ?_ I.funs
  exact Heap.get?_none_of_le (Nat.le_trans I.ok.bsz I.ok.above)
theorem Inv.tY (I:Inv X pins σ H s):∀ b∈frs X.stack,b∈X.env.locals::X.fs:=fun b hb=>by
 rcases I.ok.stk with e|⟨e,hf⟩
 ·rw[e] at hb;exact List.mem_cons_of_mem _ hb
 ·rw[e] at hb
  unfold frs at hb
  rw[List.filterMap_cons,hf] at hb
  exact hb
theorem Inv.nJ (I:Inv X pins σ H s):∀ b∈frs X.stack,H b=none:=fun b hb=>by
 rcases List.mem_cons.mp (I.tY b hb) with e|hb
 ·rw[e];exact I.free
 ·obtain⟨_,o,ho,_⟩:=I.ok.funs.mem hb
  exact I.base.free b o ho (I.ok.frf b hb) fun z=>I.ok.exfs b z hb
theorem Inv.step {g':Array GenState}{t':Nat}{d':Drawn}{ch:List Addr}(I:Inv X pins σ H s)
  (hch:∀ b∈ch,(b∈X.ex∨X.s₀.heap.objs.size≤b)∧b≠X.env.locals∧(∀ x c,X.env.cells.lookup x=some c→c≠b)∧∀ p∈X.pn++pins,p.1≠b)
  (keep:∀ b o,b≠X.env.locals→b∉X.fs→b∉ch→s.heap.get? b=some o→H b=none→h'.get? b=some o)
  (slot:∀ b o,b≠X.env.locals→b∈X.fs→b∉ch→s.heap.get? b=some o→H b=none→∃ sl,h'.get? b=some {o with slots:=sl}) (free:∀ b o,b∉ch→s.heap.get? b=some o→H b=none→H' b=none)
  (there:∀ b o,b∉ch→s.heap.get? b=some o→∃ o',h'.get? b=some o')
  (tups:∀ b xs,H b=some (.tup xs)→H' b=some (.tup xs)) (frzs:∀ b o u,H b=some (.frz o u)→H' b=some (.frz o u)) (tbls:∀ b ps,H b=some (.tbl ps)→∃ more,H' b=some (.tbl (ps++more)))
  (ns:∀ m,s.heap.Ns X.env.locals m→h'.Ns X.env.locals m)(hok:HOk X.prog X.w H' h')(hg:AllBare g') :
  Inv X pins σ H' {s with heap:=h',gens:=g',drawn:=d',toks:=t'}:=by
 have neL:∀ b o,X.s₀.heap.get? b=some o→b≠X.env.locals:=fun b o e=>Nat.ne_of_lt (Nat.lt_of_lt_of_le (Heap.lt_size e) I.ok.above)
 have neC:∀ b o,X.s₀.heap.get? b=some o→b∉X.ex→b∉ch:=fun b o e hx hb=>by
  rcases(hch b hb).1 with z|z
  ·exact hx z
  ·exact absurd (Nat.lt_of_lt_of_le (Heap.lt_size e) z) (Nat.lt_irrefl _)
 have cellK:∀ x c,X.env.cells.lookup x=some c→∀ v,s.heap.IsCell c v→h'.IsCell c v:=fun x c e v ⟨o,ho,hd⟩=>by
  have nch:c∉ch:=fun z=>(hch c z).2.2.1 x c e rfl
  by_cases hc:c∈X.fs
  ·obtain⟨sl,q⟩:=slot c o (I.cne x c e) hc nch ho (I.bK x c e)
   exact⟨_,q,hd⟩
  ·exact⟨o,keep c o (I.cne x c e) hc nch ho (I.bK x c e),hd⟩
 refine⟨I.ok,I.os,hg,⟨fun b o e n hb hx=>?_,fun b o e n hb hx=>?_,fun b o e n hx=>?_,fun b o e hx=>?_,fun b xs e=>tups b xs (I.base.tups b xs e),fun b o xs e=>frzs b o xs (I.base.frzs b o xs e),fun b ps e=>?_⟩,?_,fun x c e=>?_,?_,fun x c e=>?_,fun p hp=>?_,hok,I.len⟩
 ·exact keep b o (neL b o e) hb (neC b o e hx) (I.base.keep b o e n hb hx) (I.base.free b o e n hx)
 ·obtain⟨sl,e1⟩:=I.base.slot b o e n hb hx
  obtain⟨sl',e2⟩:=slot b _ (neL b o e) hb (neC b o e hx) e1 (I.base.free b o e n hx)
  exact⟨sl',e2⟩
 ·obtain⟨o',e1⟩:=I.base.there b o e hx
  exact free b o' (neC b o e hx) e1 (I.base.free b o e n hx)
 ·obtain⟨o',e1⟩:=I.base.there b o e hx
  exact there b o' (neC b o e hx) e1
 ·obtain⟨m1,e1⟩:=I.base.tbls b ps e
  obtain⟨m2,e2⟩:=tbls b _ e1
  exact⟨m1++m2,by rw[e2,Array.append_assoc]⟩
 ·obtain⟨m,hn,hl⟩:=I.loc
  refine⟨m,ns m hn,fun i x v e1 e2 e3=>?_⟩
  obtain⟨u,r,l⟩:=hl i x v e1 e2 e3
  refine⟨u,r,?_⟩
  rcases l with l|⟨k,c,e,z⟩
  ·exact .inl l
  ·exact .inr ⟨k,c,e,cellK x c e _ z⟩
 ·obtain⟨v,z⟩:=I.cell x c e
  exact⟨v,cellK x c e v z⟩
 ·obtain⟨m,⟨o,_,_,ho,_⟩,_⟩:=I.loc
  exact free _ o (fun z=>(hch _ z).2.1 rfl) ho I.free
 ·obtain⟨v,o,ho,hd⟩:=I.cell x c e
  exact free c o (fun z=>(hch c z).2.2.1 x c e rfl) ho (I.bK x c e)
 ·obtain⟨e,n,ne,nf,d⟩:=I.pin p hp
  have nch:p.1∉ch:=fun z=>(hch p.1 z).2.2.2 p hp rfl
  exact⟨keep p.1 p.2 ne nf nch e n,free p.1 p.2 nch e n,ne,nf,d⟩
theorem Inv.un {t':Nat}(I:Inv X pins σ H s)(u:Un X.fs [] H H' s.heap h')(hok:HOk X.prog X.w H' h'):Inv X pins σ H' {s with heap:=h',toks:=t'}:=by
 obtain⟨m,⟨o,es,ep,ho,r⟩,_⟩:=id I.loc
 obtain⟨sl,hL⟩:=u.any ho I.free (by simp)
 exact I.step (g':=s.gens) (d':=s.drawn) (ch:=[]) (fun _ z=>nomatch z) (fun b o _ hb _ e n=>u.keep b o e n hb (by simp)) (fun b o _ hb _ e n=>u.slot b o e n hb (by simp)) (fun b o _ e n=>u.free b o e n (by simp)) (fun b o _ e=>u.there b o e (by simp)) u.tups u.frzs u.tbls (fun m' hm=>by
  obtain⟨o',es',ep',ho',r'⟩:=hm
  rw[ho] at ho';cases ho'
  exact⟨_,es',ep',hL,r'⟩) hok I.bare
theorem Inv.call {g':Array GenState}{t':Nat}{d':Drawn}{ch:List Addr}(I:Inv X pins σ H s)(u:Un (frs X.stack) ch H H' s.heap h') (hok:HOk X.prog X.w H' h')(hg:AllBare g')
  (hch:∀ b∈ch,(b∈X.ex∨X.s₀.heap.objs.size≤b)∧b≠X.env.locals∧(∀ x c,X.env.cells.lookup x=some c→c≠b)∧∀ p∈X.pn++pins,p.1≠b) :
  Inv X pins σ H' {s with heap:=h',gens:=g',drawn:=d',toks:=t'}:=by
 obtain⟨m,⟨o,es,ep,ho,r⟩,_⟩:=id I.loc
 obtain⟨sl,hL⟩:=u.any ho I.free fun z=>(hch _ z).2.1 rfl
 exact I.step (ch:=ch) hch (fun b o hL hb hc e n=>u.keep b o e n (fun z=>(List.mem_cons.mp (I.tY b z)).elim hL hb) hc) (fun b o _ _ hc e n=>u.any e n hc) (fun b o hc e n=>u.free b o e n hc) (fun b o hc e=>u.there b o e hc) u.tups u.frzs u.tbls (fun m' hm=>by
  obtain⟨o',es',ep',ho',r'⟩:=hm
  rw[ho] at ho';cases ho'
  exact⟨_,es',ep',hL,r'⟩) hok hg
theorem Inv.turned {t':Nat}{it:Addr}(I:Inv X pins σ H s)(k:∀ b o,b≠it→s.heap.get? b=some o→h'.get? b=some o)(hn:H it=none)(hL:it≠X.env.locals)
  (h1:it∈X.ex∨X.s₀.heap.objs.size≤it)(h2:∀ x c,X.env.cells.lookup x=some c→c≠it)(h3:∀ p∈X.pn++pins,p.1≠it):Inv X pins σ H {s with heap:=h',toks:=t'}:=by
 have nit:∀ b u,H b=some u→b≠it:=fun b u e z=>by rw[z,hn] at e;cases e
 refine I.step (g':=s.gens) (d':=s.drawn) (ch:=[it]) (fun b hb=>?_) (fun b o _ _ hc e _=>k b o (fun z=>hc (by simp [z])) e) (fun b o _ _ hc e _=>⟨o.slots,k b o (fun z=>hc (by simp [z])) e⟩) (fun _ _ _ _ n=>n)
  (fun b o hc e=>⟨o,k b o (fun z=>hc (by simp [z])) e⟩) (fun _ _ e=>e) (fun _ _ _ e=>e) (fun b ps e=>⟨#[],by rw[e];simp⟩) (fun m hm=>?_) (fun b u e=>?_) I.bare
 ·have e:b=it:=by simpa using hb
  subst e
  exact⟨h1,hL,h2,h3⟩
 ·obtain⟨o,es,ep,ho,r⟩:=hm
  exact⟨o,es,ep,k _ o (Ne.symm hL) ho,r⟩
 ·refine(I.hok b u e).stay (fun c v hc q=>k c v ?_ q) (fun _ q=>q) fun _ _ q=>q
  rcases hc with z|z
  ·rw[z];exact nit b u e
  ·exact nit c _ z
theorem Inv.tok (I:Inv X pins σ H s) (t:Nat):Inv X pins σ H {s with toks:=t}:=I.un (h':=s.heap) (t':=t) Un.refl I.hok
theorem Inv.kept {t':Nat}(I:Inv X pins σ H s)(k:∀ b u,s.heap.get? b=some u→h'.get? b=some u):Inv X pins σ H {s with heap:=h',toks:=t'}:=I.un (Un.kept k) (I.hok.kept k)
theorem Inv.laid {a:Addr}{o:HO}{t':Nat}(I:Inv X pins σ H s)(k:∀ b u,s.heap.get? b=some u→h'.get? b=some u)(hp:s.heap.objs.size≤a)(new:bE X.prog X.w (upd H a o) h' a o) :
  Inv X pins σ (upd H a o) {s with heap:=h',toks:=t'}:=I.un (Un.laid k hp (I.hok.fresh hp)) (I.hok.laid k hp new)
theorem Inv.write {x e:Addr}{o:HO}{t':Nat}(I:Inv X pins σ H s)(mu:Mut (H x)) (he:e=x∨H e=some (.own x)) (k:∀ b u,b≠e→s.heap.get? b=some u→h'.get? b=some u)(heo:∃ u,h'.get? e=some u)
  (new:bE X.prog X.w (upd H x o) h' x o):Inv X pins σ (upd H x o) {s with heap:=h',toks:=t'}:=I.un (Un.write mu he k heo) (I.hok.write mu he k heo new)
theorem Inv.weak {σ':List (Option V)}(I:Inv X pins σ H s)(hl:σ'.length=σ.length)(w:∀(i:Nat) v,σ'[i]?=some (some v)→σ[i]?=some (some v)):Inv X pins σ' H s :=
 ⟨I.ok,I.os,I.bare,I.base,let ⟨m,hn,hl'⟩:=I.loc;⟨m,hn,fun i x v e1 e2 e3=>hl' i x v e1 (w i v e2) e3⟩,I.cell,I.free,I.bK,I.pin,I.hok,hl.trans I.len⟩
theorem Inv.kN {yE:List (Addr×Obj)}(I:Inv X pins σ H s)(h:∀ p∈yE,s.heap.get? p.1=some p.2∧H p.1=none∧p.1≠X.env.locals∧p.1∉X.fs∧∀ v,p.2.data≠.cell v):Inv X yE σ H s :=
 ⟨I.ok,I.os,I.bare,I.base,I.loc,I.cell,I.free,I.bK,fun p hp=>(List.mem_append.mp hp).elim (fun z=>I.pin p (List.mem_append_left _ z)) (h p),I.hok,I.len⟩
theorem sG {N:List Str}(hN:N.Nodup){i j:Nat}{x:Str}(a:N[i]?=some x)(b:N[j]?=some x):i=j:=by
 obtain⟨h1,e1⟩:=List.getElem?_eq_some_iff.mp a
 obtain⟨h2,e2⟩:=List.getElem?_eq_some_iff.mp b
 exact(List.getElem_inj hN).mp (e1.trans e2.symm)
theorem J5 {M:Model}{A:Around}{E:Value→Shared→Prop}{i:Nat}{x:Str}{v:V}{u:Value}{Q:Unit→Shared→Prop}(I:Inv X pins σ H s)(hN:X.N.Nodup)(hi:X.N[i]?=some x)(hx:Loc X.env.scope x)(r:RelV v u)
  (h:∀ s',Inv X pins (σ.set i (some v)) H s'→(∃ a,Heap.SameBut a s.heap s'.heap∧(a=X.env.locals∨X.env.cells.lookup x=some a))→Q () s') (hf:X.fn x=true∨X.env.scope.names.lookup x=some .local:=by first|exact .inl rfl|exact .inr rfl|assumption):wpAny M A (storeName X.env x u) Q E s:=by
 obtain⟨m,hn,hl⟩:=id I.loc
 have hcls:(X.env.scope.kind==.class||(X.env.scope.kind==.module&&X.env.locals != X.env.globals))=false:=by rw[I.ok.kind];rfl
 have hiσ:i<σ.length:=by rw[I.len];exact(List.getElem?_eq_some_iff.mp hi).1
 have cne:=I.cne
 have tracked:∀{a:Addr}{h':Heap},(∃ o,s.heap.get? a=some o∧H a=none)→Heap.SameBut a s.heap h'→HOk X.prog X.w H h':=fun{a h'} ha hs b ob e=>by
  obtain⟨_,_,hfree⟩:=ha
  refine(I.hok b ob e).stay (fun c w' hc q=>(hs.2 c ?_).trans q) (fun _ q=>q) fun _ _ q=>q
  rintro rfl
  rcases hc with rfl|hc
  ·rw[hfree] at e;cases e
  ·rw[hfree] at hc;cases hc
 rcases hx with hk|hk
 ·refine wpAny_storeName_local hk hn (fun h' hn' hs=>?_) hcls
  obtain⟨oL,_,_,hoL,_⟩:=id hn
  refine h _ ⟨I.ok,I.os,I.bare,⟨fun b o e n hb hx=>?_,fun b o e n hb hx=>?_,I.base.free,fun b o e hx=>?_,I.base.tups,I.base.frzs,I.base.tbls⟩,⟨_,hn',fun j y v' e1 e2 e3=>?_⟩,fun y c e=>?_,I.free,I.bK,fun p hp=>?_,tracked ⟨oL,hoL,I.free⟩ hs,by simpa using I.len⟩ ⟨_,hs,.inl rfl⟩
  ·exact(hs.2 b (Nat.ne_of_lt (Nat.lt_of_lt_of_le (Heap.lt_size e) I.ok.above))).trans (I.base.keep b o e n hb hx)
  ·obtain⟨sl,e1⟩:=I.base.slot b o e n hb hx
   exact⟨sl,(hs.2 b (Nat.ne_of_lt (Nat.lt_of_lt_of_le (Heap.lt_size e) I.ok.above))).trans e1⟩
  ·obtain⟨o',e1⟩:=I.base.there b o e hx
   exact⟨o',(hs.2 b (Nat.ne_of_lt (Nat.lt_of_lt_of_le (Heap.lt_size e) I.ok.above))).trans e1⟩
  ·by_cases hj:j=i
   ·subst hj
    rw[hi] at e1;cases e1
    rw[List.getElem?_set_self hiσ] at e2
    cases e2
    exact⟨u,r,.inl ⟨hk,by simp⟩⟩
   ·rw[List.getElem?_set_ne (Ne.symm hj)] at e2
    obtain⟨u',r',q⟩:=hl j y v' e1 e2 e3
    refine⟨u',r',?_⟩
    rcases q with⟨k,e⟩|⟨k,c,e,z⟩
    ·refine .inl ⟨k,?_⟩
     have:y≠x:=fun e=>hj (sG hN e1 (e▸hi))
     simp [this,e]
    ·exact .inr ⟨k,c,e,z.sameBut hs (cne y c e)⟩
  ·obtain⟨w',z⟩:=I.cell y c e
   exact⟨w',z.sameBut hs (cne y c e)⟩
  ·obtain⟨e,n,ne,nf,d⟩:=I.pin p hp
   exact⟨(hs.2 p.1 ne).trans e,n,ne,nf,d⟩
 ·have hfn:X.fn x=true:=by
   rcases hf with z|z
   ·exact z
   ·rw[z] at hk;cases hk
  obtain⟨c,hc⟩:=I.ok.has x (.inl hk)
  obtain⟨w',z⟩:=I.cell x c hc
  refine wpAny_storeName_cell I.ok.kind hk hc z (fun h' hc' hs=>?_)
  obtain⟨oc,hoc,hocd⟩:=id z
  refine h {s with heap:=h'} ⟨I.ok,I.os,I.bare,⟨fun b o e n hb hx=>?_,fun b o e n hb hx=>?_,I.base.free,fun b o e hx=>?_,I.base.tups,I.base.frzs,I.base.tbls⟩,⟨m,hn.sameBut hs (Ne.symm (cne x c hc)),fun j y v' e1 e2 e3=>?_⟩,fun y c' e=>?_,I.free,I.bK,fun p hp=>?_,tracked ⟨oc,hoc,I.bK x c hc⟩ hs,by simpa using I.len⟩ ⟨c,hs,.inr hc⟩
  ·exact(hs.2 b (Nat.ne_of_lt (Nat.lt_of_lt_of_le (Heap.lt_size e) (I.ok.cab x c hfn hc)))).trans (I.base.keep b o e n hb hx)
  ·obtain⟨sl,e1⟩:=I.base.slot b o e n hb hx
   exact⟨sl,(hs.2 b (Nat.ne_of_lt (Nat.lt_of_lt_of_le (Heap.lt_size e) (I.ok.cab x c hfn hc)))).trans e1⟩
  ·obtain⟨o',e1⟩:=I.base.there b o e hx
   exact⟨o',(hs.2 b (Nat.ne_of_lt (Nat.lt_of_lt_of_le (Heap.lt_size e) (I.ok.cab x c hfn hc)))).trans e1⟩
  ·by_cases hj:j=i
   ·subst hj
    rw[hi] at e1;cases e1
    rw[List.getElem?_set_self hiσ] at e2
    cases e2
    exact⟨u,r,.inr ⟨.inl hk,c,hc,hc'⟩⟩
   ·rw[List.getElem?_set_ne (Ne.symm hj)] at e2
    obtain⟨u',r',q⟩:=hl j y v' e1 e2 e3
    refine⟨u',r',?_⟩
    rcases q with q|⟨k,c',e,z'⟩
    ·exact .inl q
    ·refine .inr ⟨k,c',e,z'.sameBut hs ?_⟩
     rintro rfl
     exact hj (sG hN e1 (I.ok.inj _ _ _ e hc▸hi))
  ·by_cases hcc:c'=c
   ·subst hcc;exact⟨_,hc'⟩
   ·obtain⟨w2,z2⟩:=I.cell y c' e
    exact⟨w2,z2.sameBut hs hcc⟩
  ·obtain⟨e,n,ne,nf,d⟩:=I.pin p hp
   refine⟨(hs.2 p.1 ?_).trans e,n,ne,nf,d⟩
   intro q
   rw[q,hoc] at e
   have q':oc=p.2:=Option.some.inj e
   exact d w' (by rw[← q'];exact hocd)
theorem nK {M:Model}{A:Around}{E:Value→Shared→Prop}{i:Nat}{x:Str}{v:V}{u:Value}{Q:Unit→Shared→Prop}(I:Inv X pins σ H s)(hN:X.N.Nodup)(hi:X.N[i]?=some x)(hx:Loc X.env.scope x)(r:RelV v u)
  (h:∀ s',Inv X pins (σ.set i (some v)) H s'→Q () s') (hf:X.fn x=true∨X.env.scope.names.lookup x=some .local:=by first|exact .inl rfl|exact .inr rfl|assumption):wpAny M A (storeName X.env x u) Q E s :=
 J5 I hN hi hx r (fun s' I' _=>h s' I') hf
theorem Inv.call' {s':Shared}{ch:List Addr}(I:Inv X pins σ H s)(ho:s'.os=s.os)(u:Un (frs X.stack) ch H H' s.heap s'.heap) (hok:HOk X.prog X.w H' s'.heap)(hg:AllBare s'.gens)
  (hch:∀ b∈ch,(b∈X.ex∨X.s₀.heap.objs.size≤b)∧b≠X.env.locals∧(∀ x c,X.env.cells.lookup x=some c→c≠b)∧∀ p∈X.pn++pins,p.1≠b):Inv X pins σ H' s':=by
 obtain⟨h',g',d',t',o'⟩:=s'
 have e:o'=s.os:=ho
 subst e
 exact I.call (g':=g') (t':=t') (d':=d') u hok hg hch
end
abbrev XK:=Value→Option Addr→Hp→Prop
abbrev St:=List (Option V)
abbrev VK:=V→Hp→Prop
abbrev TE:=St→Hp→VK→Prop
abbrev TT:=St→Hp→(Bool→Hp→Prop)→Prop
abbrev TA:=St→Hp→(List V→Hp→Prop)→Prop
structure Ends where
 nx:St→Hp→Prop
 rt:VK
 bk:St→Hp→Prop:=fun _ _=>False
 ct:St→Hp→Prop:=fun _ _=>False
abbrev TS:=Ends→St→Hp→Prop
def EP (X:Cx)(pins:List (Addr×Obj)) (σ:St)(Q:VK)(u:Value)(s':Shared):Prop:=∃ v H',Inv X pins σ H' s'∧RelV v u∧Q v H'
def TP (X:Cx)(pins:List (Addr×Obj)) (σ:St)(Q:Bool→Hp→Prop)(b:Bool)(s':Shared):Prop:=∃ H',Inv X pins σ H' s'∧Q b H'
def AP (X:Cx)(pins:List (Addr×Obj)) (σ:St)(Q:List V→Hp→Prop)(us:List Value)(s':Shared):Prop:=∃ vs H',Inv X pins σ H' s'∧Vals vs us∧Q vs H'
def SP (X:Cx)(pins:List (Addr×Obj)) (D:Ends)(f:Flow)(s':Shared):Prop :=
 match f with
 | .next=>∃ σ' H',Inv X pins σ' H' s'∧D.nx σ' H'
 | .brk=>∃ σ' H',Inv X pins σ' H' s'∧D.bk σ' H'
 | .cont=>∃ σ' H',Inv X pins σ' H' s'∧D.ct σ' H'
 | .ret u=>∃ v σ' H',Inv X pins σ' H' s'∧RelV v u∧D.rt v H'
def PE (X:Cx)(e:Expr)(t:TE):Prop :=
 ∀(pins:List (Addr×Obj)) (s:Shared)(σ:St)(H:Hp)(Q:VK),Inv X pins σ H s→t σ H Q→wpAny (model X.prog X.w) X.A (eval e X.env) (EP X pins σ Q) X.xe s
def PT (X:Cx)(e:Expr)(t:TT):Prop :=
 ∀(pins:List (Addr×Obj)) (s:Shared)(σ:St)(H:Hp)(Q:Bool→Hp→Prop),Inv X pins σ H s→t σ H Q→wpAny (model X.prog X.w) X.A (isTrue e X.env (eval e X.env)) (TP X pins σ Q) X.xe s
def PW (X:Cx)(e:Expr)(t:TT):Prop :=
 ∀(whole:Sem Value)(pins:List (Addr×Obj)) (s:Shared)(σ:St)(H:Hp)(Q:Bool→Hp→Prop),Inv X pins σ H s→t σ H Q→wpAny (model X.prog X.w) X.A (isTrue e X.env whole) (TP X pins σ Q) X.xe s
theorem PW.pt {X:Cx}{e:Expr}{t:TT}(h:PW X e t):PT X e t:=h _
def PA (X:Cx)(es:List Expr)(t:TA):Prop :=
 ∀(pos:Pos)(pins:List (Addr×Obj)) (s:Shared)(σ:St)(H:Hp)(Q:List V→Hp→Prop),Inv X pins σ H s→t σ H Q→wpAny (model X.prog X.w) X.A (spliced (backTo pos (starEach es X.env))) (AP X pins σ Q) X.xe s
def PS (X:Cx)(st:Stmt)(t:TS):Prop :=
 ∀(pins:List (Addr×Obj)) (s:Shared)(σ:St)(H:Hp)(D:Ends),Inv X pins σ H s→t D σ H→wpAny (model X.prog X.w) X.A (exec st X.env) (SP X pins D) X.xe s
def PSs (X:Cx)(st:List Stmt)(t:TS):Prop :=
 ∀(pins:List (Addr×Obj)) (s:Shared)(σ:St)(H:Hp)(D:Ends),Inv X pins σ H s→t D σ H→wpAny (model X.prog X.w) X.A (execs st X.env) (SP X pins D) X.xe s
theorem thn {α:Type}{t:Sem α}{Q Q':α→Shared→Prop}{M:Model}{A:Around}{E:Value→Shared→Prop}{s:Shared}(h:wpAny M A t Q E s)(hQ:∀ a s,Q a s→Q' a s):wpAny M A t Q' E s:=wpAny_mono h hQ fun _ _ x=>x
end L2
namespace L2
open PySem PySem.Spec PyProof.Rows
section
variable {X:Cx}
def tVar (i:Nat):TE:=fun σ H Q=>∃ v,σ[i]?=some (some v)∧Q v H
def tC (v:V):TE:=fun _ H Q=>Q v H
theorem bO {i:Nat}{x:Str}{pos:Pos}(hN:X.N[i]?=some x)(hv:Vis X.env.scope x)(hd:(x==("__debug__":Str))=false:=by decide) (hcd:(x==("__classdict__":Str))=false:=by decide):PE X (.Name x pos) (tVar i):=by
 intro pins s σ H Q I h
 obtain⟨v,e,h⟩:=h
 obtain⟨m,hn,hl⟩:=I.loc
 obtain⟨u,r,l⟩:=hl i x v hN e hv
 have fin:EP X pins σ Q u s:=⟨v,H,I,r,h⟩
 rcases l with⟨hk,hm⟩|⟨hk,c,hc,hcell⟩
 ·exact wpAny_Name (wpAny_loadName_local I.ok.kind hk hn hm fin) hd
 ·rcases hk with hk|hk
  ·exact wpAny_Name (wpAny_loadName_cell I.ok.kind hk hc hcell fin) hd
  ·exact wpAny_Name (wpAny_loadName_free I.ok.kind hk hc hcell fin hcd) hd
theorem Hf {i j pos}:PE X (.Constant (.int i) j pos) (tC (.int i)):=fun _ _ _ H _ I h=>wpAny_Constant_int ⟨.int i,H,I.tok _,⟨_,rfl⟩,h⟩
theorem G6 {b j pos}:PE X (.Constant (.bool b) j pos) (tC (.bl b)):=fun _ _ _ H _ I h=>Constant_bool ⟨.bl b,H,I,rfl,h⟩
theorem ng {j pos}:PE X (.Constant .none j pos) (tC .non):=fun _ _ _ H _ I h=>Constant_none ⟨.non,H,I,rfl,h⟩
theorem yy {x j pos}:PE X (.Constant (.str x) j pos) (tC (.str x)):=fun _ _ _ H _ I h=>Calls.Constant_str ⟨.str x,H,I.tok _,⟨_,rfl⟩,h⟩
def Gl (X:Cx) (x:Str):Prop:=X.env.kindOf x=some .globalImplicit
theorem mY {E:Value→Shared→Prop}{pins:List (Addr×Obj)}{s:Shared}{σ:St}{H:Hp}{x:Str}{u:Value}{pos:Pos}{Q:Value→Shared→Prop}(I:Inv X pins σ H s)(hg:Gl X x)(hm:X.mg x=some u)(h:Q u s)
  (hd:(x==("__debug__":Str))=false:=by decide):wpAny (model X.prog X.w) X.A (eval (.Name x pos) X.env) Q E s :=
 Calls.Name_function_global I.ok.kind hg (Calls.loadGlobal_global (by rw[I.ok.glob];exact I.mod.glob.keeps I.bk) hm h) hd
theorem cI {E:Value→Shared→Prop}{pins:List (Addr×Obj)}{s:Shared}{σ:St}{H:Hp}{x:Str}{u:Value}{pos:Pos}{Q:Value→Shared→Prop}(I:Inv X pins σ H s)(hg:Gl X x)(hm:X.mg x=none)(hv:bootBuiltins x=some u)(h:Q u s)
  (hn:x≠"__name__":=by decide)(hd:(x==("__debug__":Str))=false:=by decide):wpAny (model X.prog X.w) X.A (eval (.Name x pos) X.env) Q E s:=by
 obtain⟨mb,h1,h2⟩:=I.mod.blt
 exact Calls.Name_function_global I.ok.kind hg (Calls.loadGlobal_builtin (by rw[I.ok.glob];exact I.mod.glob.keeps I.bk) hm (by rw[I.ok.blt];exact h1.keeps I.bk) ((h2 x hn).trans hv) h) hd
theorem yv {x:Str}{v:V}{u:Value}{pos:Pos}(hg:Gl X x)(hm:X.mg x=some u)(r:RelV v u)(hd:(x==("__debug__":Str))=false:=by decide):PE X (.Name x pos) (tC v) :=
 fun _ _ _ H _ I h=>mY I hg hm ⟨v,H,I,r,h⟩ hd
theorem yr {x:Str}{v:V}{u:Value}{pos:Pos}(hg:Gl X x)(hm:X.mg x=none)(hv:bootBuiltins x=some u)(r:RelV v u)(hn:x≠"__name__":=by decide)(hd:(x==("__debug__":Str))=false:=by decide):PE X (.Name x pos) (tC v) :=
 fun _ _ _ H _ I h=>cI I hg hm hv ⟨v,H,I,r,h⟩ hn hd
def t2I (ta tb:TE)(k:Int→Int→Hp→Prop):St→Hp→Prop:=fun σ H=>ta σ H fun x H1=>tb σ H1 fun y H2=>∃ i j,x=.int i∧y=.int j∧k i j H2
def tAdd (ta tb:TE):TE:=fun σ H Q=>t2I ta tb (fun i j H2=>Q (.int (i+j)) H2) σ H
def tSub (ta tb:TE):TE:=fun σ H Q=>t2I ta tb (fun i j H2=>Q (.int (i - j)) H2) σ H
def tMul (ta tb:TE):TE:=fun σ H Q=>t2I ta tb (fun i j H2=>(-(2 ^ 64)<i∧i<2 ^ 64)∧Q (.int (i * j)) H2) σ H
variable {a b:Expr}{ta tb:TE}{pos:Pos}
def tIsN (ta:TE):TE:=fun σ H Q=>ta σ H fun x H1=>Q (.bl (decide (x=.non))) H1
def jm (ta:TE):TE:=fun σ H Q=>ta σ H fun x H1=>Q (.bl (!decide (x=.non))) H1
def tB (t:TE):TT:=fun σ H Q=>t σ H fun x H1=>∃ c,x=.bl c∧Q c H1
theorem H9 {e:Expr}{t:TE}(h:PE X e t)(he:∀ whole,isTrue e X.env whole=(do let v ← whole;standAt e.pos;holding [v] (truthy v)):=by intro _;rfl):PT X e (tB t):=by
 intro pins s σ H Q I hw
 refine isTrue_plain (thn (h pins s σ H _ I hw) fun v s1 ⟨x,H1,I1,r1,q1⟩=>?_) (he _)
 obtain⟨d,rfl,q⟩:=q1
 cases r1
 exact wpAny_truthy_bool ⟨H1,I1,q⟩
variable {tA tB':TT}{rest:List Expr}
def tAnd (t u:TT):TT:=fun σ H Q=>t σ H fun c H1=>if c=true then u σ H1 Q else Q false H1
def tOr (t u:TT):TT:=fun σ H Q=>t σ H fun c H1=>if c=true then Q true H1 else u σ H1 Q
def tNot (t:TT):TT:=fun σ H Q=>t σ H fun c H1=>Q (!c) H1
theorem pw_and1 (ha:PT X a tA):PW X (.BoolOp .And [a] pos) tA:=by
 intro wh pins s σ H Q I h
 refine isTrue_and (thn (ha pins s σ H Q I h) fun c s1 e=>?_)
 cases c with
 | true=>exact isTrue_and_nil e
 | false=>exact e
theorem pw_or1 (ha:PT X a tA):PW X (.BoolOp .Or [a] pos) tA:=by
 intro wh pins s σ H Q I h
 refine isTrue_or (thn (ha pins s σ H Q I h) fun c s1 e=>?_)
 cases c with
 | false=>exact isTrue_or_nil e
 | true=>exact e
theorem pw_and (ha:PT X a tA)(hb:PW X (.BoolOp .And (b::rest) pos) tB'):PW X (.BoolOp .And (a::b::rest) pos) (tAnd tA tB'):=by
 intro wh pins s σ H Q I h
 refine isTrue_and (thn (ha pins s σ H _ I h) fun c s1 ⟨H1,I1,q1⟩=>?_)
 cases c with
 | true=>exact hb wh pins s1 σ H1 Q I1 q1
 | false=>exact⟨H1,I1,q1⟩
theorem pw_or (ha:PT X a tA)(hb:PW X (.BoolOp .Or (b::rest) pos) tB'):PW X (.BoolOp .Or (a::b::rest) pos) (tOr tA tB'):=by
 intro wh pins s σ H Q I h
 refine isTrue_or (thn (ha pins s σ H _ I h) fun c s1 ⟨H1,I1,q1⟩=>?_)
 cases c with
 | true=>exact⟨H1,I1,q1⟩
 | false=>exact hb wh pins s1 σ H1 Q I1 q1
theorem HY (ha:PT X a tA):PT X (.UnaryOp .Not a pos) (tNot tA):=by
 intro pins s σ H Q I h
 exact isTrue_not (ha pins s σ H (fun c H1=>Q (!c) H1) I h)
def Ko (ta tb:TE):TE:=fun σ H Q=>ta σ H fun x H1=>∃ c,x=.bl c∧if c=true then tb σ H1 Q else Q (.bl false) H1
def KP (ta:TE):TE:=fun σ H Q=>ta σ H fun x H1=>∃ c,x=.bl c∧Q (.bl (!c)) H1
theorem Hl {op}{t:TE}(h:PE X a t):PE X (.BoolOp op [a] pos) t:=fun pins s σ H Q I hw=>BoolOp_one (h pins s σ H Q I hw)
theorem G5 (ha:PE X a ta)(hb:PE X (.BoolOp .And (b::rest) pos) tb):PE X (.BoolOp .And (a::b::rest) pos) (Ko ta tb):=by
 intro pins s σ H Q I h
 refine BoolOp_and (thn (ha pins s σ H _ I h) fun v s1 ⟨x,H1,I1,r1,q1⟩=>?_)
 obtain⟨c,rfl,q1⟩:=q1
 cases r1
 refine wpAny_truthy_bool ?_
 cases c with
 | true=>exact hb pins s1 σ H1 Q I1 q1
 | false=>exact⟨.bl false,H1,I1,rfl,q1⟩
theorem Hj (ha:PE X a ta):PE X (.UnaryOp .Not a pos) (KP ta):=by
 intro pins s σ H Q I h
 refine UnaryOp_ (thn (ha pins s σ H _ I h) fun v s1 ⟨x,H1,I1,r1,q1⟩=>?_)
 obtain⟨c,rfl,q1⟩:=q1
 cases r1
 exact not_of (wpAny_truthy_bool ⟨.bl (!c),H1,I1,rfl,q1⟩)
def tIf (t:TT)(ta tb:TE):TE:=fun σ H Q=>t σ H fun c H1=>if c=true then ta σ H1 Q else tb σ H1 Q
theorem G9 {c:Expr}(hc:PT X c tA)(ha:PE X a ta)(hb:PE X b tb):PE X (.IfExp c a b pos) (tIf tA ta tb):=by
 intro pins s σ H Q I h
 refine wpAny_IfExp (thn (hc pins s σ H _ I h) fun d s1 ⟨H1,I1,q1⟩=>?_)
 cases d with
 | true=>exact ha pins s1 σ H1 Q I1 q1
 | false=>exact hb pins s1 σ H1 Q I1 q1
end
end L2
namespace L2
open PySem PySem.Spec PyProof.Rows
def SqL (K:PySem.W.Frag)(H:Hp)(a:Addr)(xs:List V):Prop :=
 Rd H a (.lst xs) ∨
  ∃(o:Obj)(its:Array Value) (n:Nat),K.lookup a=some o∧o.cls=.type "list"∧o.dict=none∧o.data=.seq its n∧its.size≤sizeLine∧Vals xs its.toList
def SqT (K:PySem.W.Frag)(H:Hp)(a:Addr)(xs:List V):Prop :=
 Rd H a (.tup xs) ∨
  ∃(o:Obj)(its:Array Value) (n:Nat),K.lookup a=some o∧o.cls=.type "tuple"∧o.data=.seq its n∧its.size≤sizeLine∧Vals xs its.toList
def absV:Value→Option V
 | .none=>some .non
 | .bool b=>some (.bl b)
 | .int i _=>some (.int i)
 | .str x _=>some (.str x)
 | .bytes b _=>some (.byt b)
 | .float b _=>some (.flt b)
 | .ref a=>some (.ref a)
 | .type n=>some (.ty n)
 | _=>none
theorem RelV.abs {x:V}{u:Value}(r:RelV x u):absV u=some x:=by
 cases x with
 | non=>cases r;rfl
 | bl _=>cases r;rfl
 | int _=>obtain⟨t,rfl⟩:=r;rfl
 | str _=>obtain⟨t,rfl⟩:=r;rfl
 | byt _=>obtain⟨t,rfl⟩:=r;rfl
 | flt _=>obtain⟨t,rfl⟩:=r;rfl
 | ref _=>cases r;rfl
 | ty _=>cases r;rfl
theorem RelV.inj {x y:V}{u:Value}(r:RelV x u)(q:RelV y u):x=y:=Option.some.inj (r.abs.symm.trans q.abs)
theorem Vals.inj:∀{xs ys:List V}{us:List Value},Vals xs us→Vals ys us→xs=ys
 | _,_,_,.nil,.nil=>rfl
 | _,_,_,.cons r t,.cons r' t'=>by rw[r.inj r',Vals.inj t t']
section
variable {X:Cx}{pins:List (Addr×Obj)}{σ:St}{H:Hp}{s:Shared}{a:Addr}{xs ys:List V}
theorem SqL.of {K:PySem.W.Frag}(h:H a=some (.lst xs)):SqL K H a xs:=.inl (.inl h)
theorem SqT.of {K:PySem.W.Frag}(h:H a=some (.tup xs)):SqT K H a xs:=.inl (.inl h)
theorem Inv.list (I:Inv X pins σ H s)(h:SqL X.K H a xs):∃ its:List Value,Vals xs its∧PlainL s.heap a its.toArray∧xs.length≤sizeLine:=by
 rcases h with h|⟨o,its,n,hk,hc,hd,hs,hz,r⟩
 ·obtain⟨z,its,n,r,e⟩:=h.ok I.hok
  exact⟨its,r,⟨_,n,e,rfl,rfl,rfl⟩,z⟩
 ·refine⟨its.toList,r,⟨o,n,I.kIn a o hk,hc,hd,by simpa using hs⟩,?_⟩
  have e:=r.length
  simp only[Array.length_toList] at e
  omega
theorem Inv.tuple (I:Inv X pins σ H s)(h:SqT X.K H a xs):∃ its:List Value,Vals xs its∧IsTup s.heap a its.toArray∧xs.length≤sizeLine:=by
 rcases h with h|⟨o,its,n,hk,hc,hs,hz,r⟩
 ·obtain⟨z,its,r,p⟩:=h.ok I.hok
  exact⟨its,r,p,z⟩
 ·refine⟨its.toList,r,⟨o,I.kIn a o hk,hc,n,by simpa using hs⟩,?_⟩
  have e:=r.length
  simp only[Array.length_toList] at e
  omega
theorem Inv.r9 (I:Inv X pins σ H s)(h:SqL X.K H a xs)(h':SqL X.K H a ys):xs=ys:=by
 obtain⟨its,r,⟨o,n,e,_,_,d⟩,_⟩:=I.list h
 obtain⟨its',r',⟨o',n',e',_,_,d'⟩,_⟩:=I.list h'
 rw[e] at e';cases e'
 rw[d] at d'
 injection d' with d1 _
 have:its=its':=by simpa using congrArg Array.toList d1
 subst this
 exact r.inj r'
theorem Inv.uA (I:Inv X pins σ H s)(h:SqT X.K H a xs)(h':SqT X.K H a ys):xs=ys:=by
 obtain⟨its,r,⟨o,e,_,n,d⟩,_⟩:=I.tuple h
 obtain⟨its',r',⟨o',e',_,n',d'⟩,_⟩:=I.tuple h'
 rw[e] at e';cases e'
 rw[d] at d'
 injection d' with d1 _
 have:its=its':=by simpa using congrArg Array.toList d1
 subst this
 exact r.inj r'
end
abbrev Cx.wish (X:Cx)(E:Value→Shared→Prop):Cx:={X with xe:=E}
abbrev Cx.nox (X:Cx):Cx:=X.wish fun _ _=>False
theorem Cx.Ok.wish {X:Cx}(ok:X.Ok)(E:Value→Shared→Prop):(X.wish E).Ok :=
 ⟨ok.mod,ok.kind,ok.glob,ok.blt,ok.above,ok.inj,ok.has,ok.cab,ok.hd,ok.frames,ok.stk,ok.exf,ok.bs,ok.bsz,ok.noex,ok.exfs,ok.funs,ok.frf⟩
theorem Cx.Ok.dN {X:Cx}{E:Value→Shared→Prop}(ok:(X.wish E).Ok):X.Ok :=
 ⟨ok.mod,ok.kind,ok.glob,ok.blt,ok.above,ok.inj,ok.has,ok.cab,ok.hd,ok.frames,ok.stk,ok.exf,ok.bs,ok.bsz,ok.noex,ok.exfs,ok.funs,ok.frf⟩
section
variable {X:Cx}{pins:List (Addr×Obj)}{σ:St}{H:Hp}{s:Shared}{E:Value→Shared→Prop}
theorem Inv.wish (I:Inv X pins σ H s)(E:Value→Shared→Prop):Inv (X.wish E) pins σ H s:=⟨I.ok.wish E,I.os,I.bare,I.base,I.loc,I.cell,I.free,I.bK,I.pin,I.hok,I.len⟩
theorem Inv.dN (I:Inv (X.wish E) pins σ H s):Inv X pins σ H s:=⟨I.ok.dN,I.os,I.bare,I.base,I.loc,I.cell,I.free,I.bK,I.pin,I.hok,I.len⟩
theorem SP.dN {D:Ends}{f:Flow}{s':Shared}(h:SP (X.wish E) pins D f s'):SP X pins D f s':=by
 cases f with
 | next=>obtain⟨σ',H',I,q⟩:=h;exact⟨σ',H',I.dN,q⟩
 | brk=>obtain⟨σ',H',I,q⟩:=h;exact⟨σ',H',I.dN,q⟩
 | cont=>obtain⟨σ',H',I,q⟩:=h;exact⟨σ',H',I.dN,q⟩
 | ret u=>obtain⟨v,σ',H',I,r,q⟩:=h;exact⟨v,σ',H',I.dN,r,q⟩
theorem PSs.nox {st:List Stmt}{t:TS}(h:PSs X.nox st t):PSs X st t:=fun pins s σ H D I hw =>
 wpAny_mono (h pins s σ H D (I.wish _) hw) (fun _ _ q=>q.dN) fun _ _ z=>False.elim z
end
section
variable {X:Cx}{st:Stmt}{rest:List Stmt}{t u:TS}{e:Expr}{te:TE}{pos:Pos}
def KN:TS:=fun D σ H=>D.nx σ H
def tSeq (t u:TS):TS:=fun D σ H=>t {D with nx:=u D} σ H
theorem HV:PSs X [] KN:=fun _ _ σ H _ I h=>wpAny_execs_nil ⟨σ,H,I,h⟩
theorem yI (h1:PS X st t)(h2:PSs X rest u):PSs X (st::rest) (tSeq t u):=by
 intro pins s σ H D I h
 refine wpAny_execs_cons (thn (h1 pins s σ H {D with nx:=u D} I h) fun f s1 q=>?_)
 cases f with
 | next =>
   obtain⟨σ',H',I',q⟩:=q
   exact h2 pins s1 σ' H' D I' q
 | ret v=>exact q
 | brk=>exact q
 | cont=>exact q
theorem yJ (h1:PS X st t):PSs X [st] t:=by
 intro pins s σ H D I h
 refine wpAny_execs_cons (thn (h1 pins s σ H D I h) fun f s1 q=>?_)
 cases f with
 | next=>exact wpAny_execs_nil q
 | ret v=>exact q
 | brk=>exact q
 | cont=>exact q
theorem Inv.quiet {pins:List (Addr×Obj)}{σ:St}{H:Hp}{s:Shared}(I:Inv X pins σ H s):interactive X.env=false:=by simp [interactive,I.ok.kind]
def Ks (te:TE):TS:=fun D σ H=>te σ H fun _ H1=>D.nx σ H1
theorem yG (he:PE X e te)(hs:swapsWith e none pos.line X.env=pure false:=by rfl):PS X (.Expr e pos) (Ks te):=by
 intro pins s σ H D I h
 exact wpAny_Expr_any (thn (he pins s σ H _ I h) fun v s1 ⟨x,H1,I1,r1,q1⟩=>⟨σ,H1,I1,q1⟩) I.quiet hs
def tRet (te:TE):TS:=fun D σ H=>te σ H D.rt
theorem nj (he:PE X e te):PS X (.Return (some e) pos) (tRet te):=by
 intro pins s σ H D I h
 exact wpAny_Return_some (thn (he pins s σ H _ I h) fun v s1 ⟨x,H1,I1,r1,q1⟩=>⟨x,σ,H1,I1,r1,q1⟩)
def tIfS (c:TT)(t u:TS):TS:=fun D σ H=>c σ H fun b H1=>if b=true then t D σ H1 else u D σ H1
theorem yH {c:Expr}{a b:List Stmt}{tc:TT}(hc:PT X c tc)(ha:PSs X a t)(hb:PSs X b u):PS X (.If c a b pos) (tIfS tc t u):=by
 intro pins s σ H D I h
 refine wpAny_If (thn (hc pins s σ H _ I h) fun d s1 ⟨H1,I1,q1⟩=>?_)
 cases d with
 | true=>exact ha pins s1 σ H1 D I1 q1
 | false=>exact hb pins s1 σ H1 D I1 q1
end
abbrev TG:=V→St→Hp→(St→Hp→Prop)→Prop
abbrev TGs:=List V→St→Hp→(St→Hp→Prop)→Prop
def PG (X:Cx)(target:Expr)(t:TG):Prop :=
 ∀(pins:List (Addr×Obj)) (s:Shared)(σ:St)(H:Hp)(v:V)(u:Value)(Q:St→Hp→Prop),Inv X pins σ H s→RelV v u→t v σ H Q →
  wpAny (model X.prog X.w) X.A (assign target X.env u) (fun _ s'=>∃ σ' H',Inv X pins σ' H' s'∧Q σ' H') X.xe s
def PGs (X:Cx)(ts:List Expr)(t:TGs):Prop :=
 ∀(pins:List (Addr×Obj)) (s:Shared)(σ:St)(H:Hp)(vs:List V)(us:List Value)(Q:St→Hp→Prop),Inv X pins σ H s→Vals vs us→t vs σ H Q →
  wpAny (model X.prog X.w) X.A (assignInOrder ((assignEach ts X.env).map (·.2)) us) (fun _ s'=>∃ σ' H',Inv X pins σ' H' s'∧Q σ' H') X.xe s
section
variable {X:Cx}{pos:Pos}
def iZ (i:Nat):TG:=fun v σ H Q=>Q (σ.set i (some v)) H
theorem sO {i:Nat}{x:Str}(hN:X.N.Nodup)(hi:X.N[i]?=some x)(hx:Loc X.env.scope x)(hf:X.fn x=true∨X.env.scope.names.lookup x=some .local:=by first|exact .inl rfl|exact .inr rfl|assumption):PG X (.Name x pos) (iZ i):=by
 intro pins s σ H v u Q I r h
 exact wpAny_assign_Name (nK I hN hi hx r (fun s' I'=>⟨_,H,I',h⟩) hf)
def gNil:TGs:=fun vs σ H Q=>vs=[]∧Q σ H
def Dn (t:TG)(u:TGs):TGs:=fun vs σ H Q=>∃ v r,vs=v::r∧t v σ H fun σ' H'=>u r σ' H' Q
theorem Hv:PGs X [] gNil:=by
 intro pins s σ H vs us Q I r h
 obtain⟨e,h⟩:=h
 subst e
 cases r
 exact assignInOrder_nil ⟨σ,H,I,h⟩
theorem yz {e:Expr}{es:List Expr}{t:TG}{u:TGs}(h1:PG X e t)(h2:PGs X es u)
  (hs:(assignEach (e::es) X.env).map (·.2)=assign e X.env::(assignEach es X.env).map (·.2):=by rfl):PGs X (e::es) (Dn t u):=by
 intro pins s σ H vs us Q I r h
 obtain⟨v,vr,e1,h⟩:=h
 subst e1
 cases r with
 | cons r rr =>
   rw[hs]
   refine assignInOrder_cons (thn (h1 pins s σ H _ _ _ I r h) fun _ s1 ⟨σ1,H1,I1,q1⟩=>?_)
   exact h2 pins s1 σ1 H1 _ _ Q I1 rr q1
def gTup (K:PySem.W.Frag) (n:Nat)(t:TGs):TG:=fun v σ H Q=>∃ a xs,v=.ref a∧SqT K H a xs∧xs.length=n∧t xs σ H Q
theorem Hu {es:List Expr}{k:Nat}{t:TGs}{n:Nat}(hc:X.calm=true)(h:PGs X es t)
  (hn:(assignEach es X.env).length=n:=by rfl) (hst:(assignEach es X.env).findIdx? (·.1)=none:=by rfl):PG X (.Tuple es k pos) (gTup X.K n t):=by
 intro pins s σ H v u Q I r hw
 obtain⟨a,xs,e1,hq,hl,hw⟩:=hw
 subst e1
 cases r
 obtain⟨its,rv,ht,hz⟩:=I.tuple hq
 refine assign_Tuple_tuple (I.ok.hd hc) ht (by simp [hn,← hl,rv.length]) hst fun h' hx=>?_
 have I1:Inv X pins σ H {s with heap:=h'}:=I.kept (t':=s.toks) fun b o e=>hx b o (Nat.ne_of_lt (Heap.lt_size e)) e
 exact h pins _ σ H xs _ Q I1 (by simpa using rv) hw
def tAsg (te:TE)(g:TG):TS:=fun D σ H=>te σ H fun x H1=>g x σ H1 D.nx
theorem sS {i:Nat}{x:Str}{e:Expr}{te:TE}{pos':Pos}(hN:X.N.Nodup)(hi:X.N[i]?=some x)(hx:Loc X.env.scope x)(he:PE X e te)(hs:swapsWith e (some (.Name x pos')) pos.line X.env=pure false:=by rfl) (hf:X.fn x=true∨X.env.scope.names.lookup x=some .local:=by first|exact .inl rfl|exact .inr rfl|assumption) :
  PS X (.Assign [.Name x pos'] e pos) (tAsg te (iZ i)):=by
 intro pins s σ H D I h
 refine wpAny_Assign_Name (thn (he pins s σ H _ I h) fun v s1 ⟨y,H1,I1,r1,q1⟩=>?_) hs
 exact nK I1 hN hi hx r1 (fun s2 I2=>⟨_,H1,I2,q1⟩) hf
end
section
variable {X:Cx}{pos:Pos}
def KY (c:TT)(tb:TS):TS:=fun D σ H=>∃ W:Nat→St→Hp→Prop,(∃ m,W m σ H)∧∀ m σ H,W m σ H →
 c σ H fun b H1=>if b=true then ∃ N:St→Hp→Prop,(∀ σ' H',N σ' H'→∃ m',m'<m∧W m' σ' H')∧tb {D with nx:=N,ct:=N,bk:=D.nx} σ H1 else D.nx σ H1
theorem HU {c:Expr}{body:List Stmt}{tc:TT}{tb:TS}(hp:PassesOwn (model X.prog X.w) X.A X.env X.xe) (hc:PT X c tc)(hb:PSs X body tb):PS X (.While c body [] pos) (KY tc tb):=by
 intro pins s σ H D I h
 obtain⟨W,⟨m0,w0⟩,turn⟩:=h
 refine wpAny_While (codeAny_whileLoop (fun n s'=>∃ σ' H',Inv X pins σ' H' s'∧W n σ' H') ?_ m0 ⟨σ,H,I,w0⟩)
 rintro n s1 ⟨σ1,H1,I1,w1⟩
 refine wpAny_passesOwn hp (thn (hc pins s1 σ1 H1 _ I1 (turn n σ1 H1 w1)) fun b s2 ⟨H2,I2,q2⟩=>?_)
 cases b with
 | true =>
   obtain⟨N,hN,q2⟩:=q2
   rw[if_pos rfl]
   refine wpAny_passesOwn hp (thn (hb pins s2 σ1 H2 _ I2 q2) fun f s3 q3=>?_)
   cases f with
   | next =>
     obtain⟨σ3,H3,I3,n3⟩:=q3
     obtain⟨m',hm,w3⟩:=hN σ3 H3 n3
     exact⟨m',hm,σ3,H3,I3,w3⟩
   | cont =>
     obtain⟨σ3,H3,I3,n3⟩:=q3
     obtain⟨m',hm,w3⟩:=hN σ3 H3 n3
     exact⟨m',hm,σ3,H3,I3,w3⟩
   | brk=>exact q3
   | ret v=>exact q3
 | false =>
   rw[if_neg Bool.false_ne_true]
   exact wpAny_execs_nil ⟨σ1,H2,I2,q2⟩
end
structure It where
 go:Nat→Hp→Prop
 yld:Nat→Hp→V→Hp→Prop
 stop:Nat→Hp→Prop
def FpOk (X:Cx)(pins:List (Addr×Obj)) (H:Hp)(b:Addr):Prop :=
 H b=none∧b≠X.env.locals∧b∉X.fs∧(b∈X.ex∨X.s₀.heap.objs.size≤b)∧(∀ x c,X.env.cells.lookup x=some c→c≠b)∧∀ p∈X.pn++pins,p.1≠b
theorem Inv.fpOk {X:Cx}{pins:List (Addr×Obj)}{σ:St}{H H':Hp}{s:Shared}{b:Addr}(I:Inv X pins σ H s)(hb:s.heap.objs.size≤b)(hn:H' b=none):FpOk X pins H' b:=by
 refine⟨hn,Nat.ne_of_gt (Nat.lt_of_lt_of_le I.lt hb),I.nofs hb,.inr (Nat.le_trans I.sz hb),fun x c e z=>?_,fun p hp z=>?_⟩
 ·obtain⟨v,q⟩:=I.cell x c e
  exact absurd (Nat.lt_of_lt_of_le q.lt (by rw[z];exact hb)) (Nat.lt_irrefl _)
 ·exact absurd (Nat.lt_of_lt_of_le (Heap.lt_size (I.pin p hp).1) (by rw[z];exact hb)) (Nat.lt_irrefl _)
structure Turn (P:Program)(w:World)(K:PySem.W.Frag)(tg:Expr)(J:It)(fp:List Addr)(it:Addr)(tn:Nat→Heap→Prop):Prop where
 mem:it∈fp
 obj:∀ i h,tn i h→∀ b∈fp,∃ o,h.get? b=some o∧∀ v,o.data≠.cell v
 keep:∀ i h h',tn i h→(∀ b∈fp,∀ o,h.get? b=some o→h'.get? b=some o)→tn i h'
 item:∀(X:Cx),X.prog=P→X.w=w→X.K=K→X.calm=true→∀(i:Nat)(pins:List (Addr×Obj)) (s:Shared)(σ:St)(H:Hp)(E:Value→Shared→Prop),Inv X pins σ H s→(∀ b∈fp,FpOk X pins H b)→tn i s.heap→J.go i H →
  wpAny (model P w) X.A (pyNext (.ref it)) (fun r s1=>∃ u,r=some u ∧
   wpAny (model P w) X.A (letOwnedTupleGo tg (.ref it) u) (fun _ s2=>∃ x H',Inv X pins σ H' s2∧RelV x u∧J.yld i H x H'∧tn (i+1) s2.heap∧∀ b∈fp,H' b=none) E s1) E s
 done:∀(X:Cx),X.prog=P→X.w=w→X.K=K→X.calm=true→∀(i:Nat)(pins:List (Addr×Obj)) (s:Shared)(σ:St)(H:Hp)(E:Value→Shared→Prop),Inv X pins σ H s→(∀ b∈fp,FpOk X pins H b)→tn i s.heap→J.stop i H →
  wpAny (model P w) X.A (pyNext (.ref it)) (fun r s1=>r=none∧Inv X pins σ H s1) E s
 self:∀(A:Around) (i:Nat)(s:Shared)(Q:Value→Shared→Prop)(E:Value→Shared→Prop),tn i s.heap→Q (.ref it) s→wpAny (model P w) A (pyIter (.ref it)) Q E s
abbrev TI:=St→Hp→(It→Hp→Prop)→Prop
def PIE (X:Cx)(pins:List (Addr×Obj)) (σ:St)(tg:Expr)(R:It→Hp→Prop)(itv:Value)(s2:Shared):Prop :=
 ∃(it:Addr)(fp:List Addr)(tn:Nat→Heap→Prop)(J:It)(H':Hp),itv=.ref it∧Inv X pins σ H' s2∧Turn X.prog X.w X.K tg J fp it tn∧tn 0 s2.heap∧(∀ b∈fp,FpOk X pins H' b)∧R J H'
def PI (X:Cx)(tg iter:Expr)(wi:TI):Prop :=
 ∀(pins:List (Addr×Obj)) (s:Shared)(σ:St)(H:Hp)(R:It→Hp→Prop),Inv X pins σ H s→wi σ H R →
  wpAny (model X.prog X.w) X.A (eval iter X.env) (fun v s1=>wpAny (model X.prog X.w) X.A (pyIter v) (PIE X pins σ tg R) X.xe s1) X.xe s
theorem qy {M:Model}{A:Around}{E:Value→Shared→Prop}{s:Shared}{tg:Expr}{it:Addr}{u:Value}{o:Obj}{n:String}{vs:Array Value}{Q:Unit→Shared→Prop}(ho:s.heap.get? it=some o)(hc:o.cls=.type n)(hd:o.data=.fields vs)
  (hn:["enumerate","zip","dict_itemiterator","dict_reverseitemiterator","odict_iterator","itertools.zip_longest","itertools.pairwise"].contains n=false)(hQ:Q () s):wpAny M A (letOwnedTupleGo tg (.ref it) u) Q E s:=by
 unfold letOwnedTupleGo
 cases tg<;>first
  | exact wpAny_pure hQ
  | (cases u<;>first
    | exact wpAny_pure hQ
    | (refine wpAny_bind (wpAny_load ho ?_)
       rw[hc,hd]
       show wpAny M A (if (["enumerate","zip","dict_itemiterator","dict_reverseitemiterator","odict_iterator","itertools.zip_longest","itertools.pairwise"].contains n&&vs[0]?==some (rawInt _))=true then _ else _) Q E s
       rw[if_neg (by intro h;rw[hn,Bool.false_and] at h;cases h)]
       exact wpAny_pure hQ))
def Itl (K:PySem.W.Frag)(a:Addr):It :=
 ⟨fun i H=>∃ xs x,SqL K H a xs∧xs[i]?=some x,fun i H x H'=>H'=H∧∀ xs,SqL K H a xs→xs[i]?=some x,fun i H=>∃ xs,SqL K H a xs∧xs.length≤i⟩
def Itt (K:PySem.W.Frag)(a:Addr):It :=
 ⟨fun i H=>∃ xs x,SqT K H a xs∧xs[i]?=some x,fun i H x H'=>H'=H∧∀ xs,SqT K H a xs→xs[i]?=some x,fun i H=>∃ xs,SqT K H a xs∧xs.length≤i⟩
def Itr (lo:Int) (n:Nat):It:=⟨fun i _=>i<n,fun i H x H'=>H'=H∧x=.int (lo+i),fun i _=>n≤i⟩
theorem Lf {P:Program}{w:World}{K:PySem.W.Frag}{tg:Expr}(a it:Addr):Turn P w K tg (Itl K a) [it] it (fun i h=>h.IsListIter it a i) where
 mem:=by simp
 obj:=fun i h st b hb=>by
  have e:b=it:=by simpa using hb
  subst e
  obtain⟨o,e,c,d⟩:=st
  exact⟨o,e,fun v z=>by rw[d] at z;cases z⟩
 keep:=fun i h h' st k=>st.at fun o e=>k it (by simp) o e
 item:=by
  intro X hP hw hK hc i pins s σ H E I hf st hg
  subst hP hw hK
  obtain⟨xs,x,hq,hx⟩:=hg
  obtain⟨its,rv,p,hz⟩:=I.list hq
  obtain⟨u,hu,ru⟩:=rv.get hx
  obtain⟨f0,f1,f2,f3,f4,f5⟩:=hf it (by simp)
  refine wpAny_pyNext_list_item st p.isList (x:=u) (by simpa using hu) fun h' st' sb=>?_
  have I1:Inv X pins σ H {s with heap:=h'}:=I.turned (t':=s.toks) (fun b o hb e=>(sb.2 b hb).trans e) f0 f1 f3 f4 f5
  obtain⟨o,e,c,d⟩:=id st'
  exact⟨u,rfl,qy (s:={s with heap:=h'}) e c d (by decide) ⟨x,H,I1,ru,⟨rfl,fun ys hy=>by rw[I.r9 hy hq];exact hx⟩,st',fun b hb=>(hf b hb).1⟩⟩
 done:=by
  intro X hP hw hK hc i pins s σ H E I hf st hg
  subst hP hw hK
  obtain⟨xs,hq,hx⟩:=hg
  obtain⟨its,rv,p,hz⟩:=I.list hq
  obtain⟨f0,f1,f2,f3,f4,f5⟩:=hf it (by simp)
  have hl:=rv.length
  exact wpAny_pyNext_list_end (I.ok.hd hc) st p.isList (by simp;omega) fun h' eb=>⟨rfl,I.turned (t':=s.toks) (fun b o hb e=>eb b o hb e) f0 f1 f3 f4 f5⟩
 self:=fun _ _ _ _ _ st h=>wpAny_pyIter_listiter st h
theorem Lh {P:Program}{w:World}{K:PySem.W.Frag}{tg:Expr}(a it:Addr):Turn P w K tg (Itt K a) [it] it (fun i h=>h.IsTupleIter it a i) where
 mem:=by simp
 obj:=fun i h st b hb=>by
  have e:b=it:=by simpa using hb
  subst e
  obtain⟨o,e,c,d⟩:=st
  exact⟨o,e,fun v z=>by rw[d] at z;cases z⟩
 keep:=fun i h h' st k=>st.at fun o e=>k it (by simp) o e
 item:=by
  intro X hP hw hK hc i pins s σ H E I hf st hg
  subst hP hw hK
  obtain⟨xs,x,hq,hx⟩:=hg
  obtain⟨its,rv,p,hz⟩:=I.tuple hq
  obtain⟨u,hu,ru⟩:=rv.get hx
  obtain⟨f0,f1,f2,f3,f4,f5⟩:=hf it (by simp)
  refine wpAny_pyNext_tuple_item st (show s.heap.IsTuple a its.toArray from p) (x:=u) (by simpa using hu) fun h' st' sb=>?_
  have I1:Inv X pins σ H {s with heap:=h'}:=I.turned (t':=s.toks) (fun b o hb e=>(sb.2 b hb).trans e) f0 f1 f3 f4 f5
  obtain⟨o,e,c,d⟩:=id st'
  exact⟨u,rfl,qy (s:={s with heap:=h'}) e c d (by decide) ⟨x,H,I1,ru,⟨rfl,fun ys hy=>by rw[I.uA hy hq];exact hx⟩,st',fun b hb=>(hf b hb).1⟩⟩
 done:=by
  intro X hP hw hK hc i pins s σ H E I hf st hg
  subst hP hw hK
  obtain⟨xs,hq,hx⟩:=hg
  obtain⟨its,rv,p,hz⟩:=I.tuple hq
  obtain⟨f0,f1,f2,f3,f4,f5⟩:=hf it (by simp)
  have hl:=rv.length
  exact wpAny_pyNext_tuple_end (I.ok.hd hc) st (show s.heap.IsTuple a its.toArray from p) (by simp;omega) fun h' eb=>⟨rfl,I.turned (t':=s.toks) (fun b o hb e=>eb b o hb e) f0 f1 f3 f4 f5⟩
 self:=fun _ _ _ _ _ st h=>wpAny_pyIter_tupleiter st h
theorem Lg {P:Program}{w:World}{K:PySem.W.Frag}{tg:Expr}(it:Addr) (lo:Int) (n:Nat):Turn P w K tg (Itr lo n) [it] it (fun i h=>IsRangeIter h it (lo+(i:Nat) * 1) ((n:Int) - (i:Nat)) 1) where
 mem:=by simp
 obj:=fun i h st b hb=>by
  have e:b=it:=by simpa using hb
  subst e
  exact⟨_,st,fun v z=>by
   have z':Data.fields _=Data.cell v:=z
   cases z'⟩
 keep:=fun i h h' st k=>k it (by simp) _ st
 item:=by
  intro X hP hw hK hc i pins s σ H E I hf st hg
  subst hP hw hK
  obtain⟨f0,f1,f2,f3,f4,f5⟩:=hf it (by simp)
  have W:=Walks.range (prog:=X.prog) (w:=X.w) (I.ok.hd hc) it lo 1 n
  refine W.item i s _ _ hg st fun v h' tk hv st' kk=>?_
  obtain⟨t,rfl⟩:=hv
  have I1:Inv X pins σ H {s with heap:=h',toks:=tk}:=I.turned (fun b o hb e=>kk b o (by simpa using hb) e) f0 f1 f3 f4 f5
  refine⟨_,rfl,qy (s:={s with heap:=h',toks:=tk}) (n:="range_iterator") st' rfl rfl (by decide) ⟨.int (lo+i),H,I1,⟨t,?_⟩,⟨rfl,rfl⟩,st',fun b hb=>(hf b hb).1⟩⟩
  rw[Int.mul_one]
 done:=by
  intro X hP hw hK hc i pins s σ H E I hf st hg
  subst hP hw hK
  obtain⟨f0,f1,f2,f3,f4,f5⟩:=hf it (by simp)
  exact wpAny_pyNext_range_end (I.ok.hd hc) st (by have:n≤i:=hg;omega) fun h' eb=>⟨rfl,I.turned (t':=s.toks) (fun b o hb e=>eb b o hb e) f0 f1 f3 f4 f5⟩
 self:=fun _ _ _ _ _ st h=>wpAny_pyIter_rangeiter st h
end L2
namespace L2
open PySem PySem.Spec PyProof.Rows
section
variable {X:Cx}{tg:Expr}
theorem yN {pins:List (Addr×Obj)}{σ:St}{H:Hp}{s:Shared}{R:It→Hp→Prop}{E:Value→Shared→Prop}{lo hi:Int}{t u v:Tok}{tk:Nat}(I:Inv X pins σ H s)(h1 : -(2 ^ 62)≤lo) (h2:lo<2 ^ 62)(h3 : -(2 ^ 62)≤hi) (h4:hi<2 ^ 62)
  (q:R (Itr lo (hi - lo).toNat) H):wpAny (model X.prog X.w) X.A (pyIter (.ref s.heap.objs.size)) (PIE X pins σ tg R) E {s with heap:=s.heap.push {cls:=.type "range",data:=.fields #[.int lo t,.int hi u,.int 1 v]},toks:=tk}:=by
 refine wpAny_pyIter_range (IsRange.new ..) (small_one h1 h2 h3 h4) ?_
 have I1:Inv X pins σ H {s with heap:=s.heap.push {cls:=.type "range",data:=.fields #[.int lo t,.int hi u,.int 1 v]},toks:=tk}:=I.kept fun b o e=>Heap.get?_push_of_some _ e
 refine⟨(s.heap.push {cls:=.type "range",data:=.fields #[.int lo t,.int hi u,.int 1 v]}).objs.size,[(s.heap.push {cls:=.type "range",data:=.fields #[.int lo t,.int hi u,.int 1 v]}).objs.size],_,_,H,rfl,
  I1.kept (t':=tk) fun b o e=>Heap.get?_push_of_some _ e,Lg _ lo (hi - lo).toNat,?_,fun b hb=>?_,q⟩
 ·have e1:lo+((0:Nat):Int) * 1=lo:=by simp
  have e2:(((hi - lo).toNat:Nat):Int) - ((0:Nat):Int)=Builtin.Range.rangeSize lo hi 1:=by rw[rangeSize_one];split<;>omega
  show IsRangeIter _ _ (lo+((0:Nat):Int) * 1) ((((hi - lo).toNat:Nat):Int) - ((0:Nat):Int)) 1
  rw[e1,e2]
  exact Heap.get?_push_size _ rfl
 ·have e:b=(s.heap.push {cls:=.type "range",data:=.fields #[.int lo t,.int hi u,.int 1 v]}).objs.size:=by simpa using hb
  subst e
  exact I1.fpOk (Nat.le_refl _) (I1.hok.fresh (Nat.le_refl _))
def Em (ta:TA):TI:=fun σ H R=>ta σ H fun vs H1=>∃ j:Int,vs=[.int j] ∧ -(2 ^ 62)≤j∧j<2 ^ 62∧R (Itr 0 j.toNat) H1
def En (ta:TA):TI:=fun σ H R=>ta σ H fun vs H1=>∃ i j:Int,vs=[.int i,.int j]∧(-(2 ^ 62)≤i∧i<2 ^ 62 ∧ -(2 ^ 62)≤j∧j<2 ^ 62)∧R (Itr i (j - i).toNat) H1
theorem Hx {a:Expr}{ta:TA}{p pos:Pos}(hg:Gl X "range")(hm:X.mg "range"=none)(ha:PA X [a] ta)(hs:starEach [a] X.env=[(false,eval a X.env)]:=by rfl):PI X tg (.Call (.Name "range" p) [a] [] pos) (Em ta):=by
 intro pins s σ H R I h
 refine Call_ (cI I hg hm boot_range (PyProof.Rows.callWith_type1 (thn (ha pos pins s σ H _ I h) fun us s1 ⟨vs,H1,I1,r1,q1⟩=>?_) hs rfl))
 obtain⟨j,e,q1,q2,q⟩:=q1
 subst e
 cases r1 with
 | cons r rr =>
   cases rr
   obtain⟨t,rfl⟩:=r
   exact call_range_1 (yN I1 (by omega) (by omega) q1 q2 (by simpa using q))
theorem Hy {a b:Expr}{ta:TA}{p pos:Pos}(hg:Gl X "range")(hm:X.mg "range"=none)(ha:PA X [a,b] ta)(hs:starEach [a,b] X.env=[(false,eval a X.env),(false,eval b X.env)]:=by rfl) (hs2:starEach [b] X.env=[(false,eval b X.env)]:=by rfl) :
  PI X tg (.Call (.Name "range" p) [a,b] [] pos) (En ta):=by
 intro pins s σ H R I h
 refine Call_ (cI I hg hm boot_range (PyProof.Rows.callWith_type1 (thn (ha pos pins s σ H _ I h) fun us s1 ⟨vs,H1,I1,r1,q1⟩=>?_) (by rw[hs,hs2]) (by rw[hs2];rfl)))
 obtain⟨i,j,e,⟨q1,q2,q3,q4⟩,q⟩:=q1
 subst e
 cases r1 with
 | cons r rr =>
   cases rr with
   | cons r' rr =>
     cases rr
     obtain⟨t,rfl⟩:=r
     obtain⟨t',rfl⟩:=r'
     exact call_range_2 (yN I1 q1 q2 q3 q4 q)
def tFor (wi:TI)(g:TG)(tb:TS):TS:=fun D σ H=>wi σ H fun J H1=>∃ W:Nat→Nat→St→Hp→Prop,(∃ m,W 0 m σ H1)∧∀ i m σ H,W i m σ H →
 (J.stop i H∧D.nx σ H)∨(J.go i H∧∃ N:St→Hp→Prop,(∀ σ' H',N σ' H'→∃ m',m'<m∧W (i+1) m' σ' H')∧∀ x H',J.yld i H x H'→g x σ H' fun σ2 H2=>tb {D with nx:=N,ct:=N,bk:=D.nx} σ2 H2)
def dF (fp:List Addr)(h:Heap):List (Addr×Obj):=fp.filterMap fun b=>(h.get? b).map fun o=>(b,o)
theorem i9 {fp:List Addr}{h:Heap}{b:Addr}{o:Obj}(hb:b∈fp)(e:h.get? b=some o):(b,o)∈dF fp h:=List.mem_filterMap.mpr ⟨b,hb,by rw[e];rfl⟩
theorem yi {fp:List Addr}{h:Heap}{p:Addr×Obj}(hp:p∈dF fp h):p.1∈fp∧h.get? p.1=some p.2:=by
 obtain⟨b,hb,e⟩:=List.mem_filterMap.mp hp
 cases q:h.get? b with
 | none=>rw[q] at e;cases e
 | some o =>
   rw[q] at e
   have e':(b,o)=p:=Option.some.inj e
   subst e'
   exact⟨hb,q⟩
theorem Inv.pinned {pins:List (Addr×Obj)}{σ:St}{H:Hp}{s:Shared}{fp:List Addr}(I:Inv X pins σ H s)(hf:∀ b∈fp,FpOk X pins H b)(ho:∀ b∈fp,∃ o,s.heap.get? b=some o∧∀ v,o.data≠.cell v):Inv X (pins++dF fp s.heap) σ H s :=
 I.kN fun p hp=>(List.mem_append.mp hp).elim (fun z=>I.pin p (List.mem_append_right _ z)) fun z=>by
  obtain⟨hb,e⟩:=yi z
  obtain⟨f0,f1,f2,_⟩:=hf p.1 hb
  obtain⟨o,e',d⟩:=ho p.1 hb
  rw[e] at e';cases e'
  exact⟨e,f0,f1,f2,d⟩
theorem Inv.lg {pins pl:List (Addr×Obj)}{σ:St}{H:Hp}{s:Shared}(I:Inv X (pins++pl) σ H s):Inv X pins σ H s:=I.kN fun p hp=>I.pin p (List.mem_append_right _ (List.mem_append_left _ hp))
theorem HR {iter:Expr}{body:List Stmt}{wi:TI}{g:TG}{tb:TS}{pos:Pos}(hp:PassesOwn (model X.prog X.w) X.A X.env X.xe) (hc:X.calm=true)(hi:PI X tg iter wi)(hg:PG X tg g)(hb:PSs X body tb)
  (hs:∀ x,foldedSetIterable iter X.env x=pure x:=by intro _;rfl):PS X (.For tg iter body [] pos) (tFor wi g tb):=by
 intro pins s σ H D I h
 refine wpAny_For (thn (hi pins s σ H _ I h) fun v s1 h1=>thn h1 fun itv s2 h2=>?_) hs
 obtain⟨it,fp,tn,J,H2,e,I2,T,st2,f2,W,⟨m0,w0⟩,turn⟩:=h2
 subst e
 have stat:∀{H':Hp},(∀ b∈fp,H' b=none)→∀ b∈fp,FpOk X pins H' b:=fun hn b hb=>⟨hn b hb,(f2 b hb).2⟩
 refine codeAny_forLoop_any (fun n s'=>∃ i σ' H',Inv X pins σ' H' s'∧tn i s'.heap∧(∀ b∈fp,H' b=none)∧W i n σ' H') ?_ m0 ⟨0,σ,H2,I2,st2,fun b hb=>(f2 b hb).1,w0⟩
 rintro n s3 ⟨i,σ3,H3,I3,st3,fr3,w3⟩
 rcases turn i n σ3 H3 w3 with⟨stop,qn⟩|⟨go,N,hN,step⟩
 ·refine wpAny_passesOwn hp (thn (T.done X rfl rfl rfl hc i pins s3 σ3 H3 X.xe I3 (stat fr3) st3 stop) fun r s4 ⟨hr,I4⟩=>?_)
  subst hr
  exact wpAny_execs_nil ⟨σ3,H3,I4,qn⟩
 ·refine wpAny_passesOwn hp (thn (T.item X rfl rfl rfl hc i pins s3 σ3 H3 X.xe I3 (stat fr3) st3 go) fun r s4 ⟨u,hr,h4⟩=>?_)
  subst hr
  refine wpAny_passesOwn hp (thn h4 fun _ s5 ⟨x,H5,I5,r5,y5,st5,fr5⟩=>?_)
  have I5':=I5.pinned (stat fr5) (T.obj _ _ st5)
  refine wpAny_passesOwn hp (thn (hg _ s5 σ3 H5 x u _ I5' r5 (step x H5 y5)) fun _ s6 ⟨σ6,H6,I6,q6⟩=>?_)
  refine wpAny_passesOwn hp (thn (hb _ s6 σ6 H6 _ I6 q6) fun f s7 q7=>?_)
  have again:∀{σ7:St}{H7:Hp},Inv X (pins++dF fp s5.heap) σ7 H7 s7→N σ7 H7→∃ m,m<n∧∃ i σ' H',Inv X pins σ' H' s7∧tn i s7.heap∧(∀ b∈fp,H' b=none)∧W i m σ' H':=fun{σ7 H7} I7 n7=>by
   obtain⟨m',hm,w7⟩:=hN σ7 H7 n7
   refine⟨m',hm,i+1,σ7,H7,I7.lg,T.keep _ _ _ st5 fun b hb o e=>(I7.pin (b,o) (List.mem_append_right _ (List.mem_append_right _ (i9 hb e)))).1,fun b hb=>?_,w7⟩
   obtain⟨o,e,d⟩:=T.obj _ _ st5 b hb
   exact(I7.pin (b,o) (List.mem_append_right _ (List.mem_append_right _ (i9 hb e)))).2.1
  cases f with
  | next=>obtain⟨σ7,H7,I7,n7⟩:=q7;exact again I7 n7
  | cont=>obtain⟨σ7,H7,I7,n7⟩:=q7;exact again I7 n7
  | brk=>obtain⟨σ7,H7,I7,q7⟩:=q7;exact⟨σ7,H7,I7.lg,q7⟩
  | ret v=>obtain⟨x7,σ7,H7,I7,r7,q7⟩:=q7;exact⟨x7,σ7,H7,I7.lg,r7,q7⟩
end
end L2
namespace L2
open PySem PySem.Spec PyProof.Rows
abbrev R2:=V→V→Hp→VK→Prop
def OpR (X:Cx)(f:Value→Value→Sem Value)(r:R2):Prop :=
 ∀(pins:List (Addr×Obj)) (s:Shared)(σ:St)(H:Hp)(x y:V)(v u:Value)(Q:VK),Inv X pins σ H s→RelV x v→RelV y u→r x y H Q →
  wpAny (model X.prog X.w) X.A (f v u) (EP X pins σ Q) X.xe s
def UnR (X:Cx)(f:Value→Sem Value)(r:V→Hp→VK→Prop):Prop :=
 ∀(pins:List (Addr×Obj)) (s:Shared)(σ:St)(H:Hp)(x:V)(v:Value)(Q:VK),Inv X pins σ H s→RelV x v→r x H Q →
  wpAny (model X.prog X.w) X.A (f v) (EP X pins σ Q) X.xe s
def dQ (X:Cx)(f:Value)(r:List V→Hp→VK→Prop):Prop :=
 ∀(pins:List (Addr×Obj)) (s:Shared)(σ:St)(H:Hp)(xs:List V)(us:List Value)(Q:VK),Inv X pins σ H s→Vals xs us→r xs H Q →
  wpAny (model X.prog X.w) X.A (call f us) (EP X pins σ Q) X.xe s
def TruR (X:Cx)(r:V→Hp→(Bool→Hp→Prop)→Prop):Prop :=
 ∀(pins:List (Addr×Obj)) (s:Shared)(σ:St)(H:Hp)(x:V)(v:Value)(Q:Bool→Hp→Prop),Inv X pins σ H s→RelV x v→r x H Q →
  wpAny (model X.prog X.w) X.A (truthy v) (TP X pins σ Q) X.xe s
def tOp (r:R2)(ta tb:TE):TE:=fun σ H Q=>ta σ H fun x H1=>tb σ H1 fun y H2=>r x y H2 Q
def tUn (r:V→Hp→VK→Prop)(ta:TE):TE:=fun σ H Q=>ta σ H fun x H1=>r x H1 Q
def rI (C:Int→Int→Prop)(g:Int→Int→V):R2:=fun x y H Q=>∃ i j,x=.int i∧y=.int j∧C i j∧Q (g i j) H
def rI0 (g:Int→Int→V):R2:=fun x y H Q=>∃ i j,x=.int i∧y=.int j∧Q (g i j) H
def rU (g:Int→V):V→Hp→VK→Prop:=fun x H Q=>∃ i,x=.int i∧Q (g i) H
section
variable {X:Cx}{a b c:Expr}{ta tb tc:TE}{pos:Pos}
theorem binT (ha:PE X a ta)(hb:PE X b tb){pins:List (Addr×Obj)}{s:Shared}{σ:St}{H:Hp}{R:V→V→Hp→Prop}(I:Inv X pins σ H s)
  (h:ta σ H fun x H1=>tb σ H1 fun y H2=>R x y H2){Q:Value→Shared→Prop}{f:Value→Value→Sem Value}
  (hf:∀ v u s2 x y H2,Inv X pins σ H2 s2→RelV x v→RelV y u→R x y H2→wpAny (model X.prog X.w) X.A (f v u) Q X.xe s2) :
  wpAny (model X.prog X.w) X.A (eval a X.env) (fun v s₁=>wpAny (model X.prog X.w) X.A (eval b X.env) (fun u s₂=>wpAny (model X.prog X.w) X.A (f v u) Q X.xe s₂) X.xe s₁) X.xe s:=by
 refine thn (ha pins s σ H _ I h) fun v s1 ⟨x,H1,I1,r1,q1⟩=>?_
 refine thn (hb pins s1 σ H1 _ I1 q1) fun u s2 ⟨y,H2,I2,r2,q2⟩=>?_
 exact hf v u s2 x y H2 I2 r1 r2 q2
theorem Ho {op:Operator}{r:R2}(ho:OpR X (binaryOp op) r) (ha:PE X a ta)(hb:PE X b tb):PE X (.BinOp a op b pos) (tOp r ta tb):=by
 intro pins s σ H Q I h
 exact wpAny_BinOp (binT ha hb I h fun v u s2 x y H2 I2 rx ry q=>ho pins s2 σ H2 x y v u Q I2 rx ry q)
theorem Hs {op:UnaryOp}{r:V→Hp→VK→Prop}(ho:UnR X (unaryOp op) r) (ha:PE X a ta):PE X (.UnaryOp op a pos) (tUn r ta):=by
 intro pins s σ H Q I h
 exact UnaryOp_ (thn (ha pins s σ H _ I h) fun v s1 ⟨x,H1,I1,r1,q1⟩=>ho pins s1 σ H1 x v Q I1 r1 q1)
theorem opI {f:Value→Value→Sem Value}{C:Int→Int→Prop}{g:Int→Int→Int}
  (rule:∀(i j:Int)(t u:Tok)(s:Shared)(Q:Value→Shared→Prop)(E:Value→Shared→Prop),C i j→Q (.int (g i j) s.toks) {s with toks:=s.toks+1}→wpAny (model X.prog X.w) X.A (f (.int i t) (.int j u)) Q E s) :
  OpR X f (rI C fun i j=>.int (g i j)):=by
 intro pins s σ H x y v u Q I rx ry h
 obtain⟨i,j,rfl,rfl,hc,q⟩:=h
 obtain⟨t,rfl⟩:=rx
 obtain⟨t',rfl⟩:=ry
 exact rule i j t t' s _ _ hc ⟨.int (g i j),H,I.tok _,⟨_,rfl⟩,q⟩
theorem opI0 {f:Value→Value→Sem Value}{g:Int→Int→Int}
  (rule:∀(i j:Int)(t u:Tok)(s:Shared)(Q:Value→Shared→Prop)(E:Value→Shared→Prop),Q (.int (g i j) s.toks) {s with toks:=s.toks+1}→wpAny (model X.prog X.w) X.A (f (.int i t) (.int j u)) Q E s) :
  OpR X f (rI0 fun i j=>.int (g i j)):=by
 intro pins s σ H x y v u Q I rx ry h
 obtain⟨i,j,rfl,rfl,q⟩:=h
 obtain⟨t,rfl⟩:=rx
 obtain⟨t',rfl⟩:=ry
 exact rule i j t t' s _ _ ⟨.int (g i j),H,I.tok _,⟨_,rfl⟩,q⟩
theorem opB0 {f:Value→Value→Sem Value}{g:Int→Int→Bool}
  (rule:∀(i j:Int)(t u:Tok)(s:Shared)(Q:Value→Shared→Prop)(E:Value→Shared→Prop),Q (.bool (g i j)) s→wpAny (model X.prog X.w) X.A (f (.int i t) (.int j u)) Q E s) :
  OpR X f (rI0 fun i j=>.bl (g i j)):=by
 intro pins s σ H x y v u Q I rx ry h
 obtain⟨i,j,rfl,rfl,q⟩:=h
 obtain⟨t,rfl⟩:=rx
 obtain⟨t',rfl⟩:=ry
 exact rule i j t t' s _ _ ⟨.bl (g i j),H,I,rfl,q⟩
def CDiv (i j:Int):Prop:=0<j∧j<1073741824
def CMul (i j:Int):Prop:=(-(2 ^ 64)<i∧i<2 ^ 64)∨(-(2 ^ 64)<j∧j<2 ^ 64)
theorem CMul.ok {i j:Int}(h:CMul i j):IntMulOk i j:=by
 rcases h with⟨h1,h2⟩|⟨h1,h2⟩
 ·exact .of_left (intBits_le_64 h1 h2)
 ·exact .of_right (intBits_le_64 h1 h2)
theorem GR:OpR X (binaryOp .Add) (rI0 fun i j=>.int (i+j)):=opI0 fun _ _ _ _ _ _ _ q=>add_int q
theorem G0:OpR X (binaryOp .Mult) (rI CMul fun i j=>.int (i * j)):=opI fun _ _ _ _ _ _ _ hc q=>mul_int q hc.ok
theorem GU:OpR X (binaryOp .FloorDiv) (rI CDiv fun i j=>.int (i / j)):=opI fun i j _ _ _ _ _ hc q=>by
 have h1:(0:Int)<j:=hc.1
 have h2:j<1073741824:=hc.2
 exact floordiv_int (by omega) (by rw[Int.fdiv_eq_ediv_of_nonneg i (by omega)];exact q) (.inl (PyProof.noPylong_small (by omega)))
theorem GZ:OpR X (binaryOp .Mod) (rI (fun _ j=>0<j) fun i j=>.int (i % j)):=opI fun i j _ _ _ _ _ hc q=>by
 have h1:(0:Int)<j:=hc
 exact mod_int' (by omega) (by rw[Int.fmod_eq_emod_of_nonneg i (by omega)];exact q)
theorem unI {f:Value→Sem Value}{g:Int→Int}
  (rule:∀(i:Int)(t:Tok)(s:Shared)(Q:Value→Shared→Prop)(E:Value→Shared→Prop),Q (.int (g i) s.toks) {s with toks:=s.toks+1}→wpAny (model X.prog X.w) X.A (f (.int i t)) Q E s) :
  UnR X f (rU fun i=>.int (g i)):=by
 intro pins s σ H x v Q I rx h
 obtain⟨i,rfl,q⟩:=h
 obtain⟨t,rfl⟩:=rx
 exact rule i t s _ _ ⟨.int (g i),H,I.tok _,⟨_,rfl⟩,q⟩
theorem Lk:UnR X (unaryOp .USub) (rU fun i=>.int (-i)):=unI fun _ _ _ _ _ q=>neg_int q
end
section
variable {X:Cx}{a b c:Expr}{ta tb tc:TE}{pos:Pos}
theorem wR {pins:List (Addr×Obj)}{σ:St}{H:Hp}{s:Shared}{Q:VK}{k k':Bool}(I:Inv X pins σ H s)(q:Q (.bl k) H) (e:k=k'):EP X pins σ Q (.bool k') s:=by
 subst e
 exact⟨.bl k,H,I,rfl,q⟩
theorem GY:OpR X (compareOp .Lt) (rI0 fun i j=>.bl (decide (i<j))):=opB0 fun _ _ _ _ _ _ _ q=>lt_int q
theorem GW:OpR X (compareOp .LtE) (rI0 fun i j=>.bl (decide (i≤j))):=opB0 fun _ _ _ _ _ _ _ q=>le_int q
theorem GV:OpR X (compareOp .Gt) (rI0 fun i j=>.bl (decide (j<i))):=opB0 fun _ _ _ _ _ _ _ q=>gt_int q
theorem yp:OpR X (compareOp .Is) (fun x y H Q=>y=.non∧Q (.bl (decide (x=.non))) H):=by
 intro pins s σ H x y v u Q I rx ry h
 obtain⟨rfl,q⟩:=h
 cases ry
 refine is_none_gen (wR I q ?_)
 cases x<;>first
  | (cases rx;rfl)
  | (obtain⟨t,rfl⟩:=rx;rfl)
theorem G1:OpR X (compareOp .IsNot) (fun x y H Q=>y=.non∧Q (.bl (!decide (x=.non))) H):=by
 intro pins s σ H x y v u Q I rx ry h
 obtain⟨rfl,q⟩:=h
 cases ry
 refine isnot_none_gen (wR I q ?_)
 cases x<;>first
  | (cases rx;rfl)
  | (obtain⟨t,rfl⟩:=rx;rfl)
theorem aT (b:Expr){op:CmpOp}(h:op≠.In:=by decide)(h2:op≠.NotIn:=by decide):behindInMarks op b=false:=by
 have e1:(op==CmpOp.In)=false:=by cases op<;>first|rfl|exact absurd rfl h
 have e2:(op==CmpOp.NotIn)=false:=by cases op<;>first|rfl|exact absurd rfl h2
 cases b<;>simp [behindInMarks,e1,e2]
theorem yu {op:CmpOp}{r:R2}(ho:OpR X (compareOp op) r) (ha:PE X a ta)(hb:PE X b tb)(hm:behindInMarks op b=false):PE X (.Compare a [op] [b] pos) (tOp r ta tb):=by
 intro pins s σ H Q I h
 exact wpAny_Compare1 (binT ha hb I h fun v u s2 x y H2 I2 rx ry q=>ho pins s2 σ H2 x y v u Q I2 rx ry q) hm
def zB (t:TE):TT:=fun σ H Q=>t σ H fun x H'=>∃ k,x=.bl k∧Q k H'
theorem nk {op:CmpOp}{r:R2}(ho:OpR X (compareOp op) r) (ha:PE X a ta)(hb:PE X b tb)(hm:behindInMarks op b=false):PT X (.Compare a [op] [b] pos) (zB (tOp r ta tb)):=by
 intro pins s σ H Q I h
 refine wpAny_isTrue_Compare1 (thn (ha pins s σ H _ I h) fun v s1 ⟨x,H1,I1,r1,q1⟩=>thn (hb pins s1 σ H1 _ I1 q1) fun u s2 ⟨y,H2,I2,r2,q2⟩ =>
  thn (ho pins s2 σ H2 x y v u _ I2 r1 r2 q2) fun c s3 ⟨z,H3,I3,r3,k,e,q3⟩=>?_) hm
 subst e
 cases r3
 exact wpAny_truthy_bool ⟨H3,I3,q3⟩
def zq (r r':R2)(ta tb tc:TE):TE:=fun σ H Q=>ta σ H fun x H1=>tb σ H1 fun y H2=>r x y H2 fun z H3=>∃ k,z=.bl k ∧
 (if k=true then tc σ H3 fun w' H4=>r' y w' H4 Q else Q (.bl false) H3)
theorem HX {op op':CmpOp}{r r':R2}(ho:OpR X (compareOp op) r) (ho':OpR X (compareOp op') r') (ha:PE X a ta)(hb:PE X b tb)(hc:PE X c tc)
  (hm:lastMarks [op,op'] [b,c]=false:=by with_unfolding_all rfl):PT X (.Compare a [op,op'] [b,c] pos) (zB (zq r r' ta tb tc)):=by
 intro pins s σ H Q I h
 refine isTrue_chain (thn (ha pins s σ H _ I h) fun v s1 ⟨x,H1,I1,r1,q1⟩=>test_link (thn (hb pins s1 σ H1 _ I1 q1) fun u s2 ⟨y,H2,I2,r2,q2⟩ =>
  thn (ho pins s2 σ H2 x y v u _ I2 r1 r2 q2) fun d s3 ⟨z,H3,I3,r3,k,e,q3⟩=>?_)) hm
 subst e
 cases r3
 refine wpAny_truthy_bool ?_
 cases k with
 | false =>
   obtain⟨k',e',q'⟩:=q3
   cases e'
   exact ite_ff ⟨H3,I3,q'⟩
 | true =>
   refine ite_tt (test_last (thn (hc pins s3 σ H3 _ I3 q3) fun w' s4 ⟨z',H4,I4,r4,q4⟩=>thn (ho' pins s4 σ H4 y z' u w' _ I4 r2 r4 q4) fun d' s5 ⟨z2,H5,I5,r5,k2,e2,q5⟩=>?_))
   subst e2
   cases r5
   exact wpAny_truthy_bool ⟨H5,I5,q5⟩
def TruV (K:PySem.W.Frag)(x:V)(H:Hp)(k:Bool):Prop :=
 match x with
 | .non=>k=false
 | .bl b=>k=b
 | .int i=>k=(i != 0)
 | .str y=>y.length≤sizeLine∧k=((y.length:Int) != 0)
 | .byt y=>y.size≤sizeLine∧k=((y.size:Int) != 0)
 | .ref p=>(∃ xs,SqL K H p xs∧k=!xs.isEmpty)∨(∃ xs,SqT K H p xs∧k=!xs.isEmpty)∨∃ kvs,H p=some (.dK kvs)∧k=!kvs.isEmpty
 | _=>False
theorem Ez {κ:Type}{kvs:List (κ×V)}{vs:List (κ×Value)}(r:KV kvs vs):(!vs.isEmpty)=!kvs.isEmpty:=by
 cases r<;>rfl
theorem xm {xs:List V}{its:List Value}(r:Vals xs its):(!its.toArray.isEmpty)=!xs.isEmpty:=by
 cases r<;>simp
theorem i8:(sizeLine:Nat)<2 ^ 63:=by rw[sizeLine_eq];decide
theorem K5:TruR X (fun x H Q=>∃ k,TruV X.K x H k∧Q k H):=by
 intro pins s σ H x v Q I rx h
 obtain⟨k,e,q⟩:=h
 have hl:=i8
 have hs:sizeLine=16777216:=sizeLine_eq
 cases x with
 | non =>
   cases rx
   have e':k=false:=e
   subst e'
   exact truthy_none ⟨H,I,q⟩
 | bl b =>
   cases rx
   have e':k=b:=e
   subst e'
   exact wpAny_truthy_bool ⟨H,I,q⟩
 | int i =>
   obtain⟨t,rfl⟩:=rx
   have e':k=(i != 0):=e
   subst e'
   exact PySem.P.truthy_int ⟨H,I,q⟩
 | str y =>
   obtain⟨t,rfl⟩:=rx
   obtain⟨hy,e'⟩:y.length≤sizeLine∧k=((y.length:Int) != 0):=e
   subst e'
   exact PySem.P.truthy_str (by omega) ⟨H,I.tok _,q⟩
 | byt y =>
   obtain⟨t,rfl⟩:=rx
   obtain⟨hy,e'⟩:y.size≤sizeLine∧k=((y.size:Int) != 0):=e
   subst e'
   exact PySem.W.truthy_bytes (by omega) ⟨H,I.tok _,q⟩
 | ref p =>
   cases rx
   have e':(∃ xs,SqL X.K H p xs∧k=!xs.isEmpty)∨(∃ xs,SqT X.K H p xs∧k=!xs.isEmpty)∨∃ kvs,H p=some (.dK kvs)∧k=!kvs.isEmpty:=e
   rcases e' with⟨xs,hx,e'⟩|⟨xs,hx,e'⟩|⟨kvs,hx,e'⟩
   ·subst e'
    obtain⟨its,r,pl,hz⟩:=I.list hx
    have hlen:=r.length
    exact wpAny_truthy_list pl.isList (by simp only[List.size_toArray];omega) ⟨H,I.tok _,by rw[xm r];exact q⟩
   ·subst e'
    obtain⟨its,r,pl,hz⟩:=I.tuple hx
    have hlen:=r.length
    exact truthy_tuple pl (by simp only[List.size_toArray];omega) ⟨H,I.tok _,by rw[xm r];exact q⟩
   ·subst e'
    obtain⟨hz,hS,vs,r,m⟩:kvs.length≤sizeLine∧(p==sysModules)=false∧∃ vs,KV kvs vs∧s.heap.DictOf (se X.prog X.w) p vs:=I.hok p _ hx
    have hlen:kvs.length=vs.length:=Paired.length r
    exact wpAny_truthy_dict hS m (by omega) ⟨H,I.tok _,by rw[Ez r];exact q⟩
 | _=>exact(show False from e).elim
theorem HZ (ha:PE X a ta)(he:∀ whole,isTrue a X.env whole=(do let v ← whole;standAt a.pos;holding [v] (truthy v))) :
  PT X a (fun σ H Q=>ta σ H fun x H'=>∃ k,TruV X.K x H' k∧Q k H'):=by
 intro pins s σ H Q I h
 exact isTrue_plain (thn (ha pins s σ H _ I h) fun v s1 ⟨x,H1,I1,r1,q1⟩=>K5 pins s1 σ H1 x v Q I1 r1 q1) (he _)
theorem GS:OpR X (binaryOp .Add) (fun x y H Q=>∃ i j,x=.str i∧y=.str j∧i.length+j.length≤sizeLine∧Q (.str (i++j)) H):=by
 intro pins s σ H x y v u Q I rx ry h
 obtain⟨i,j,rfl,rfl,hz,q⟩:=h
 obtain⟨t,rfl⟩:=rx
 obtain⟨t',rfl⟩:=ry
 exact add_str (fun t' tk=>⟨.str (i++j),H,I.tok _,⟨_,rfl⟩,q⟩) hz
theorem vals1 {x:V}{us:List Value}(r:Vals [x] us):∃ u,us=[u]∧RelV x u:=by
 cases r with
 | cons r1 r2=>cases r2;exact⟨_,rfl,r1⟩
theorem vals2 {x y:V}{us:List Value}(r:Vals [x,y] us):∃ u w',us=[u,w']∧RelV x u∧RelV y w':=by
 cases r with
 | cons r1 r2 =>
   cases r2 with
   | cons r3 r4=>cases r4;exact⟨_,_,rfl,r1,r3⟩
theorem BJ (hc:X.calm=true):dQ X (.builtin "min") (fun xs H Q=>∃ i j,xs=[.int i,.int j]∧Q (.int (if j<i then j else i)) H):=by
 intro pins s σ H xs us Q I r h
 obtain⟨i,j,rfl,q⟩:=h
 obtain⟨u,w',rfl,⟨t,rfl⟩,⟨t',rfl⟩⟩:=vals2 r
 refine min_two_ints (I.ok.hd hc) fun h' tk k=>⟨_,H,I.kept k,?_,q⟩
 by_cases hj:j<i
 ·rw[if_pos hj,if_pos hj];exact⟨_,rfl⟩
 ·rw[if_neg hj,if_neg hj];exact⟨_,rfl⟩
end
end L2
namespace L2
open PySem PySem.Spec PyProof.Rows
structure ObjM (h:Heap)(x dx C:Addr)(mA:Str→Option Value):Prop where
 obj:h.get? x=some (PySem.W.instObj C dx)
 ns:h.Ns1 dx mA
 ne:dx≠x
theorem Fx {h:Heap}{dx:Addr}{mA:Str→Option Value}(n:h.Ns1 dx mA):∃ od,h.get? dx=some od∧∀ name,PySem.W.lookIn name od=some (mA name):=by
 obtain⟨o,es,ep,ho,hd,hk,_,hm⟩:=n
 refine⟨o,ho,fun name=>?_⟩
 have e:=hm name
 unfold nsFind findBy at e
 rw[← Array.find?_toList] at e
 unfold PySem.W.lookIn
 rw[hd]
 dsimp only
 split
 ·rename_i y q
  rw[q] at e
  exact congrArg some e
 ·rename_i q
  rw[q] at e
  have a:es.toList.any (·.refKey)=false:=by
   rw[List.any_eq_false]
   intro y hy
   obtain⟨z,t,hkey⟩:=hk y (Array.mem_toList_iff.mp hy)
   simp [DictEntry.refKey,hkey]
  have a':¬ es.toList.any (·.refKey)=true:=by rw[a];exact Bool.false_ne_true
  rw[if_neg a']
  exact congrArg some e
theorem ObjM.look {h:Heap}{x dx C:Addr}{mA:Str→Option Value}(I:ObjM h x dx C mA):∃ od,PySem.W.InstAt h x (PySem.W.instObj C dx) C (some od)∧∀ name,PySem.W.lookIn name od=some (mA name) :=
 let ⟨od,ho,hl⟩:=Fx I.ns
 ⟨od,⟨I.obj,rfl,rfl,ho⟩,hl⟩
section
variable {prog:Program}{w:World}{A:Around}{E:Value→Shared→Prop}{s:Shared}{K:PySem.W.Frag}{x dx C f:Addr}{mA:Str→Option Value}{name:Str}{v:Value}
theorem get_map {expr:Bool}{Q:Value→Shared→Prop}(X:K.In s.heap)(I:ObjM s.heap x dx C mA)(hg:PySem.W.plainGet K C name=true)(hh:PySem.W.hasDictIn K C=true)
  (ha:PySem.W.findIn K (.ref C) name=some none) (hv:mA name=some v)(hv':PySem.W.handedIn v=true)(h:Q v {s with toks:=s.toks+1}) :
  wpAny (model prog w) A (getAttr (.ref x) name expr) Q E s:=by
 obtain⟨od,J,hl⟩:=I.look
 exact PySem.W.get_value X J (PySem.W.plainGet_of hg).1 (PySem.W.findObj_own hh ha rfl (by rw[hl,hv])) hv' h
theorem Dp {pl:Sem Bool}{Q:Value×List Value→Shared→Prop}(X:K.In s.heap)(I:ObjM s.heap x dx C mA)(hg:PySem.W.plainGet K C name=true)
  (hf:PySem.W.findIn K (.ref C) name=some (some (.ref f))) (ht:PySem.W.isFn K (.ref f)=true) (hv:mA name=none)(h:Q (.ref f,[.ref x]) s) :
  wpAny (model prog w) A (getMethod (.ref x) name pl) Q E s:=by
 obtain⟨od,J,hl⟩:=I.look
 exact PySem.W.method_fn X J (PySem.W.plainGet_of hg).1 (PySem.W.plainGet_of hg).2 hf (beq_iff_eq.mp ht) (by show(PySem.W.lookIn name od).map (·.isSome)=some false;rw[hl,hv];rfl) h
theorem tH {ns:List Str}{Q:Unit→Shared→Prop}(X:K.In s.heap)(I:ObjM s.heap x dx C mA)
  (hs:PySem.W.findIn K (.ref C) "__setattr__"=some (some (.builtin "object.__setattr__"))) (hp:PySem.W.plainOver K C=true)(ht:PySem.W.takerIn K C name=some none)(hh:PySem.W.hasDictIn K C=true)
  (hw:PySem.Within mA ns)(hsz:ns.length≤sizeLine)
  (h:∀ h',ObjM h' x dx C (fun y=>if y=name then some v else mA y)→Heap.SameBut dx s.heap h'→Q () {s with heap:=h',toks:=s.toks+2}) :
  wpAny (model prog w) A (setAttr (.ref x) name v) Q E s:=by
 obtain⟨od,J,hl⟩:=I.look
 refine PySem.W.set_plain X J hs (PySem.W.osa_open (s:={s with toks:=s.toks+1}) (r:=none) X J hp ht fun b=>?_)
 obtain⟨cd,hc,hd'⟩:=PySem.W.any_some hh
 have hx:s.heap.get? x=some ⟨.ref C,some dx,.plain,#[]⟩:=I.obj
 refine wpAny_bind (wpAny_pure (wpAny_bind (wpAny_bind (wpAny_loadPart hx (wpAny_bind (PySem.W.Looks.here (s:={s with toks:=s.toks+1}) (PySem.W.looks_clsIn X hc) ?_))))))
 rw[hd']
 refine wpAny_pure (a:=some dx) (wpAny_bind (wpAny_pure (wpAny_bind ?_)))
 refine wpAny_nsSet1 (s:={s with toks:=s.toks+1}) I.ns fun h' hn2 hs2=>?_
 obtain⟨oD,esD,epD,hoD,hdD,hcD⟩:=hn2.count (PySem.Within.cons name v hw)
 refine wpAny_bind (wpAny_lookBehind hoD (by rw[hdD];exact pastItsLine_dict (Nat.le_trans hcD (by rw[List.length_cons];omega))) ?_)
 exact wpAny_pure (h _ ⟨(hs2.2 _ (Ne.symm I.ne)).trans I.obj,hn2,I.ne⟩ hs2)
theorem FI {R:Result→Shared→Prop}{vs:List Value}{kw:List (Str×Value)}(X:K.In s.heap)(hm:PySem.W.makesIn K C=true)
  (hi:PySem.W.findIn K (.ref C) "__init__"=some (some (.ref f))) (hf:PySem.W.typeIn K (.ref f)=some (.type "function"))
  (h:codeAny (model prog w) (A.under (.builtin "type.__call__" ⟨.ref C::vs,kw⟩)) (.call (.ref f) ⟨.ref (s.heap.objs.size+1)::vs,kw⟩) (PySem.W.InitBack (s.heap.objs.size+1) R)
   {s with heap:=(s.heap.push PySem.W.emptyDict).push (PySem.W.instObj C s.heap.objs.size)}) :
  codeAny (model prog w) A (.call (.ref C) ⟨vs,kw⟩) R s:=by
 obtain⟨hh,g,d,t,os⟩:=s
 exact PySem.W.make_core (PySem.W.makes_of X hm) (PySem.W.looks_findIn X hi) (fun self=>PySem.W.bind_fn X self hf) (.inl rfl) h
end
def putF (f:Str)(v:V):List (Str×V)→List (Str×V)
 | []=>[(f,v)]
 | (g,x)::r=>if g=f then (g,v)::r else (g,x)::putF f v r
theorem xK (f g:Str)(v:V):∀ fs:List (Str×V),(putF f v fs).lookup g=if g=f then some v else fs.lookup g
 | []=>by
   show List.lookup g [(f,v)]=_
   by_cases h:g=f
   ·have hb:(g==f)=true:=beq_iff_eq.mpr h
    simp only[List.lookup,hb,if_pos h]
   ·have hb:(g==f)=false:=beq_eq_false_iff_ne.mpr h
    simp only[List.lookup,hb,if_neg h]
 | (k,x)::r=>by
   have ih:=xK f g v r
   rw[show putF f v ((k,x)::r)=(if k=f then (k,v)::r else (k,x)::putF f v r) from rfl]
   by_cases hk:k=f
   ·rw[if_pos hk]
    by_cases h:g=k
    ·have hb:(g==k)=true:=beq_iff_eq.mpr h
     simp only[List.lookup,hb,if_pos (h.trans hk)]
    ·have hb:(g==k)=false:=beq_eq_false_iff_ne.mpr h
     simp only[List.lookup,hb,if_neg (fun e:g=f=>h (e.trans hk.symm))]
   ·rw[if_neg hk]
    by_cases h:g=k
    ·have hb:(g==k)=true:=beq_iff_eq.mpr h
     simp only[List.lookup,hb,if_neg (fun e:g=f=>hk (h.symm.trans e))]
    ·have hb:(g==k)=false:=beq_eq_false_iff_ne.mpr h
     simp only[List.lookup,hb]
     exact ih
theorem rN (f:Str)(v:V):∀ fs:List (Str×V),f∈(putF f v fs).map (·.1)∧∀ g,g∈fs.map (·.1)→g∈(putF f v fs).map (·.1)
 | []=>⟨by simp [putF],fun g h=>by simp at h⟩
 | (k,x)::r=>by
   obtain⟨i1,i2⟩:=rN f v r
   rw[show putF f v ((k,x)::r)=(if k=f then (k,v)::r else (k,x)::putF f v r) from rfl]
   by_cases hk:k=f
   ·rw[if_pos hk]
    subst hk
    exact⟨by simp,fun g h=>by simpa using h⟩
   ·rw[if_neg hk]
    refine⟨?_,fun g h=>?_⟩
    ·rw[List.map_cons]
     exact List.mem_cons_of_mem _ i1
    ·rw[List.map_cons] at h ⊢
     rcases List.mem_cons.mp h with e|e
     ·exact List.mem_cons.mpr (.inl e)
     ·exact List.mem_cons_of_mem _ (i2 g e)
theorem xJ (f:Str)(v:V):∀ fs:List (Str×V),(putF f v fs).length≤fs.length+1
 | []=>by simp [putF]
 | (k,x)::r=>by
   have ih:=xJ f v r
   rw[show putF f v ((k,x)::r)=(if k=f then (k,v)::r else (k,x)::putF f v r) from rfl]
   by_cases hk:k=f
   ·rw[if_pos hk,List.length_cons,List.length_cons];omega
   ·rw[if_neg hk,List.length_cons,List.length_cons];omega
theorem RelO.some_of {v:V}{o:Option Value}(r:RelO (some v) o):∃ u,o=some u∧RelV v u:=by
 cases o with
 | none=>exact(show False from r).elim
 | some u=>exact⟨u,rfl,r⟩
theorem RelO.none_of {o:Option Value}(r:RelO none o):o=none:=by
 cases o with
 | none=>rfl
 | some u=>exact(show False from r).elim
theorem Du {v:V}{u:Value}(r:RelV v u):PySem.W.handedIn u=true:=by
 cases v with
 | non=>cases (show u=Value.none from r);rfl
 | bl b=>cases (show u=Value.bool b from r);rfl
 | int i=>obtain⟨t,e⟩:=(show ∃ t,u=Value.int i t from r);cases e;rfl
 | str x=>obtain⟨t,e⟩:=(show ∃ t,u=Value.str x t from r);cases e;rfl
 | byt b=>obtain⟨t,e⟩:=(show ∃ t,u=Value.bytes b t from r);cases e;rfl
 | flt b=>obtain⟨t,e⟩:=(show ∃ t,u=Value.float b t from r);cases e;rfl
 | ref a=>cases (show u=Value.ref a from r);rfl
 | ty n=>cases (show u=Value.type n from r);rfl
section
variable {P:Program}{w:World}{H H':Hp}{h h':Heap}{a C dx:Addr}{fs fs':List (Str×V)}
theorem rz (hok:HOk P w H h)(e:H a=some (.ins C dx fs)):∃ mA,ObjM h a dx C mA∧(∀ f,RelO (fs.lookup f) (mA f))∧PySem.Within mA (fs.map (·.1))∧fs.length≤1000∧H dx=some (.own a):=by
 obtain⟨d,z,ne,ob,mA,n,r,q⟩:=(show bE P w H h a (.ins C dx fs) from hok a _ e)
 exact⟨mA,⟨ob,n,ne⟩,r,q,z,d⟩
end
structure Cls (K:PySem.W.Frag)(C:Addr):Prop where
 pg:PySem.W.plainGet K C Str.empty=true
 hd:PySem.W.hasDictIn K C=true
 po:PySem.W.plainOver K C=true
 sa:PySem.W.findIn K (.ref C) "__setattr__"=some (some (.builtin "object.__setattr__"))
theorem Cls.get {K:PySem.W.Frag}{C:Addr}(c:Cls K C) (f:Str):PySem.W.plainGet K C f=true:=c.pg
def aL (K:PySem.W.Frag)(C:Addr) (f:Str):Prop:=PySem.W.findIn K (.ref C) f=some none
theorem aL.taker {K:PySem.W.Frag}{C:Addr}{f:Str}(n:aL K C f):PySem.W.takerIn K C f=some none:=by
 unfold PySem.W.takerIn
 rw[show PySem.W.findIn K (.ref C) f=some none from n]
 rfl
structure Con (K:PySem.W.Frag)(C:Addr) (f:Str)(v:V)(u:Value):Prop where
 at_:PySem.W.findIn K (.ref C) f=some (some u)
 rel:RelV v u
 get:PySem.W.specialIn K u "__get__"=some none
 cp:PySem.W.copiedNames.contains f=false
structure Meth (K:PySem.W.Frag)(C:Addr) (m:Str)(f:Addr):Prop where
 at_:PySem.W.findIn K (.ref C) m=some (some (.ref f))
 fn:PySem.W.isFn K (.ref f)=true
 kp:PySem.W.keepIn K (.ref f)=true
section
variable {X:Cx}{pins:List (Addr×Obj)}{σ:St}{H:Hp}{s:Shared}{a C dx:Addr}{fs:List (Str×V)}{f:Str}{v:V}{A:Around}{E:Value→Shared→Prop}
theorem Dr {b:Bool}{Q:Value→Shared→Prop}(I:Inv X pins σ H s)(e:H a=some (.ins C dx fs)) (c:Cls X.K C)(n:aL X.K C f)(l:fs.lookup f=some v)
  (h:∀ u s',Inv X pins σ H s'→RelV v u→Q u s'):wpAny (model X.prog X.w) A (getAttr (.ref a) f b) Q E s:=by
 obtain⟨mA,O,r,_,_,_⟩:=rz I.hok e
 obtain⟨u,hu,ru⟩:=RelO.some_of (v:=v) (o:=mA f) (by rw[← l];exact r f)
 exact get_map I.kIn O (c.get f) c.hd n hu (Du ru) (h u _ (I.tok _) ru)
theorem mO {m:Str}{g:Addr}{pl:Sem Bool}{Q:Value×List Value→Shared→Prop}(I:Inv X pins σ H s)(e:H a=some (.ins C dx fs)) (c:Cls X.K C)(k:Meth X.K C m g)(l:fs.lookup m=none)
  (h:Q (.ref g,[.ref a]) s):wpAny (model X.prog X.w) A (getMethod (.ref a) m pl) Q E s:=by
 obtain⟨mA,O,r,_,_,_⟩:=rz I.hok e
 have hn:mA m=none:=RelO.none_of (by rw[← l];exact r m)
 exact Dp I.kIn O (c.get m) k.at_ k.fn hn h
theorem JK {y:V}{u:Value}{Q:Unit→Shared→Prop}(I:Inv X pins σ H s)(e:H a=some (.ins C dx fs)) (c:Cls X.K C)(n:aL X.K C f)(hl:fs.length<1000)(ry:RelV y u)
  (h:∀ s',Inv X pins σ (upd H a (.ins C dx (putF f y fs))) s'→Q () s'):wpAny (model X.prog X.w) A (setAttr (.ref a) f u) Q E s:=by
 obtain⟨mA,O,r,wi,_,ho⟩:=rz I.hok e
 have hz:(fs.map (·.1)).length≤sizeLine:=by rw[List.length_map,sizeLine_eq];omega
 refine tH I.kIn O c.sa c.po n.taker c.hd wi hz fun h' O' sb=>h _ ?_
 have hd:∃ o,h'.get? dx=some o:=let ⟨o,_,_,e',_⟩:=O'.ns;⟨o,e'⟩
 refine I.write (x:=a) (e:=dx) (by rw[e];exact True.intro) (.inr ho) (fun b q hb z=>(sb.2 b hb).trans z) hd ?_
 refine⟨by rw[ak O.ne];exact ho,?_,O.ne,O'.obj,_,O'.ns,fun g=>?_,fun g hg=>?_⟩
 ·have:=xJ f y fs;omega
 ·show RelO ((putF f y fs).lookup g) (if g=f then some u else mA g)
  rw[xK]
  by_cases q:g=f
  ·rw[if_pos q,if_pos q];exact ry
  ·rw[if_neg q,if_neg q];exact r g
 ·by_cases q:g=f
  ·rw[q];exact(rN f y fs).1
  ·refine(rN f y fs).2 g (wi g fun z=>hg ?_)
   show(if g=f then some u else mA g)=none
   rw[if_neg q];exact z
theorem Inv.made (I:Inv X pins σ H s):Inv X pins σ (upd (upd H s.heap.objs.size (.own (s.heap.objs.size+1))) (s.heap.objs.size+1) (.ins C s.heap.objs.size []))
  {s with heap:=(s.heap.push PySem.W.emptyDict).push (PySem.W.instObj C s.heap.objs.size)}:=by
 have e1:(s.heap.push PySem.W.emptyDict).get? s.heap.objs.size=some PySem.W.emptyDict:=Heap.get?_push_size s.heap rfl
 have e2:((s.heap.push PySem.W.emptyDict).push (PySem.W.instObj C s.heap.objs.size)).get? (s.heap.objs.size+1)=some (PySem.W.instObj C s.heap.objs.size):=by
  have:=Heap.get?_push_size (s.heap.push PySem.W.emptyDict) (o:=PySem.W.instObj C s.heap.objs.size) rfl
  rwa [Heap.size_push] at this
 have e3:(s.heap.push PySem.W.emptyDict).Ns s.heap.objs.size (fun _=>none):=⟨PySem.W.emptyDict,#[],_,e1,rfl,(fun e he=>absurd he (by simp)),fun _=>rfl⟩
 have I1:=I.laid (a:=s.heap.objs.size) (o:=.own (s.heap.objs.size+1)) (h':=s.heap.push PySem.W.emptyDict) (t':=s.toks) (fun b u q=>Heap.get?_push_of_some _ q) (Nat.le_refl _) ⟨_,e1⟩
 refine I1.laid (a:=s.heap.objs.size+1) (o:=.ins C s.heap.objs.size []) (t':=s.toks) (fun b u q=>Heap.get?_push_of_some _ q) (Nat.le_of_eq (Heap.size_push _ _)) ?_
 have ne:s.heap.objs.size≠s.heap.objs.size+1:=Nat.ne_of_lt (Nat.lt_succ_self _)
 refine⟨by rw[ak ne,bR],Nat.zero_le _,ne,e2,fun _=>none,(Heap.Ns1.of_empty e3).at fun o q=>Heap.get?_push_of_some _ q,fun _=>True.intro,fun y hy=>absurd rfl hy⟩
theorem A8 {prog:Program}{w:World}{env:Env}{e:Expr}{f:Str}{pos:Pos}{s:Shared}{Q:Value→Shared→Prop}(hb:attributeBase e f env (eval e env)=eval e env)
  (h:wpAny (model prog w) A (eval e env) (fun o s₁=>wpAny (model prog w) A (getAttr o f true) Q E s₁) E s):wpAny (model prog w) A (eval (.Attribute e f pos) env) Q E s :=
 Attribute_any_ h (by rw[arm_eval_Attribute,hb])
end
def tFld (K:PySem.W.Frag)(ta:TE) (f:Str):TE:=fun σ H Q=>ta σ H fun x H1=>∃ a C dx fs v,x=.ref a∧H1 a=some (.ins C dx fs)∧Cls K C∧aL K C f∧fs.lookup f=some v∧Q v H1
def sFld (K:PySem.W.Frag)(ta tv:TE) (f:Str):TS:=fun D σ H=>tv σ H fun y H1=>ta σ H1 fun x H2=>∃ a C dx fs,x=.ref a∧H2 a=some (.ins C dx fs)∧Cls K C∧aL K C f∧fs.length<1000 ∧
 D.nx σ (upd H2 a (.ins C dx (putF f y fs)))
section
variable {X:Cx}{o e value:Expr}{f:Str}{pos pos' tpos:Pos}{ta tv:TE}
theorem G8 (he:PE X e ta)(hb:attributeBase e f X.env (eval e X.env)=eval e X.env):PE X (.Attribute e f pos) (tFld X.K ta f):=by
 intro pins s σ H Q I h
 refine A8 hb (thn (he pins s σ H _ I h) fun u s1 ⟨x,H1,I1,rx,a,C,dx,fs,v,ex,ea,c,n,l,q⟩=>?_)
 subst ex
 obtain rfl:u=Value.ref a:=rx
 exact Dr I1 ea c n l fun u' s2 I2 ru=>⟨v,H1,I2,ru,q⟩
theorem HQ (ha:PE X o ta)(hv:PE X value tv)(hs:swapsWith value (some (.Attribute o f pos')) pos.line X.env=pure false):PS X (.Assign [.Attribute o f pos'] value pos) (sFld X.K ta tv f):=by
 intro pins s σ H D I h
 refine plainObj_wpAny_Assign_Attribute (thn (hv pins s σ H _ I h) fun u s1 ⟨y,H1,I1,ry,q⟩=>thn (ha pins s1 σ H1 _ I1 q) fun ov s2 ⟨x,H2,I2,rx,a,C,dx,fs,ex,ea,c,n,l,q2⟩=>?_) hs
 subst ex
 obtain rfl:ov=Value.ref a:=rx
 exact JK I2 ea c n l ry fun s3 I3=>⟨σ,_,I3,q2⟩
end
section
variable {X:Cx}{pins:List (Addr×Obj)}{σ:St}{H:Hp}{s:Shared}{A:Around}{E:Value→Shared→Prop}{Q:Value→Shared→Prop}{c:Value}{b:Bool}
inductive TyOf (K:PySem.W.Frag)(H:Hp):V→Value→Prop where
 | non:TyOf K H .non (.type "NoneType")
 | bl (x:Bool):TyOf K H (.bl x) (.type "bool")
 | int (i:Int):TyOf K H (.int i) (.type "int")
 | str (x:Str):TyOf K H (.str x) (.type "str")
 | flt (x:UInt64):TyOf K H (.flt x) (.type "float")
 | lst {a:Addr}{xs:List V}(e:H a=some (.lst xs)):TyOf K H (.ref a) (.type "list")
 | frz {a:Addr}{o:Obj}{xs:List V}(e:H a=some (.frz o (.lst xs))):TyOf K H (.ref a) (.type "list")
 | tup {a:Addr}{xs:List V}(e:H a=some (.tup xs)):TyOf K H (.ref a) (.type "tuple")
 | dK {a:Addr}{kvs:List (Key×V)}(e:H a=some (.dK kvs)):TyOf K H (.ref a) (.type "dict")
 | dT {a:Addr}{kvs:List (List Key×V)}(e:H a=some (.dT kvs)):TyOf K H (.ref a) (.type "dict")
 | ins {a C dx:Addr}{fs:List (Str×V)}(e:H a=some (.ins C dx fs)) (cl:Cls K C)(ha:PySem.W.findIn K (.ref C) "__class__"=some (some (.builtin "object.__class__")))
   (hn:PySem.W.specialIn K (.builtin "object.__class__") "__get__"=some (some (.builtin "getset_descriptor.__get__"))) (htk:PySem.W.takesIn K (.builtin "object.__class__")=some true)
   (hm:PySem.W.mroIn K C (.type "object")=some true):TyOf K H (.ref a) (.ref C)
end
end L2
namespace L2
open PySem PySem.Spec PyProof.Rows
structure Room (k:Nat)(A:Around):Prop where
 hd:A.handled=none
 dp:A.depth+3 * k+5<recursionLimit
 un:A.units+16 * k+200<cLine
theorem Room.mono {j k:Nat}{A:Around}(r:Room k A)(h:j≤k):Room j A:=⟨r.hd,by have:=r.dp;omega,by have:=r.un;omega⟩
theorem Room.deeper {k:Nat}{A:Around}(r:Room (k+1) A) (env:Env):Room k (A.deeper env) :=
 ⟨r.hd,by have:=r.dp;show A.depth+1+3 * k+5<_;omega,by have:=r.un;show A.units+3+16 * k+200<_;omega⟩
theorem FH {A:Around}{C:Addr}{us:List Value}{kw:List (Str×Value)}:(A.under (.builtin "type.__call__" ⟨.ref C::us,kw⟩)).depth=A.depth+1:=by
 first|rfl|simp [Around.under,Code.weight,Code.isCreation,Code.isGuard,Code.isCaller,Code.frames,Code.isFrame,guardIds]
theorem FJ {A:Around}{C:Addr}{us:List Value}{kw:List (Str×Value)}:(A.under (.builtin "type.__call__" ⟨.ref C::us,kw⟩)).units=A.units+1:=by
 first|rfl|simp [Around.under,Code.cUnits,Code.frames,Code.isFrame]
theorem Room.make {k:Nat}{A:Around}(r:Room (k+1) A) (C:Addr)(us:List Value)(kw:List (Str×Value)):Room k (A.under (.builtin "type.__call__" ⟨.ref C::us,kw⟩)) :=
 ⟨r.hd,by have:=r.dp;rw[FH];omega,by have:=r.un;rw[FJ];omega⟩
theorem Room.depth {k:Nat}{A:Around}(r:Room k A):A.depth<recursionLimit:=by have:=r.dp;omega
theorem Room.units {k:Nat}{A:Around}(r:Room k A):A.units+64<cLine:=by have:=r.un;omega
def tNil:TA:=fun _ H Q=>Q [] H
def nN (ta:TE)(tr:TA):TA:=fun σ H Q=>ta σ H fun x H1=>tr σ H1 fun xs H2=>Q (x::xs) H2
section
variable {X:Cx}{e:Expr}{es:List Expr}{te:TE}{t:TA}{pos:Pos}
theorem cE:PA X [] tNil:=fun _ _ _ _ H Q I h=>Calls.spliced_nil ⟨[],H,I,.nil,h⟩
theorem bx (ha:PE X e te)(hr:PA X es t)(hs:starEach (e::es) X.env=(false,eval e X.env)::starEach es X.env:=by rfl):PA X (e::es) (nN te t):=by
 intro pos pins s σ H Q I h
 rw[hs]
 show wpAny _ _ (spliced ((false,eval e X.env)::backTo pos (starEach es X.env))) _ _ s
 refine Calls.spliced_cons (thn (ha pins s σ H _ I h) fun u s1 ⟨x,H1,I1,r1,q1⟩=>?_)
 exact thn (hr pos pins s1 σ H1 _ I1 q1) fun us s2 ⟨xs,H2,I2,r2,q2⟩=>⟨x::xs,H2,I2,.cons r1 r2,q2⟩
def tTup (t:TA):TE:=fun σ H Q=>t σ H fun xs H1=>xs.length≤sizeLine∧∀ p,H1 p=none→Q (.ref p) (upd H1 p (.tup xs))
def tLst (t:TA):TE:=fun σ H Q=>t σ H fun xs H1=>xs.length≤sizeLine∧∀ p,H1 p=none→Q (.ref p) (upd H1 p (.lst xs))
theorem Hr {x1}(h:PA X es t):PE X (.Tuple es x1 pos) (tTup t):=by
 intro pins s σ H Q I hq
 refine wpAny_Tuple_spliced (thn (h pos pins s σ H _ I hq) fun us s1 ⟨xs,H1,I1,r,z,q⟩=>⟨by rw[← r.length];exact z,?_⟩)
 have hf:H1 s1.heap.objs.size=none:=I1.hok.fresh (Nat.le_refl _)
 refine⟨.ref s1.heap.objs.size,upd H1 s1.heap.objs.size (.tup xs),I1.laid (t':=s1.toks) (fun b u e=>Heap.get?_push_of_some _ e) (Nat.le_refl _) ?_,rfl,q _ hf⟩
 exact⟨z,us,r,⟨_,Heap.get?_push_size _ rfl,rfl,_,rfl⟩⟩
theorem Hg (h:PA X es t):PE X (.List es pos) (tLst t):=by
 intro pins s σ H Q I hq
 refine wpAny_List_spliced (thn (h pos pins s σ H _ I hq) fun us s1 ⟨xs,H1,I1,r,z,q⟩=>⟨by rw[← r.length];exact z,?_⟩)
 have hf:H1 s1.heap.objs.size=none:=I1.hok.fresh (Nat.le_refl _)
 refine⟨.ref s1.heap.objs.size,upd H1 s1.heap.objs.size (.lst xs),I1.laid (t':=s1.toks) (fun b u e=>Heap.get?_push_of_some _ e) (Nat.le_refl _) ?_,rfl,q _ hf⟩
 exact⟨z,us,0,r,Heap.get?_push_size _ rfl⟩
end
abbrev Sp:=List V→Hp→VK→XK→Prop
abbrev CXT:=List Env→Hp→Shared→XK→Value→Shared→Prop
structure Env0 (P:Program)(w:World)(K:PySem.W.Frag)(mg:Str→Option Value)(base:Heap)(A:Around)(outer:List Env)(s:Shared)(H:Hp):Prop where
 frames:A.frames=some outer
 mod:Mod K mg base
 bs:∀ b o,base.get? b=some o→s.heap.get? b=some o∧H b=none
 bsz:base.objs.size≤s.heap.objs.size
 funs:s.heap.FunFrames base outer
 frf:∀ b∈frs outer,H b=none
 hok:HOk P w H s.heap
 bare:AllBare s.gens
def CE (outer:List Env)(P:Program)(w:World)(H:Hp)(s:Shared)(Q:VK)(u:Value)(s':Shared):Prop :=
 ∃ v H',s'.os=s.os∧AllBare s'.gens∧Un (frs outer) [] H H' s.heap s'.heap∧HOk P w H' s'.heap∧RelV v u∧Q v H'
def CR (CX:CXT)(outer:List Env)(P:Program)(w:World)(H:Hp)(s:Shared)(Q:VK)(E:XK)(r:Result)(s':Shared):Prop :=
 match r with
 | .ok (.ret u)=>CE outer P w H s Q u s'
 | .ok _=>False
 | .error e=>CX outer H s E e s'
structure FnOk (P:Program)(w:World)(K:PySem.W.Frag)(mg:Str→Option Value)(base:Heap)(CX:CXT) (k:Nat)(f:Addr)(fd:FuncData)(ps:List Str)(sp:Sp):Prop where
 len:∀ vs H Q E,sp vs H Q E→vs.length=ps.length
 run:∀(A:Around)(outer:List Env)(s:Shared)(H:Hp)(args:Args)(us:List Value)(vs:List V)(Q:VK)(E:XK),Room k A→Env0 P w K mg base A outer s H→BindsTo s fd args (ps.zip us)→Vals vs us→sp vs H Q E →
  codeAny (model P w) A (.call (.ref f) args) (CR CX outer P w H s Q E) s
theorem Env0.make {P:Program}{w:World}{K:PySem.W.Frag}{mg:Str→Option Value}{base:Heap}{A:Around}{outer:List Env}{s:Shared}{H:Hp}(e:Env0 P w K mg base A outer s H)(C:Addr)(us:List Value)(kw:List (Str×Value)) :
  Env0 P w K mg base (A.under (.builtin "type.__call__" ⟨.ref C::us,kw⟩)) outer s H:=⟨by first|exact e.frames|(simpa [Around.under,Code.envs,Code.isFrame,pushEnvs] using e.frames),e.mod,e.bs,e.bsz,e.funs,e.frf,e.hok,e.bare⟩
section
variable {X:Cx}{pins:List (Addr×Obj)}{σ:St}{H:Hp}{s s':Shared}
theorem Inv.env0 (I:Inv X pins σ H s):Env0 X.prog X.w X.K X.mg X.base X.A X.stack s H :=
 ⟨I.ok.frames,I.ok.mod,I.bs,Nat.le_trans I.ok.bsz I.sz,I.stack,I.nJ,I.hok,I.bare⟩
theorem Inv.after {Q:VK}{u:Value}(I:Inv X pins σ H s)(h:CE X.stack X.prog X.w H s Q u s'):EP X pins σ Q u s':=by
 obtain⟨v,H',os,bare,un,hok,r,q⟩:=h
 obtain⟨hh,g,d,t,os'⟩:=s'
 obtain rfl:os'=s.os:=os
 exact⟨v,H',I.call (h':=hh) (g':=g) (d':=d) (t':=t) (ch:=[]) un hok bare (fun b z=>absurd z (by simp)),r,q⟩
end
def Kp (sp:Sp)(dvs:List V)(E:XK)(t:TA):TE:=fun σ H Q=>t σ H fun vs H1=>sp (vs++dvs) H1 Q E
def zx (C:Addr) (m:Str)(sp:Sp)(dvs:List V)(E:XK)(ta:TE)(t:TA):TE:=fun σ H Q=>ta σ H fun x H1=>∃ a dx fs,x=.ref a∧H1 a=some (.ins C dx fs)∧fs.lookup m=none ∧
 t σ H1 fun vs H2=>sp (x::(vs++dvs)) H2 Q E
def KG (C:Addr)(sp:Sp)(dvs:List V)(E:XK)(t:TA):TE:=fun σ H Q=>t σ H fun vs H1=>∀ x dx,H1 x=none→H1 dx=none→dx≠x →
 sp (.ref x::(vs++dvs)) (upd (upd H1 dx (.own x)) x (.ins C dx [])) (fun v H2=>v=.non∧Q (.ref x) H2) E
def Binds (K:PySem.W.Frag)(fd:FuncData)(ps:List Str)(ds:List Value):Prop :=
 ∀(s:Shared)(us:List Value),K.In s.heap→(us++ds).length=ps.length→BindsTo s fd ⟨us,[]⟩ (ps.zip (us++ds))
theorem Binds.all {K:PySem.W.Frag}{fd:FuncData}{ps:List Str}(h:∀ us:List Value,us.length=ps.length→bindArgs fd ⟨us,[]⟩=pure (ps.zip us)):Binds K fd ps []:=fun s us _ hl=>by
 rw[List.append_nil] at hl ⊢
 exact .of_eq (h us hl)
def Passes (CX:CXT)(X:Cx)(E:XK):Prop:=∀(pins:List (Addr×Obj)) (σ:St)(H:Hp)(s:Shared)(e:Value)(s':Shared),Inv X pins σ H s→CX X.stack H s E e s'→X.xe e s'
section
variable {X:Cx}{CX:CXT}{k:Nat}{f C:Addr}{fd:FuncData}{ps:List Str}{sp:Sp}{dvs:List V}{ds:List Value}{E:XK}{x m:Str}{p pos apos:Pos}{e o:Expr}{es:List Expr}{ta:TE}{t:TA}
theorem tu {pins:List (Addr×Obj)}{σ:St}{H:Hp}{s:Shared}{Q:VK}{us:List Value}{vs:List V}(F:FnOk X.prog X.w X.K X.mg X.base CX k f fd ps sp)(hr:Room k X.A)(hb:Binds X.K fd ps ds)(hd:Vals dvs ds)(hx:Passes CX X E)
  (I:Inv X pins σ H s)(r:Vals vs us)(h:sp (vs++dvs) H Q E):wpAny (model X.prog X.w) X.A (call (.ref f) us) (EP X pins σ Q) X.xe s:=by
 have r2:Vals (vs++dvs) (us++ds):=r.append hd
 have hl:(us++ds).length=ps.length:=by rw[← r2.length];exact F.len _ _ _ _ h
 refine wpAny_call (codeAny_mono (F.run X.A X.stack s H ⟨us,[]⟩ (us++ds) (vs++dvs) Q E hr I.env0 (hb s us I.kIn hl) r2 h) fun r s' hq=>?_)
 cases r with
 | error e=>exact hx pins σ H s e s' I hq
 | ok fl =>
   cases fl with
   | ret u=>exact I.after hq
   | next=>exact False.elim hq
   | brk=>exact False.elim hq
   | cont=>exact False.elim hq
theorem sM (F:FnOk X.prog X.w X.K X.mg X.base CX k f fd ps sp)(hr:Room k X.A)(hg:Gl X x)(hm:X.mg x=some (.ref f)) (hk:PySem.W.keepIn X.K (.ref f)=true) (hb:Binds X.K fd ps ds)(hd:Vals dvs ds)(hx:Passes CX X E)
  (ha:PA X (e::es) t) (hdb:(x==("__debug__":Str))=false:=by decide) (he:starEach (e::es) X.env=(false,eval e X.env)::starEach es X.env:=by rfl) (hpl:(backTo pos (starEach es X.env)).any (·.1)=false:=by rfl) :
  PE X (.Call (.Name x p) (e::es) [] pos) (Kp sp dvs E t):=by
 intro pins s σ H Q I h
 refine wpAny_Call_Name_kw (mY I hg hm ?_ hdb)
 refine PySem.W.callWith_K (h₀:=X.base) I.ok.mod.kin hk (thn (ha pos pins s σ H _ I h) fun us s1 ⟨vs,H1,I1,r,q⟩=>⟨I1.kIn,?_⟩) he hpl
 exact tu F hr hb hd hx I1 r q
theorem Hi {pl:Sem Bool}(he:PE X o ta)(c:Cls X.K C)(hm:Meth X.K C m f)(F:FnOk X.prog X.w X.K X.mg X.base CX k f fd ps sp)(hr:Room k X.A)(hb:Binds X.K fd ps ds)(hd:Vals dvs ds)(hx:Passes CX X E)(ha:PA X (e::es) t)
  (hst:starEach (e::es) X.env=(false,eval e X.env)::starEach es X.env:=by rfl) (hpl:(backTo pos (starEach es X.env)).any (·.1)=false:=by rfl)
  (ht:eval (.Call (.Attribute o m apos) (e::es) [] pos) X.env=(do
   let ov ← eval o X.env
   standAt apos.atName
   let (f,first) ← holding [ov] (getMethod ov m pl)
   callWith pos f first (backTo pos (starEach (e::es) X.env)) (backToKw pos (keywordEach [] X.env))):=by rfl) :
  PE X (.Call (.Attribute o m apos) (e::es) [] pos) (zx C m sp dvs E ta t):=by
 intro pins s σ H Q I h
 refine PySem.W.methodCall_KW (pl:=pl) (thn (he pins s σ H _ I h) fun u s1 ⟨x,H1,I1,rx,a,dx,fs,ex,ea,l,q⟩=>?_) ht
 subst ex
 obtain rfl:u=Value.ref a:=rx
 refine mO I1 ea c hm l ?_
 refine PySem.W.callWith_K (first:=[.ref a]) (h₀:=X.base) I.ok.mod.kin hm.kp (thn (ha pos pins s1 σ H1 _ I1 q) fun us s2 ⟨vs,H2,I2,r,q2⟩=>⟨I2.kIn,?_⟩) hst hpl
 exact tu (us:=.ref a::us) (vs:=.ref a::vs) F hr hb hd hx I2 (.cons rfl r) q2
theorem yx {pl:Sem Bool}(he:PE X o ta)(c:Cls X.K C)(hm:Meth X.K C m f)(F:FnOk X.prog X.w X.K X.mg X.base CX k f fd ps sp)(hr:Room k X.A)(hb:Binds X.K fd ps ds)(hd:Vals dvs ds)(hx:Passes CX X E)
  (ht:eval (.Call (.Attribute o m apos) [] [] pos) X.env=(do
   let ov ← eval o X.env
   standAt apos.atName
   let (f,first) ← holding [ov] (getMethod ov m pl)
   callWith pos f first (backTo pos (starEach [] X.env)) (backToKw pos (keywordEach [] X.env))):=by rfl) :
  PE X (.Call (.Attribute o m apos) [] [] pos) (zx C m sp dvs E ta tNil):=by
 intro pins s σ H Q I h
 refine PySem.W.methodCall_KW (pl:=pl) (thn (he pins s σ H _ I h) fun u s1 ⟨x,H1,I1,rx,a,dx,fs,ex,ea,l,q⟩=>?_) ht
 subst ex
 obtain rfl:u=Value.ref a:=rx
 refine mO I1 ea c hm l ?_
 exact PySem.W.callWith_K0 (first:=[.ref a]) I1.kIn hm.kp (tu (us:=[.ref a]) (vs:=[.ref a]) F hr hb hd hx I1 (.cons rfl .nil) q)
structure Mk (K:PySem.W.Frag)(C f:Addr):Prop where
 makes:PySem.W.makesIn K C=true
 init:PySem.W.findIn K (.ref C) "__init__"=some (some (.ref f))
 fn:PySem.W.isFn K (.ref f)=true
 kp:PySem.W.keepIn K (.ref C)=true
theorem Iz {pins:List (Addr×Obj)}{σ:St}{H:Hp}{s:Shared}{Q:VK}{us:List Value}{vs:List V}(M:Mk X.K C f)(F:FnOk X.prog X.w X.K X.mg X.base CX k f fd ps sp)(hr:Room (k+1) X.A) (hb:Binds X.K fd ps ds)(hd:Vals dvs ds)
  (hx:Passes CX X E)(I:Inv X pins σ H s)(r:Vals vs us)
  (h:∀ x dx,H x=none→H dx=none→dx≠x→sp (.ref x::(vs++dvs)) (upd (upd H dx (.own x)) x (.ins C dx [])) (fun v H2=>v=.non∧Q (.ref x) H2) E) :
  wpAny (model X.prog X.w) X.A (call (.ref C) us) (EP X pins σ Q) X.xe s:=by
 have hq:=h (s.heap.objs.size+1) s.heap.objs.size (I.hok.fresh (Nat.le_succ _)) (I.hok.fresh (Nat.le_refl _)) (Nat.ne_of_lt (Nat.lt_succ_self _))
 have I2:=Inv.made (C:=C) I
 have r2:Vals (V.ref (s.heap.objs.size+1)::(vs++dvs)) (Value.ref (s.heap.objs.size+1)::(us++ds)):=.cons rfl (r.append hd)
 have hl:(Value.ref (s.heap.objs.size+1)::us++ds).length=ps.length:=by
  have e:=r2.length
  rw[F.len _ _ _ _ hq] at e
  exact e.symm
 refine wpAny_call (FI (f:=f) I.kIn M.makes M.init (beq_iff_eq.mp M.fn) (codeAny_mono (F.run _ X.stack _ _ ⟨Value.ref (s.heap.objs.size+1)::us,[]⟩ (Value.ref (s.heap.objs.size+1)::(us++ds)) _ _ E (hr.make C us [])
  (I2.env0.make C us []) (hb _ (Value.ref (s.heap.objs.size+1)::us) I2.kIn hl) r2 hq) fun r s' hq'=>?_))
 cases r with
 | error e=>exact hx pins σ _ _ e s' I2 hq'
 | ok fl =>
   cases fl with
   | ret u =>
     obtain⟨v,H',I3,rv,ev,q3⟩:=I2.after hq'
     subst ev
     exact⟨rv,⟨V.ref (s.heap.objs.size+1),H',I3,rfl,q3⟩⟩
   | next=>exact False.elim hq'
   | brk=>exact False.elim hq'
   | cont=>exact False.elim hq'
theorem Hh (M:Mk X.K C f)(F:FnOk X.prog X.w X.K X.mg X.base CX k f fd ps sp)(hr:Room (k+1) X.A) (hg:Gl X x)(hm:X.mg x=some (.ref C)) (hb:Binds X.K fd ps ds)(hd:Vals dvs ds)(hx:Passes CX X E)
  (ha:PA X (e::es) t) (hdb:(x==("__debug__":Str))=false:=by decide) (he:starEach (e::es) X.env=(false,eval e X.env)::starEach es X.env:=by rfl) (hpl:(backTo pos (starEach es X.env)).any (·.1)=false:=by rfl) :
  PE X (.Call (.Name x p) (e::es) [] pos) (KG C sp dvs E t):=by
 intro pins s σ H Q I h
 refine wpAny_Call_Name_kw (mY I hg hm ?_ hdb)
 refine PySem.W.callWith_K (h₀:=X.base) I.ok.mod.kin M.kp (thn (ha pos pins s σ H _ I h) fun us s1 ⟨vs,H1,I1,r,q⟩=>⟨I1.kIn,?_⟩) he hpl
 exact Iz M F hr hb hd hx I1 r q
end
section
variable {X:Cx}{CX:CXT}{k:Nat}{f C:Addr}{fd:FuncData}{ps ks:List Str}{sp:Sp}{E:XK}{x m:Str}{p pos apos kpos:Pos}{e o:Expr}{es:List Expr}{kws:List Keyword}{te ta:TE}{t tk:TA}{nm:Option Str}
structure LD (K:PySem.W.Frag)(fd:FuncData)(ps ks:List Str)(g:List Value→List Value→List Value)(gV:List V→List V→List V):Prop where
 to:∀(s:Shared)(us ws:List Value),K.In s.heap→(g us ws).length=ps.length→BindsTo s fd ⟨us,ks.zip ws⟩ (ps.zip (g us ws))
 rel:∀{vs:List V}{us:List Value}{zs:List V}{ws:List Value},Vals vs us→Vals zs ws→Vals (gV vs zs) (g us ws)
variable {g:List Value→List Value→List Value}{gV:List V→List V→List V}
end
structure av (N P:List Str)(sc:Scope):Prop where
 kind:sc.kind=.function
 co:sc.isCoroutine=false
 gen:sc.isGenerator=false
 nd:N.Nodup
 pre:N.take P.length=P
 par:∀ x∈P,sc.names.lookup x=some .local∨sc.names.lookup x=some .cell
 Gi:∀ y∈sc.names,y.2≠.free
theorem vL {kindOf:Str→Option NameKind}{x:Str}:∀{binds:List (Str×Value)}{m:Str→Option Value},(∀ v,(x,v)∉binds)→bindL kindOf binds m x=m x
 | [],_,_=>rfl
 | (n,v)::r,m,h=>by
   unfold bindL
   rw[vL fun w hw=>h w (List.mem_cons_of_mem _ hw)]
   split
   ·have:x≠n:=by rintro rfl;exact h v List.mem_cons_self
    simp [this]
   ·rfl
theorem vJ {kindOf:Str→Option NameKind}{x:Str}:∀{binds:List (Str×Value)}{m:Str→Option Value},(∀ v,(x,v)∉binds)→bindC kindOf binds m x=m x
 | [],_,_=>rfl
 | (n,v)::r,m,h=>by
   unfold bindC
   rw[vJ fun w hw=>h w (List.mem_cons_of_mem _ hw)]
   split
   ·rfl
   ·have:x≠n:=by rintro rfl;exact h v List.mem_cons_self
    simp [this]
theorem vK {kindOf:Str→Option NameKind}{x:Str}{v:Value}:∀{P:List Str}{vs:List Value}{i:Nat}{m:Str→Option Value},P.Nodup→P[i]?=some x→vs[i]?=some v→kindOf x=some .local →
  bindL kindOf (P.zip vs) m x=some v
 | [],_,_,_,_,h,_,_=>by simp at h
 | _::_,[],_,_,_,_,h,_=>by simp at h
 | p::P,w::vs,0,m,nd,h1,h2,hk=>by
   simp at h1 h2;subst h1;subst h2
   show bindL kindOf ((p,w)::P.zip vs) m p=_
   unfold bindL
   rw[vL fun v hv=>(List.nodup_cons.mp nd).1 (List.of_mem_zip hv).1,if_pos hk]
   simp
 | p::P,w::vs,i+1,m,nd,h1,h2,hk=>by
   show bindL kindOf ((p,w)::P.zip vs) m x=_
   unfold bindL
   exact vK (i:=i) (List.nodup_cons.mp nd).2 (by simpa using h1) (by simpa using h2) hk
theorem vI {kindOf:Str→Option NameKind}{x:Str}{v:Value}:∀{P:List Str}{vs:List Value}{i:Nat}{m:Str→Option Value},P.Nodup→P[i]?=some x→vs[i]?=some v→kindOf x≠some .local →
  bindC kindOf (P.zip vs) m x=some v
 | [],_,_,_,_,h,_,_=>by simp at h
 | _::_,[],_,_,_,_,h,_=>by simp at h
 | p::P,w::vs,0,m,nd,h1,h2,hk=>by
   simp at h1 h2;subst h1;subst h2
   show bindC kindOf ((p,w)::P.zip vs) m p=_
   unfold bindC
   rw[vJ fun v hv=>(List.nodup_cons.mp nd).1 (List.of_mem_zip hv).1,if_neg hk]
   simp
 | p::P,w::vs,i+1,m,nd,h1,h2,hk=>by
   show bindC kindOf ((p,w)::P.zip vs) m x=_
   unfold bindC
   exact vI (i:=i) (List.nodup_cons.mp nd).2 (by simpa using h1) (by simpa using h2) hk
def start (N:List Str)(vs:List V):St:=vs.map some++List.replicate (N.length - vs.length) none
def cxOf (CX:CXT)(P:Program)(w:World)(K:PySem.W.Frag)(mg:Str→Option Value)(base:Heap)(N:List Str) (qual:Str)(scope:Scope)(f:Addr)(cd:Value)(A:Around)(outer:List Env)(s:Shared)(H:Hp)(E:XK):Cx where
 prog:=P
 w:=w
 K:=K
 mg:=mg
 base:=base
 A:=A.deeper (envOfC qual scope s.heap.objs.size f cd)
 N:=N
 s₀:=s
 H₀:=H
 env:=envOfC qual scope s.heap.objs.size f cd
 outer:=outer
 stack:=envOfC qual scope s.heap.objs.size f cd::outer
 ex:=[]
 calm:=true
 fn:=fun _=>true
 pn:=[]
 xe:=fun e s'=>wpAny (model P w) (A.deeper (envOfC qual scope s.heap.objs.size f cd)) (leaving (envOfC qual scope s.heap.objs.size f cd) e) (fun _ s''=>CX outer H s E e s'') (fun e' s''=>CX outer H s E e' s'') s'
theorem vZ {sc:Scope}{n:Nat}{x:Str}(h:sc.names.lookup x=some .cell):∃ c,(cellsFrom n sc.names []).lookup x=some c:=by
 have q:=PySem.W.cellsFrom_some sc.names n [] (.inl h)
 exact Option.isSome_iff_exists.mp q
theorem Ey {CX:CXT}{P:Program}{w:World}{K:PySem.W.Frag}{mg:Str→Option Value}{base:Heap}{N ps:List Str}{qual:Str}{scope:Scope}{f:Addr}{cd:Value}{A:Around}{outer:List Env}{s s1:Shared}{H:Hp}{E:XK}{us:List Value}{vs:List V}
  (S:av N ps scope)(hd:A.handled=none)(e0:Env0 P w K mg base A outer s H)(hl:vs.length=ps.length)(r:Vals vs us)
  (x:InCallC s s.heap.objs.size (bindL (envOfC qual scope s.heap.objs.size f cd).kindOf (ps.zip us) fun _=>none) (cellsFrom (s.heap.objs.size+1) scope.names []) (bindC (envOfC qual scope s.heap.objs.size f cd).kindOf (ps.zip us) fun _=>none) s1) :
  Inv (cxOf CX P w K mg base N qual scope f cd A outer s H E) [] (start N vs) H s1:=by
 have hpl:ps.length≤N.length:=by have:=congrArg List.length S.pre;rw[List.length_take] at this;omega
 obtain⟨h1,tk,rfl,hk⟩:=x.done
 have noA:∀ b:Addr,b∉(cxOf CX P w K mg base N qual scope f cd A outer s H E).ex:=fun b z=>absurd (show b∈([]:List Addr) from z) (by simp)
 refine⟨⟨e0.mod,S.kind,rfl,rfl,Nat.le_refl _,fun y z c h1 h2=>?_,fun y hy=>?_,fun y c _ h=>?_,fun _=>hd,Around.frames_deeper e0.frames,.inr ⟨rfl,rfl⟩,fun b z=>absurd z (noA b),e0.bs,e0.bsz,fun b _ _=>noA b,fun b z=>absurd z (noA b),e0.funs,e0.frf⟩,
  rfl,e0.bare,Un.kept hk,⟨_,x.toInCall.ns,fun i y v h1 h2 h3=>?_⟩,fun y c h=>⟨_,x.cell y c h⟩,e0.hok.fresh (Nat.le_refl _),fun y c h=>?_,fun p hp=>absurd (show p∈([]:List (Addr×Obj)) from hp) (by simp),e0.hok.kept hk,?_⟩
 ·exact name_of_addr x.apart (PySem.mem_of_lookup h1) (PySem.mem_of_lookup h2)
 ·have hy:scope.names.lookup y=some .cell∨scope.names.lookup y=some .free:=hy
  rcases hy with hy|hy
  ·exact vZ hy
  ·exact absurd rfl (S.Gi _ (PySem.mem_of_lookup hy))
 ·exact Nat.le_of_lt (x.above y c (PySem.mem_of_lookup h))
 ·have hi:i<vs.length:=by
   unfold start at h2
   by_cases hi:i<vs.length
   ·exact hi
   ·rw[List.getElem?_append_right (by simpa using hi)] at h2
    rw[List.getElem?_replicate] at h2
    split at h2<;>cases h2
  have ha:vs[i]?=some v:=by
   unfold start at h2
   rw[List.getElem?_append_left (by simpa using hi),List.getElem?_map] at h2
   cases e:vs[i]? with
   | none=>rw[e] at h2;cases h2
   | some a=>rw[e] at h2;cases h2;rfl
  obtain⟨u,hu,rv⟩:=r.get ha
  have hp:ps[i]?=some y:=by
   rw[← S.pre,List.getElem?_take_of_lt (by omega)];exact h1
  have ndP:ps.Nodup:=by rw[← S.pre];exact S.nd.sublist (List.take_sublist _ _)
  refine⟨u,rv,?_⟩
  rcases S.par y (List.mem_of_getElem? hp) with k|k
  ·exact .inl ⟨k,vK ndP hp hu k⟩
  ·obtain⟨c,e⟩:=vZ (n:=s.heap.objs.size+1) k
   refine .inr ⟨.inl k,c,e,?_⟩
   have q:=x.cell y c e
   rw[vI ndP hp hu (by show scope.names.lookup y≠_;rw[k];decide)] at q
   exact q
 ·exact e0.hok.fresh (Nat.le_of_lt (x.above y c (PySem.mem_of_lookup h)))
 ·unfold start
  show _=N.length
  rw[List.length_append,List.length_map,List.length_replicate]
  omega
theorem wU {CX:CXT}{P:Program}{w:World}{K:PySem.W.Frag}{mg:Str→Option Value}{base:Heap}{k:Nat}{f:Addr}{name qual:Str}{params:Arguments}{body:List Stmt}{scope:Scope}{dV kV doc pm cdv ct oc:Value}{an od:Option Addr}
  {osl:Array (Option Value)}{N ps:List Str}{sp:Sp}(lk:K.lookup f=some ⟨oc,od,.func (PySem.W.fnOf name qual params body scope dV kV doc pm an cdv ct),osl⟩) (hcd:PySem.W.codeIn K cdv qual=true)(S:av N ps scope)
  (len:∀ vs H Q E,sp vs H Q E→vs.length=ps.length)
  (hbody:∀(A:Around)(outer:List Env)(s:Shared)(H:Hp)(vs:List V)(Q:VK)(E:XK),Room k (A.deeper (envOfC qual scope s.heap.objs.size f cdv))→sp vs H Q E →
   ∃ t,PSs (cxOf CX P w K mg base N qual scope f cdv A outer s H E) body t∧t {nx:=fun _ H'=>Q .non H',rt:=Q} (start N vs) H) :
  FnOk P w K mg base CX (k+1) f (PySem.W.fnOf name qual params body scope dV kV doc pm an cdv ct) ps sp:=by
 refine⟨len,fun A outer s H args us vs Q E hr e0 hb r hsp=>?_⟩
 have hl:=len _ _ _ _ hsp
 have KX:K.In s.heap:=e0.mod.kin.keeps fun b o e=>(e0.bs b o e).1
 have lim:s.heap.NoLimit:=e0.mod.nolimit.keeps fun b o e=>(e0.bs b o e).1
 have hkind:∀ y∈ps.zip us,scope.names.lookup y.1=some .local∨(scope.names.lookup y.1=some .cell∧((cellsFrom (s.heap.objs.size+1) scope.names []).lookup y.1).isSome=true):=fun⟨n,v⟩ hy=>by
  rcases S.par n (List.of_mem_zip hy).1 with q|q
  ·exact .inl q
  ·exact .inr ⟨q,PySem.W.cellsFrom_some _ _ _ (.inl q)⟩
 refine codeAny_call_function hr.depth (KX _ _ lk) rfl S.co S.gen rfl (PySem.W.codeRec_of KX hcd) (hb _ _ _ _ ?_)
 refine wpAny_newFunctionEnv_cells S.kind hkind fun env he s1 x=>?_
 subst he
 refine⟨lim.keeps x.toInCall.keep,codeAny_func ?_⟩
 obtain⟨t,ht,hq⟩:=hbody A outer s H vs Q E (hr.deeper _) hsp
 have I:Inv (cxOf CX P w K mg base N qual scope f cdv A outer s H E) [] (start N vs) H s1:=Ey S hr.hd e0 hl r x
 refine wpAny_mono (ht [] s1 (start N vs) H _ I hq) (fun fl s' hs=>?_) fun e s' hs=>hs
 have fin:∀{σ':St}{H':Hp}{v:V}{u:Value},Inv (cxOf CX P w K mg base N qual scope f cdv A outer s H E) [] σ' H' s'→RelV v u→Q v H'→CE outer P w H s Q u s' :=
  fun{σ' H' v u} J rv q=>⟨v,H',J.os,J.bare,J.base,J.hok,rv,q⟩
 cases fl with
 | ret u =>
   obtain⟨v,σ',H',J,rv,q⟩:=hs
   exact fin J rv q
 | next =>
   obtain⟨σ',H',J,q⟩:=hs
   exact fin (v:=V.non) (u:=Value.none) J rfl q
 | brk =>
   obtain⟨_,_,_,q⟩:=hs
   exact False.elim q
 | cont =>
   obtain⟨_,_,_,q⟩:=hs
   exact False.elim q
end L2
namespace L2
open PySem PySem.Spec PyProof.Rows
section
variable {X:Cx}{x:Str}{p pos:Pos}{e:Expr}{es:List Expr}{t:TA}{id T:String}{r:List V→Hp→VK→Prop}
def tCB (r:List V→Hp→VK→Prop)(t:TA):TE:=fun σ H Q=>t σ H fun vs H1=>r vs H1 Q
theorem kM (hc:dQ X (.builtin id) r) (hg:Gl X x)(hm:X.mg x=none)(hv:bootBuiltins x=some (.builtin id)) (ha:PA X (e::es) t) (hn:x≠"__name__":=by decide)(hdb:(x==("__debug__":Str))=false:=by decide)
  (he:starEach (e::es) X.env=(false,eval e X.env)::starEach es X.env:=by rfl) (hpl:(backTo pos (starEach es X.env)).any (·.1)=false:=by rfl):PE X (.Call (.Name x p) (e::es) [] pos) (tCB r t):=by
 intro pins s σ H Q I h
 refine wpAny_Call_Name_kw (cI I hg hm hv ?_ hn hdb)
 exact PyProof.Rows.callWith_builtin1 (thn (ha pos pins s σ H _ I h) fun us s1 ⟨vs,H1,I1,r1,q1⟩=>hc pins s1 σ H1 vs us Q I1 r1 q1) he hpl
theorem yt (hc:dQ X (.type T) r) (hg:Gl X x)(hm:X.mg x=none)(hv:bootBuiltins x=some (.type T)) (ha:PA X (e::es) t) (hn:x≠"__name__":=by decide)(hdb:(x==("__debug__":Str))=false:=by decide)
  (he:starEach (e::es) X.env=(false,eval e X.env)::starEach es X.env:=by rfl) (hpl:(backTo pos (starEach es X.env)).any (·.1)=false:=by rfl):PE X (.Call (.Name x p) (e::es) [] pos) (tCB r t):=by
 intro pins s σ H Q I h
 refine wpAny_Call_Name_kw (cI I hg hm hv ?_ hn hdb)
 exact PyProof.Rows.callWith_type1 (thn (ha pos pins s σ H _ I h) fun us s1 ⟨vs,H1,I1,r1,q1⟩=>hc pins s1 σ H1 vs us Q I1 r1 q1) he hpl
end
end L2
namespace HT
open PySem PyProof.Rows
section
open PySem.SeqAt
open PySem.AutoSeq1 (wpAny_loadPart')
open PySem.MeetsSeq PySem.MeetsSeq2 PySem.MeetsSeq3
end
section
variable {prog:Program}{w:World}{A:Around}{E:Value→Shared→Prop}{s:Shared}
theorem BL {t b:Addr}{vs ws:List Value}{Q:Value→Shared→Prop}(ht:IsTup s.heap t vs.toArray)(hb:IsTup s.heap b ws.toArray)(hv:vs≠[])
  (h1:ws=[]→Q (.ref t) s) (h2:ws≠[]→Q (.ref s.heap.objs.size) {s with heap:=s.heap.push {cls:=.type "tuple",data:=.seq (vs++ws).toArray}})
  (hsz:vs.length+ws.length≤sizeLine):wpAny (model prog w) A (binaryOp .Add (.ref t) (.ref b)) Q E s:=by
 obtain⟨⟨cls,dd,data,sl⟩,ho,hc,n,hd⟩:=id ht
 obtain⟨⟨cls2,dd2,data2,sl2⟩,ho2,hc2,n2,hd2⟩:=id hb
 simp only at hc hd hc2 hd2
 subst hc hd hc2 hd2
 have e:vs.toArray++ws.toArray=(vs++ws).toArray:=by simp
 by_cases hw:ws=[]
 ·exact concat_meets ⟨_,ho,rfl⟩ ⟨_,ho2,rfl⟩ noFill_tuple_add seq_tuple_add PySem.F.slot_tuple_add PySem.F.entry_tuple_add (PySem.F.args_tuple_add_2 _ _)
   (tuple_addW1 t b vs.toArray ws.toArray n n2 dd dd2 sl sl2 (by simpa using hv) (by simp [hw])) ⟨ho,ho2,h1 hw⟩
 ·refine concat_meets ⟨_,ho,rfl⟩ ⟨_,ho2,rfl⟩ noFill_tuple_add seq_tuple_add PySem.F.slot_tuple_add PySem.F.entry_tuple_add (PySem.F.args_tuple_add_2 _ _)
   (tuple_addW2 t b vs.toArray ws.toArray n n2 dd dd2 sl sl2 (by simpa using hv) (by simpa using hw) (by rw[List.size_toArray,List.size_toArray];exact hsz)) ⟨ho,ho2,?_⟩
  rw[e]
  exact h2 hw
def sIx (n d:Nat):Option Int→Nat
 | none=>d
 | some v=>if v<0 then (v+(n:Int)).toNat else min v.toNat n
end
end HT
namespace L2
open PySem PySem.Spec PyProof.Rows
abbrev TO:=St→Hp→(Option Int→Hp→Prop)→Prop
section
variable {X:Cx}{e:Expr}{te:TE}{lo hi:Option Expr}{tl th:TO}{pos p2:Pos}
end
end L2
namespace L2
open PySem PySem.Spec PyProof.Rows
def ixN (n:Nat) (i:Int):Option Nat:=if 0≤i then (if i<n then some i.toNat else none) else if -(n:Int)≤i then some (i+n).toNat else none
def atI {α:Type}(xs:List α) (i:Int):Option α:=(ixN xs.length i).bind fun j=>xs[j]?
theorem EH {n:Nat}{i:Int}{j:Nat}(h:ixN n i=some j):seqIndex? i n=some j∧j<n ∧ -(n:Int)≤i∧i<n:=by
 unfold ixN at h
 by_cases h0:0≤i
 ·rw[if_pos h0] at h
  by_cases h1:i<n
  ·rw[if_pos h1] at h
   have e:i.toNat=j:=Option.some.inj h
   exact⟨by rw[seqIndex_of h0 h1,e],by omega,by omega,h1⟩
  ·rw[if_neg h1] at h;cases h
 ·rw[if_neg h0] at h
  by_cases h1 : -(n:Int)≤i
  ·rw[if_pos h1] at h
   have e:(i+n).toNat=j:=Option.some.inj h
   exact⟨by rw[seqIndex_neg (by omega) h1,e],by omega,h1,by omega⟩
  ·rw[if_neg h1] at h;cases h
theorem oK {α:Type}{xs:List α}{i:Int}{v:α}(h:atI xs i=some v):∃ j,seqIndex? i xs.length=some j∧xs[j]?=some v∧j<xs.length ∧ -(xs.length:Int)≤i∧i<xs.length:=by
 unfold atI at h
 cases e:ixN xs.length i with
 | none=>rw[e] at h;cases h
 | some j =>
   rw[e] at h
   obtain⟨h1,h2,h3,h4⟩:=EH e
   exact⟨j,h1,h,h2,h3,h4⟩
def jO (b:Expr):Prop:=∀ o i,subscripted b false o i=operate [o,i] (getItem o i)
def IxR (X:Cx)(r:R2):Prop :=
 ∀(value slice:Expr)(pins:List (Addr×Obj)) (s:Shared)(σ:St)(H:Hp)(x y:V)(v u:Value)(Q:VK),Inv X pins σ H s→RelV x v→RelV y u→r x y H Q →
  subscripted slice false v u=operate [v,u] (getItem v u)→wpAny (model X.prog X.w) X.A (subscriptTail value slice v u) (EP X pins σ Q) X.xe s
def MtR (X:Cx)(id:String)(r:V→List V→Hp→VK→Prop):Prop :=
 ∀(pins:List (Addr×Obj)) (s:Shared)(σ:St)(H:Hp)(x:V)(xs:List V)(v:Value)(us:List Value)(Q:VK),Inv X pins σ H s→RelV x v→Vals xs us→r x xs H Q →
  wpAny (model X.prog X.w) X.A (call (.builtin id) (v::us)) (EP X pins σ Q) X.xe s
section
variable {X:Cx}{a b:Expr}{ta tb:TE}{pos:Pos}
theorem IxR.or {r r':R2}(h:IxR X r)(h':IxR X r'):IxR X (fun x y H Q=>r x y H Q∨r' x y H Q):=by
 intro value slice pins s σ H x y v u Q I rx ry q hs
 rcases q with q|q
 ·exact h value slice pins s σ H x y v u Q I rx ry q hs
 ·exact h' value slice pins s σ H x y v u Q I rx ry q hs
theorem yw {r:R2}(hr:IxR X r)(ha:PE X a ta)(hb:PE X b tb)(hs:jO b):PE X (.Subscript a b pos) (tOp r ta tb):=by
 intro pins s σ H Q I h
 exact Subscript_ (binT ha hb I h fun v u s2 x y H2 I2 rx ry q=>hr a b pins s2 σ H2 x y v u Q I2 rx ry q (hs _ _))
def rIxL (K:PySem.W.Frag):R2:=fun x y H Q=>∃ p xs i v,x=.ref p∧y=.int i∧SqL K H p xs∧atI xs i=some v∧Q v H
def rIxT (K:PySem.W.Frag):R2:=fun x y H Q=>∃ p xs i v,x=.ref p∧y=.int i∧SqT K H p xs∧atI xs i=some v∧Q v H
def rIxS:R2:=fun x y H Q=>∃ z i c,x=.str z∧y=.int i∧z.length≤sizeLine∧atI z.cps.toList i=some c∧Q (.str ⟨#[c]⟩) H
theorem EI:IxR X (rIxL X.K):=by
 intro value slice pins s σ H x y v u Q I rx ry h hs
 obtain⟨p,xs,i,z,rfl,rfl,hq,he,q⟩:=h
 cases rx
 obtain⟨t,rfl⟩:=ry
 obtain⟨its,r,pl,hz⟩:=I.list hq
 obtain⟨j,h1,h2,h3,h4,h5⟩:=oK he
 obtain⟨w,ew,rw'⟩:=r.get h2
 have hl:=r.length
 have hn:=i8
 have fin:EP X pins σ Q w s:=⟨z,H,I,rw',q⟩
 by_cases h0:0≤i
 ·have hj:i.toNat=j:=by
   rw[seqIndex_of h0 h5] at h1
   exact Option.some.inj h1
  exact item_listR pl.isList h0 (by omega) (by rw[hj];simpa using ew) fin hs
 ·have hj:(i+(its.toArray.size:Int)).toNat=j:=by
   rw[seqIndex_neg (by omega) h4] at h1
   rw[List.size_toArray,← hl]
   exact Option.some.inj h1
  exact subscriptTail_builtinR (x:=w) pl.isList.typeIs slot_list_getitem.lookup
   (wpAny_getItem_list_neg (Q:=fun r s'=>r=w∧EP X pins σ Q r s') pl.isList (by omega) (by rw[List.size_toArray]<;>omega) (by omega) (by rw[hj];simpa using ew) ⟨rfl,fin⟩) hs
theorem EK:IxR X (rIxT X.K):=by
 intro value slice pins s σ H x y v u Q I rx ry h hs
 obtain⟨p,xs,i,z,rfl,rfl,hq,he,q⟩:=h
 cases rx
 obtain⟨t,rfl⟩:=ry
 obtain⟨its,r,pl,hz⟩:=I.tuple hq
 obtain⟨j,h1,h2,h3,h4,h5⟩:=oK he
 obtain⟨w,ew,rw'⟩:=r.get h2
 have hl:=r.length
 have hn:=i8
 have fin:EP X pins σ Q w s:=⟨z,H,I,rw',q⟩
 exact subscriptTail_builtinR (x:=w) pl.typeIs slot_tuple_getitem.lookup
  (getItem_tuple (j:=j) (Q:=fun r s'=>r=w∧EP X pins σ Q r s') pl (by omega) (by omega) (by rw[List.size_toArray,← hl];exact h1) (by simpa using ew) ⟨rfl,fin⟩) hs
theorem EJ:IxR X rIxS:=by
 intro value slice pins s σ H x y v u Q I rx ry h hs
 obtain⟨z,i,c,rfl,rfl,hz,he,q⟩:=h
 obtain⟨t,rfl⟩:=rx
 obtain⟨t',rfl⟩:=ry
 obtain⟨j,h1,h2,h3,h4,h5⟩:=oK he
 have hl:z.cps.toList.length=z.length:=by simp [Str.length]
 rw[hl] at h1 h4 h5
 have hn:=i8
 exact tail_any (typeIs_str s z t) slot_str_getitem.lookup (getItem_str (c:=c) (by
  have e1:decide (i < -(2 ^ 63:Int))=false:=decide_eq_false (by omega)
  have e2:decide (i≥2 ^ 63)=false:=decide_eq_false (by omega)
  rw[e1,e2,Bool.or_false]) (by rw[h1];simpa using h2) ⟨.str ⟨#[c]⟩,H,I.tok _,⟨_,rfl⟩,q⟩) hs
def rIx (K:PySem.W.Frag):R2:=fun x y H Q=>rIxL K x y H Q∨rIxT K x y H Q∨rIxS x y H Q
theorem xw:IxR X (rIx X.K):=EI.or (EK.or EJ)
theorem vO:dQ X (.builtin "len") (fun xs H Q=>∃ p ys,xs=[.ref p]∧(SqL X.K H p ys∨SqT X.K H p ys)∧Q (.int ys.length) H):=by
 intro pins s σ H xs us Q I r h
 obtain⟨p,ys,rfl,hq,q⟩:=h
 obtain⟨u,rfl,rx⟩:=vals1 r
 cases rx
 have hn:=i8
 rcases hq with hq|hq
 ·obtain⟨its,r',pl,hz⟩:=I.list hq
  have hlen:=r'.length
  exact Calls.call_len_list pl.isList (by simp only[List.size_toArray]<;>omega) ⟨.int ys.length,H,I.tok _,⟨s.toks+1,by rw[List.size_toArray,hlen]⟩,q⟩
 ·obtain⟨its,r',pl,hz⟩:=I.tuple hq
  have hlen:=r'.length
  exact len_tuple pl (by simp only[List.size_toArray]<;>omega) ⟨.int ys.length,H,I.tok _,⟨s.toks+1,by rw[List.size_toArray,hlen]⟩,q⟩
theorem BI:dQ X (.builtin "len") (fun xs H Q=>∃ z,xs=[.str z]∧z.length≤sizeLine∧Q (.int z.length) H):=by
 intro pins s σ H xs us Q I r h
 obtain⟨z,rfl,hz,q⟩:=h
 obtain⟨u,rfl,t,rfl⟩:=vals1 r
 have hn:=i8
 exact len_str (by omega) ⟨.int z.length,H,I.tok _,⟨_,rfl⟩,q⟩
theorem vP:dQ X (.type "tuple") (fun xs H Q=>∃ p ys,xs=[.ref p]∧((SqL X.K H p ys∧∀ l,H l=none→Q (.ref l) (upd H l (.tup ys)))∨(SqT X.K H p ys∧Q (.ref p) H))):=by
 intro pins s σ H xs us Q I r h
 obtain⟨p,ys,rfl,h⟩:=h
 obtain⟨u,rfl,rx⟩:=vals1 r
 cases rx
 rcases h with⟨hq,q⟩|⟨hq,q⟩
 ·obtain⟨its,r',pl,hz⟩:=I.list hq
  have hlen:=r'.length
  refine call_tuple_list pl.isList (fun h' kp=>?_) (by simp only[List.size_toArray]<;>omega)
  have I1:Inv X pins σ H {s with heap:=h'}:=I.kept (t':=s.toks) kp
  have I2:Inv X pins σ (upd H h'.objs.size (.tup ys)) {s with heap:=h'.push {cls:=.type "tuple",data:=.seq its.toArray}} :=
   I1.laid (t':=s.toks) (fun b o e=>Heap.get?_push_of_some _ e) (Nat.le_refl _) (show bE X.prog X.w _ _ _ (.tup ys) from⟨hz,its,r',IsTup.new _ _⟩)
  exact⟨.ref h'.objs.size,_,I2,rfl,q _ (I1.hok.fresh (Nat.le_refl _))⟩
 ·obtain⟨its,r',pl,hz⟩:=I.tuple hq
  exact call_tuple_same pl ⟨.ref p,H,I,rfl,q⟩
def tyV (K:PySem.W.Frag)(T:String)(x:V)(H:Hp):Prop:=match x with
 | .str _=>T="str"
 | .int _=>T="int"
 | .ref p=>(T="list"∧∃ xs,SqL K H p xs)∨(T="tuple"∧∃ o,K.lookup p=some o∧o.cls=.type "tuple"∧o.dict=none) ∨
   (T="dict"∧((∃ kvs,H p=some (.dK kvs))∨∃ kvs,H p=some (.dT kvs)))∨(T="set"∧∃ S n,H p=some (.set S n))
 | _=>False
theorem Lj {pins:List (Addr×Obj)}{σ:St}{H:Hp}{s:Shared}{T:String}{x:V}{v:Value}(I:Inv X pins σ H s)(r:RelV x v)(ty:tyV X.K T x H) :
  s.TypeIs v T∧∀ a,v=.ref a→∃ ob,s.heap.get? a=some ob∧ob.dict=none:=by
 cases x with
 | str z =>
   obtain⟨t,rfl⟩:=r
   cases (show T="str" from ty)
   exact⟨typeIs_str s z t,fun _ e=>nomatch e⟩
 | int i =>
   obtain⟨t,rfl⟩:=r
   cases (show T="int" from ty)
   exact⟨typeIs_int s i t,fun _ e=>nomatch e⟩
 | ref p =>
   cases r
   rcases ty with⟨rfl,xs,hq⟩|⟨rfl,o,hk,hc,hd⟩|⟨rfl,hk⟩|⟨rfl,S,n,hk⟩
   ·obtain⟨its,_,pl,_⟩:=I.list hq
    refine⟨pl.isList.typeIs,fun a e=>?_⟩
    cases e
    obtain⟨o,n,e,c,hd,_⟩:=pl
    exact⟨o,e,hd⟩
   ·refine⟨⟨o,I.kIn p o hk,hc⟩,fun a e=>?_⟩
    cases e
    exact⟨o,I.kIn _ o hk,hd⟩
   ·have z:∃ o,s.heap.get? p=some o∧o.ExactDict:=by
     rcases hk with⟨kvs,hk⟩|⟨kvs,hk⟩
     ·obtain⟨_,_,_,_,o,_,_,e,ex,_⟩:=I.hok p _ hk
      exact⟨o,e,ex⟩
     ·obtain⟨_,_,_,_,o,_,_,e,ex,_⟩:=I.hok p _ hk
      exact⟨o,e,ex⟩
    obtain⟨o,e,ex⟩:=z
    refine⟨⟨o,e,ex.1⟩,fun a e2=>?_⟩
    cases e2
    exact⟨o,e,ex.2.1⟩
   ·obtain⟨o,_,_,_,e,ex,_⟩:=I.hok p _ hk
    refine⟨⟨o,e,ex.1⟩,fun a e2=>?_⟩
    cases e2
    exact⟨o,e,ex.2.1⟩
 | _=>exact False.elim ty
def tBM (K:PySem.W.Frag)(T:String)(r:V→List V→Hp→VK→Prop)(to:TE)(t:TA):TE:=fun σ H Q=>to σ H fun x H1=>tyV K T x H1∧t σ H1 fun xs H2=>r x xs H2 Q
variable {o e:Expr}{es:List Expr}{to:TE}{t:TA}{name:Str}{apos cpos:Pos}{T id:String}{r:V→List V→Hp→VK→Prop}
theorem sL (pa:PlainAttrs T)(slot:Slot T name id)(hty:typeOf (.builtin id)=pure (.type "method_descriptor")) (hm:MtR X id r)(ho:PE X o to)(ha:PA X (e::es) t)
  (hbase:attributeBase o name X.env (eval o X.env)=eval o X.env:=by rfl)
  (hfew:((backTo cpos (starEach (e::es) X.env)).all (fun x=>!x.1)&&(backToKw cpos (keywordEach [] X.env)).all (fun x=>x.1.isSome)
   && decide ((e::es).length+([]:List Keyword).length+(if ([]:List Keyword).isEmpty then 0 else 1)<30))=true:=by rfl)
  (hline:(apos.endLine==cpos.line)=true:=by rfl) (hs:starEach (e::es) X.env=(false,eval e X.env)::starEach es X.env:=by rfl) (hplain:(backTo cpos (starEach es X.env)).any (·.1)=false:=by rfl) :
  PE X (.Call (.Attribute o name apos) (e::es) [] cpos) (tBM X.K T r to t):=by
 intro pins s σ H Q I h
 refine wpAny_Call_method_late hbase hfew hline rfl (thn (ho pins s σ H _ I h) fun v s1 ⟨x,H1,I1,r1,ty,q1⟩=>?_)
 obtain⟨h1,h2⟩:=Lj I1 r1 ty
 refine⟨T,id,pa,slot,hty,h1,h2,?_⟩
 have hA:=ha cpos pins s1 σ H1 _ I1 q1
 rw[hs] at hA ⊢
 refine Calls.callWith_builtin (by show(false||(backTo cpos (starEach es X.env)).any (·.1))=false;rw[hplain]<;>rfl) (Calls.evalArgs_plain ?_)
 exact thn hA fun us s2 ⟨vs,H2,I2,r2,q2⟩=>hm pins s2 σ H2 x vs v us Q I2 r1 r2 q2
end
end L2
namespace L2
open PySem PySem.Spec PyProof.Rows
def MtM (X:Cx)(id:String)(r:V→List V→Hp→VK→Prop):Prop :=
 ∀(pins:List (Addr×Obj)) (s:Shared)(σ:St)(H:Hp)(x:V)(xs:List V)(v:Value)(us:List Value)(Q:VK),Inv X pins σ H s→RelV x v→Vals xs us→r x xs H Q →
  wpAny (model X.prog X.w) X.A (call (.builtin id) (v::us)) (EP X pins σ Q) X.xe s
theorem Vals.one:∀{x:V}{us:List Value},Vals [x] us→∃ u,us=[u]∧RelV x u
 | _,_,.cons r .nil=>⟨_,rfl,r⟩
theorem Vals.rep {xs:List V}{us:List Value}(h:Vals xs us):∀ k:Nat,Vals (List.replicate k xs).flatten (List.replicate k us).flatten
 | 0=>.nil
 | k+1=>by
   rw[List.replicate_succ,List.replicate_succ,List.flatten_cons,List.flatten_cons]
   exact Vals.append h (Vals.rep h k)
theorem foldl_rep (its:List Value):∀(k:Nat)(acc:List Value),
  List.foldl (fun x1 x2=>x1++x2) acc.toArray (List.replicate k its.toArray)=(acc++(List.replicate k its).flatten).toArray
 | 0,acc=>by simp
 | k+1,acc=>by
   have e:acc.toArray++its.toArray=(acc++its).toArray:=by simp
   have e2:(acc++its)++(List.replicate k its).flatten=acc++(List.replicate (k+1) its).flatten:=by
    rw[List.replicate_succ,List.flatten_cons,List.append_assoc]
   rw[← e2,← foldl_rep its k (acc++its),← e,List.replicate_succ,List.foldl_cons]
section
variable {X:Cx}{pins:List (Addr×Obj)}{σ:St}{H:Hp}{s:Shared}{l b:Addr}{xs ys zs:List V}
theorem Inv.lset {its its':List Value}{n:Nat}{f:Array Value→Array Value}{t':Nat}(I:Inv X pins σ H s)(hH:H l=some (.lst xs))
  (e:s.heap.get? l=some {cls:=.type "list",data:=.seq its.toArray n}) (hf:f its.toArray=its'.toArray)(hv:Vals ys its')(hz:ys.length≤sizeLine) :
  Inv X pins σ (upd H l (.lst ys)) {s with heap:=s.heap.update l (Obj.mapSeq f),toks:=t'}:=by
 have q:=PySem.IsL.update e f
 rw[hf] at q
 refine I.write (x:=l) (e:=l) (by rw[hH];exact trivial) (.inl rfl) (fun b' u hb hu=>(Heap.get?_update_other s.heap (Obj.mapSeq f) (Ne.symm hb)).trans hu) ⟨_,q⟩ ?_
 exact⟨hz,its',_,hv,q⟩
theorem Inv.lnew {its:List Value}{t':Nat}(I:Inv X pins σ H s)(hv:Vals ys its)(hz:ys.length≤sizeLine) :
  Inv X pins σ (upd H s.heap.objs.size (.lst ys)) {s with heap:=s.heap.push {cls:=.type "list",data:=.seq its.toArray},toks:=t'} :=
 I.laid (fun _ _ q=>Heap.get?_push_of_some _ q) (Nat.le_refl _) ⟨hz,its,0,hv,Heap.get?_push_size _ rfl⟩
theorem Inv.fresh (I:Inv X pins σ H s):H s.heap.objs.size=none:=I.hok.fresh (Nat.le_refl _)
theorem Inv.lstM (I:Inv X pins σ H s)(hH:H l=some (.lst xs)):xs.length≤sizeLine∧∃(its:List Value) (n:Nat),Vals xs its∧xs.length=its.length∧s.heap.get? l=some {cls:=.type "list",data:=.seq its.toArray n}:=by
 obtain⟨z,its,n,r,e⟩:=I.hok l _ hH
 exact⟨z,its,n,r,r.length,e⟩
theorem Gp {n:Nat}(h:n≤sizeLine):Builtin.List.listTooLong n=false:=by
 unfold Builtin.List.listTooLong
 exact decide_eq_false (by omega)
end
section
variable {X:Cx}
def sU:V→List V→Hp→VK→Prop:=fun x vs H Q=>∃ l xs y,x=.ref l∧vs=[y]∧H l=some (.lst xs)∧xs.length<sizeLine∧Q .non (upd H l (.lst (xs++[y])))
theorem x6:MtM X "list.append" sU:=by
 intro pins s σ H x vs v us Q I rx rv h
 obtain⟨l,xs,y,rfl,rfl,hH,hz,q⟩:=h
 cases rx
 obtain⟨u,rfl,ru⟩:=rv.one
 obtain⟨z,its,n,r,hl,e⟩:=I.lstM hH
 refine call_meets F.slot_list_append ⟨_,e,rfl⟩ F.entry_list_append (F.args_list_append_2 _ _) (PySem.list_append l its.toArray n u (by rw[List.size_toArray];omega)) ⟨e,?_⟩
 refine⟨.non,_,I.lset (its':=its++[u]) hH e (by simp) (r.append (.cons ru .nil)) ?_,rfl,q⟩
 rw[List.length_append,List.length_singleton]
 omega
theorem len_rep {α:Type}(xs:List α) (k:Nat):(List.replicate k xs).flatten.length=k * xs.length:=by
 induction k with
 | zero=>simp
 | succ k ih=>rw[List.replicate_succ,List.flatten_cons,List.length_append,ih,Nat.succ_mul,Nat.add_comm]
end
section
variable {prog:Program}{w:World}{A:Around}{E:Value→Shared→Prop}{s:Shared}
end
section
variable {X:Cx}
end
end L2
namespace Att
open PySem PySem.W PySem.Calls PyProof.Rows
theorem Ew {P:Params}{h:Heap}:∀(ns:List Int)(vs:List Value),WellAll P h vs (ns.map WData.int)→IntsAre vs ns:=by
 intro ns
 induction ns with
 | nil =>
   intro vs w
   rw[List.map_nil] at w
   cases w
   exact .nil
 | cons n ns ih =>
   intro vs w
   rw[List.map_cons] at w
   cases w with
   | cons a b =>
     cases a
     exact .cons _ _ (ih _ b)
theorem JF {l:OpenLaw}{n:Nat}(hn:l.most=some n){P:Params}{h:Heap}{args:List WData}{vals:List Value}
  (hpre:l.row.toRowW.claim.pre args=true)(hwl:WellAll P h vals args) :
  ∃ a vs ns,vals=[Value.ref a]∧args=[WData.list (ns.map WData.int)]∧h.get? a=some {cls:=.type "list",data:=.seq vs.toArray}∧IntsAre vs ns∧ns.length≤n:=by
 have hsh:WShape.hasAll [] args [.list .int]=true:=(pre_splitW hpre).1
 have hc:l.pre.holds [] {args:=args}=true:=(pre_splitW hpre).2
 obtain⟨d,r,rfl,h1,h2⟩:=hasAllW_cons hsh
 obtain rfl:=hasAllW_nil h2
 obtain⟨xs,rfl,h3⟩:=hasW_list h1
 obtain⟨ns,rfl⟩:=items_int h3
 have hlen:ns.length≤n:=by
  unfold OpenLaw.pre at hc
  have h4:(WTm.not (.lt (.lit (.int (n:Int))) (.len (.arg 0)))).holds [] {args:=[.list (ns.map .int)]}=true:=by
   have h4:=(holds_andW hc).1
   rw[hn] at h4
   exact h4
  have h5:=condW_of h4 (w_not (w_lt w_lit (w_len_list (w_arg rfl))))
  rw[List.length_map] at h5
  refine Nat.le_of_not_lt fun q=>?_
  have q':(n:Int)<((ns.length:Nat):Int):=by omega
  first
   | (rw[decide_eq_true q'] at h5;exact absurd h5 (by decide))
   | (simp at h5;omega)
 cases hwl with
 | cons w1 w2 =>
   cases w2
   cases w1 with
   | list ho hall=>exact⟨_,_,ns,rfl,rfl,ho,Ew ns _ hall,hlen⟩
theorem HN (l:OpenLaw)(args:List WData):l.row.toRowW.claim.post args (.bool true) args=true :=
 postW_of (r:=l.row.toRowW) (X:=(true==true))
  (show WShape.has [] (.bool true) .bool=true by first|rfl|decide|simp [WShape.has,WShape.arms,WShape.armsAll])
  (show(WTm.eq .res (.lit (.bool true))).value [] {args:=args,res:=some (.bool true),after:=args}=some (.bool (true==true)) from w_eq_bool (w_res rfl) w_lit) rfl
theorem A7 {l:OpenLaw}{n:Nat}{q:Program}{loose:List Str}{XP:(Str→Option Value)→Heap→Prop}{YP:World→Heap→Prop}{d:DefRec}
  (hn:l.most=some n)(hdf:d.params.defaults=[])
  (call:∀(w:World)(s₀ s₁:Shared)(mg mb:Str→Option Value)(fa:Addr)(o:Obj)(pm cd doc:Value)(a:Addr)(vs:List Value)(ns:List Int),
   Ground q loose [] XP w s₀ mg mb s₁.heap→YP w s₁.heap →
   s₁.heap.get? fa=some o→o.data=.func (docDef d.name d.params d.body d.scope pm cd doc)→s₁.heap.CodeRec cd d.name→mg d.name=some (.ref fa) →
   s₁.heap.get? a=some {cls:=.type "list",data:=.seq vs.toArray}→IntsAre vs ns→ns.length≤n→s₁.gens=#[] →
   codeAny (model l.prog w) callerA (.call (.ref fa) ⟨[.ref a],[]⟩) (fun r s'=>r=.ok (.ret (.bool true))∧OldK s₁.heap s'.heap∧s'.os=s₁.os∧AllBare s'.gens) s₁) :
  WalkO q loose XP YP l.row.toRowW d [] (fun f vs=>PySem.call f vs):=by
 intro w s₀ s₁ mg mb G Y fa o pm cd doc dV kV ho hd hcd hD hmg hg args vals as hpre hlay hrd hwl hlo
 obtain rfl:dV=.none:=Dflts.none hD hdf
 obtain rfl:kV=.none:=Dflts.noKw hD
 obtain⟨a,vs,ns,rfl,rfl,hobj,hints,hlen⟩:=JF hn hpre hwl
 refine enter_call (codeAny_mono (call w s₀ s₁ mg mb fa o pm cd doc a vs ns G Y ho (fd_plain hd) hcd hmg hobj hints hlen hg) fun r s' hq=>?_)
 obtain⟨rfl,h2,h3,h4⟩:=hq
 exact⟨.inl ⟨.bool true,.bool true,[],rfl,fun _=>rfl,.bool true,HN l _,fun _=>⟨List.Pairwise.nil,fun _ hm=>(nomatch hm)⟩⟩,h2,h3,h4⟩
section
variable {prog:Program}{w:World}{A:Around}{E:Value→Shared→Prop}{s:Shared}{K:Frag}
end
end Att
namespace L2
open PySem PySem.Spec PyProof.Rows
theorem lq:∀{vs:List Value}{ns:List Int},IntsAre vs ns→Vals (ns.map V.int) vs
 | _,_,.nil=>.nil
 | _,_,.cons n t h=>.cons ⟨t,rfl⟩ (lq h)
def Only (H:Hp):Prop:=∀ b,H b=none∨∃ o xs,H b=some (.frz o (.lst xs))
theorem Fg {P:Program}{w:World}{K:PySem.W.Frag}{mg mb:Str→Option Value}{CX:CXT}{k:Nat}{fa a:Addr}{fd:FuncData}{x:Str}{sp:Sp}{s₁:Shared}{vs:List Value}{ns:List Int}
  (KX:K.In s₁.heap)(hns:s₁.heap.Ns mainGlobals mg)(hb:s₁.heap.Ns builtinsNs mb)(hbb:∀ x:Str,x≠"__name__"→mb x=bootBuiltins x)(hlim:s₁.heap.NoLimit)(hg:s₁.gens=#[])
  (ha:s₁.heap.get? a=some {cls:=.type "list",data:=.seq vs.toArray}) (hi:IntsAre vs ns)(hl:ns.length≤sizeLine)(hr:Room k callerA)
  (F:∀ base:Heap,K.In base→base.Ns mainGlobals mg→FnOk P w K mg base CX k fa fd [x] sp)(hbind:∀(s:Shared)(u:Value),BindsTo s fd ⟨[u],[]⟩ [(x,u)])
  (hsp:∀ H:Hp,Only H→SqL K H a (ns.map V.int)→sp [.ref a] H (fun v _=>v=.bl true) fun _ _ _=>False)
  (hCX:∀ H e s',CX [] H s₁ (fun _ _ _=>False) e s'→False) :
  codeAny (model P w) callerA (.call (.ref fa) ⟨[.ref a],[]⟩) (fun r s'=>r=.ok (.ret (.bool true))∧OldK s₁.heap s'.heap∧s'.os=s₁.os∧AllBare s'.gens) s₁:=by
 have rv:=lq hi
 have lenV:=hi.length
 have core:∀ H:Hp,Only H→SqL K H a (ns.map V.int)→HOk P w H s₁.heap→(∀ b,H b≠none→b=a)→(H a≠none→K.lookup a=none) →
   codeAny (model P w) callerA (.call (.ref fa) ⟨[.ref a],[]⟩) (fun r s'=>r=.ok (.ret (.bool true))∧OldK s₁.heap s'.heap∧s'.os=s₁.os∧AllBare s'.gens) s₁:=by
  intro H hO hS hok hA hK
  have vH:∀{b:Addr}{o:Obj},s₁.heap.get? b=some o→H b=none→(hidT s₁.heap H).get? b=some o:=fun e n=>Ei e n
  have noA:∀{b:Addr}{o:Obj}{es:Array DictEntry}{ep:Nat},s₁.heap.get? b=some o→o.data=.dict es ep→H b=none:=fun{b o es ep} e d=>by
   cases q:H b with
   | none=>rfl
   | some u =>
     have e':b=a:=hA b (by rw[q];simp)
     subst e'
     rw[ha] at e;cases e
     have d':Data.seq vs.toArray _=Data.dict es ep:=d
     cases d'
  have nsK:∀{b:Addr}{m:Str→Option Value},s₁.heap.Ns b m→(hidT s₁.heap H).Ns b m:=fun{b m} ⟨o,es,ep,e,d,r⟩=>⟨o,es,ep,vH e (noA e d),d,r⟩
  have hKb:K.In (hidT s₁.heap H):=fun b o e=>vH (KX b o e) (by
   cases q:H b with
   | none=>rfl
   | some u =>
     have e':b=a:=hA b (by rw[q];simp)
     subst e'
     rw[hK (by rw[q];simp)] at e;cases e)
  have hM:Mod K mg (hidT s₁.heap H):=⟨hKb,nsK hns,⟨mb,nsK hb,hbb⟩,let ⟨mc,h1,h2⟩:=hlim;⟨mc,nsK h1,h2⟩⟩
  have e0:Env0 P w K mg (hidT s₁.heap H) callerA [] s₁ H:=⟨rfl,hM,fun b o e=>GO e,Nat.le_of_eq (Ej _ _),trivial,fun b hb=>absurd (show b∈([]:List Addr) from hb) (by simp),hok,.of_eq hg⟩
  refine codeAny_mono ((F _ hKb (nsK hns)).run callerA [] s₁ H ⟨[.ref a],[]⟩ [.ref a] [.ref a] _ _ hr e0 (hbind s₁ (.ref a)) (.cons rfl .nil) (hsp H hO hS)) fun r s' h=>?_
  cases r with
  | error e=>exact(hCX H e s' h).elim
  | ok fl =>
    cases fl with
    | next=>exact False.elim h
    | brk=>exact False.elim h
    | cont=>exact False.elim h
    | ret u =>
      obtain⟨v,H',os,bare,un,hok',r',q⟩:=h
      have q':v=.bl true:=q
      subst q'
      obtain rfl:u=Value.bool true:=r'
      refine⟨rfl,OldK.of_keep fun b o e=>?_,os,bare⟩
      cases q:H b with
      | none=>exact un.keep b o e q (by intro z;exact absurd (show b∈([]:List Addr) from z) (by simp)) (by simp)
      | some u =>
        rcases hO b with z|⟨ob,xs,z⟩
        ·rw[q] at z;cases z
        ·have z2:=un.frzs b ob _ z
         obtain⟨e1,_⟩:=hok b _ z
         obtain⟨e2,_⟩:=hok' b _ z2
         rw[e] at e1;cases e1
         exact e2
 cases hk:K.lookup a with
 | some o =>
   have e:=KX a o hk
   rw[ha] at e
   cases e
   refine core (fun _=>none) (fun _=>.inl rfl) (.inr ⟨_,vs.toArray,_,hk,rfl,rfl,rfl,by rw[List.size_toArray,lenV];exact hl,by simpa using rv⟩) (fun b u z=>by have z':(none:Option HO)=some u:=z;cases z') (fun b z=>absurd rfl z) fun z=>absurd rfl z
 | none =>
   refine core (fun b=>if b=a then some (.frz {cls:=.type "list",data:=.seq vs.toArray} (.lst (ns.map V.int))) else none) (fun b=>?_) (.inl (.inr ⟨{cls:=.type "list",data:=.seq vs.toArray},if_pos rfl⟩)) (fun b u z=>?_) (fun b z=>?_) fun _=>hk
   ·by_cases hb:b=a
    ·exact .inr ⟨_,_,if_pos hb⟩
    ·exact .inl (if_neg hb)
   ·by_cases hb:b=a
    ·have z':=(if_pos hb).symm.trans z
     cases z'
     subst hb
     exact⟨ha,by rw[List.length_map];exact hl,vs,_,rv,ha⟩
    ·have z':=(if_neg hb).symm.trans z
     cases z'
   ·by_cases hb:b=a
    ·exact hb
    ·exact absurd (if_neg hb) z
end L2
namespace L2
open PySem PySem.Spec PyProof.Rows
theorem Lo {l:PySem.W.OpenLaw}{n k:Nat}{q:Program}{loose:List Str}{XP:(Str→Option Value)→Heap→Prop}{YP:World→Heap→Prop}{d:DefRec}{K:Params→PySem.W.Frag}{CX:World→CXT}{sp:World→Sp}{x:Str}
  (hn:l.most=some n)(hn2:n≤sizeLine)(hdf:d.params.defaults=[])(hr:Room k callerA)
  (hY:∀(w:World)(h:Heap),YP w h→(K w.params).In h)
  (F:∀(w:World)(mg:Str→Option Value)(fa:Addr)(h:Heap),(K w.params).In h→h.Ns mainGlobals mg→mg d.name=some (.ref fa) →
   ∃ fd:FuncData,(∀(s:Shared)(u:Value),BindsTo s fd ⟨[u],[]⟩ [(x,u)]) ∧
     ∀ base:Heap,(K w.params).In base→base.Ns mainGlobals mg→FnOk l.prog w (K w.params) mg base (CX w) k fa fd [x] (sp w))
  (hsp:∀(w:World)(H:Hp)(a:Addr)(ns:List Int),ns.length≤n→Only H→SqL (K w.params) H a (ns.map V.int)→sp w [.ref a] H (fun v _=>v=.bl true) fun _ _ _=>False)
  (hCX:∀(w:World)(H:Hp)(s:Shared)(e:Value)(s':Shared),CX w [] H s (fun _ _ _=>False) e s'→False) :
  PySem.W.WalkO q loose XP YP l.row.toRowW d [] (fun f vs=>PySem.call f vs):=by
 refine Att.A7 hn hdf fun w s₀ s₁ mg mb fa o pm cd doc a vs ns G Y ho hd hcd hmg hobj hints hlen hg=>?_
 have KX:=hY w _ Y
 obtain⟨fd,hb,hF⟩:=F w mg fa _ KX G.T.g hmg
 exact Fg KX G.T.g G.T.b G.T.builtins G.T.nolimit hg hobj hints (Nat.le_trans hlen hn2) hr hF hb (fun H hO hS=>hsp w H a ns hlen hO hS) fun H e s'=>hCX w H s₁ e s'
theorem Lp {l:PySem.W.OpenLaw}{n k:Nat}{q:Program}{loose:List Str}{XP:(Str→Option Value)→Heap→Prop}{YP:World→Heap→Prop}{d:DefRec}{K:Params→PySem.W.Frag}{CX:CXT}{sp:PySem.W.Frag→Sp}{x:Str}
  (hn:l.most=some n)(hn2:n≤sizeLine)(hdf:d.params.defaults=[])(hr:Room k callerA)
  (hY:∀(w:World)(h:Heap),YP w h→(K w.params).In h)
  (F:∀(w:World)(mg:Str→Option Value)(fa:Addr)(h:Heap),(K w.params).In h→h.Ns mainGlobals mg→mg d.name=some (.ref fa) →
   ∃ fd:FuncData,(∀(s:Shared)(u:Value),BindsTo s fd ⟨[u],[]⟩ [(x,u)]) ∧
     ∀ base:Heap,(K w.params).In base→base.Ns mainGlobals mg→FnOk l.prog w (K w.params) mg base CX k fa fd [x] (sp (K w.params)))
  (hsp:∀(K:PySem.W.Frag)(H:Hp)(a:Addr)(ns:List Int),ns.length≤n→Only H→SqL K H a (ns.map V.int)→sp K [.ref a] H (fun v _=>v=.bl true) fun _ _ _=>False)
  (hCX:∀(H:Hp)(s:Shared)(e:Value)(s':Shared),CX [] H s (fun _ _ _=>False) e s'→False) :
  PySem.W.WalkO q loose XP YP l.row.toRowW d [] (fun f vs=>PySem.call f vs) :=
 Lo (K:=K) (CX:=fun _=>CX) (sp:=fun w=>sp (K w.params)) hn hn2 hdf hr hY F (fun w H a ns h1 h2 h3=>hsp (K w.params) H a ns h1 h2 h3) fun _ H s e s'=>hCX H s e s'
end L2
namespace L2
open PySem PySem.Spec PyProof.Rows
def inClass (s:Stmt) (j:Nat):Stmt:=match s with
 | .ClassDef _ _ _ body _ _ _ _ _ _ _=>body.getD j (.Pass ⟨0,0,0,0⟩)
 | _=>.Pass ⟨0,0,0,0⟩
def bf (s:Stmt):Arguments:=match s with
 | .FunctionDef _ a _ _ _ _ _ _ _ _=>a
 | _=>{posonlyargs:=[],args:=[],vararg:=none,kwonlyargs:=[],kw_defaults:=[],kwarg:=none,defaults:=[]}
def aj (s:Stmt):List Stmt:=match s with
 | .FunctionDef _ _ b _ _ _ _ _ _ _=>b
 | _=>[]
def af (s:Stmt):Scope:=match s with
 | .FunctionDef _ _ _ _ _ _ sc _ _ _=>sc
 | _=>{kind:=.function,names:=[],isGenerator:=false,isCoroutine:=false}
abbrev CX0:CXT:=fun _ _ _ _ _ _=>False
abbrev E0:XK:=fun _ _ _=>False
theorem gk {X:Cx}:Passes CX0 X E0:=fun _ _ _ _ _ _ _ h=>h.elim
structure Fun (K:PySem.W.Frag) (x qual:Str)(st:Stmt)(f:Addr)(fd:FuncData):Prop where
 ex:∃(oc:Value)(od:Option Addr)(kV doc pm:Value)(an:Option Addr)(cdv ct:Value)(osl:Array (Option Value)),
  fd=PySem.W.fnOf x qual (bf st) (aj st) (af st) .none kV doc pm an cdv ct∧K.lookup f=some ⟨oc,od,.func fd,osl⟩∧PySem.W.codeIn K cdv qual=true
 kp:PySem.W.keepIn K (.ref f)=true
section
variable {P:Program}{w:World}{K:PySem.W.Frag}{mg:Str→Option Value}{base:Heap}
theorem Fun.ok {x qual:Str}{st:Stmt}{f:Addr}{fd:FuncData}{N ps:List Str}{k:Nat}{sp:Sp}(F:Fun K x qual st f fd)(S:av N ps (af st)) (len:∀ vs H Q E,sp vs H Q E→vs.length=ps.length)
  (hbody:∀(cdv:Value)(A:Around)(outer:List Env)(s:Shared)(H:Hp)(vs:List V)(Q:VK)(E:XK),Room k (A.deeper (envOfC qual (af st) s.heap.objs.size f cdv))→sp vs H Q E →
   ∃ t,PSs (cxOf CX0 P w K mg base N qual (af st) f cdv A outer s H E).nox (aj st) t∧t {nx:=fun _ H'=>Q .non H',rt:=Q} (start N vs) H):FnOk P w K mg base CX0 (k+1) f fd ps sp:=by
 obtain⟨oc,od,kV,doc,pm,an,cdv,ct,osl,rfl,lk,hcd⟩:=F.ex
 refine wU lk hcd S len fun A outer s H vs Q E hr hsp=>?_
 obtain⟨t,h,q⟩:=hbody cdv A outer s H vs Q E hr hsp
 exact⟨t,h.nox,q⟩
theorem Fun.binds {x qual:Str}{st:Stmt}{f:Addr}{fd:FuncData}{ps:List Str}(F:Fun K x qual st f fd)
  (h:∀(kV doc pm:Value)(an:Option Addr)(cdv ct:Value)(us:List Value),us.length=ps.length→bindArgs (PySem.W.fnOf x qual (bf st) (aj st) (af st) .none kV doc pm an cdv ct) ⟨us,[]⟩=pure (ps.zip us)):Binds K fd ps []:=by
 obtain⟨oc,od,kV,doc,pm,an,cdv,ct,osl,rfl,lk,hcd⟩:=F.ex
 exact .all (h kV doc pm an cdv ct)
theorem kH {x qual:Str}{st:Stmt}{f:Addr}{oc:Value}{od an:Option Addr}{osl:Array (Option Value)}{kV doc pm cdv ct:Value}(l:K.lookup f=some ⟨oc,od,.func (PySem.W.fnOf x qual (bf st) (aj st) (af st) .none kV doc pm an cdv ct),osl⟩)
  (c:PySem.W.codeIn K cdv qual=true)(k:PySem.W.keepIn K (.ref f)=true):Fun K x qual st f (PySem.W.fnOf x qual (bf st) (aj st) (af st) .none kV doc pm an cdv ct):=⟨⟨oc,od,kV,doc,pm,an,cdv,ct,osl,rfl,l,c⟩,k⟩
end
section
variable {X:Cx}
theorem pv (i:Nat){x:Str}{pos:Pos}(hN:X.N[i]?=some x:=by rfl)(hv:Vis X.env.scope x:=by first|exact Or.inl rfl|exact Or.inr (Or.inl rfl)|exact Or.inr (Or.inr rfl)) (hd:(x==("__debug__":Str))=false:=by decide)
  (hcd:(x==("__classdict__":Str))=false:=by decide):PE X (.Name x pos) (tVar i):=bO hN hv hd hcd
end
theorem iteF {A B:Prop}(h:B):if false=true then A else B:=by
 rw[if_neg Bool.false_ne_true]
 exact h
theorem iteT {A B:Prop}(h:A):if true=true then A else B:=by
 rw[if_pos rfl]
 exact h
def Same (H H':Hp):Prop:=∀ b o,H b=some o→H' b=some o
theorem Same.refl (H:Hp):Same H H:=fun _ _ h=>h
theorem Same.trans {H H1 H2:Hp}(a:Same H H1)(b:Same H1 H2):Same H H2:=fun c o h=>b c o (a c o h)
theorem Same.free {H H':Hp}(e:Same H H'){l:Addr}(h:H' l=Option.none):H l=Option.none:=by
 cases q:H l with
 | none=>rfl
 | some o =>
   rw[e l o q] at h
   cases h
theorem Same.seq {K:PySem.W.Frag}{H H':Hp}{a:Addr}{xs:List V}(e:Same H H')(h:SqL K H a xs):SqL K H' a xs:=by
 rcases h with(h|⟨o,h⟩)|h
 ·exact .inl (.inl (e _ _ h))
 ·exact .inl (.inr ⟨o,e _ _ h⟩)
 ·exact .inr h
end L2
namespace L2
open PySem PySem.Spec PyProof.Rows
theorem HOk.track {P:Program}{w:World}{H:Hp}{h:Heap}{a:Addr}{o:HO}(x:HOk P w H h)(hn:H a=none)(new:bE P w (upd H a o) h a o):HOk P w (upd H a o) h:=fun b u e=>by
 by_cases hb:b=a
 ·subst hb;rw[bR] at e;cases e;exact new
 ·rw[ak hb] at e
  exact(x b u e).stay (fun c v _ q=>q) (fun c q=>by rw[ak (aE q hn)];exact q) fun c xs q=>by rw[ak (aE q hn)];exact q
def clGo (env:Env):List (Str×NameKind)→List (Str×Addr)→List (Str×Addr)
 | [],cs=>cs
 | (n,k)::r,cs=>if (k==.free)=true then (match env.cells.lookup n with|some c=>clGo env r ((n,c)::cs)|none=>clGo env r cs) else clGo env r cs
def clOf (scope:Scope)(env:Env):List (Str×Addr):=clGo env scope.names []
theorem BU {env:Env}:∀(l:List (Str×NameKind)) (cs:List (Str×Addr)),(∀ x∈l,x.2=.free→∃ c,env.cells.lookup x.1=some c) →
  (forIn l cs (fun(x:Str×NameKind)(r:List (Str×Addr))=>if (x.2==NameKind.free)=true then (do let c ← cellOf env x.1;pure (ForInStep.yield ((x.1,c)::r)):Sem _) else pure (ForInStep.yield r)):Sem (List (Str×Addr)))=pure (clGo env l cs):=by
 intro l
 induction l with
 | nil=>intro cs _;rfl
 | cons x r ih =>
   intro cs h
   obtain⟨n,k⟩:=x
   rw[List.forIn_cons]
   by_cases hk:(k==NameKind.free)=true
   ·have hk':k=.free:=by simpa using hk
    obtain⟨c,hc⟩:=h (n,k) List.mem_cons_self hk'
    simp only[hk,if_true]
    have e1:cellOf env n=pure c:=by unfold cellOf;rw[hc]
    rw[e1]
    have e2:clGo env ((n,k)::r) cs=clGo env r ((n,c)::cs):=by
     show(if (k==.free)=true then _ else _)=_
     rw[if_pos hk,hc]
    rw[e2]
    exact ih _ fun y hy=>h y (List.mem_cons_of_mem _ hy)
   ·simp only[hk]
    have e2:clGo env ((n,k)::r) cs=clGo env r cs:=by
     show(if (k==.free)=true then _ else _)=_
     rw[if_neg hk]
    rw[e2]
    exact ih _ fun y hy=>h y (List.mem_cons_of_mem _ hy)
theorem BS {scope:Scope}{env:Env}(h:∀ x∈scope.names,x.2=.free→∃ c,env.cells.lookup x.1=some c):closureFor scope env=pure (clOf scope env):=by
 have:=BU (env:=env) scope.names [] h
 unfold closureFor clOf
 show(forIn scope.names [] _ >>= fun cs=>pure cs)=_
 exact Eq.trans (congrArg (fun t=>t >>= fun cs=>pure cs) this) rfl
theorem l9 {env:Env}:∀(l:List (Str×NameKind)) (cs:List (Str×Addr)),(∀ x c,cs.lookup x=some c→env.cells.lookup x=some c)→∀ x c,(clGo env l cs).lookup x=some c→env.cells.lookup x=some c
 | [],_,h=>h
 | (n,k)::r,cs,h=>by
   intro x c e
   unfold clGo at e
   split at e
   ·split at e
    ·rename_i c' hc
     refine l9 r _ (fun y d q=>?_) x c e
     rw[List.lookup_cons] at q
     split at q
     ·rename_i hy
      have:y=n:=by simpa using hy
      subst this;cases q;exact hc
     ·exact h y d q
    ·exact l9 r cs h x c e
   ·exact l9 r cs h x c e
theorem kB {env:Env}:∀(l:List (Str×NameKind)) (cs:List (Str×Addr)) (x:Str)(c:Addr),cs.lookup x=some c→∃ c,(clGo env l cs).lookup x=some c
 | [],_,_,c,h=>⟨c,h⟩
 | (n,k)::r,cs,x,c,h=>by
   unfold clGo
   split
   ·split
    ·rename_i c' hc
     cases hx:x==n with
     | true=>exact kB r _ x c' (by rw[List.lookup_cons,hx])
     | false=>exact kB r _ x c (by rw[List.lookup_cons,hx];exact h)
    ·exact kB r cs x c h
   ·exact kB r cs x c h
theorem ku {env:Env}:∀(l:List (Str×NameKind)) (cs:List (Str×Addr)) (x:Str),(x,NameKind.free)∈l→(∃ c,env.cells.lookup x=some c)→∃ c,(clGo env l cs).lookup x=some c
 | [],_,_,h,_=>nomatch h
 | (n,k)::r,cs,x,h,hc=>by
   obtain⟨c,hc⟩:=hc
   rcases List.mem_cons.mp h with e|h
   ·cases e
    unfold clGo
    rw[if_pos (by rfl),hc]
    exact kB r _ _ c (by rw[List.lookup_cons];simp)
   ·unfold clGo
    split
    ·split
     ·exact ku r _ x h ⟨c,hc⟩
     ·exact ku r _ x h ⟨c,hc⟩
    ·exact ku r _ x h ⟨c,hc⟩
theorem lookup_mem {β:Type}:∀{l:List (Str×β)}{x:Str}{k:β},l.lookup x=some k→(x,k)∈l
 | [],_,_,h=>by simp at h
 | (n,j)::r,x,k,h=>by
   rw[List.lookup_cons] at h
   split at h
   ·rename_i hx
    have:x=n:=by simpa using hx
    subst this;cases h;exact List.mem_cons_self
   ·exact List.mem_cons_of_mem _ (lookup_mem h)
theorem yO {env:Env}:∀{names:List (Str×NameKind)}{x:Str}{k:NameKind},
  (names.map fun(n,k)=>if (k==NameKind.free&&env.scope.kind==.function&&env.kindOf n==some .cell) then (n,NameKind.cell) else (n,k)).lookup x=some k →
  names.lookup x=some k∨(names.lookup x=some .free∧k=.cell)
 | [],_,_,h=>by simp at h
 | (n,j)::r,x,k,h=>by
   have ih:=@yO env r x k
   have h':List.lookup x ((if (j==NameKind.free&&env.scope.kind==.function&&env.kindOf n==some .cell)=true then (n,NameKind.cell) else (n,j))::r.map fun(n,k)=>if (k==NameKind.free&&env.scope.kind==.function&&env.kindOf n==some .cell) then (n,NameKind.cell) else (n,k))=some k:=h
   cases hx:x==n with
   | true =>
     by_cases hc:(j==NameKind.free&&env.scope.kind==.function&&env.kindOf n==some .cell)=true
     ·rw[if_pos hc,List.lookup_cons,hx] at h'
      have hj:j=.free:=by
       simp only[Bool.and_eq_true] at hc
       simpa using hc.1.1
      refine .inr ⟨by rw[List.lookup_cons,hx,hj],?_⟩
      cases h';rfl
     ·rw[if_neg hc,List.lookup_cons,hx] at h'
      exact .inl (by rw[List.lookup_cons,hx];exact h')
   | false =>
     have h2:(r.map fun(n,k)=>if (k==NameKind.free&&env.scope.kind==.function&&env.kindOf n==some .cell) then (n,NameKind.cell) else (n,k)).lookup x=some k:=by
      by_cases hc:(j==NameKind.free&&env.scope.kind==.function&&env.kindOf n==some .cell)=true
      ·rw[if_pos hc,List.lookup_cons,hx] at h';exact h'
      ·rw[if_neg hc,List.lookup_cons,hx] at h';exact h'
     rcases ih h2 with z|z
     ·exact .inl (by rw[List.lookup_cons,hx];exact z)
     ·exact .inr ⟨by rw[List.lookup_cons,hx];exact z.1,z.2⟩
def au (X:Cx)(scope:Scope)(N':List Str)(C:Addr)(s:Shared)(H:Hp)(fp:List Addr):Cx :=
 {X with N:=N',s₀:=s,H₀:=H,env:=compEnvC scope (cellsFrom (C+1) scope.names (clOf scope X.env)) C X.env,outer:=X.stack,ex:=fp,fn:=fun x=>scope.names.lookup x==some .cell,pn:=[],xe:=fun _ _=>False}
theorem kr:∀{names:List (Str×NameKind)}{n:Nat}{acc:List (Str×Addr)}{x:Str}{c:Addr},(x,c)∈cellsFrom n names acc→(x,c)∈acc∨((x,NameKind.cell)∈names∧n≤c)
 | [],_,_,_,_,h=>.inl h
 | (y,k)::r,n,acc,x,c,h=>by
   unfold cellsFrom at h
   split at h
   ·rename_i hk
    have hk':k=.cell:=by simpa using hk
    rcases kr h with z|⟨z,hz⟩
    ·rcases List.mem_cons.mp z with e|z
     ·cases e
      exact .inr ⟨by rw[hk'];exact List.mem_cons_self,Nat.le_refl _⟩
     ·exact .inl z
    ·exact .inr ⟨List.mem_cons_of_mem _ z,Nat.le_of_succ_le hz⟩
   ·rcases kr h with z|⟨z,hz⟩
    ·exact .inl z
    ·exact .inr ⟨List.mem_cons_of_mem _ z,hz⟩
theorem l7:∀{names:List (Str×NameKind)}{n:Nat}{acc:List (Str×Addr)}{x:Str},(x,NameKind.cell)∉names→(cellsFrom n names acc).lookup x=acc.lookup x
 | [],_,_,_,_=>rfl
 | (y,k)::r,n,acc,x,h=>by
   unfold cellsFrom
   split
   ·rename_i hk
    have hk':k=.cell:=by simpa using hk
    rw[l7 fun z=>h (List.mem_cons_of_mem _ z),List.lookup_cons]
    cases hx:x==y with
    | true =>
      have:x=y:=by simpa using hx
      exact absurd (by rw[this,hk'];exact List.mem_cons_self) h
    | false=>rfl
   ·exact l7 fun z=>h (List.mem_cons_of_mem _ z)
theorem pL:∀(names:List (Str×NameKind)) (h:Heap)(acc:List (Str×Addr)) (x:Str)(c:Addr),(x,c)∈cellsFrom h.objs.size names acc→(x,c)∈acc∨(pushCells h names).IsCell c none
 | [],_,_,_,_,h=>.inl h
 | (y,k)::r,hp,acc,x,c,h=>by
   unfold cellsFrom at h
   unfold pushCells
   split at h
   ·rename_i hk
    rw[if_pos hk]
    rw[show hp.objs.size+1=(hp.push {cls:=.type "cell",data:=.cell none}).objs.size from(Heap.size_push ..).symm] at h
    rcases pL r _ _ x c h with z|z
    ·rcases List.mem_cons.mp z with e|z
     ·cases e
      exact .inr ⟨_,pushCells_keeps _ _ _ _ (Heap.get?_push_size _ rfl),rfl⟩
     ·exact .inl z
    ·exact .inr z
   ·rename_i hk
    rw[if_neg hk]
    exact pL r hp acc x c h
theorem mh {env:Env}:∀(l:List (Str×NameKind)) (cs:List (Str×Addr)) (x:Str)(c:Addr),(x,c)∈clGo env l cs→(x,c)∈cs∨env.cells.lookup x=some c
 | [],_,_,_,h=>.inl h
 | (n,k)::r,cs,x,c,h=>by
   unfold clGo at h
   split at h
   ·split at h
    ·rename_i c' hc
     rcases mh r _ x c h with z|z
     ·rcases List.mem_cons.mp z with e|z
      ·cases e;exact .inr hc
      ·exact .inl z
     ·exact .inr z
    ·exact mh r cs x c h
   ·exact mh r cs x c h
theorem iQ {env:Env}{scope:Scope}{x:Str}{c:Addr}(h:(x,c)∈clOf scope env):env.cells.lookup x=some c:=by
 rcases mh scope.names [] x c h with z|z
 ·exact nomatch z
 ·exact z
theorem l8:∀{names:List (Str×NameKind)}{n:Nat}{acc:List (Str×Addr)}{x:Str}{c:Addr},acc.lookup x=some c→∃ c,(cellsFrom n names acc).lookup x=some c
 | [],_,_,_,c,h=>⟨c,h⟩
 | (y,k)::r,n,acc,x,c,h=>by
   unfold cellsFrom
   split
   ·cases hx:x==y with
    | true=>exact l8 (c:=n) (by rw[List.lookup_cons,hx])
    | false=>exact l8 (c:=c) (by rw[List.lookup_cons,hx];exact h)
   ·exact l8 h
theorem pK:∀{names:List (Str×NameKind)}{n:Nat}{acc:List (Str×Addr)}{x:Str},(x,NameKind.cell)∈names→∃ c,(cellsFrom n names acc).lookup x=some c
 | [],_,_,_,h=>nomatch h
 | (y,k)::r,n,acc,x,h=>by
   unfold cellsFrom
   rcases List.mem_cons.mp h with e|h
   ·cases e
    rw[if_pos (by rfl)]
    exact l8 (c:=n) (by rw[List.lookup_cons];simp)
   ·split
    ·exact pK h
    ·exact pK h
theorem pJ:∀{names:List (Str×NameKind)}{n:Nat}{acc:List (Str×Addr)},(∀ x c,(x,c)∈acc→c<n)→(∀ x y c,(x,c)∈acc→(y,c)∈acc→x=y)→∀ x y c,(x,c)∈cellsFrom n names acc→(y,c)∈cellsFrom n names acc→x=y
 | [],_,_,_,hi=>hi
 | (y,k)::r,n,acc,hl,hi=>by
   unfold cellsFrom
   split
   ·refine pJ (fun x c h=>?_) fun a b c h1 h2=>?_
    ·rcases List.mem_cons.mp h with e|h
     ·cases e;exact Nat.lt_succ_self _
     ·exact Nat.lt_succ_of_lt (hl x c h)
    ·rcases List.mem_cons.mp h1 with e|h1
     ·cases e
      rcases List.mem_cons.mp h2 with e|h2
      ·cases e;rfl
      ·exact absurd (hl b n h2) (Nat.lt_irrefl _)
     ·rcases List.mem_cons.mp h2 with e|h2
      ·cases e;exact absurd (hl a n h1) (Nat.lt_irrefl _)
      ·exact hi a b c h1 h2
   ·exact pJ hl hi
theorem Lx {M:Model}{A:Around}{E:Value→Shared→Prop}{s:Shared}{scope:Scope}{globals:Addr}{closure:List (Str×Addr)}{qual:Str}{func:Option Addr}{code:Value}{env:Env}{Q:Env→Shared→Prop}
  (hQ:∀ h',h'.Ns s.heap.objs.size (fun _=>none)→(∀ b o,s.heap.get? b=some o→h'.get? b=some o)→(∀ x c,(x,c)∈cellsFrom (s.heap.objs.size+1) scope.names closure→(x,c)∈closure∨h'.IsCell c none) →
   Q (newEnv scope s.heap.objs.size globals (cellsFrom (s.heap.objs.size+1) scope.names closure) qual func code (some env) builtinsNs) {s with heap:=h'}) :
  wpAny M A (newFunctionEnv scope globals closure [] qual func code (some env)) Q E s:=by
 simp only[newFunctionEnv,Option.isSome_some,if_true]
 refine wpAny_bind (wpAny_alloc ?_)
 refine wpAny_bind (wpAny_layCells _ (fun name kind cells=>by cases hkc:kind==NameKind.cell<;>simp [hkc]) _ _ _ _ ?_)
 rw[List.forIn_nil]
 refine wpAny_bind (wpAny_pure (wpAny_pure ?_))
 have e:({s with heap:=s.heap.push {cls:=.type "dict",data:=.dict #[]}}:Shared).heap.objs.size=s.heap.objs.size+1:=Heap.size_push ..
 rw[e]
 refine hQ _ ((Heap.Ns.new s.heap (.type "dict")).keeps (pushCells_keeps _ _)) (fun b o z=>pushCells_keeps _ _ b o (Heap.get?_push_of_some _ z)) fun x c z=>?_
 rw[show s.heap.objs.size+1=(s.heap.push {cls:=.type "dict",data:=.dict #[]}).objs.size from e.symm] at z
 exact pL _ _ _ x c z
def bZ (ix:List (Option Nat)) (σ:St):St:=ix.map fun o=>o.bind fun i=>(σ[i]?).join
structure IxOk (N:List Str)(sc scope:Scope)(N':List Str)(ix:List (Option Nat)):Prop where
 len:ix.length=N'.length
 at':∀(j i:Nat) (x:Str),ix[j]?=some (some i)→N'[j]?=some x→N[i]?=some x∧Vis sc x
def PIfs (X:Cx)(ifs:List Expr)(t:TT):Prop :=
 ∀(pins:List (Addr×Obj)) (s:Shared)(σ:St)(H:Hp)(Q:Bool→Hp→Prop),Inv X pins σ H s→t σ H Q →
  wpAny (model X.prog X.w) X.A (forIn ifs true fun c r=>if r=true then do let ok ← isTrue c X.env (eval c X.env);pure (ForInStep.yield ok) else pure (ForInStep.yield r)) (TP X pins σ Q) X.xe s
def tYes:TT:=fun _ H Q=>Q true H
theorem HA {X:Cx}:PIfs X [] tYes:=fun _ _ _ H _ I h=>wpAny_tests_nil ⟨H,I,h⟩
theorem HB {X:Cx}{c:Expr}{t:TT}(h:PT X c t):PIfs X [c] t:=fun pins s σ H Q I hw=>wpAny_tests_one (h pins s σ H Q I hw)
theorem BX {prog:Program}{w:World}{A:Around}{s:Shared}{elt target iter:Expr}{ifs:List Expr}{scope:Scope}{pos:Pos}{it acc:Value}{env:Env}{R:Result→Shared→Prop}(I:Nat→Shared→Prop)
  (turn:∀ n s,I n s→wpAny (model prog w) A (pyNext it) (fun r s₁=>match r with
   | none=>R (.ok .next) s₁
   | some v=>wpAny (model prog w) A (letOwnedTupleGo target it v) (fun _ s₁'=>wpAny (model prog w) A (assign target env v) (fun _ s₂ =>
     wpAny (model prog w) A (forIn ifs true fun c r=>if r=true then do let ok ← isTrue c env (eval c env);pure (ForInStep.yield ok) else pure (ForInStep.yield r)) (fun ok s₃ =>
      if ok=true then wpAny (model prog w) A (eval elt env) (fun x s₄ =>
       wpAny (model prog w) A (call (.builtin "list.append") [acc,x]) (fun _ s₅=>∃ m,m<n∧I m s₅) (fun _ _=>False) s₄) (fun _ _=>False) s₃
      else ∃ m,m<n∧I m s₃) (fun _ _=>False) s₂) (fun _ _=>False) s₁') (fun _ _=>False) s₁) (fun _ _=>False) s)
  (n:Nat)(h:I n s) :
  codeAny (model prog w) A (.compLoop (.ListComp elt [⟨target,iter,ifs,0⟩] scope pos) 0 it acc env) R s:=by
 refine codeAny_loop rfl I (fun n s hI=>?_) n h
 show wpAny _ A ((compTurn (.ListComp elt [⟨target,iter,ifs,0⟩] scope pos) 0 it acc env).onRaise (fun x=>do noteFrame x env;theTreesLotGoes x)) _ _ s
 refine wpAny_noted ?_
 rw[compTurn_list]
 refine wpAny_bind (wpAny_standAt (wpAny_bind (wpAny_mono (turn n s hI) (fun r s₁ h₁=>?_) fun _ _ h'=>h'.elim)))
 cases r with
 | none=>exact wpAny_pure h₁
 | some v =>
   refine wpAny_bind (wpAny_mono h₁ (fun _ s₁' h₁'=>?_) fun _ _ h'=>h'.elim)
   refine wpAny_bind (wpAny_mono h₁' (fun _ s₂ h₂=>wpAny_bind (wpAny_mono h₂ (fun ok s₃ h₃=>?_) fun _ _ h'=>h'.elim)) fun _ _ h'=>h'.elim)
   cases ok with
   | false=>exact wpAny_pure ⟨rfl,h₃⟩
   | true =>
     exact wpAny_bind (wpAny_bind (wpAny_mono h₃ (fun x s₄ h₄=>wpAny_bind (wpAny_mono h₄ (fun _ s₅ h₅=>wpAny_pure (wpAny_pure ⟨rfl,h₅⟩)) fun _ _ h'=>h'.elim)) fun _ _ h'=>h'.elim))
def kY (ix:List (Option Nat)) (wi:TI)(g:TG)(tc:TT)(te:TE):TE:=fun σ H Q=>wi σ H fun J H1=>∃ W:Nat→Nat→List V→Hp→Prop,(∃ m,W 0 m [] H1)∧∀ i m ys H,W i m ys H →
 (J.stop i H∧ys.length≤sizeLine∧∀ p,H p=none→Q (.ref p) (upd H p (.lst ys))) ∨
 (J.go i H∧ys.length<sizeLine∧∀ x H',J.yld i H x H'→g x (bZ ix σ) H' fun σ2 H2=>(∀(i:Nat)(v:V),(bZ ix σ)[i]?=some (some v)→σ2[i]?=some (some v))∧tc σ2 H2 fun c H3 =>
  if c=true then te σ2 H3 fun y H4=>∃ m',m'<m∧W (i+1) m' (ys++[y]) H4 else ∃ m',m'<m∧W (i+1) m' ys H3)
section
variable {X:Cx}{elt iter tg:Expr}{ifs:List Expr}{scope:Scope}{pos:Pos}{N':List Str}{ix:List (Option Nat)}{wi:TI}{g:TG}{tc:TT}{te:TE}
theorem J6 (ix:List (Option Nat)) (σ:St):(bZ ix σ).length=ix.length:=by unfold bZ;rw[List.length_map]
theorem BG {pins:List (Addr×Obj)}{σ:St}{H:Hp}{s:Shared}{fp:List Addr}{h₁:Heap}{t':Nat}(I:Inv X pins σ H s)(hkind:scope.kind=.function)(hcell:∀ y∈scope.names,y.2=.cell→scope.names.lookup y.1=some .cell)
  (hdis:∀ x,(x,NameKind.cell)∈scope.names→(x,NameKind.free)∉scope.names) (hfr:∀ x∈scope.names,x.2=.free→X.env.kindOf x.1=some .cell∨X.env.kindOf x.1=some .free)(hix:IxOk X.N X.env.scope scope N' ix)(hfree:∀(j i:Nat) (x:Str),ix[j]?=some (some i)→N'[j]?=some x→scope.names.lookup x=some .free)
  (hf:∀ b∈fp,FpOk X pins H b)(hfs:∀ b∈fp,b<s.heap.objs.size)
  (kp:∀ b o,s.heap.get? b=some o→h₁.get? b=some o){C:Addr}(hC:s.heap.objs.size≤C)(hns:h₁.Ns C fun _=>none)
  (hnew:∀ x c,(x,c)∈cellsFrom (C+1) scope.names (clOf scope X.env)→(x,c)∈clOf scope X.env∨h₁.IsCell c none) :
  Inv (au X scope N' C s H fp) [] (bZ ix σ) H {s with heap:=h₁,toks:=t'}:=by
 have has:∀ x,(X.env.kindOf x=some .cell∨X.env.kindOf x=some .free)→∃ c,X.env.cells.lookup x=some c:=I.ok.has
 have E8:(au X scope N' C s H fp).env.scope.kind=.function:=by show(relabel scope X.env).kind=_;exact hkind
 have look:∀ x k,(au X scope N' C s H fp).env.kindOf x=some k→scope.names.lookup x=some k∨(scope.names.lookup x=some .free∧k=.cell):=fun x k e=>yO e
 have EC:∀ x,((au X scope N' C s H fp).env.kindOf x=some .cell∨(au X scope N' C s H fp).env.kindOf x=some .free)→scope.names.lookup x=some .free∨scope.names.lookup x=some .cell:=fun x e=>by
  rcases e with e|e
  ·rcases look x _ e with z|z
   ·exact .inr z
   ·exact .inl z.1
  ·rcases look x _ e with z|z
   ·exact .inl z
   ·exact .inl z.1
 have kJ:∀ x,scope.names.lookup x=some .free→(x,NameKind.cell)∉scope.names:=fun x e z=>by
  have:=hcell _ z rfl
  rw[e] at this;cases this
 have clt:∀ x c,X.env.cells.lookup x=some c→c<s.heap.objs.size:=fun x c e=>by
  obtain⟨v,o,ho,hd⟩:=I.cell x c e
  exact Heap.lt_size ho
 have two:∀ x c,(cellsFrom (C+1) scope.names (clOf scope X.env)).lookup x=some c→X.env.cells.lookup x=some c∨((x,NameKind.cell)∈scope.names∧C+1≤c):=fun x c e=>by
  rcases kr (mem_of_lookup e) with z|z
  ·exact .inl (iQ z)
  ·exact .inr z
 refine⟨⟨I.ok.mod,E8,I.ok.glob,I.ok.blt,hC,?_,?_,?_,I.ok.hd,I.ok.frames,.inl rfl,?_,?_,?_,?_,?_,?_,?_⟩,rfl,I.bare,?_,?_,?_,?_,?_,?_,?_,?_⟩
 ·intro x y c e1 e2
  refine pJ (names:=scope.names) (n:=C+1) (acc:=clOf scope X.env) (fun x c h=>?_) (fun x y c h1 h2=>I.ok.inj x y c (iQ h1) (iQ h2)) x y c (mem_of_lookup e1) (mem_of_lookup e2)
  exact Nat.lt_succ_of_lt (Nat.lt_of_lt_of_le (clt x c (iQ h)) hC)
 ·intro x e
  rcases EC x e with z|z
  ·show ∃ c,(cellsFrom (C+1) scope.names (clOf scope X.env)).lookup x=some c
   rw[l7 (kJ x z)]
   exact ku scope.names [] x (lookup_mem z) (has x (hfr _ (lookup_mem z) rfl))
  ·exact pK (lookup_mem z)
 ·intro x c e1 e2
  have e1':scope.names.lookup x=some .cell:=by simpa [au] using e1
  rcases two x c e2 with z|z
  ·-- an own cell hides an elder one: its name is not free here
   rcases kr (mem_of_lookup e2) with w|w
   ·exfalso
    have:(x,NameKind.free)∈scope.names:=by
     have key:∀(l:List (Str×NameKind)) (cs:List (Str×Addr)),(∀ p∈cs,(p.1,NameKind.free)∈scope.names)→(∀ p∈l,p∈scope.names)→∀ p∈clGo X.env l cs,(p.1,NameKind.free)∈scope.names:=by
      intro l
      induction l with
      | nil=>intro cs h1 _;exact h1
      | cons q r ih =>
        intro cs h1 h2
        obtain⟨n,k⟩:=q
        unfold clGo
        split
        ·rename_i hk
         split
         ·refine ih _ (fun p hp=>?_) fun p hp=>h2 p (List.mem_cons_of_mem _ hp)
          rcases List.mem_cons.mp hp with e|hp
          ·have hk':k=.free:=by simpa using hk
           subst e hk'
           exact h2 _ List.mem_cons_self
          ·exact h1 p hp
         ·exact ih _ h1 fun p hp=>h2 p (List.mem_cons_of_mem _ hp)
        ·exact ih _ h1 fun p hp=>h2 p (List.mem_cons_of_mem _ hp)
     exact key scope.names [] (fun p hp=>nomatch hp) (fun p hp=>hp) (x,c) w
    exact hdis x (lookup_mem e1') this
   ·exact Nat.le_trans hC (Nat.le_of_succ_le w.2)
  ·exact Nat.le_trans hC (Nat.le_of_succ_le z.2)
 ·intro b hb
  refine⟨?_,fun x c e=>?_⟩
  ·exact Nat.ne_of_lt (Nat.lt_of_lt_of_le (hfs b hb) hC)
  ·rcases two x c e with z|z
   ·exact(hf b hb).2.2.2.2.1 x c z
   ·exact Nat.ne_of_gt (Nat.lt_of_lt_of_le (Nat.lt_of_lt_of_le (hfs b hb) hC) (Nat.le_of_succ_le z.2))
 ·exact fun b o e=>I.bs b o e
 ·exact Nat.le_trans I.ok.bsz I.sz
 ·intro b o e hb
  rcases(hf b hb).2.2.2.1 with z|z
  ·exact I.ok.noex b o e z
  ·exact absurd (Nat.lt_of_lt_of_le (Heap.lt_size e) I.ok.bsz) (Nat.not_lt.mpr z)
 ·intro b hb z
  rcases List.mem_cons.mp (I.tY b z) with e|e
  ·exact(hf b hb).2.1 e
  ·exact(hf b hb).2.2.1 e
 ·exact I.stack
 ·exact fun b hb=>I.nJ b hb
 ·exact Un.kept kp
 ·refine⟨_,hns,fun j x v e1 e2 e3=>?_⟩
  have e2':(ix.map fun o=>o.bind fun i=>(σ[i]?).join)[j]?=some (some v):=e2
  rw[List.getElem?_map] at e2'
  cases hj:ix[j]? with
  | none=>rw[hj] at e2';cases e2'
  | some oi =>
    rw[hj] at e2'
    cases oi with
    | none=>cases e2'
    | some i =>
      have e4:(σ[i]?).join=some v:=Option.some.inj e2'
      have e5:σ[i]?=some (some v):=by
       cases q:σ[i]? with
       | none=>rw[q] at e4;cases e4
       | some z=>rw[q] at e4;exact congrArg some e4
      obtain⟨hN,hv⟩:=hix.at' j i x hj e1
      obtain⟨m,_,hl⟩:=I.loc
      obtain⟨u,r,l⟩:=hl i x v hN e5 hv
      refine⟨u,r,.inr ⟨?_,?_⟩⟩
      ·rcases e3 with z|z|z
       ·have:=look x _ z
        rw[hfree j i x hj e1] at this
        rcases this with w|w
        ·cases w
        ·cases w.2
       ·exact .inl z
       ·exact .inr z
      ·have hkk:=hfr _ (lookup_mem (hfree j i x hj e1)) rfl
       obtain⟨c,hc⟩:=ku (env:=X.env) scope.names [] x (lookup_mem (hfree j i x hj e1)) (has x hkk)
       refine⟨c,(l7 (kJ x (hfree j i x hj e1))).trans hc,?_⟩
       rcases l with⟨k1,_⟩|⟨_,c',hc',o,ho,hd⟩
       ·rw[k1] at hkk;rcases hkk with z|z<;>cases z
       ·have:c'=c:=Option.some.inj (hc'.symm.trans (l9 scope.names [] (fun x c e=>by simp at e) x c hc))
        subst this
        exact⟨o,kp _ o ho,hd⟩
 ·intro x c e
  rcases hnew x c (mem_of_lookup e) with z|z
  ·obtain⟨v,o,ho,hd⟩:=I.cell x c (iQ z)
   exact⟨v,o,kp c o ho,hd⟩
  ·exact⟨_,z⟩
 ·exact I.hok.fresh hC
 ·intro x c e
  rcases two x c e with z|z
  ·exact I.bK x c z
  ·exact I.hok.fresh (Nat.le_trans hC (Nat.le_of_succ_le z.2))
 ·intro p hp;exact absurd hp (by simp [au])
 ·exact I.hok.kept kp
 ·exact(J6 ix σ).trans hix.len
theorem wj (hc:X.calm=true)(hkind:scope.kind=.function)(hcell:∀ y∈scope.names,y.2=.cell→scope.names.lookup y.1=some .cell)(hdis:∀ x,(x,NameKind.cell)∈scope.names→(x,NameKind.free)∉scope.names) (hnames:∀ y∈scope.names,y.2=.local→scope.names.lookup y.1=some .local)
  (hfr:∀ x∈scope.names,x.2=.free→X.env.kindOf x.1=some .cell∨X.env.kindOf x.1=some .free)(hix:IxOk X.N X.env.scope scope N' ix)(hfree:∀(j i:Nat) (x:Str),ix[j]?=some (some i)→N'[j]?=some x→scope.names.lookup x=some .free)
  (hi:PI X tg iter wi)(hg:∀ C s H fp,PG (au X scope N' C s H fp) tg g) (ht:∀ C s H fp,PIfs (au X scope N' C s H fp) ifs tc) (he:∀ C s H fp,PE (au X scope N' C s H fp) elt te)
  (hs:∀ x,foldedSetIterable iter X.env x=pure x:=by intro _;rfl)
  {pins:List (Addr×Obj)}{s:Shared}{σ:St}{H:Hp}{Q:VK}(I:Inv X pins σ H s)(h:kY ix wi g tc te σ H Q){use:Option (Value→Sem Unit)}{Q0:Value→Shared→Prop}
  (fin:∀(D C:Addr)(s4:Shared) m4 H' f,s4.heap.Ns C m4→(∀ h',Heap.SameBut C s4.heap h'→Inv X pins σ H' {s4 with heap:=h'})→FpOk X pins H' C→Q (.ref D) H'→compPost (model X.prog X.w) X.A X.xe use Q0 (.ref D) C (.ok f) s4) :
  wpAny (model X.prog X.w) X.A (comprehension (.ListComp elt [⟨tg,iter,ifs,0⟩] scope pos) scope X.env (firstIterPos [⟨tg,iter,ifs,0⟩] pos) (newList []) (firstAsync [⟨tg,iter,ifs,0⟩]) (firstIter [⟨tg,iter,ifs,0⟩] X.env) use) Q0 X.xe s:=by
 refine wpAny_comprehension_free (use:=use) rfl hs (BS fun x hx hf=>I.ok.has x.1 (hfr x hx hf)) hkind hnames (thn (hi pins s σ H _ I h) fun v s1 h1=>thn h1 fun itv s2 h2=>?_)
 obtain⟨it,fp,tn,J,H2,e,I2,T,st2,f2,W,⟨m0,w0⟩,turn⟩:=h2
 subst e
 have hfs:∀ b∈fp,b<s2.heap.objs.size:=fun b hb=>let ⟨o,e,_⟩:=T.obj _ _ st2 b hb;Heap.lt_size e
 refine wpAny_newObj_type (Lx fun h₁ hns₁ hsb₁ qT=>?_)
 dsimp only at hns₁ hsb₁ qT ⊢
 generalize hH2:s2.heap.push {cls:=.type "list",dict:=none,data:=.seq ([]:List Value).toArray}=K2 at hns₁ hsb₁ qT ⊢
 have hCs:K2.objs.size=s2.heap.objs.size+1:=by rw[← hH2,Heap.size_push]
 have hDC:s2.heap.objs.size≠K2.objs.size:=by rw[hCs];exact Nat.ne_of_lt (Nat.lt_succ_self _)
 have hCle:s2.heap.objs.size≤K2.objs.size:=by rw[hCs];exact Nat.le_succ _
 have below:∀ b,b<s2.heap.objs.size→b≠K2.objs.size:=fun b hb=>by rw[hCs];exact Nat.ne_of_lt (Nat.lt_succ_of_lt hb)
 have kp:∀ b o,s2.heap.get? b=some o→h₁.get? b=some o:=fun b o e=>hsb₁ b o (hH2▸Heap.get?_push_of_some _ e)
 have hacc:h₁.PlainList s2.heap.objs.size ([]:List Value).toArray:=⟨_,hsb₁ _ _ (hH2▸Heap.get?_push_size _ rfl)⟩
 have hns:h₁.Ns K2.objs.size fun _=>none:=hns₁
 have X':=au X scope N' K2.objs.size s2 H2 fp
 have I3:Inv (au X scope N' K2.objs.size s2 H2 fp) [] (bZ ix σ) H2 {s2 with heap:=h₁,toks:=s2.toks}:=BG I2 hkind hcell hdis hfr hix hfree f2 hfs kp hCle hns qT
 have AQ:s2.heap.objs.size∉frs X.stack:=fun z=>by
  obtain⟨_,o,ho,_⟩:=I2.stack.mem z
  exact absurd (Heap.lt_size ho) (Nat.lt_irrefl _)
 have stat:∀{H':Hp}{o:Obj},(∀ b∈fp,H' b=none)→∀ b∈fp,FpOk (au X scope N' K2.objs.size s2 H2 fp) [(s2.heap.objs.size,o)] H' b:=fun{H' o} hn b hb=>by
  refine⟨hn b hb,below b (hfs b hb),fun z=>?_,.inl hb,fun x c e=>?_,fun p hp=>?_⟩
  ·exact I3.ok.exfs b hb z
  ·exact(I3.ok.exf b hb).2 x c e
  ·have:p=(s2.heap.objs.size,o):=by simpa [au] using hp
   subst this
   exact Nat.ne_of_gt (hfs b hb)
 have loop:∀ s₃:Shared,s₃={s2 with heap:=h₁,toks:=s2.toks} →
   codeAny (model X.prog X.w) X.A (.compLoop (.ListComp elt [⟨tg,iter,ifs,0⟩] scope pos) 0 (.ref it) (.ref s2.heap.objs.size) (compEnvC scope (cellsFrom (K2.objs.size+1) scope.names (clOf scope X.env)) K2.objs.size X.env))
    (compPost (model X.prog X.w) X.A X.xe use Q0 (.ref s2.heap.objs.size) K2.objs.size) s₃:=by
  rintro s₃ rfl
  refine BX (fun n s'=>∃ i ys its Hc,Inv (au X scope N' K2.objs.size s2 H2 fp) [] (bZ ix σ) Hc s'∧tn i s'.heap∧(∀ b∈fp,Hc b=none)∧Hc s2.heap.objs.size=none∧s'.heap.PlainList s2.heap.objs.size (its:List Value).toArray∧Vals ys its∧W i n ys Hc) ?_ m0
   ⟨0,[],[],H2,I3,T.keep _ _ _ st2 fun b _ o e=>kp b o e,fun b hb=>(f2 b hb).1,I2.hok.fresh (Nat.le_refl _),hacc,.nil,w0⟩
  rintro n s3 ⟨i,ys,its,H3,J3,st3,fr3,fa3,⟨nn,pl3⟩,rv3,w3⟩
  have P3:Inv (au X scope N' K2.objs.size s2 H2 fp) [(s2.heap.objs.size,{cls:=.type "list",data:=.seq its.toArray nn})] (bZ ix σ) H3 s3:=J3.kN fun p hp=>by
   have:p=(s2.heap.objs.size,{cls:=.type "list",data:=.seq its.toArray nn}):=by simpa using hp
   subst this
   exact⟨pl3,fa3,hDC,AQ,fun v z=>by cases z⟩
  rcases turn i n ys H3 w3 with⟨stop,hlen,qn⟩|⟨go,hlen,step⟩
  ·refine thn (T.done (au X scope N' K2.objs.size s2 H2 fp) rfl rfl rfl hc i _ s3 (bZ ix σ) H3 _ P3 (stat fr3) st3 stop) fun r s4 ⟨hr,I4⟩=>?_
   subst hr
   have a4:=(I4.pin (s2.heap.objs.size,_) (List.mem_append_right _ (List.mem_singleton.mpr rfl))).1
   obtain⟨m4,hn4,_⟩:=I4.loc
   have inv4:∀ h',Heap.SameBut K2.objs.size s4.heap h'→Inv X pins σ (upd H3 s2.heap.objs.size (.lst ys)) {s4 with heap:=h'}:=fun h' hsb=>by
    have old:∀ b o,b≠K2.objs.size→s4.heap.get? b=some o→h'.get? b=some o:=fun b o hb e=>(hsb.2 b hb).trans e
    have new:bE X.prog X.w (upd H3 s2.heap.objs.size (.lst ys)) h' s2.heap.objs.size (.lst ys):=⟨hlen,its,nn,rv3,old _ _ hDC a4⟩
    have hokH:HOk X.prog X.w H3 h':=fun b u e=>by
     refine(I4.hok b u e).stay (fun c v hcc q=>old c v ?_ q) (fun _ q=>q) fun _ _ q=>q
     have f4:H3 K2.objs.size=none:=I4.free
     intro z
     rcases hcc with w|w
     ·rw[← w,z,f4] at e;cases e
     ·rw[z,f4] at w;cases w
    have un:Un (frs X.stack) fp H2 (upd H3 s2.heap.objs.size (.lst ys)) s2.heap h':=by
     have B:=I4.base
     refine⟨fun b o e n hb hx=>old b o (below b (Heap.lt_size e)) (B.keep b o e n hb hx),fun b o e n hb hx=>?_,fun b o e n hx=>?_,fun b o e hx=>?_,fun b xs e=>?_,fun b o u e=>?_,fun b ps e=>?_⟩
     ·obtain⟨sl,z⟩:=B.slot b o e n hb hx
      exact⟨sl,old b _ (below b (Heap.lt_size e)) z⟩
     ·rw[ak (Nat.ne_of_lt (Heap.lt_size e))];exact B.free b o e n hx
     ·obtain⟨o',z⟩:=B.there b o e hx
      exact⟨o',old b _ (below b (Heap.lt_size e)) z⟩
     ·rw[ak (aE e (I2.hok.fresh (Nat.le_refl _)))];exact B.tups b xs e
     ·rw[ak (aE e (I2.hok.fresh (Nat.le_refl _)))];exact B.frzs b o u e
     ·rw[ak (aE e (I2.hok.fresh (Nat.le_refl _)))];exact B.tbls b ps e
    exact I2.call' (s':={s4 with heap:=h'}) (ch:=fp) I4.os un (hokH.track fa3 new) I4.bare fun b hb=>⟨(f2 b hb).2.2.2.1,(f2 b hb).2.1,(f2 b hb).2.2.2.2.1,(f2 b hb).2.2.2.2.2⟩
   have fpC:FpOk X pins (upd H3 s2.heap.objs.size (.lst ys)) K2.objs.size:=I2.fpOk hCle (by rw[ak (Ne.symm hDC)];exact I4.free)
   exact fin _ _ _ _ _ _ hn4 inv4 fpC (qn _ fa3)
  ·refine thn (T.item (au X scope N' K2.objs.size s2 H2 fp) rfl rfl rfl hc i _ s3 (bZ ix σ) H3 _ P3 (stat fr3) st3 go) fun r s4 ⟨u,hr,h4⟩=>?_
   subst hr
   refine thn h4 fun _ s5 ⟨x,H5,I5,r5,y5,st5,fr5⟩=>?_
   have I5':=I5.pinned (stat fr5) (T.obj _ _ st5)
   refine thn (hg _ _ _ _ _ s5 _ H5 x u _ I5' r5 (step x H5 y5)) fun _ s6 ⟨σ6,H6,I6,wk,q6⟩=>?_
   refine thn (ht _ _ _ _ _ s6 σ6 H6 _ I6 q6) fun ok s7 ⟨H7,I7,q7⟩=>?_
   have pinA:∀{s8:Shared}{H8:Hp},Inv (au X scope N' K2.objs.size s2 H2 fp) ([(s2.heap.objs.size,{cls:=.type "list",data:=.seq its.toArray nn})]++dF fp s5.heap) σ6 H8 s8→s8.heap.get? s2.heap.objs.size=some {cls:=.type "list",data:=.seq its.toArray nn}∧H8 s2.heap.objs.size=none:=fun{s8 H8} I8=>by
    have z:=I8.pin (s2.heap.objs.size,_) (List.mem_append_right _ (List.mem_append_left _ (List.mem_singleton.mpr rfl)))
    exact⟨z.1,z.2.1⟩
   have again:∀{s8:Shared}{H8:Hp}{ys8:List V}{its8:List Value}{m':Nat},Inv (au X scope N' K2.objs.size s2 H2 fp) (dF fp s5.heap) σ6 H8 s8→H8 s2.heap.objs.size=none→s8.heap.PlainList s2.heap.objs.size its8.toArray→Vals ys8 its8→m'<n→W (i+1) m' ys8 H8 →
     ∃ m,m<n∧∃ i ys its Hc,Inv (au X scope N' K2.objs.size s2 H2 fp) [] (bZ ix σ) Hc s8∧tn i s8.heap∧(∀ b∈fp,Hc b=none)∧Hc s2.heap.objs.size=none∧s8.heap.PlainList s2.heap.objs.size (its:List Value).toArray∧Vals ys its∧W i m ys Hc:=fun{s8 H8 ys8 its8 m'} I8 fa8 pl8 rv8 hm w8=>by
    refine⟨m',hm,i+1,ys8,its8,H8,?_,T.keep _ _ _ st5 fun b hb o e=>(I8.pin (b,o) (List.mem_append_right _ (i9 hb e))).1,fun b hb=>?_,fa8,pl8,rv8,w8⟩
    ·exact(I8.weak (by rw[I8.len];exact I3.len) wk).kN fun p hp=>nomatch hp
    ·obtain⟨o,e,d⟩:=T.obj _ _ st5 b hb
     exact(I8.pin (b,o) (List.mem_append_right _ (i9 hb e))).2.1
   have wG:∀{s8:Shared}{H8:Hp}{P:List (Addr×Obj)},Inv (au X scope N' K2.objs.size s2 H2 fp) (P++dF fp s5.heap) σ6 H8 s8→Inv (au X scope N' K2.objs.size s2 H2 fp) (dF fp s5.heap) σ6 H8 s8:=fun{s8 H8 P} I8 =>
    I8.kN fun p hp=>I8.pin p (List.mem_append_right _ (List.mem_append_right _ hp))
   cases ok with
   | false =>
     have q7':∃ m',m'<n∧W (i+1) m' ys H7:=q7
     obtain⟨m',hm,w7⟩:=q7'
     obtain⟨a7,fa7⟩:=pinA I7
     exact again (wG I7) fa7 ⟨nn,a7⟩ rv3 hm w7
   | true =>
     refine thn (he _ _ _ _ _ s7 σ6 H7 _ I7 q7) fun u8 s8 ⟨y8,H8,I8,r8,m',hm,w8⟩=>?_
     obtain⟨a8,fa8⟩:=pinA I8
     have hz:its.toArray.size≤sizeLine:=by rw[List.size_toArray,← rv3.length];exact Nat.le_of_lt hlen
     refine wpAny_list_append_plain ⟨nn,a8⟩ (fun h' pl' hsb=>?_) hz
     have I9:Inv (au X scope N' K2.objs.size s2 H2 fp) (dF fp s5.heap) σ6 H8 {s8 with heap:=h'}:=by
      refine(wG I8).turned (t':=s8.toks) (it:=s2.heap.objs.size) (fun b o hb e=>(hsb.2 b hb).trans e) fa8 hDC (.inr (Nat.le_refl _)) (fun x c e z=>?_) fun p hp z=>?_
      ·rcases kr (mem_of_lookup e) with w|w
       ·obtain⟨v,o,ho,_⟩:=I2.cell x c (iQ w)
        exact absurd (Heap.lt_size ho) (by rw[z];exact Nat.lt_irrefl _)
       ·have:=w.2
        rw[z,hCs] at this
        omega
      ·have hp':p∈dF fp s5.heap:=by simpa [au] using hp
       have:=hfs p.1 (yi hp').1
       rw[z] at this
       exact Nat.lt_irrefl _ this
     have pl'':h'.PlainList s2.heap.objs.size (its++[u8]).toArray:=by
      have e:its.toArray.push u8=(its++[u8]).toArray:=by simp
      rw[← e];exact pl'
     exact again I9 fa8 pl'' (rv3.append (.cons r8 .nil)) hm w8
 exact codeAny_compStart_list (loop _ rfl) (T.self _ 0 _ _ _ (T.keep _ _ _ st2 fun b _ o e=>kp b o e) (loop _ rfl))
theorem G7 (hc:X.calm=true)(hkind:scope.kind=.function)(hcell:∀ y∈scope.names,y.2=.cell→scope.names.lookup y.1=some .cell)(hdis:∀ x,(x,NameKind.cell)∈scope.names→(x,NameKind.free)∉scope.names) (hnames:∀ y∈scope.names,y.2=.local→scope.names.lookup y.1=some .local)
  (hfr:∀ x∈scope.names,x.2=.free→X.env.kindOf x.1=some .cell∨X.env.kindOf x.1=some .free)(hix:IxOk X.N X.env.scope scope N' ix)(hfree:∀(j i:Nat) (x:Str),ix[j]?=some (some i)→N'[j]?=some x→scope.names.lookup x=some .free)
  (hi:PI X tg iter wi)(hg:∀ C s H fp,PG (au X scope N' C s H fp) tg g) (ht:∀ C s H fp,PIfs (au X scope N' C s H fp) ifs tc) (he:∀ C s H fp,PE (au X scope N' C s H fp) elt te)
  (hs:∀ x,foldedSetIterable iter X.env x=pure x:=by intro _;rfl):PE X (.ListComp elt [⟨tg,iter,ifs,0⟩] scope pos) (kY ix wi g tc te):=by
 intro pins s σ H Q I h
 rw[eval_ListComp]
 exact wj hc hkind hcell hdis hnames hfr hix hfree hi hg ht he hs I h (use:=none) fun D C s4 m4 H' f hn inv fp q=>⟨m4,hn,fun h' hsb=>⟨.ref D,H',inv h' hsb,rfl,q⟩⟩
theorem HS (hc:X.calm=true)(hkind:scope.kind=.function)(hcell:∀ y∈scope.names,y.2=.cell→scope.names.lookup y.1=some .cell)(hdis:∀ x,(x,NameKind.cell)∈scope.names→(x,NameKind.free)∉scope.names) (hnames:∀ y∈scope.names,y.2=.local→scope.names.lookup y.1=some .local)
  (hfr:∀ x∈scope.names,x.2=.free→X.env.kindOf x.1=some .cell∨X.env.kindOf x.1=some .free)(hix:IxOk X.N X.env.scope scope N' ix)(hfree:∀(j i:Nat) (x:Str),ix[j]?=some (some i)→N'[j]?=some x→scope.names.lookup x=some .free)
  (hi:PI X tg iter wi)(hg:∀ C s H fp,PG (au X scope N' C s H fp) tg g) (ht:∀ C s H fp,PIfs (au X scope N' C s H fp) ifs tc) (he:∀ C s H fp,PE (au X scope N' C s H fp) elt te)
  (hs:∀ x,foldedSetIterable iter X.env x=pure x:=by intro _;rfl)
  {i:Nat}{x:Str}{pos' pos2:Pos}(hN:X.N.Nodup)(hxi:X.N[i]?=some x)(hx:Loc X.env.scope x)(hsw:swapsWith (.ListComp elt [⟨tg,iter,ifs,0⟩] scope pos) (some (.Name x pos')) pos2.line X.env=pure true)
  (hf:X.fn x=true∨X.env.scope.names.lookup x=some .local):PS X (.Assign [.Name x pos'] (.ListComp elt [⟨tg,iter,ifs,0⟩] scope pos) pos2) (tAsg (kY ix wi g tc te) (iZ i)):=by
 intro pins s σ H D I h
 rw[exec_Assign_Name_used _ _ _ _ hsw]
 refine wpAny_bind (wpAny_standAt (wpAny_bind ?_))
 show wpAny _ _ (comprehension (.ListComp elt [⟨tg,iter,ifs,0⟩] scope pos) scope X.env _ (newList []) _ _ (some (assign (.Name x pos') X.env)) >>= fun _=>pure ()) _ _ _
 refine wpAny_bind (wj hc hkind hcell hdis hnames hfr hix hfree hi hg ht he hs I h (use:=some (assign (.Name x pos') X.env)) fun L C s4 m4 H' f hn inv fp q=>?_)
 have I4:Inv X pins σ H' s4:=inv s4.heap (Heap.SameBut.refl C s4.heap)
 obtain⟨o,es,ep,ho,hr⟩:=id hn
 have P4:=I4.pinned (fp:=[C]) (fun b hb=>by rw[List.mem_singleton] at hb;subst hb;exact fp) (fun b hb=>by rw[List.mem_singleton] at hb;subst hb;exact⟨o,ho,fun v z=>by rw[hr.1] at z;cases z⟩)
 show wpAny _ _ (standAt pos' >>= fun _=>bindName X.env x (.ref L)) _ _ s4
 refine wpAny_bind (wpAny_standAt (wpAny_bindName ?_))
 refine nK P4 hN hxi hx (v:=.ref L) (u:=.ref L) rfl (fun s5 I5=>?_) hf
 have hp:=i9 (fp:=[C]) List.mem_cons_self ho
 have h5:s5.heap.get? C=some o:=(I5.pin _ (List.mem_append_right _ (List.mem_append_right _ hp))).1
 refine⟨m4,⟨o,es,ep,h5,hr⟩,fun h' hsb=>wpAny_pure (wpAny_pure ?_)⟩
 have I6:=I5.lg
 exact⟨_,H',I6.turned (t':=s5.toks) (it:=C) (fun b o hb e=>(hsb.2 b hb).trans e) fp.1 fp.2.1 fp.2.2.2.1 fp.2.2.2.2.1 fp.2.2.2.2.2,q⟩
end
end L2
namespace PySem.SeqAt
open AutoSeq1 (wpAny_loadPart')
open MeetsSeq
section
variable {M:Model}{A:Around}{E:Value→Shared→Prop}{s:Shared}
end
end PySem.SeqAt
namespace TL
open PySem L2
inductive T where
 | non|bl (b:Bool)|int (i:Int)|str (x:Str)|tup (xs:List T)|lst (xs:List T)
inductive Sl where
 | pu (t:T)|ow (ts:List T)
  
 | xc (c:Str)
  
 | ob (a:Addr) (c:Str)(fl:List (Str×T))
  
 | ro (c:Str)(fl:List (Str×T))
def Sl.isO:Sl→Prop
 | .ob _ _ _=>True
 | .ro _ _=>True
 | _=>False
abbrev Rho:=List (Option Sl)
def clsAt (K:PySem.W.Frag) (c:Str):Addr:=match PySem.W.nsIn K mainGlobals c with
 | some (some (.ref a))=>a
 | _=>0
def tupH (k:List Nat):Int:=reduceHash (Builtin.Tuple.tupleHashOf (k.map fun(n:Nat)=>hashInt (n:Int)))
mutual
def Rep (K:PySem.W.Frag)(H:Hp):T→V→Prop
 | .non,v=>v=.non
 | .bl b,v=>v=.bl b
 | .int i,v=>v=.int i
 | .str x,v=>v=.str x
 | .tup ts,v=>∃ a vs,v=.ref a∧SqT K H a vs∧RepL K H ts vs
 | .lst ts,v=>∃ a vs,v=.ref a∧SqL K H a vs∧RepL K H ts vs
def RepL (K:PySem.W.Frag)(H:Hp):List T→List V→Prop
 | [],vs=>vs=[]
 | t::ts,vs=>∃ v r,vs=v::r∧Rep K H t v∧RepL K H ts r
end
theorem dH {K:PySem.W.Frag}{H H':Hp}{a:Addr}{xs:List V}(e:Same H H')(h:SqT K H a xs):SqT K H' a xs:=by
 rcases h with(h|⟨o,h⟩)|h
 ·exact .inl (.inl (e _ _ h))
 ·exact .inl (.inr ⟨o,e _ _ h⟩)
 ·exact .inr h
mutual
theorem Rep.mono {K:PySem.W.Frag}{H H':Hp}(e:Same H H'):∀{t:T}{v:V},Rep K H t v→Rep K H' t v
 | .non,v,h=>by unfold Rep at h ⊢;exact h
 | .bl b,v,h=>by unfold Rep at h ⊢;exact h
 | .int b,v,h=>by unfold Rep at h ⊢;exact h
 | .str b,v,h=>by unfold Rep at h ⊢;exact h
 | .tup ts,v,h=>by
   unfold Rep at h ⊢
   obtain⟨a,vs,h1,h2,h3⟩:=h
   exact⟨a,vs,h1,dH e h2,RepL.mono e h3⟩
 | .lst ts,v,h=>by
   unfold Rep at h ⊢
   obtain⟨a,vs,h1,h2,h3⟩:=h
   exact⟨a,vs,h1,e.seq h2,RepL.mono e h3⟩
theorem RepL.mono {K:PySem.W.Frag}{H H':Hp}(e:Same H H'):∀{ts:List T}{vs:List V},RepL K H ts vs→RepL K H' ts vs
 | [],vs,h=>by unfold RepL at h ⊢;exact h
 | t::ts,vs,h=>by
   unfold RepL at h ⊢
   obtain⟨v,r,h1,h2,h3⟩:=h
   exact⟨v,r,h1,Rep.mono e h2,RepL.mono e h3⟩
end
section
variable {K:PySem.W.Frag}{H:Hp}
theorem RepL.nil:RepL K H [] []:=by unfold RepL;rfl
theorem RepL.cons {t:T}{v:V}{ts:List T}{vs:List V}(h:Rep K H t v)(r:RepL K H ts vs):RepL K H (t::ts) (v::vs):=by unfold RepL;exact⟨v,vs,rfl,h,r⟩
theorem RepL.one {t:T}{v:V}(h:Rep K H t v):RepL K H [t] [v]:=.cons h .nil
theorem RepL.length:∀{ts:List T}{vs:List V},RepL K H ts vs→ts.length=vs.length
 | [],vs,h=>by unfold RepL at h;subst h;rfl
 | t::ts,vs,h=>by
   unfold RepL at h
   obtain⟨v,r,rfl,_,h3⟩:=h
   simp [RepL.length h3]
theorem RepL.get:∀{ts:List T}{vs:List V}{i:Nat}{t:T},RepL K H ts vs→ts[i]?=some t→∃ v,vs[i]?=some v∧Rep K H t v
 | [],vs,i,t,h,e=>by simp at e
 | t'::ts,vs,i,t,h,e=>by
   unfold RepL at h
   obtain⟨v,r,rfl,h2,h3⟩:=h
   cases i with
   | zero=>simp at e;subst e;exact⟨v,rfl,h2⟩
   | succ i =>
     obtain⟨u,h4,h5⟩:=RepL.get (i:=i) h3 (by simpa using e)
     exact⟨u,by simpa using h4,h5⟩
theorem RepL.append:∀{ts us:List T}{vs ws:List V},RepL K H ts vs→RepL K H us ws→RepL K H (ts++us) (vs++ws)
 | [],us,vs,ws,h,q=>by unfold RepL at h;subst h;exact q
 | t::ts,us,vs,ws,h,q=>by
   unfold RepL at h
   obtain⟨v,r,rfl,h2,h3⟩:=h
   exact .cons h2 (RepL.append h3 q)
theorem RepL.rep {ts:List T}{vs:List V}(h:RepL K H ts vs):∀ k:Nat,RepL K H (List.replicate k ts).flatten (List.replicate k vs).flatten
 | 0=>.nil
 | k+1=>by
   rw[List.replicate_succ,List.replicate_succ,List.flatten_cons,List.flatten_cons]
   exact h.append (RepL.rep h k)
theorem RepL.ints:∀{ns:List Int}{vs:List V},RepL K H (ns.map T.int) vs↔vs=ns.map V.int
 | [],vs=>by rw[List.map_nil,List.map_nil];exact⟨fun h=>by unfold RepL at h;exact h,fun h=>by unfold RepL;exact h⟩
 | n::ns,vs=>by
   rw[List.map_cons,List.map_cons]
   constructor
   ·intro h
    unfold RepL at h
    obtain⟨v,r,rfl,h2,h3⟩:=h
    unfold Rep at h2
    rw[h2,RepL.ints.mp h3]
   ·intro h
    subst h
    exact .cons (by unfold Rep;rfl) (RepL.ints.mpr rfl)
end
structure Ex (Hq H Hq' H':Hp):Prop where
 all:Same H H'
 q:Same Hq Hq'
 sub:Same Hq' H'
 out:∀ b,H b≠none→Hq b=none→Hq' b=none
theorem Ex.refl {Hq H:Hp}(h:Same Hq H):Ex Hq H Hq H:=⟨.refl _,.refl _,h,fun _ _ n=>n⟩
theorem Ex.trans {Hq H Hq1 H1 Hq2 H2:Hp}(a:Ex Hq H Hq1 H1)(b:Ex Hq1 H1 Hq2 H2):Ex Hq H Hq2 H2 :=
 ⟨a.all.trans b.all,a.q.trans b.q,b.sub,fun c h n=>b.out c (fun z=>by
  cases e:H c with
  | none=>exact h e
  | some o=>rw[a.all c o e] at z;cases z) (a.out c h n)⟩
theorem Ex.new {Hq H:Hp}(h:Same Hq H){p:Addr}{o:HO}(hp:H p=none):Ex Hq H (upd Hq p o) (upd H p o):=by
 have hq:Hq p=none:=h.free hp
 refine⟨fun b u e=>?_,fun b u e=>?_,fun b u e=>?_,fun b e n=>?_⟩
 ·rw[ak (aE e hp)];exact e
 ·rw[ak (aE e hq)];exact e
 ·by_cases hb:b=p
  ·subst hb;rw[bR] at e ⊢;exact e
  ·rw[ak hb] at e ⊢;exact h b u e
 ·have:b≠p:=fun z=>by subst z;exact e hp
  rw[ak this];exact n
structure Z where
 K:PySem.W.Frag
 Hq:Hp
 H:Hp
def FldR (K:PySem.W.Frag)(H:Hp)(fl:List (Str×T)) (fs:List (Str×V)):Prop:=Paired (fun p q=>p.1=q.1∧Rep K H p.2 q.2) fl fs
theorem FldR.mono {K:PySem.W.Frag}{H H':Hp}(e:Same H H'){fl:List (Str×T)}{fs:List (Str×V)}(h:FldR K H fl fs):FldR K H' fl fs:=Paired.mapP h fun p q ⟨h1,h2⟩=>⟨h1,h2.mono e⟩
structure Ro (z:Z)(σ:St)(ρ:Rho)(Hq H:Hp):Prop where
 ob:∀(i:Nat)(a:Addr) (c:Str)(fl:List (Str×T)),ρ[i]?=some (some (.ob a c fl))→σ[i]?=some (some (.ref a))∧Hq a=none∧z.H a=none∧∃ dx fs,H a=some (.ins (clsAt z.K c) dx fs)∧FldR z.K Hq fl fs
 on:∀(i j:Nat)(a b:Addr) (c c':Str)(fl fl':List (Str×T)),i≠j→ρ[i]?=some (some (.ob a c fl))→ρ[j]?=some (some (.ob b c' fl'))→a≠b
 ro:∀(i:Nat) (c:Str)(fl:List (Str×T)),ρ[i]?=some (some (.ro c fl))→∃ a dx fs,σ[i]?=some (some (.ref a))∧z.H a=some (.ins (clsAt z.K c) dx fs)∧FldR z.K z.Hq fl fs
theorem Ro.go {z:Z}{σ σ':St}{ρ ρ':Rho}{Hq H Hq' H':Hp}(r:Ro z σ ρ Hq H)(hs:∀(j:Nat)(sl:Sl),sl.isO→ρ'[j]?=some (some sl)→ρ[j]?=some (some sl)∧σ'[j]?=σ[j]?)
  (hh:∀ a C dx fs,H a=some (.ins C dx fs)→Hq a=none→H' a=some (.ins C dx fs)∧Hq' a=none) (hq:Same Hq Hq'):Ro z σ' ρ' Hq' H':=by
 refine⟨fun i a c fl e=>?_,fun i j a b c c' fl fl' hij e1 e2=>?_,fun i c fl e=>?_⟩
 ·obtain⟨e,es⟩:=hs i (.ob a c fl) trivial e
  obtain⟨h1,h2,h3,dx,fs,h4,h5⟩:=r.ob i a c fl e
  exact⟨by rw[es];exact h1,(hh a _ dx fs h4 h2).2,h3,dx,fs,(hh a _ dx fs h4 h2).1,h5.mono hq⟩
 ·exact r.on i j a b c c' fl fl' hij (hs i (.ob a c fl) trivial e1).1 (hs j (.ob b c' fl') trivial e2).1
 ·obtain⟨e,es⟩:=hs i (.ro c fl) trivial e
  obtain⟨a,dx,fs,h1,h2⟩:=r.ro i c fl e
  exact⟨a,dx,fs,by rw[es];exact h1,h2⟩
theorem Ro.none {z:Z}{σ:St}{ρ:Rho}{Hq H:Hp}(h:∀(j:Nat)(sl:Sl),sl.isO→ρ[j]?≠some (some sl)):Ro z σ ρ Hq H :=
 ⟨fun i a c fl e=>absurd e (h i (.ob a c fl) trivial),fun i _ a _ c _ fl _ _ e=>absurd e (h i (.ob a c fl) trivial),fun i c fl e=>absurd e (h i (.ro c fl) trivial)⟩
theorem kW {σ:St}{ρ:Rho}{i:Nat}{x:Option Sl}{v:Option V}(hx:∀ sl,x=some sl→¬ sl.isO):∀(j:Nat)(sl:Sl),sl.isO→(ρ.set i x)[j]?=some (some sl)→ρ[j]?=some (some sl)∧(σ.set i v)[j]?=σ[j]?:=fun j sl h e=>by
 by_cases hj:i=j
 ·subst hj
  by_cases hi:i<ρ.length
  ·rw[List.getElem?_set_self hi] at e
   exact absurd h (hx sl (Option.some.inj e))
  ·rw[List.getElem?_eq_none (by rw[List.length_set];omega)] at e;cases e
 ·rw[List.getElem?_set_ne hj] at e ⊢
  exact⟨e,rfl⟩
theorem JG {σ:St}{ρ:Rho}{i:Nat}{x:Option Sl}(hx:∀ sl,x=some sl→¬ sl.isO):∀(j:Nat)(sl:Sl),sl.isO→(ρ.set i x)[j]?=some (some sl)→ρ[j]?=some (some sl)∧σ[j]?=σ[j]?:=fun j sl h e =>
 ⟨(kW (σ:=σ) (v:=none) hx j sl h e).1,rfl⟩
structure Rn (z:Z)(σ:St)(ρ:Rho)(Hq H:Hp):Prop where
 ex:Ex z.Hq z.H Hq H
 len:ρ.length=σ.length
 pu:∀(i:Nat)(t:T),ρ[i]?=some (some (.pu t))→∃ v,σ[i]?=some (some v)∧Rep z.K Hq t v
 ow:∀(i:Nat)(ts:List T),ρ[i]?=some (some (.ow ts))→∃ a vs,σ[i]?=some (some (.ref a))∧Hq a=none∧z.H a=none∧H a=some (.lst vs)∧RepL z.K Hq ts vs
 ne:∀(i j:Nat)(ts us:List T)(a:Addr),i≠j→ρ[i]?=some (some (.ow ts))→ρ[j]?=some (some (.ow us))→σ[i]?=some (some (.ref a))→σ[j]?≠some (some (.ref a))
 xc:∀(i:Nat) (C:Str),ρ[i]?=some (some (.xc C))→∃ a oe u,σ[i]?=some (some (.ref a))∧Hq a=none∧H a=some (.frz oe u)∧oe.cls=.ref (clsAt z.K C)∧oe.dict=none∧∃ vs,oe.data=.fields vs
 o:Ro z σ ρ Hq H
theorem Rn.sub {z:Z}{σ:St}{ρ:Rho}{Hq H:Hp}(r:Rn z σ ρ Hq H):Same Hq H:=r.ex.sub
theorem Rn.ext {z:Z}{σ:St}{ρ:Rho}{Hq H Hq' H':Hp}(r:Rn z σ ρ Hq H)(e:Ex Hq H Hq' H'):Rn z σ ρ Hq' H':=by
 refine⟨r.ex.trans e,r.len,fun i t h=>?_,fun i ts h=>?_,r.ne,fun i C h=>?_,r.o.go (fun _ _ _ h=>⟨h,rfl⟩) (fun a C dx fs h n=>⟨e.all a _ h,e.out a (by rw[h];simp) n⟩) e.q⟩
 ·obtain⟨v,h1,h2⟩:=r.pu i t h
  exact⟨v,h1,h2.mono e.q⟩
 ·obtain⟨a,vs,h1,h2,h3,h4,h5⟩:=r.ow i ts h
  exact⟨a,vs,h1,e.out a (by rw[h4];simp) h2,h3,e.all a _ h4,h5.mono e.q⟩
 ·obtain⟨a,oe,u,h1,h2,h3,h4⟩:=r.xc i C h
  exact⟨a,oe,u,h1,e.out a (by rw[h3];simp) h2,e.all a _ h3,h4⟩
abbrev FE:=Rho→Option T
abbrev FA:=Rho→Option (List T)
abbrev FT:=Rho→Option Bool
def tT (z:Z)(f:FE):TE:=fun σ H Q=>∃ ρ Hq t,Rn z σ ρ Hq H∧f ρ=some t∧∀ v Hq' H',Ex Hq H Hq' H'→Rep z.K Hq' t v→Q v H'
def tA (z:Z)(f:FA):TA:=fun σ H Q=>∃ ρ Hq ts,Rn z σ ρ Hq H∧f ρ=some ts∧∀ vs Hq' H',Ex Hq H Hq' H'→RepL z.K Hq' ts vs→Q vs H'
def tB2 (z:Z)(f:FT):TT:=fun σ H Q=>∃ ρ Hq b,Rn z σ ρ Hq H∧f ρ=some b∧∀ Hq' H',Ex Hq H Hq' H'→Q b H'
def RepR (K:PySem.W.Frag)(Hq H:Hp)(t:T)(v:V):Prop:=Rep K Hq t v∨∃ a vs ts,v=.ref a∧t=.lst ts∧H a=some (.lst vs)∧RepL K Hq ts vs
def tR (z:Z)(f:FE):TE:=fun σ H Q=>∃ ρ Hq t,Rn z σ ρ Hq H∧f ρ=some t∧∀ v Hq' H',Ex Hq H Hq' H'→RepR z.K Hq' H' t v→Q v H'
def tF (z:Z)(f:FA):TE:=fun σ H Q=>∃ ρ Hq ts,Rn z σ ρ Hq H∧f ρ=some ts∧∀ p vs Hq' H',Ex Hq H Hq' H'→H' p=none→RepL z.K Hq' ts vs→Q (.ref p) (upd H' p (.lst vs))
abbrev EV (X:Cx)(z:Z)(e:Expr)(f:FE):Prop:=PE X e (tT z f)
abbrev ER (X:Cx)(z:Z)(e:Expr)(f:FE):Prop:=PE X e (tR z f)
abbrev EF (X:Cx)(z:Z)(e:Expr)(f:FA):Prop:=PE X e (tF z f)
abbrev EA (X:Cx)(z:Z)(e:List Expr)(f:FA):Prop:=PA X e (tA z f)
abbrev ET (X:Cx)(z:Z)(e:Expr)(f:FT):Prop:=PT X e (tB2 z f)
theorem PE.imp {X:Cx}{e:Expr}{t t':TE}(h:PE X e t)(i:∀ σ H Q,t' σ H Q→t σ H Q):PE X e t':=fun pins s σ H Q I q=>h pins s σ H Q I (i σ H Q q)
theorem PT.imp {X:Cx}{e:Expr}{t t':TT}(h:PT X e t)(i:∀ σ H Q,t' σ H Q→t σ H Q):PT X e t':=fun pins s σ H Q I q=>h pins s σ H Q I (i σ H Q q)
theorem PA.imp {X:Cx}{e:List Expr}{t t':TA}(h:PA X e t)(i:∀ σ H Q,t' σ H Q→t σ H Q):PA X e t':=fun pos pins s σ H Q I q=>h pos pins s σ H Q I (i σ H Q q)
theorem PS.imp {X:Cx}{e:Stmt}{t t':TS}(h:PS X e t)(i:∀ D σ H,t' D σ H→t D σ H):PS X e t':=fun pins s σ H Q I q=>h pins s σ H Q I (i Q σ H q)
theorem PSs.imp {X:Cx}{e:List Stmt}{t t':TS}(h:PSs X e t)(i:∀ D σ H,t' D σ H→t D σ H):PSs X e t':=fun pins s σ H Q I q=>h pins s σ H Q I (i Q σ H q)
theorem RepR.ext {K:PySem.W.Frag}{Hq H Hq' H':Hp}{t:T}{v:V}(h:RepR K Hq H t v)(e:Ex Hq H Hq' H'):RepR K Hq' H' t v:=by
 rcases h with h|⟨a,vs,ts,h1,h2,h3,h4⟩
 ·exact .inl (h.mono e.q)
 ·exact .inr ⟨a,vs,ts,h1,h2,e.all _ _ h3,h4.mono e.q⟩
theorem RepR.lst {K:PySem.W.Frag}{Hq H:Hp}{ts:List T}{v:V}(h:RepR K Hq H (.lst ts) v) (s:Same Hq H):∃ a vs,v=.ref a∧SqL K H a vs∧RepL K Hq ts vs:=by
 rcases h with h|⟨a,vs,us,h1,h2,h3,h4⟩
 ·unfold Rep at h
  obtain⟨a,vs,h1,h2,h3⟩:=h
  exact⟨a,vs,h1,s.seq h2,h3⟩
 ·cases h2
  exact⟨a,vs,h1,SqL.of h3,h4⟩
theorem RepR.tup {K:PySem.W.Frag}{Hq H:Hp}{ts:List T}{v:V}(h:RepR K Hq H (.tup ts) v) (s:Same Hq H):∃ a vs,v=.ref a∧SqT K H a vs∧RepL K Hq ts vs:=by
 rcases h with h|⟨a,vs,us,h1,h2,h3,h4⟩
 ·unfold Rep at h
  obtain⟨a,vs,h1,h2,h3⟩:=h
  exact⟨a,vs,h1,dH s h2,h3⟩
 ·cases h2
theorem RepR.int {K:PySem.W.Frag}{Hq H:Hp}{i:Int}{v:V}(h:RepR K Hq H (.int i) v):v=.int i:=by
 rcases h with h|⟨a,vs,us,h1,h2,_⟩
 ·unfold Rep at h;exact h
 ·cases h2
theorem RepR.str {K:PySem.W.Frag}{Hq H:Hp}{i:Str}{v:V}(h:RepR K Hq H (.str i) v):v=.str i:=by
 rcases h with h|⟨a,vs,us,h1,h2,_⟩
 ·unfold Rep at h;exact h
 ·cases h2
theorem RepR.bl {K:PySem.W.Frag}{Hq H:Hp}{i:Bool}{v:V}(h:RepR K Hq H (.bl i) v):v=.bl i:=by
 rcases h with h|⟨a,vs,us,h1,h2,_⟩
 ·unfold Rep at h;exact h
 ·cases h2
theorem bD {K:PySem.W.Frag}{Hq:Hp}{b:Bool}:Rep K Hq (.bl b) (.bl b):=by unfold Rep;rfl
theorem cj {K:PySem.W.Frag}{Hq:Hp}{b:Int}:Rep K Hq (.int b) (.int b):=by unfold Rep;rfl
theorem nu {K:PySem.W.Frag}{Hq:Hp}{b:Str}:Rep K Hq (.str b) (.str b):=by unfold Rep;rfl
theorem kQ {K:PySem.W.Frag}{Hq:Hp}:Rep K Hq .non .non:=by unfold Rep;rfl
theorem Rep.i {K:PySem.W.Frag}{Hq:Hp}{i:Int}{v:V}(h:Rep K Hq (.int i) v):v=.int i:=by unfold Rep at h;exact h
theorem Rep.b {K:PySem.W.Frag}{Hq:Hp}{i:Bool}{v:V}(h:Rep K Hq (.bl i) v):v=.bl i:=by unfold Rep at h;exact h
theorem Rep.s {K:PySem.W.Frag}{Hq:Hp}{i:Str}{v:V}(h:Rep K Hq (.str i) v):v=.str i:=by unfold Rep at h;exact h
theorem Rep.n {K:PySem.W.Frag}{Hq:Hp}{v:V}(h:Rep K Hq .non v):v=.non:=by unfold Rep at h;exact h
theorem gn {K:PySem.W.Frag}{Hq:Hp}{p:Addr}{ts:List T}{vs:List V}(hp:Hq p=none)(h:RepL K Hq ts vs):Rep K (upd Hq p (.tup vs)) (.tup ts) (.ref p):=by
 unfold Rep
 exact⟨p,vs,rfl,SqT.of bR,h.mono fun b o e=>by rw[ak (aE e hp)];exact e⟩
theorem nt {K:PySem.W.Frag}{Hq:Hp}{p:Addr}{ts:List T}{vs:List V}(hp:Hq p=none)(h:RepL K Hq ts vs):Rep K (upd Hq p (.lst vs)) (.lst ts) (.ref p):=by
 unfold Rep
 exact⟨p,vs,rfl,SqL.of bR,h.mono fun b o e=>by rw[ak (aE e hp)];exact e⟩
section
variable {X:Cx}{z:Z}{e:Expr}{f:FE}
theorem er_of (h:EV X z e f):ER X z e f:=PE.imp h fun σ H Q ⟨ρ,Hq,t,r,e,k⟩=>⟨ρ,Hq,t,r,e,fun v Hq' H' x p=>k v Hq' H' x (.inl p)⟩
def fNew (f:FA):FE:=fun ρ=>(f ρ).map T.lst
theorem ev_new {f:FA}(h:EF X z e f):EV X z e (fNew f):=PE.imp h fun σ H Q ⟨ρ,Hq,t,r,e,k⟩=>by
 unfold fNew at e
 cases q:f ρ with
 | none=>rw[q] at e;cases e
 | some ts =>
   rw[q] at e
   cases e
   refine⟨ρ,Hq,ts,r,q,fun p vs Hq' H' x hp hr=>k _ _ _ (x.trans (.new x.sub hp)) (nt (x.sub.free hp) hr)⟩
def gv (i:Nat):FE:=fun ρ=>match ρ[i]? with|some (some (.pu t))=>some t|_=>none
def go (i:Nat):FE:=fun ρ=>match ρ[i]? with|some (some (.ow ts))=>some (.lst ts)|_=>none
theorem ev_var (i:Nat){x:Str}{pos:Pos}(hN:X.N[i]?=some x:=by rfl)(hv:Vis X.env.scope x:=by first|exact Or.inl rfl|exact Or.inr (Or.inl rfl)|exact Or.inr (Or.inr rfl)) (hd:(x==("__debug__":Str))=false:=by decide)
  (hcd:(x==("__classdict__":Str))=false:=by decide):EV X z (.Name x pos) (gv i):=PE.imp (bO hN hv hd hcd) fun σ H Q ⟨ρ,Hq,t,r,e,k⟩=>by
 unfold gv at e
 split at e
 ·rename_i t' h
  cases e
  obtain⟨v,h1,h2⟩:=r.pu i t h
  exact⟨v,h1,k v Hq H (.refl r.sub) h2⟩
 ·cases e
theorem er_own (i:Nat){x:Str}{pos:Pos}(hN:X.N[i]?=some x:=by rfl)(hv:Vis X.env.scope x:=by first|exact Or.inl rfl|exact Or.inr (Or.inl rfl)|exact Or.inr (Or.inr rfl)) (hd:(x==("__debug__":Str))=false:=by decide)
  (hcd:(x==("__classdict__":Str))=false:=by decide):ER X z (.Name x pos) (go i):=PE.imp (bO hN hv hd hcd) fun σ H Q ⟨ρ,Hq,t,r,e,k⟩=>by
 unfold go at e
 split at e
 ·rename_i ts h
  cases e
  obtain⟨a,vs,h1,h2,h3,h4,h5⟩:=r.ow i ts h
  exact⟨_,h1,k _ Hq H (.refl r.sub) (.inr ⟨a,vs,ts,rfl,rfl,h4,h5⟩)⟩
 ·cases e
def kc (t:T):FE:=fun _=>some t
theorem ev_int {i:Int} {j pos}:EV X z (.Constant (.int i) j pos) (kc (.int i)):=PE.imp Hf fun σ H Q ⟨ρ,Hq,t,r,e,k⟩=>by
 cases e;exact k _ Hq H (.refl r.sub) cj
theorem ev_bl {b j pos}:EV X z (.Constant (.bool b) j pos) (kc (.bl b)):=PE.imp G6 fun σ H Q ⟨ρ,Hq,t,r,e,k⟩=>by
 cases e;exact k _ Hq H (.refl r.sub) bD
theorem ev_non {j pos}:EV X z (.Constant .none j pos) (kc .non):=PE.imp ng fun σ H Q ⟨ρ,Hq,t,r,e,k⟩=>by
 cases e;exact k _ Hq H (.refl r.sub) kQ
theorem ev_str {x j pos}:EV X z (.Constant (.str x) j pos) (kc (.str x)):=PE.imp yy fun σ H Q ⟨ρ,Hq,t,r,e,k⟩=>by
 cases e;exact k _ Hq H (.refl r.sub) nu
end
section
variable {X:Cx}{z:Z}{e:Expr}{es:List Expr}{f:FE}{fa:FA}
def fNil:FA:=fun _=>some []
def aa (f:FE)(g:FA):FA:=fun ρ=>match f ρ with|some t=>(match g ρ with|some ts=>some (t::ts)|none=>none)|none=>none
theorem qw {f:FE}{g:FA}{ρ:Rho}{ts:List T}(h:aa f g ρ=some ts):∃ t r,f ρ=some t∧g ρ=some r∧ts=t::r:=by
 unfold aa at h
 split at h
 ·rename_i t e
  split at h
  ·rename_i r e2
   cases h
   exact⟨t,r,e,e2,rfl⟩
  ·cases h
 ·cases h
theorem ea_nil:EA X z [] fNil:=PA.imp cE fun σ H Q ⟨ρ,Hq,ts,r,e,k⟩=>by
 cases e;exact k [] Hq H (.refl r.sub) .nil
theorem ea_cons (h:EV X z e f)(hr:EA X z es fa)(hs:starEach (e::es) X.env=(false,eval e X.env)::starEach es X.env:=by rfl):EA X z (e::es) (aa f fa) :=
 PA.imp (bx h hr hs) fun σ H Q ⟨ρ,Hq,ts,r,e,k⟩=>by
  obtain⟨t,us,e1,e2,rfl⟩:=qw e
  exact⟨ρ,Hq,t,r,e1,fun v Hq1 H1 x1 r1=>⟨ρ,Hq1,us,r.ext x1,e2,fun vs Hq2 H2 x2 r2=>k _ Hq2 H2 (x1.trans x2) (.cons (r1.mono x2.q) r2)⟩⟩
def fTup (fa:FA):FE:=fun ρ=>match fa ρ with|some ts=>if ts.length≤sizeLine then some (.tup ts) else none|none=>none
def fLst (fa:FA):FA:=fun ρ=>match fa ρ with|some ts=>if ts.length≤sizeLine then some ts else none|none=>none
theorem ev_tup {x1 pos}(h:EA X z es fa):EV X z (.Tuple es x1 pos) (fTup fa) :=
 PE.imp (Hr h) fun σ H Q ⟨ρ,Hq,t,r,e,k⟩=>by
  unfold fTup at e
  split at e
  ·rename_i ts e1
   split at e
   ·rename_i hl
    cases e
    exact⟨ρ,Hq,ts,r,e1,fun vs Hq1 H1 x1 r1=>⟨by rw[← r1.length];exact hl,fun p hp=>k _ _ _ (x1.trans (.new x1.sub hp)) (gn (x1.sub.free hp) r1)⟩⟩
   ·cases e
  ·cases e
theorem ef_lst {pos}(h:EA X z es fa):EF X z (.List es pos) (fLst fa) :=
 PE.imp (Hg h) fun σ H Q ⟨ρ,Hq,t,r,e,k⟩=>by
  unfold fLst at e
  split at e
  ·rename_i ts e1
   split at e
   ·rename_i hl
    cases e
    exact⟨ρ,Hq,_,r,e1,fun vs Hq1 H1 x1 r1=>⟨by rw[← r1.length];exact hl,fun p hp=>k _ _ _ _ x1 hp r1⟩⟩
   ·cases e
  ·cases e
end
def Op2 (X:Cx)(f:Value→Value→Sem Value)(fn:T→T→Option T):Prop :=
 ∀(pins:List (Addr×Obj)) (s:Shared)(σ:St)(Hq H:Hp)(t u w:T)(x y:V)(v v':Value)(Q:VK),Inv X pins σ H s→RelV x v→RelV y v'→Same Hq H→RepR X.K Hq H t x→RepR X.K Hq H u y→fn t u=some w →
  (∀ q Hq' H',Ex Hq H Hq' H'→Rep X.K Hq' w q→Q q H')→wpAny (model X.prog X.w) X.A (f v v') (EP X pins σ Q) X.xe s
def rT (K:PySem.W.Frag)(fn:T→T→Option T):R2:=fun x y H Q=>∃ Hq t u w,Same Hq H∧RepR K Hq H t x∧RepR K Hq H u y∧fn t u=some w∧∀ q Hq' H',Ex Hq H Hq' H'→Rep K Hq' w q→Q q H'
theorem Op2.r {X:Cx}{f:Value→Value→Sem Value}{fn:T→T→Option T}(h:Op2 X f fn):OpR X f (rT X.K fn):=fun pins s σ H x y v u Q I rx ry ⟨Hq,t,t',w,sb,r1,r2,e,k⟩=>h pins s σ Hq H t t' w x y v u Q I rx ry sb r1 r2 e k
def f2 (fn:T→T→Option T)(f g:FE):FE:=fun ρ=>match f ρ with|some t=>(match g ρ with|some u=>fn t u|none=>none)|none=>none
theorem qv {fn:T→T→Option T}{f g:FE}{ρ:Rho}{w:T}(h:f2 fn f g ρ=some w):∃ t u,f ρ=some t∧g ρ=some u∧fn t u=some w:=by
 unfold f2 at h
 split at h
 ·rename_i t e
  split at h
  ·rename_i u e2
   exact⟨t,u,e,e2,h⟩
  ·cases h
 ·cases h
section
variable {X:Cx}{z:Z}{a b:Expr}{f g:FE}{fn:T→T→Option T}{pos:Pos}
theorem sX (hK:z.K=X.K):∀ σ H Q,tT z (f2 fn f g) σ H Q→tOp (rT X.K fn) (tR z f) (tR z g) σ H Q:=fun σ H Q ⟨ρ,Hq,w,r,e,k⟩=>by
 obtain⟨t,u,e1,e2,e3⟩:=qv e
 rw[← hK]
 exact⟨ρ,Hq,t,r,e1,fun v Hq1 H1 x1 r1=>⟨ρ,Hq1,u,r.ext x1,e2,fun v2 Hq2 H2 x2 r2=>⟨Hq2,t,u,w,x2.sub,r1.ext x2,r2,e3,fun q Hq3 H3 x3 r3=>k q Hq3 H3 ((x1.trans x2).trans x3) r3⟩⟩⟩
theorem ev_op (hK:z.K=X.K){op:Operator}(ho:Op2 X (binaryOp op) fn) (ha:ER X z a f)(hb:ER X z b g):EV X z (.BinOp a op b pos) (f2 fn f g):=PE.imp (Ho ho.r ha hb) (sX hK)
theorem ev_cmp (hK:z.K=X.K){op:CmpOp}(ho:Op2 X (compareOp op) fn) (ha:ER X z a f)(hb:ER X z b g)(hm:behindInMarks op b=false):EV X z (.Compare a [op] [b] pos) (f2 fn f g):=PE.imp (yu ho.r ha hb hm) (sX hK)
def fm (fn fn':T→T→Option T)(f g h:FE):FE:=fun ρ=>match f ρ with|some t=>(match g ρ with|some u=>(match fn t u with|some (.bl true)=>(match h ρ with|some w=>fn' u w|none=>none)|some (.bl false)=>some (.bl false)|_=>none)|none=>none)|none=>none
end
section
variable {X:Cx}{z:Z}{a b e:Expr}{f g:FE}{ft gt:FT}{pos:Pos}
def fB (f:FE):FT:=fun ρ=>match f ρ with|some (.bl b)=>some b|_=>none
theorem kG {f:FE}{ρ:Rho}{b:Bool}(h:fB f ρ=some b):f ρ=some (.bl b):=by
 unfold fB at h
 split at h
 ·rename_i b' e;cases h;exact e
 ·cases h
theorem Il:∀ σ H Q,tB2 z (fB f) σ H Q→tB (tT z f) σ H Q:=fun σ H Q ⟨ρ,Hq,b,r,e,k⟩ =>
 ⟨ρ,Hq,.bl b,r,kG e,fun v Hq' H' x p=>⟨b,p.b,k Hq' H' x⟩⟩
theorem et_val (h:EV X z e f)(he:∀ whole,isTrue e X.env whole=(do let v ← whole;standAt e.pos;holding [v] (truthy v)):=by intro _;rfl):ET X z e (fB f):=PT.imp (H9 h he) Il
theorem et_cmp (hK:z.K=X.K){fn:T→T→Option T}{op:CmpOp}(ho:Op2 X (compareOp op) fn) (ha:ER X z a f)(hb:ER X z b g)(hm:behindInMarks op b=false):ET X z (.Compare a [op] [b] pos) (fB (f2 fn f g)) :=
 PT.imp (nk ho.r ha hb hm) fun σ H Q ⟨ρ,Hq,b,r,e,k⟩=>by
  have q:=sX (X:=X) (fn:=fn) (f:=f) (g:=g) hK σ H (fun x H'=>∃ k,x=.bl k∧Q k H') ⟨ρ,Hq,.bl b,r,kG e,fun v Hq' H' x p=>⟨b,p.b,k Hq' H' x⟩⟩
  exact q
def fNot (f:FT):FT:=fun ρ=>(f ρ).map (!·)
theorem et_not (h:ET X z a ft):ET X z (.UnaryOp .Not a pos) (fNot ft):=PT.imp (HY h) fun σ H Q ⟨ρ,Hq,b,r,e,k⟩=>by
 unfold fNot at e
 cases q:ft ρ with
 | none=>rw[q] at e;cases e
 | some c =>
   rw[q] at e
   cases e
   exact⟨ρ,Hq,c,r,q,k⟩
def fAnd (f g:FT):FT:=fun ρ=>match f ρ with|some true=>g ρ|some false=>some false|none=>none
def fOr (f g:FT):FT:=fun ρ=>match f ρ with|some false=>g ρ|some true=>some true|none=>none
theorem Ik:∀ σ H Q,tB2 z (fAnd ft gt) σ H Q→tAnd (tB2 z ft) (tB2 z gt) σ H Q:=fun σ H Q ⟨ρ,Hq,b,r,e,k⟩=>by
 unfold fAnd at e
 split at e
 ·rename_i q
  exact⟨ρ,Hq,true,r,q,fun Hq1 H1 x1=>iteT ⟨ρ,Hq1,b,r.ext x1,e,fun Hq2 H2 x2=>k Hq2 H2 (x1.trans x2)⟩⟩
 ·rename_i q
  cases e
  exact⟨ρ,Hq,false,r,q,fun Hq1 H1 x1=>iteF (k Hq1 H1 x1)⟩
 ·cases e
theorem Io:∀ σ H Q,tB2 z (fOr ft gt) σ H Q→tOr (tB2 z ft) (tB2 z gt) σ H Q:=fun σ H Q ⟨ρ,Hq,b,r,e,k⟩=>by
 unfold fOr at e
 split at e
 ·rename_i q
  exact⟨ρ,Hq,false,r,q,fun Hq1 H1 x1=>iteF ⟨ρ,Hq1,b,r.ext x1,e,fun Hq2 H2 x2=>k Hq2 H2 (x1.trans x2)⟩⟩
 ·rename_i q
  cases e
  exact⟨ρ,Hq,true,r,q,fun Hq1 H1 x1=>iteT (k Hq1 H1 x1)⟩
 ·cases e
abbrev EW (X:Cx)(z:Z)(e:Expr)(f:FT):Prop:=PW X e (tB2 z f)
theorem PW.imp {X:Cx}{e:Expr}{t t':TT}(h:PW X e t)(i:∀ σ H Q,t' σ H Q→t σ H Q):PW X e t':=fun wh pins s σ H Q I q=>h wh pins s σ H Q I (i σ H Q q)
variable {rest:List Expr}
theorem ew_and1 (h:ET X z a ft):EW X z (.BoolOp .And [a] pos) ft:=pw_and1 h
theorem ew_or1 (h:ET X z a ft):EW X z (.BoolOp .Or [a] pos) ft:=pw_or1 h
theorem ew_and (h:ET X z a ft)(hb:EW X z (.BoolOp .And (b::rest) pos) gt):EW X z (.BoolOp .And (a::b::rest) pos) (fAnd ft gt):=PW.imp (pw_and h hb) Ik
theorem ew_or (h:ET X z a ft)(hb:EW X z (.BoolOp .Or (b::rest) pos) gt):EW X z (.BoolOp .Or (a::b::rest) pos) (fOr ft gt):=PW.imp (pw_or h hb) Io
theorem et_w (h:EW X z e ft):ET X z e ft:=h.pt
def bB (f g:FE):FE:=fun ρ=>match f ρ with|some (.bl true)=>g ρ|some (.bl false)=>some (.bl false)|_=>none
def fOrV (f g:FE):FE:=fun ρ=>match f ρ with|some (.bl false)=>g ρ|some (.bl true)=>some (.bl true)|_=>none
def eB (f:FE):FE:=fun ρ=>match f ρ with|some (.bl b)=>some (.bl (!b))|_=>none
theorem ev_one {op}(h:EV X z a f):EV X z (.BoolOp op [a] pos) f:=Hl h
theorem ev_and (h:EV X z a f)(hb:EV X z (.BoolOp .And (b::rest) pos) g):EV X z (.BoolOp .And (a::b::rest) pos) (bB f g):=PE.imp (G5 h hb) fun σ H Q ⟨ρ,Hq,t,r,e,k⟩=>by
 unfold bB at e
 split at e
 ·rename_i q
  exact⟨ρ,Hq,_,r,q,fun v Hq1 H1 x1 p1=>⟨true,p1.b,iteT ⟨ρ,Hq1,t,r.ext x1,e,fun v2 Hq2 H2 x2=>k v2 Hq2 H2 (x1.trans x2)⟩⟩⟩
 ·rename_i q
  cases e
  exact⟨ρ,Hq,_,r,q,fun v Hq1 H1 x1 p1=>⟨false,p1.b,iteF (k _ Hq1 H1 x1 bD)⟩⟩
 ·cases e
theorem ev_not (h:EV X z a f):EV X z (.UnaryOp .Not a pos) (eB f):=PE.imp (Hj h) fun σ H Q ⟨ρ,Hq,t,r,e,k⟩=>by
 unfold eB at e
 split at e
 ·rename_i b q
  cases e
  exact⟨ρ,Hq,_,r,q,fun v Hq1 H1 x1 p1=>⟨b,p1.b,k _ Hq1 H1 x1 bD⟩⟩
 ·cases e
def fIf (c:FT)(f g:FE):FE:=fun ρ=>match c ρ with|some true=>f ρ|some false=>g ρ|none=>none
theorem ev_ifExp {c:Expr}(hc:ET X z c ft)(ha:EV X z a f)(hb:EV X z b g):EV X z (.IfExp c a b pos) (fIf ft f g):=PE.imp (G9 hc ha hb) fun σ H Q ⟨ρ,Hq,t,r,e,k⟩=>by
 unfold fIf at e
 split at e
 ·rename_i q
  exact⟨ρ,Hq,true,r,q,fun Hq1 H1 x1=>iteT ⟨ρ,Hq1,t,r.ext x1,e,fun v2 Hq2 H2 x2=>k v2 Hq2 H2 (x1.trans x2)⟩⟩
 ·rename_i q
  exact⟨ρ,Hq,false,r,q,fun Hq1 H1 x1=>iteF ⟨ρ,Hq1,t,r.ext x1,e,fun v2 Hq2 H2 x2=>k v2 Hq2 H2 (x1.trans x2)⟩⟩
 ·cases e
end
def spT (K:PySem.W.Frag) (n:Nat)(F:List T→Option T):Sp:=fun vs H Q _=>∃ Hq ts t,ts.length=n∧Same Hq H∧RepL K Hq ts vs∧F ts=some t∧∀ v Hq' H',Ex Hq H Hq' H'→Rep K Hq' t v→Q v H'
def aq (n:Nat)(F:List T→Option T)(fa:FA):FE:=fun ρ=>match fa ρ with|some ts=>if ts.length=n then F ts else none|none=>none
section
variable {X:Cx}{z:Z}{k n:Nat}{f:Addr}{fd:FuncData}{ps:List Str}{x:Str}{p pos:Pos}{e:Expr}{es:List Expr}{fa:FA}{F:List T→Option T}
theorem CG (hK:z.K=X.K)(G:FnOk X.prog X.w X.K X.mg X.base CX0 k f fd ps (spT X.K n F)) (hr:Room k X.A)(hg:Gl X x)(hm:X.mg x=some (.ref f)) (hk:PySem.W.keepIn X.K (.ref f)=true) (hb:Binds X.K fd ps [])
  (hl:ps.length=n)(ha:EA X z (e::es) fa)
  (hd:(x==("__debug__":Str))=false:=by decide) (hs:starEach (e::es) X.env=(false,eval e X.env)::starEach es X.env:=by rfl) (hpl:(backTo pos (starEach es X.env)).any (·.1)=false:=by rfl) :
  EV X z (.Call (.Name x p) (e::es) [] pos) (aq n F fa) :=
 PE.imp (sM (E:=E0) (dvs:=[]) G hr hg hm hk hb .nil gk ha hd hs hpl) fun σ H Q ⟨ρ,Hq,t,r,e,k⟩=>by
  unfold aq at e
  split at e
  ·rename_i ts e1
   split at e
   ·rename_i hl
    refine⟨ρ,Hq,ts,r,e1,fun vs Hq1 H1 x1 r1=>?_⟩
    show spT X.K n F (vs++[]) H1 Q E0
    rw[List.append_nil]
    exact⟨Hq1,ts,t,hl,x1.sub,hK▸r1,e,fun v Hq2 H2 x2 r2=>k v Hq2 H2 (x1.trans x2) (hK▸r2)⟩
   ·cases e
  ·cases e
end
end TL
namespace TL
open PySem L2
def b2 (b:Bool):Int:=if b then 1 else 0
mutual
def teq:T→T→Bool
 | .non,.non=>true
 | .bl a,.bl b=>a==b
 | .int a,.int b=>a==b
 | .bl a,.int b=>b2 a==b
 | .int a,.bl b=>a==b2 b
 | .str a,.str b=>a==b
 | .tup as,.tup bs=>teqL as bs
 | .lst as,.lst bs=>teqL as bs
 | _,_=>false
def teqL:List T→List T→Bool
 | [],[]=>true
 | a::as,b::bs=>teq a b&&teqL as bs
 | _,_=>false
end
mutual
def dep:T→Nat
 | .tup as=>depL as+1
 | .lst as=>depL as+1
 | _=>0
def depL:List T→Nat
 | []=>0
 | a::as=>max (dep a) (depL as)
end
mutual
theorem eO:∀ t:T,teq t t=true
 | .non=>rfl
 | .bl a=>by simp [teq]
 | .int a=>by simp [teq]
 | .str a=>by simp [teq]
 | .tup as=>by simp only[teq];exact ux as
 | .lst as=>by simp only[teq];exact ux as
theorem ux:∀ t:List T,teqL t t=true
 | []=>rfl
 | a::as=>by simp only[teqL,eO a,ux as];rfl
end
section
variable {X:Cx}{pins:List (Addr×Obj)}{σ:St}{H:Hp}{s:Shared}
theorem wZ {α:Type}{as bs:List α}(h:as.length≠bs.length):(as.length != bs.length)=true:=by simpa using h
mutual
theorem sZ (I:Inv X pins σ H s):∀{t u:T}{v:V},Rep X.K H t v→Rep X.K H u v→teq t u=true
 | .non,u,v,h,q=>by
   unfold Rep at h;subst h
   cases u<;>unfold Rep at q<;>first|rfl|(exact absurd q (fun z=>nomatch z))|(exact absurd q.choose_spec.choose_spec.1 (fun z=>nomatch z))
 | .bl b,u,v,h,q=>by
   unfold Rep at h;subst h
   cases u<;>unfold Rep at q<;>first|(cases q;simp [teq];done)|(exact absurd q (fun z=>nomatch z))|(exact absurd q.choose_spec.choose_spec.1 (fun z=>nomatch z))
 | .int b,u,v,h,q=>by
   unfold Rep at h;subst h
   cases u<;>unfold Rep at q<;>first|(cases q;simp [teq];done)|(exact absurd q (fun z=>nomatch z))|(exact absurd q.choose_spec.choose_spec.1 (fun z=>nomatch z))
 | .str b,u,v,h,q=>by
   unfold Rep at h;subst h
   cases u<;>unfold Rep at q<;>first|(cases q;simp [teq];done)|(exact absurd q (fun z=>nomatch z))|(exact absurd q.choose_spec.choose_spec.1 (fun z=>nomatch z))
 | .tup ts,u,v,h,q=>by
   unfold Rep at h
   obtain⟨a,vs,rfl,h2,h3⟩:=h
   cases u with
   | tup us =>
     unfold Rep at q
     obtain⟨b,ws,e,q2,q3⟩:=q
     cases e
     rw[I.uA q2 h2] at q3
     unfold teq
     exact sY I h3 q3
   | lst us =>
     unfold Rep at q
     obtain⟨b,ws,e,q2,q3⟩:=q
     cases e
     obtain⟨its,_,⟨o,e1,c1,_⟩,_⟩:=I.tuple h2
     obtain⟨its2,_,⟨o2,n2,e2,c2,_⟩,_⟩:=I.list q2
     rw[e1] at e2;cases e2;rw[c1] at c2;injection c2 with z;exact absurd z (by decide)
   | non=>unfold Rep at q;cases q
   | bl _=>unfold Rep at q;cases q
   | int _=>unfold Rep at q;cases q
   | str _=>unfold Rep at q;cases q
 | .lst ts,u,v,h,q=>by
   unfold Rep at h
   obtain⟨a,vs,rfl,h2,h3⟩:=h
   cases u with
   | lst us =>
     unfold Rep at q
     obtain⟨b,ws,e,q2,q3⟩:=q
     cases e
     rw[I.r9 q2 h2] at q3
     unfold teq
     exact sY I h3 q3
   | tup us =>
     unfold Rep at q
     obtain⟨b,ws,e,q2,q3⟩:=q
     cases e
     obtain⟨its,_,⟨o,e1,c1,_⟩,_⟩:=I.tuple q2
     obtain⟨its2,_,⟨o2,n2,e2,c2,_⟩,_⟩:=I.list h2
     rw[e1] at e2;cases e2;rw[c1] at c2;injection c2 with z;exact absurd z (by decide)
   | non=>unfold Rep at q;cases q
   | bl _=>unfold Rep at q;cases q
   | int _=>unfold Rep at q;cases q
   | str _=>unfold Rep at q;cases q
theorem sY (I:Inv X pins σ H s):∀{t u:List T}{v:List V},RepL X.K H t v→RepL X.K H u v→teqL t u=true
 | [],u,v,h,q=>by
   unfold RepL at h;subst h
   cases u with
   | nil=>rfl
   | cons a as=>unfold RepL at q;obtain⟨_,_,z,_⟩:=q;cases z
 | t::ts,u,v,h,q=>by
   unfold RepL at h
   obtain⟨x,r,rfl,h2,h3⟩:=h
   cases u with
   | nil=>unfold RepL at q;cases q
   | cons a as =>
     unfold RepL at q
     obtain⟨y,r',e,q2,q3⟩:=q
     cases e
     unfold teqL
     rw[sZ I h2 q2,sY I h3 q3];rfl
end
theorem RepR.rep {K:PySem.W.Frag}{Hq H:Hp}{t:T}{v:V}(h:RepR K Hq H t v)(sb:Same Hq H):Rep K H t v:=by
 rcases h with h|⟨a,vs,ts,rfl,rfl,h3,h4⟩
 ·exact h.mono sb
 ·unfold Rep
  exact⟨a,vs,rfl,SqL.of h3,h4.mono sb⟩
open SeqAt
def eqJ (ts us:List T) (j:Nat):Bool:=match ts[j]?,us[j]? with|some x,some y=>teq x y|_,_=>true
theorem mw:∀(ts us:List T),ts.length=us.length→(List.range ts.length).all (eqJ ts us)=teqL ts us
 | [],[],_=>rfl
 | [],_::_,h=>by simp at h
 | _::_,[],h=>by simp at h
 | t::ts,u::us,h=>by
   have ih:=mw ts us (by simpa using h)
   rw[List.length_cons,List.range_succ_eq_map,List.all_cons,List.all_map]
   have e1:eqJ (t::ts) (u::us) 0=teq t u:=rfl
   have e2:(eqJ (t::ts) (u::us) ∘ Nat.succ)=eqJ ts us:=by funext j;simp [eqJ]
   rw[e1,e2,ih]
   simp only[teqL]
theorem zF:∀{ts us:List T},teqL ts us=true→ts.length=us.length
 | [],[],_=>rfl
 | [],_::_,h=>by simp [teqL] at h
 | _::_,[],h=>by simp [teqL] at h
 | t::ts,u::us,h=>by
   simp only[teqL,Bool.and_eq_true] at h
   simp [zF h.2]
theorem uw {ts us:List T}(h:ts.length≠us.length):teqL ts us=false:=by
 cases e:teqL ts us with
 | false=>rfl
 | true=>exact absurd (zF e) h
theorem wK (ts us:List T):((List.range (min ts.length us.length)).all (eqJ ts us)&&ts.length==us.length)=teqL ts us:=by
 by_cases h:ts.length=us.length
 ·rw[← h,Nat.min_self,mw ts us h];simp
 ·rw[uw h]
  have:(ts.length==us.length)=false:=by simpa using h
  rw[this,Bool.and_false]
theorem mj:∀{ts:List T}{j:Nat}{t:T},ts[j]?=some t→dep t≤depL ts
 | [],_,_,h=>by simp at h
 | a::as,0,t,h=>by simp at h;subst h;simp only[depL];exact Nat.le_max_left _ _
 | a::as,j+1,t,h=>by
   have:=mj (ts:=as) (j:=j) (t:=t) (by simpa using h)
   simp only[depL];exact Nat.le_trans this (Nat.le_max_right _ _)
theorem t7:∀{ts:List T}{j:Nat}{t:T},ts[j]?=some t→sizeOf t<sizeOf ts
 | [],_,_,h=>by simp at h
 | a::as,0,t,h=>by simp at h;subst h;simp;omega
 | a::as,j+1,t,h=>by
   have:=t7 (ts:=as) (j:=j) (t:=t) (by simpa using h)
   simp;omega
theorem gm {xs:List V}{its:List Value}(r:Vals xs its){j:Nat}(h:j<its.toArray.size){x:V}(e:xs[j]?=some x):RelV x its.toArray[j]:=by
 obtain⟨u,h1,h2⟩:=r.get e
 have:its.toArray[j]=u:=by
  rw[List.getElem_toArray]
  exact Option.some.inj ((List.getElem?_eq_getElem _).symm.trans h1)
 rw[this];exact h2
theorem qt (I:Inv X pins σ H s):∀(n:Nat)(t u:T)(x y:V)(a b:Value)(A:Around),sizeOf t<n→RelV x a→RelV y b→Rep X.K H t x→Rep X.K H u y→A.units+dep t<cLine →
  RcAt A s a b (teq t u)∧EqAt A s a b (teq t u):=by
 intro n
 induction n with
 | zero=>intro t u x y a b A h;exact absurd h (Nat.not_lt_zero _)
 | succ n ih =>
   intro t u x y a b A hn rx ry hx hy hu
   have hu0:A.units<cLine:=by omega
   have seqT:∀{ts us:List T}{l m:Addr}{vs ws:List V},sizeOf ts<n→A.units+depL ts+1<cLine→SqT X.K H l vs→SqT X.K H m ws→RepL X.K H ts vs→RepL X.K H us ws→RcAt A s (.ref l) (.ref m) (teqL ts us):=fun{ts us l m vs ws} h0 h1 h2 h3 h4 h5=>by
    obtain⟨its,r1,p1,_⟩:=I.tuple h2
    obtain⟨its2,r2,p2,_⟩:=I.tuple h3
    have l1:its.toArray.size=ts.length:=by rw[List.size_toArray,← r1.length,h4.length]
    have l2:its2.toArray.size=us.length:=by rw[List.size_toArray,← r2.length,h5.length]
    have:=RcAt.tuples (A:=A) (e:=eqJ ts us) p1 p2 hu0 fun j j1 j2=>by
     have e1:ts[j]?=some (ts[j]'(by omega)):=List.getElem?_eq_getElem _
     have e2:us[j]?=some (us[j]'(by omega)):=List.getElem?_eq_getElem _
     obtain⟨v,ev,hv⟩:=h4.get e1
     obtain⟨w,ew,hw⟩:=h5.get e2
     have e3:eqJ ts us j=teq (ts[j]'(by omega)) (us[j]'(by omega)):=by unfold eqJ;rw[e1,e2]
     rw[e3]
     exact(ih _ _ v w _ _ A.in1 (Nat.lt_of_lt_of_le (t7 e1) (Nat.le_of_lt h0)) (gm r1 j1 ev) (gm r2 j2 ew) hv hw (by have:=mj e1;show A.units+1+_<cLine;omega)).2
    rw[l1,l2,wK] at this
    exact this
   have seqL:∀{ts us:List T}{l m:Addr}{vs ws:List V},sizeOf ts<n→A.units+depL ts+1<cLine→SqL X.K H l vs→SqL X.K H m ws→RepL X.K H ts vs→RepL X.K H us ws→RcAt A s (.ref l) (.ref m) (teqL ts us):=fun{ts us l m vs ws} h0 h1 h2 h3 h4 h5=>by
    obtain⟨its,r1,p1,_⟩:=I.list h2
    obtain⟨its2,r2,p2,_⟩:=I.list h3
    have l1:its.toArray.size=ts.length:=by rw[List.size_toArray,← r1.length,h4.length]
    have l2:its2.toArray.size=us.length:=by rw[List.size_toArray,← r2.length,h5.length]
    by_cases hl:ts.length=us.length
    ·have:=RcAt.lists (A:=A) (e:=eqJ ts us) p1.isList p2.isList (by rw[l1,l2,hl]) hu0 fun j j1 j2=>by
      have e1:ts[j]?=some (ts[j]'(by omega)):=List.getElem?_eq_getElem _
      have e2:us[j]?=some (us[j]'(by omega)):=List.getElem?_eq_getElem _
      obtain⟨v,ev,hv⟩:=h4.get e1
      obtain⟨w,ew,hw⟩:=h5.get e2
      have e3:eqJ ts us j=teq (ts[j]'(by omega)) (us[j]'(by omega)):=by unfold eqJ;rw[e1,e2]
      rw[e3]
      exact(ih _ _ v w _ _ A.in1 (Nat.lt_of_lt_of_le (t7 e1) (Nat.le_of_lt h0)) (gm r1 j1 ev) (gm r2 j2 ew) hv hw (by have:=mj e1;show A.units+1+_<cLine;omega)).2
     rw[l1,mw ts us hl] at this
     exact this
    ·rw[uw hl]
     exact RcAt.lists_lengths p1.isList p2.isList (by rw[l1,l2];exact wZ hl) hu0
   have both:∀{l m:Addr}{k:Bool},x=.ref l→y=.ref m→teq t u=k→RcAt A s (.ref l) (.ref m) k→RcAt A s (.ref l) (.ref m) k∧EqAt A s (.ref l) (.ref m) k:=fun{l m k} ex ey ek h=>by
    refine⟨h,?_⟩
    by_cases e:l=m
    ·subst e
     subst ex ey
     have:k=true:=by rw[← ek];exact sZ I hx hy
     rw[this];exact EqAt.same _
    ·exact EqAt.of_refs e h
   cases t with
   | non =>
     cases hx.n;cases rx
     cases u with
     | non=>cases hy.n;cases ry;exact⟨.none_none,.same _⟩
     | bl c=>cases hy.b;cases ry;exact⟨.none_bool c,.none_bool c⟩
     | int c=>cases hy.i;obtain⟨k,rfl⟩:=ry;exact⟨.none_int c k,.none_int c k⟩
     | str c=>cases hy.s;obtain⟨k,rfl⟩:=ry;exact⟨.none_str c k,.none_str c k⟩
     | tup us=>unfold Rep at hy;obtain⟨m,ws,rfl,q2,q3⟩:=hy;cases ry;obtain⟨_,_,p,_⟩:=I.tuple q2;exact⟨.none_tuple p hu0,.none_tuple p hu0⟩
     | lst us=>unfold Rep at hy;obtain⟨m,ws,rfl,q2,q3⟩:=hy;cases ry;obtain⟨_,_,p,_⟩:=I.list q2;exact⟨.none_list p.isList hu0,.none_list p.isList hu0⟩
   | bl d =>
     cases hx.b;cases rx
     cases u with
     | non=>cases hy.n;cases ry;exact⟨.bool_none d,.bool_none d⟩
     | bl c=>cases hy.b;cases ry;exact⟨.bool_bool d c,.bool_bool d c⟩
     | int c=>cases hy.i;obtain⟨k,rfl⟩:=ry;exact⟨.bool_int d c k,.bool_int d c k⟩
     | str c=>cases hy.s;obtain⟨k,rfl⟩:=ry;exact⟨.bool_str d c k,.bool_str d c k⟩
     | tup us=>unfold Rep at hy;obtain⟨m,ws,rfl,q2,q3⟩:=hy;cases ry;obtain⟨_,_,p,_⟩:=I.tuple q2;exact⟨.bool_tuple d p hu0,.bool_tuple d p hu0⟩
     | lst us=>unfold Rep at hy;obtain⟨m,ws,rfl,q2,q3⟩:=hy;cases ry;obtain⟨_,_,p,_⟩:=I.list q2;exact⟨.bool_list d p.isList hu0,.bool_list d p.isList hu0⟩
   | int d =>
     cases hx.i;obtain⟨kk,rfl⟩:=rx
     cases u with
     | non=>cases hy.n;cases ry;exact⟨.int_none d kk,.int_none d kk⟩
     | bl c=>cases hy.b;cases ry;exact⟨.int_bool d kk c,.int_bool d kk c⟩
     | int c=>cases hy.i;obtain⟨k,rfl⟩:=ry;exact⟨.int_int d kk c k,.int_int d kk c k⟩
     | str c=>cases hy.s;obtain⟨k,rfl⟩:=ry;exact⟨.int_str d kk c k,.int_str d kk c k⟩
     | tup us=>unfold Rep at hy;obtain⟨m,ws,rfl,q2,q3⟩:=hy;cases ry;obtain⟨_,_,p,_⟩:=I.tuple q2;exact⟨.int_tuple d kk p hu0,.int_tuple d kk p hu0⟩
     | lst us=>unfold Rep at hy;obtain⟨m,ws,rfl,q2,q3⟩:=hy;cases ry;obtain⟨_,_,p,_⟩:=I.list q2;exact⟨.int_list d kk p.isList hu0,.int_list d kk p.isList hu0⟩
   | str d =>
     cases hx.s;obtain⟨kk,rfl⟩:=rx
     cases u with
     | non=>cases hy.n;cases ry;exact⟨.str_none d kk,.str_none d kk⟩
     | bl c=>cases hy.b;cases ry;exact⟨.str_bool d kk c,.str_bool d kk c⟩
     | int c=>cases hy.i;obtain⟨k,rfl⟩:=ry;exact⟨.str_int d kk c k,.str_int d kk c k⟩
     | str c=>cases hy.s;obtain⟨k,rfl⟩:=ry;exact⟨.str_str d kk c k,.str_str d kk c k⟩
     | tup us=>unfold Rep at hy;obtain⟨m,ws,rfl,q2,q3⟩:=hy;cases ry;obtain⟨_,_,p,_⟩:=I.tuple q2;exact⟨.str_tuple d kk p hu0,.str_tuple d kk p hu0⟩
     | lst us=>unfold Rep at hy;obtain⟨m,ws,rfl,q2,q3⟩:=hy;cases ry;obtain⟨_,_,p,_⟩:=I.list q2;exact⟨.str_list d kk p.isList hu0,.str_list d kk p.isList hu0⟩
   | tup ts =>
     have hx':=hx
     unfold Rep at hx';obtain⟨l,vs,ex,q2,q3⟩:=hx'
     have rx':a=.ref l:=by rw[ex] at rx;exact rx
     subst rx'
     obtain⟨_,_,p,_⟩:=I.tuple q2
     cases u with
     | non=>cases hy.n;cases ry;exact⟨.tuple_none p hu0,.tuple_none p hu0⟩
     | bl c=>cases hy.b;cases ry;exact⟨.tuple_bool c p hu0,.tuple_bool c p hu0⟩
     | int c=>cases hy.i;obtain⟨k,rfl⟩:=ry;exact⟨.tuple_int c k p hu0,.tuple_int c k p hu0⟩
     | str c=>cases hy.s;obtain⟨k,rfl⟩:=ry;exact⟨.tuple_str c k p hu0,.tuple_str c k p hu0⟩
     | tup us =>
       have hy':=hy
       unfold Rep at hy';obtain⟨m,ws,ey,w2,w3⟩:=hy'
       have ry':b=.ref m:=by rw[ey] at ry;exact ry
       subst ry'
       exact both ex ey rfl (seqT (by simp at hn;omega) (by simp only[dep] at hu;omega) q2 w2 q3 w3)
     | lst us =>
       have hy':=hy
       unfold Rep at hy';obtain⟨m,ws,ey,w2,w3⟩:=hy'
       have ry':b=.ref m:=by rw[ey] at ry;exact ry
       subst ry'
       obtain⟨_,_,p',_⟩:=I.list w2
       exact⟨.tuple_list p p'.isList hu0,.tuple_list p p'.isList hu0⟩
   | lst ts =>
     have hx':=hx
     unfold Rep at hx';obtain⟨l,vs,ex,q2,q3⟩:=hx'
     have rx':a=.ref l:=by rw[ex] at rx;exact rx
     subst rx'
     obtain⟨_,_,p,_⟩:=I.list q2
     cases u with
     | non=>cases hy.n;cases ry;exact⟨.list_none p.isList hu0,.list_none p.isList hu0⟩
     | bl c=>cases hy.b;cases ry;exact⟨.list_bool c p.isList hu0,.list_bool c p.isList hu0⟩
     | int c=>cases hy.i;obtain⟨k,rfl⟩:=ry;exact⟨.list_int c k p.isList hu0,.list_int c k p.isList hu0⟩
     | str c=>cases hy.s;obtain⟨k,rfl⟩:=ry;exact⟨.list_str c k p.isList hu0,.list_str c k p.isList hu0⟩
     | lst us =>
       have hy':=hy
       unfold Rep at hy';obtain⟨m,ws,ey,w2,w3⟩:=hy'
       have ry':b=.ref m:=by rw[ey] at ry;exact ry
       subst ry'
       exact both ex ey rfl (seqL (by simp at hn;omega) (by simp only[dep] at hu;omega) q2 w2 q3 w3)
     | tup us =>
       have hy':=hy
       unfold Rep at hy';obtain⟨m,ws,ey,w2,w3⟩:=hy'
       have ry':b=.ref m:=by rw[ey] at ry;exact ry
       subst ry'
       obtain⟨_,_,p',_⟩:=I.tuple w2
       exact⟨.list_tuple p.isList p' hu0,.list_tuple p.isList p' hu0⟩
end
end TL
namespace TL
open PySem L2
mutual
def nrm:T→T
 | .bl b=>.int (b2 b)
 | .tup as=>.tup (nrmL as)
 | .lst as=>.lst (nrmL as)
 | t=>t
def nrmL:List T→List T
 | []=>[]
 | a::as=>nrm a::nrmL as
end
theorem A9 {a b:Bool}(h:b2 a=b2 b):a=b:=by cases a<;>cases b<;>first|rfl|(exact absurd h (by decide))
mutual
theorem nP:∀ t u:T,teq t u=true↔nrm t=nrm u
 | .non,u=>by cases u<;>simp [teq,nrm]
 | .bl a,u=>by
   cases u<;>simp [teq,nrm]
   exact⟨fun h=>by rw[h],A9⟩
 | .int a,u=>by cases u<;>simp [teq,nrm]
 | .str a,u=>by cases u<;>simp [teq,nrm]
 | .tup as,u=>by
   cases u with
   | tup bs=>simp only[teq,nrm];rw[uv as bs];exact⟨fun h=>by rw[h],fun h=>by injection h⟩
   | _=>simp [teq,nrm]
 | .lst as,u=>by
   cases u with
   | lst bs=>simp only[teq,nrm];rw[uv as bs];exact⟨fun h=>by rw[h],fun h=>by injection h⟩
   | _=>simp [teq,nrm]
theorem uv:∀ t u:List T,teqL t u=true↔nrmL t=nrmL u
 | [],[]=>by simp [teqL,nrmL]
 | [],_::_=>by simp [teqL,nrmL]
 | _::_,[]=>by simp [teqL,nrmL]
 | a::as,b::bs=>by
   simp only[teqL,nrmL,Bool.and_eq_true]
   rw[nP a b,uv as bs]
   exact⟨fun h=>by rw[h.1,h.2],fun h=>by injection h with h1 h2;exact⟨h1,h2⟩⟩
end
theorem K1 {t u w:T}(h:teq t u=true):teq t w=teq u w:=by
 rw[Bool.eq_iff_iff,nP,nP,(nP t u).mp h]
def tAdd:T→T→Option T
 | .int i,.int j=>some (.int (i+j))
 | .str x,.str y=>if x.length+y.length≤sizeLine then some (.str (x++y)) else none
 | .tup a,.tup b=>if a.length+b.length≤sizeLine then some (.tup (a++b)) else none
 | .lst a,.lst b=>if a.length+b.length≤sizeLine then some (.lst (a++b)) else none
 | _,_=>none
def tSub:T→T→Option T
 | .int i,.int j=>some (.int (i - j))
 | _,_=>none
def gj (i j:Int):Bool:=(decide (-(2 ^ 64)<i)&&decide (i<2 ^ 64))||(decide (-(2 ^ 64)<j)&&decide (j<2 ^ 64))
def tMul:T→T→Option T
 | .int i,.int j=>if gj i j=true then some (.int (i * j)) else none
 | .tup a,.int k=>if 0≤k∧k<1000000∧a.length * k.toNat≤sizeLine then some (.tup (List.replicate k.toNat a).flatten) else none
 | _,_=>none
def tFd:T→T→Option T
 | .int i,.int j=>if 0<j∧j<1073741824 then some (.int (i / j)) else none
 | _,_=>none
def tMd:T→T→Option T
 | .int i,.int j=>if 0<j then some (.int (i % j)) else none
 | _,_=>none
def tLtI:T→T→Option T
 | .int i,.int j=>some (.bl (decide (i<j)))
 | _,_=>none
def tLeI:T→T→Option T
 | .int i,.int j=>some (.bl (decide (i≤j)))
 | _,_=>none
def tGtI:T→T→Option T
 | .int i,.int j=>some (.bl (decide (j<i)))
 | _,_=>none
def tGeI:T→T→Option T
 | .int i,.int j=>some (.bl (decide (j≤i)))
 | _,_=>none
def tEqq (t u:T):Option T:=if dep t≤60 then some (.bl (teq t u)) else none
def tNee (t u:T):Option T:=if dep t≤60 then some (.bl (!teq t u)) else none
def tInn (neg:Bool)(x:T):T→Option T
 | .tup ts=>if (ts.all fun y=>decide (dep y≤60))=true then some (.bl (if neg then !(ts.any fun y=>teq y x) else ts.any fun y=>teq y x)) else none
 | .lst ts=>if (ts.all fun y=>decide (dep y≤60))=true then some (.bl (if neg then !(ts.any fun y=>teq y x) else ts.any fun y=>teq y x)) else none
 | _=>none
section
variable {X:Cx}
theorem oI {f:Value→Value→Sem Value}{C:Int→Int→Prop}{g:Int→Int→T}{gv:Int→Int→V}{fn:T→T→Option T}(hg:∀ i j K H,Rep K H (g i j) (gv i j)) (h:OpR X f (rI C gv))
  (hf:∀ t u w,fn t u=some w→∃ i j,t=.int i∧u=.int j∧C i j∧w=g i j):Op2 X f fn:=by
 intro pins s σ Hq H t u w x y v v' Q I rx ry sb r1 r2 e k
 obtain⟨i,j,rfl,rfl,hc,rfl⟩:=hf t u w e
 cases r1.int;cases r2.int
 exact h pins s σ H _ _ v v' Q I rx ry ⟨i,j,rfl,rfl,hc,k _ Hq H (.refl sb) (hg i j _ _)⟩
theorem oI0 {f:Value→Value→Sem Value}{g:Int→Int→T}{gv:Int→Int→V}{fn:T→T→Option T}(hg:∀ i j K H,Rep K H (g i j) (gv i j)) (h:OpR X f (rI0 gv))
  (hf:∀ t u w,fn t u=some w→∃ i j,t=.int i∧u=.int j∧w=g i j):Op2 X f fn:=by
 intro pins s σ Hq H t u w x y v v' Q I rx ry sb r1 r2 e k
 obtain⟨i,j,rfl,rfl,rfl⟩:=hf t u w e
 cases r1.int;cases r2.int
 exact h pins s σ H _ _ v v' Q I rx ry ⟨i,j,rfl,rfl,k _ Hq H (.refl sb) (hg i j _ _)⟩
theorem o_fd:Op2 X (binaryOp .FloorDiv) tFd:=oI (g:=fun i j=>.int (i / j)) (fun _ _ _ _=>cj) GU fun t u w e=>by
 cases t<;>cases u<;>simp [tFd] at e;exact⟨_,_,rfl,rfl,e.1,e.2.symm⟩
theorem o_md:Op2 X (binaryOp .Mod) tMd:=oI (g:=fun i j=>.int (i % j)) (fun _ _ _ _=>cj) GZ fun t u w e=>by
 cases t<;>cases u<;>simp [tMd] at e;exact⟨_,_,rfl,rfl,e.1,e.2.symm⟩
theorem o_lt:Op2 X (compareOp .Lt) tLtI:=oI0 (g:=fun i j=>.bl (decide (i<j))) (fun _ _ _ _=>bD) GY fun t u w e=>by
 cases t<;>cases u<;>simp [tLtI] at e;exact⟨_,_,rfl,rfl,e.symm⟩
theorem o_le:Op2 X (compareOp .LtE) tLeI:=oI0 (g:=fun i j=>.bl (decide (i≤j))) (fun _ _ _ _=>bD) GW fun t u w e=>by
 cases t<;>cases u<;>simp [tLeI] at e;exact⟨_,_,rfl,rfl,e.symm⟩
theorem o_gt:Op2 X (compareOp .Gt) tGtI:=oI0 (g:=fun i j=>.bl (decide (j<i))) (fun _ _ _ _=>bD) GV fun t u w e=>by
 cases t<;>cases u<;>simp [tGtI] at e;exact⟨_,_,rfl,rfl,e.symm⟩
theorem K9 {prog:Program}{w:World}{A:Around}{E:Value→Shared→Prop}{s:Shared}{t b:Addr}{vs ws:List Value}{Q:Value→Shared→Prop}(ht:PyProof.Rows.IsTup s.heap t vs.toArray)(hb:PyProof.Rows.IsTup s.heap b ws.toArray)
  (h0:vs=[]→Q (.ref b) s) (h1:ws=[]→Q (.ref t) s) (h2:Q (.ref s.heap.objs.size) {s with heap:=s.heap.push {cls:=.type "tuple",data:=.seq (vs++ws).toArray}})
  (hsz:vs.length+ws.length≤sizeLine):wpAny (model prog w) A (binaryOp .Add (.ref t) (.ref b)) Q E s:=by
 by_cases hv:vs=[]
 ·obtain⟨⟨cls,dd,data,sl⟩,ho,hc,n,hd⟩:=id ht
  obtain⟨⟨cls2,dd2,data2,sl2⟩,ho2,hc2,n2,hd2⟩:=id hb
  simp only at hc hd hc2 hd2
  subst hc hd hc2 hd2
  exact PySem.concat_meets ⟨_,ho,rfl⟩ ⟨_,ho2,rfl⟩ noFill_tuple_add seq_tuple_add PySem.F.slot_tuple_add PySem.F.entry_tuple_add (PySem.F.args_tuple_add_2 _ _)
   (PyProof.Rows.tuple_addW0 t b vs.toArray ws.toArray n n2 dd dd2 sl sl2 (by simp [hv])) ⟨ho,ho2,h0 hv⟩
 ·exact HT.BL ht hb hv h1 (fun _=>h2) hsz
theorem bh:Op2 X (binaryOp .Add) tAdd:=by
 intro pins s σ Hq H t u w x y v v' Q I rx ry sb r1 r2 e k
 cases t with
 | int i =>
   cases u with
   | int j =>
     cases r1.int;cases r2.int
     simp only[tAdd,Option.some.injEq] at e
     subst e
     exact GR pins s σ H _ _ v v' Q I rx ry ⟨i,j,rfl,rfl,k _ Hq H (.refl sb) cj⟩
   | _=>simp [tAdd] at e
 | str i =>
   cases u with
   | str j =>
     cases r1.str;cases r2.str
     simp only[tAdd] at e
     split at e
     ·rename_i hl
      cases e
      exact GS pins s σ H _ _ v v' Q I rx ry ⟨i,j,rfl,rfl,hl,k _ Hq H (.refl sb) nu⟩
     ·cases e
   | _=>simp [tAdd] at e
 | tup as =>
   cases u with
   | tup bs =>
     simp only[tAdd] at e
     split at e
     ·rename_i hl
      cases e
      obtain⟨a,vs,rfl,q1,q2⟩:=r1.tup sb
      obtain⟨b,ws,rfl,q3,q4⟩:=r2.tup sb
      cases rx;cases ry
      obtain⟨its,r1',p1,_⟩:=I.tuple q1
      obtain⟨its2,r2',p2,_⟩:=I.tuple q3
      have hl':vs.length+ws.length≤sizeLine:=by rw[← q2.length,← q4.length];exact hl
      refine K9 p1 p2 (fun z=>?_) (fun z=>?_) ?_ (by rw[← r1'.length,← r2'.length];exact hl')
      ·have:as=[]:=List.eq_nil_of_length_eq_zero (by rw[q2.length,r1'.length,z];rfl)
       subst this
       rcases r2 with r2|⟨_,_,_,_,z,_⟩
       ·exact⟨.ref b,H,I,rfl,k _ Hq H (.refl sb) r2⟩
       ·cases z
      ·have:bs=[]:=List.eq_nil_of_length_eq_zero (by rw[q4.length,r2'.length,z];rfl)
       subst this
       rw[List.append_nil] at k
       rcases r1 with r1|⟨_,_,_,_,z,_⟩
       ·exact⟨.ref a,H,I,rfl,k _ Hq H (.refl sb) r1⟩
       ·cases z
      ·refine⟨.ref s.heap.objs.size,_,I.laid (t':=s.toks) (o:=.tup (vs++ws)) (fun b ob q=>Heap.get?_push_of_some _ q) (Nat.le_refl _) ⟨by rw[List.length_append];exact hl',_,r1'.append r2',PyProof.Rows.IsTup.new _ _⟩,rfl,k _ _ _ (.new sb I.fresh) (gn (sb.free I.fresh) (q2.append q4))⟩
     ·cases e
   | _=>simp [tAdd] at e
 | lst as =>
   cases u with
   | lst bs =>
     simp only[tAdd] at e
     split at e
     ·rename_i hl
      cases e
      obtain⟨a,vs,rfl,q1,q2⟩:=r1.lst sb
      obtain⟨b,ws,rfl,q3,q4⟩:=r2.lst sb
      cases rx;cases ry
      obtain⟨its,r1',p1,_⟩:=I.list q1
      obtain⟨its2,r2',p2,_⟩:=I.list q3
      have hl':vs.length+ws.length≤sizeLine:=by rw[← q2.length,← q4.length];exact hl
      obtain⟨⟨cls,dd,data,sl⟩,ho,hc,n,hd⟩:=id p1.isList
      obtain⟨⟨cls2,dd2,data2,sl2⟩,ho2,hc2,n2,hd2⟩:=id p2.isList
      simp only at hc hd hc2 hd2
      subst hc hd hc2 hd2
      refine PySem.concat_meets ⟨_,ho,rfl⟩ ⟨_,ho2,rfl⟩ noFill_list_add seq_list_add PySem.F.slot_list_add PySem.F.entry_list_add (PySem.F.args_list_add_2 _ _)
       (PyProof.Rows.list_addW a b its.toArray its2.toArray n n2 dd dd2 sl sl2 (by rw[List.size_toArray,List.size_toArray,← r1'.length,← r2'.length];exact hl')) ⟨ho,ho2,?_⟩
      have ea:its.toArray++its2.toArray=(its++its2).toArray:=by simp
      rw[ea]
      exact⟨.ref _,_,I.lnew (t':=s.toks) (r1'.append r2') (by rw[List.length_append];exact hl'),rfl,k _ _ _ (.new sb I.fresh) (nt (sb.free I.fresh) (q2.append q4))⟩
     ·cases e
   | _=>simp [tAdd] at e
 | non=>simp [tAdd] at e
 | bl _=>simp [tAdd] at e
theorem o_eq (hu:X.A.units+64<cLine):Op2 X (compareOp .Eq) tEqq:=by
 intro pins s σ Hq H t u w x y v v' Q I rx ry sb r1 r2 e k
 simp only[tEqq] at e
 split at e
 ·rename_i hd
  cases e
  have:=(qt I (sizeOf t+1) t u x y v v' X.A (by omega) rx ry (r1.rep sb) (r2.rep sb) (by omega)).1
  exact this X.prog X.w X.xe _ ⟨.bl (teq t u),H,I,rfl,k _ Hq H (.refl sb) bD⟩
 ·cases e
end
end TL
namespace TL
open PySem L2 SeqAt
section
variable {X:Cx}{pins:List (Addr×Obj)}{σ:L2.St}{H:Hp}{s:Shared}
theorem F7 (I:Inv X pins σ H s)(t u:T)(x y:V)(a b:Value)(A:Around)(rx:RelV x a)(ry:RelV y b)(hx:Rep X.K H t x)(hy:Rep X.K H u y)(hu:A.units+dep t<cLine) :
  RcNeAt A s a b (!teq t u):=by
 have hu0:A.units<cLine:=by omega
 have el:∀{ts us:List T}{vs ws:List V}{its its2:List Value},A.units+depL ts+1<cLine→Vals vs its→Vals ws its2→RepL X.K H ts vs→RepL X.K H us ws →
   ∀ j (h1:j<its.toArray.size)(h2:j<its2.toArray.size),EqAt A.in1 s its.toArray[j] its2.toArray[j] (eqJ ts us j):=fun{ts us vs ws its its2} h1 r1 r2 h4 h5 j j1 j2=>by
  have l1:its.toArray.size=ts.length:=by rw[List.size_toArray,← r1.length,h4.length]
  have l2:its2.toArray.size=us.length:=by rw[List.size_toArray,← r2.length,h5.length]
  have e1:ts[j]?=some (ts[j]'(by omega)):=List.getElem?_eq_getElem _
  have e2:us[j]?=some (us[j]'(by omega)):=List.getElem?_eq_getElem _
  obtain⟨v,ev,hv⟩:=h4.get e1
  obtain⟨w,ew,hw⟩:=h5.get e2
  have e3:eqJ ts us j=teq (ts[j]'(by omega)) (us[j]'(by omega)):=by unfold eqJ;rw[e1,e2]
  rw[e3]
  exact(qt I _ _ _ v w _ _ A.in1 (Nat.lt_succ_self _) (gm r1 j1 ev) (gm r2 j2 ew) hv hw (by have:=mj e1;show A.units+1+_<cLine;omega)).2
 have seqT:∀{ts us:List T}{l m:Addr}{vs ws:List V},A.units+depL ts+1<cLine→SqT X.K H l vs→SqT X.K H m ws→RepL X.K H ts vs→RepL X.K H us ws→RcNeAt A s (.ref l) (.ref m) (!teqL ts us):=fun{ts us l m vs ws} h1 h2 h3 h4 h5=>by
  obtain⟨its,r1,p1,_⟩:=I.tuple h2
  obtain⟨its2,r2,p2,_⟩:=I.tuple h3
  have l1:its.toArray.size=ts.length:=by rw[List.size_toArray,← r1.length,h4.length]
  have l2:its2.toArray.size=us.length:=by rw[List.size_toArray,← r2.length,h5.length]
  have:=RcNeAt.tuples (A:=A) (e:=eqJ ts us) p1 p2 hu0 (el h1 r1 r2 h4 h5)
  rw[l1,l2,wK] at this
  exact this
 have seqL:∀{ts us:List T}{l m:Addr}{vs ws:List V},A.units+depL ts+1<cLine→SqL X.K H l vs→SqL X.K H m ws→RepL X.K H ts vs→RepL X.K H us ws→RcNeAt A s (.ref l) (.ref m) (!teqL ts us):=fun{ts us l m vs ws} h1 h2 h3 h4 h5=>by
  obtain⟨its,r1,p1,_⟩:=I.list h2
  obtain⟨its2,r2,p2,_⟩:=I.list h3
  have l1:its.toArray.size=ts.length:=by rw[List.size_toArray,← r1.length,h4.length]
  have l2:its2.toArray.size=us.length:=by rw[List.size_toArray,← r2.length,h5.length]
  by_cases hl:ts.length=us.length
  ·have:=RcNeAt.lists (A:=A) (e:=eqJ ts us) p1.isList p2.isList (by rw[l1,l2,hl]) hu0 (el h1 r1 r2 h4 h5)
   rw[l1,mw ts us hl] at this
   exact this
  ·rw[uw hl]
   exact RcNeAt.lists_lengths p1.isList p2.isList (by rw[l1,l2];exact wZ hl) hu0
 cases t with
 | non  =>
   cases hx.n;cases rx
   cases u with
   | non  => cases hy.n;cases ry;exact .none_none
   | bl c=>cases hy.b;cases ry;exact .none_bool c
   | int c=>cases hy.i;obtain⟨k,rfl⟩:=ry;exact .none_int c k
   | str c=>cases hy.s;obtain⟨k,rfl⟩:=ry;exact .none_str c k
   | tup us=>unfold Rep at hy;obtain⟨m,ws,rfl,w2,w3⟩:=hy;cases ry;obtain⟨_,_,p',_⟩:=I.tuple w2;exact .none_tuple p' hu0
   | lst us=>unfold Rep at hy;obtain⟨m,ws,rfl,w2,w3⟩:=hy;cases ry;obtain⟨_,_,p',_⟩:=I.list w2;exact .none_list p'.isList hu0
 | bl d =>
   cases hx.b;cases rx
   cases u with
   | non  => cases hy.n;cases ry;exact .bool_none d
   | bl c=>cases hy.b;cases ry;exact .bool_bool d c
   | int c=>cases hy.i;obtain⟨k,rfl⟩:=ry;exact .bool_int d c k
   | str c=>cases hy.s;obtain⟨k,rfl⟩:=ry;exact .bool_str d c k
   | tup us=>unfold Rep at hy;obtain⟨m,ws,rfl,w2,w3⟩:=hy;cases ry;obtain⟨_,_,p',_⟩:=I.tuple w2;exact .bool_tuple d p' hu0
   | lst us=>unfold Rep at hy;obtain⟨m,ws,rfl,w2,w3⟩:=hy;cases ry;obtain⟨_,_,p',_⟩:=I.list w2;exact .bool_list d p'.isList hu0
 | int d =>
   cases hx.i;obtain⟨kk,rfl⟩:=rx
   cases u with
   | non  => cases hy.n;cases ry;exact .int_none d kk
   | bl c=>cases hy.b;cases ry;exact .int_bool d kk c
   | int c=>cases hy.i;obtain⟨k,rfl⟩:=ry;exact .int_int d kk c k
   | str c=>cases hy.s;obtain⟨k,rfl⟩:=ry;exact .int_str d kk c k
   | tup us=>unfold Rep at hy;obtain⟨m,ws,rfl,w2,w3⟩:=hy;cases ry;obtain⟨_,_,p',_⟩:=I.tuple w2;exact .int_tuple d kk p' hu0
   | lst us=>unfold Rep at hy;obtain⟨m,ws,rfl,w2,w3⟩:=hy;cases ry;obtain⟨_,_,p',_⟩:=I.list w2;exact .int_list d kk p'.isList hu0
 | str d =>
   cases hx.s;obtain⟨kk,rfl⟩:=rx
   cases u with
   | non  => cases hy.n;cases ry;exact .str_none d kk
   | bl c=>cases hy.b;cases ry;exact .str_bool d kk c
   | int c=>cases hy.i;obtain⟨k,rfl⟩:=ry;exact .str_int d kk c k
   | str c=>cases hy.s;obtain⟨k,rfl⟩:=ry;exact .str_str d kk c k
   | tup us=>unfold Rep at hy;obtain⟨m,ws,rfl,w2,w3⟩:=hy;cases ry;obtain⟨_,_,p',_⟩:=I.tuple w2;exact .str_tuple d kk p' hu0
   | lst us=>unfold Rep at hy;obtain⟨m,ws,rfl,w2,w3⟩:=hy;cases ry;obtain⟨_,_,p',_⟩:=I.list w2;exact .str_list d kk p'.isList hu0
 | tup ts =>
   unfold Rep at hx;obtain⟨l,vs,rfl,q2,q3⟩:=hx;cases rx
   obtain⟨_,_,p,_⟩:=I.tuple q2
   cases u with
   | non  => cases hy.n;cases ry;exact .tuple_none p hu0
   | bl c=>cases hy.b;cases ry;exact .tuple_bool c p hu0
   | int c=>cases hy.i;obtain⟨k,rfl⟩:=ry;exact .tuple_int c k p hu0
   | str c=>cases hy.s;obtain⟨k,rfl⟩:=ry;exact .tuple_str c k p hu0
   | tup us=>unfold Rep at hy;obtain⟨m,ws,rfl,w2,w3⟩:=hy;cases ry;obtain⟨_,_,p',_⟩:=I.tuple w2;exact seqT (by simp only[dep] at hu;omega) q2 w2 q3 w3
   | lst us=>unfold Rep at hy;obtain⟨m,ws,rfl,w2,w3⟩:=hy;cases ry;obtain⟨_,_,p',_⟩:=I.list w2;exact .tuple_list p p'.isList hu0
 | lst ts =>
   unfold Rep at hx;obtain⟨l,vs,rfl,q2,q3⟩:=hx;cases rx
   obtain⟨_,_,p,_⟩:=I.list q2
   cases u with
   | non  => cases hy.n;cases ry;exact .list_none p.isList hu0
   | bl c=>cases hy.b;cases ry;exact .list_bool c p.isList hu0
   | int c=>cases hy.i;obtain⟨k,rfl⟩:=ry;exact .list_int c k p.isList hu0
   | str c=>cases hy.s;obtain⟨k,rfl⟩:=ry;exact .list_str c k p.isList hu0
   | tup us=>unfold Rep at hy;obtain⟨m,ws,rfl,w2,w3⟩:=hy;cases ry;obtain⟨_,_,p',_⟩:=I.tuple w2;exact .list_tuple p.isList p' hu0
   | lst us=>unfold Rep at hy;obtain⟨m,ws,rfl,w2,w3⟩:=hy;cases ry;obtain⟨_,_,p',_⟩:=I.list w2;exact seqL (by simp only[dep] at hu;omega) q2 w2 q3 w3
end
section
variable {X:Cx}
theorem o_ne (hu:X.A.units+64<cLine):Op2 X (compareOp .NotEq) tNee:=by
 intro pins s σ Hq H t u w x y v v' Q I rx ry sb r1 r2 e k
 simp only[tNee] at e
 split at e
 ·rename_i hd
  cases e
  have:=F7 I t u x y v v' X.A rx ry (r1.rep sb) (r2.rep sb) (by omega)
  exact this X.prog X.w X.xe _ ⟨.bl (!teq t u),H,I,rfl,k _ Hq H (.refl sb) bD⟩
 ·cases e
theorem mW {pins:List (Addr×Obj)}{σ:L2.St}{H:Hp}{s:Shared}{A:Around}(I:Inv X pins σ H s){ts:List T}{vs:List V}{its:List Value}{u:T}{y:V}{b:Value}(hu:A.units+62<cLine)(hd:(ts.all fun y=>decide (dep y≤60))=true)
  (r:Vals vs its)(q:RepL X.K H ts vs)(ry:RelV y b)(hy:Rep X.K H u y):∃ e:Value→Bool,(∀ w,w∈its.toArray→EqAt A.in1 s w b (e w))∧its.toArray.any e=ts.any fun t=>teq t u:=by
 classical
 let e:Value→Bool:=fun w=>decide (∃(j:Nat)(t:T),its[j]?=some w∧ts[j]?=some t∧teq t u=true)
 have len:its.length=ts.length:=by rw[← r.length,q.length]
 have key:∀(j:Nat)(w:Value)(t:T),its[j]?=some w→ts[j]?=some t→e w=teq t u:=fun j w t h1 h2=>by
  cases h:teq t u with
  | true=>exact decide_eq_true ⟨j,t,h1,h2,h⟩
  | false =>
    refine decide_eq_false ?_
    rintro⟨j',t',h1',h2',h'⟩
    obtain⟨v1,e1,g1⟩:=q.get h2
    obtain⟨v2,e2,g2⟩:=q.get h2'
    obtain⟨w1,f1,k1⟩:=r.get e1
    obtain⟨w2,f2,k2⟩:=r.get e2
    rw[h1] at f1;cases f1
    rw[h1'] at f2;cases f2
    have:v1=v2:=k1.inj k2
    subst this
    have:=K1 (w:=u) (sZ I g1 g2)
    rw[h,h'] at this;cases this
 refine⟨e,fun w hw=>?_,?_⟩
 ·obtain⟨j,hj,rfl⟩:=Array.mem_iff_getElem.mp hw
  have hj':j<its.length:=by simpa using hj
  have e1:its[j]?=some its.toArray[j]:=by rw[List.getElem_toArray];exact List.getElem?_eq_getElem _
  have e2:ts[j]?=some (ts[j]'(by omega)):=List.getElem?_eq_getElem _
  obtain⟨v,ev,hv⟩:=q.get e2
  rw[key j _ _ e1 e2]
  have hdt:dep (ts[j]'(by omega))≤60:=by
   have:=List.all_eq_true.mp hd _ (List.getElem_mem (by omega:j<ts.length))
   exact of_decide_eq_true this
  exact(qt I _ _ _ v y _ _ A.in1 (Nat.lt_succ_self _) (gm r hj ev) ry hv hy (by show A.units+1+_<cLine;omega)).2
 ·rw[Bool.eq_iff_iff]
  rw[Array.any_eq_true]
  rw[List.any_eq_true]
  constructor
  ·rintro⟨j,hj,h⟩
   have hj':j<its.length:=by simpa using hj
   have e1:its[j]?=some its.toArray[j]:=by rw[List.getElem_toArray];exact List.getElem?_eq_getElem _
   have e2:ts[j]?=some (ts[j]'(by omega)):=List.getElem?_eq_getElem _
   rw[key j _ _ e1 e2] at h
   exact⟨_,List.getElem_mem _,h⟩
  ·rintro⟨t,ht,h⟩
   obtain⟨j,hj,rfl⟩:=List.mem_iff_getElem.mp ht
   have hj':j<its.length:=by omega
   have e1:its[j]?=some its.toArray[j]:=by rw[List.getElem_toArray];exact List.getElem?_eq_getElem _
   refine⟨j,by simpa using hj',?_⟩
   rw[key j _ _ e1 (List.getElem?_eq_getElem hj)];exact h
theorem o_in (hu:X.A.units+64<cLine):Op2 X (compareOp .In) (tInn false):=by
 intro pins s σ Hq H t u w x y v v' Q I rx ry sb r1 r2 e k
 have hx:=r1.rep sb
 cases u with
 | tup ts =>
   simp only[tInn] at e
   split at e
   ·rename_i hd
    cases e
    obtain⟨a,vs,rfl,q1,q2⟩:=r2.tup sb
    cases ry
    obtain⟨its,r,p,_⟩:=I.tuple q1
    obtain⟨ee,h1,h2⟩:=mW (A:=X.A) I (by omega) hd r (q2.mono sb) rx hx
    refine in_tupleAt ee p h1 ?_
    rw[h2]
    exact⟨.bl _,H,I,rfl,k _ Hq H (.refl sb) bD⟩
   ·cases e
 | lst ts =>
   simp only[tInn] at e
   split at e
   ·rename_i hd
    cases e
    obtain⟨a,vs,rfl,q1,q2⟩:=r2.lst sb
    cases ry
    obtain⟨its,r,p,_⟩:=I.list q1
    obtain⟨ee,h1,h2⟩:=mW (A:=X.A) I (by omega) hd r (q2.mono sb) rx hx
    refine in_listAt ee p.isList h1 ?_
    rw[h2]
    exact⟨.bl _,H,I,rfl,k _ Hq H (.refl sb) bD⟩
   ·cases e
 | _=>simp [tInn] at e
theorem je (hu:X.A.units+64<cLine):Op2 X (compareOp .NotIn) (tInn true):=by
 intro pins s σ Hq H t u w x y v v' Q I rx ry sb r1 r2 e k
 have hx:=r1.rep sb
 cases u with
 | tup ts =>
   simp only[tInn] at e
   split at e
   ·rename_i hd
    cases e
    obtain⟨a,vs,rfl,q1,q2⟩:=r2.tup sb
    cases ry
    obtain⟨its,r,p,_⟩:=I.tuple q1
    obtain⟨ee,h1,h2⟩:=mW (A:=X.A) I (by omega) hd r (q2.mono sb) rx hx
    refine notIn_tupleAt ee p h1 ?_
    rw[h2]
    exact⟨.bl _,H,I,rfl,k _ Hq H (.refl sb) bD⟩
   ·cases e
 | lst ts =>
   simp only[tInn] at e
   split at e
   ·rename_i hd
    cases e
    obtain⟨a,vs,rfl,q1,q2⟩:=r2.lst sb
    cases ry
    obtain⟨its,r,p,_⟩:=I.list q1
    obtain⟨ee,h1,h2⟩:=mW (A:=X.A) I (by omega) hd r (q2.mono sb) rx hx
    refine notIn_listAt ee p.isList h1 ?_
    rw[h2]
    exact⟨.bl _,H,I,rfl,k _ Hq H (.refl sb) bD⟩
   ·cases e
 | _=>simp [tInn] at e
end
end TL
namespace TL
open PySem L2
section
variable {prog:Program}{w:World}{A:Around}{E:Value→Shared→Prop}{s:Shared}
theorem K6 {t:Addr}{items:Array Value}{Q:Bool→Shared→Prop}(ht:PyProof.Rows.IsTup s.heap t items)(h:Q true s):wpAny (model prog w) A (Builtin.Tuple.tupleIsExact (.ref t)) Q E s:=by
 unfold Builtin.Tuple.tupleIsExact
 exact wpAny_bind (wpAny_typeOf ht.typeIs (wpAny_pure h))
theorem Ge:fillsNumberSlot (.type "tuple") "mul"=pure false :=
 fillsNumberSlot_seq (id:="tuple.__mul__") (r:=some (.builtin "tuple.__rmul__")) F.slot_tuple_mul.lookup (by decide +kernel) F.slot_tuple_rmul.lookup (by decide +kernel)
theorem Ir:seqRepeat? (.type "tuple")=pure (some (.builtin "tuple.__mul__")):=by
 unfold seqRepeat?
 rw[seqSlot_of (T:="tuple") (name:="__mul__") (id:="tuple.__mul__") F.slot_tuple_mul.lookup (by decide +kernel),seqSlot_of (T:="tuple") (name:="__rmul__") (id:="tuple.__rmul__") F.slot_tuple_rmul.lookup (by decide +kernel)]
 rfl
theorem Eu (a:Int)(t:Tok)(l:Addr)(items:Array Value) (n:Nat)(dd:Option Addr)(sl:Array (Option Value)) :
  Meets (Builtin.«int.__rmul__» ⟨[.int a t,.ref l],[]⟩) (fun _ R s=>s.heap.get? l=some {cls:=.type "tuple",dict:=dd,data:=.seq items n,slots:=sl}∧R (.ok (.ret Value.notImplemented)) s) :=
 .of_wp fun prog w A R s h=>by obtain⟨hp,g,d,tk,os⟩:=s;obtain⟨hl,h⟩:=h;wp_walk;exact⟨_,rfl,h⟩
theorem Lb (l:Addr)(items:Array Value) (n:Nat)(dd:Option Addr)(sl:Array (Option Value)) (k:Int)(t:Tok)(h1 : -(2 ^ 63)≤k) (h2:k<2 ^ 63)(hc:(items.isEmpty||k==1)=true) :
  Meets (Builtin.«tuple.__mul__» ⟨[.ref l,.int k t],[]⟩) (fun _ R s=>s.heap.get? l=some {cls:=.type "tuple",dict:=dd,data:=.seq items n,slots:=sl}∧R (.ok (.ret (.ref l))) s) :=
 .of_wp fun prog w A R s h=>by
  obtain⟨hp,g,d,tk,os⟩:=s;obtain⟨hl,h⟩:=h
  have ht:PyProof.Rows.IsTup hp l items:=⟨_,hl,rfl,n,rfl⟩
  have f1:=AutoSeq1.idx_int
  have f2:(decide (k < -(2 ^ 63))||decide (k≥2 ^ 63))=false:=by
   rw[decide_eq_false (by omega),decide_eq_false (by omega)];rfl
  wp_walk using AutoSeq1.wpAny_loadPart' hl
  show wpAny _ _ (if (decide (k < -(2 ^ 63))||decide (k≥2 ^ 63))=true then _ else _) _ _ _
  rw[f2,if_neg Bool.false_ne_true]
  refine wpAny_bind (PyProof.Rows.tupleItemsOf_ ht ?_)
  show wpAny _ _ (if (items.isEmpty||k==1)=true then _ else _) _ _ _
  rw[if_pos hc]
  refine wpAny_bind (K6 ht ?_)
  show wpAny _ _ (if true=true then _ else _) _ _ _
  rw[if_pos rfl]
  exact wpAny_bind (wpAny_rule (wpAny_pure ⟨_,rfl,h⟩))
theorem Lc (l:Addr)(items:Array Value) (n:Nat)(dd:Option Addr)(sl:Array (Option Value)) (k:Int)(t:Tok)(hk:k=0)(hc:items.isEmpty=false) :
  Meets (Builtin.«tuple.__mul__» ⟨[.ref l,.int k t],[]⟩) (fun _ R s=>s.heap.get? l=some {cls:=.type "tuple",dict:=dd,data:=.seq items n,slots:=sl}∧R (.ok (.ret (.ref s.heap.objs.size))) {s with heap:=s.heap.push {cls:=.type "tuple",data:=.seq #[]}}) :=
 .of_wp fun prog w A R s h=>by
  obtain⟨hp,g,d,tk,os⟩:=s;obtain⟨hl,h⟩:=h
  have ht:PyProof.Rows.IsTup hp l items:=⟨_,hl,rfl,n,rfl⟩
  have f1:=AutoSeq1.idx_int
  have f2:(decide (k < -(2 ^ 63))||decide (k≥2 ^ 63))=false:=by
   rw[decide_eq_false (by omega),decide_eq_false (by omega)];rfl
  wp_walk using AutoSeq1.wpAny_loadPart' hl
  exact⟨_,rfl,h⟩
theorem La (l:Addr)(items:Array Value) (n:Nat)(dd:Option Addr)(sl:Array (Option Value)) (k:Int)(t:Tok)(h1:1<k)(h2:k<2 ^ 63)(hc:items.isEmpty=false)(hz:(items.size:Int) * k≤sizeLine)
  (hsz:(List.foldl (fun x1 x2=>x1++x2) #[] (List.replicate k.toNat items)).size≤sizeLine) :
  Meets (Builtin.«tuple.__mul__» ⟨[.ref l,.int k t],[]⟩) (fun _ R s=>s.heap.get? l=some {cls:=.type "tuple",dict:=dd,data:=.seq items n,slots:=sl}∧R (.ok (.ret (.ref s.heap.objs.size))) {s with heap:=s.heap.push {cls:=.type "tuple",data:=.seq (List.foldl (fun x1 x2=>x1++x2) #[] (List.replicate k.toNat items))}}) :=
 .of_wp fun prog w A R s h=>by
  obtain⟨hp,g,d,tk,os⟩:=s;obtain⟨hl,h⟩:=h
  have ht:PyProof.Rows.IsTup hp l items:=⟨_,hl,rfl,n,rfl⟩
  have f1:=AutoSeq1.idx_int
  have f2:(decide (k < -(2 ^ 63))||decide (k≥2 ^ 63))=false:=by
   rw[decide_eq_false (by omega),decide_eq_false (by omega)];rfl
  wp_walk using AutoSeq1.wpAny_loadPart' hl
  show wpAny _ _ (if (decide (k < -(2 ^ 63))||decide (k≥2 ^ 63))=true then _ else _) _ _ _
  rw[f2,if_neg Bool.false_ne_true]
  refine wpAny_bind (PyProof.Rows.tupleItemsOf_ ht ?_)
  show wpAny _ _ (if (items.isEmpty||k==1)=true then _ else _) _ _ _
  rw[if_neg (by rw[hc,Bool.false_or];simp;omega)]
  show wpAny _ _ (if (decide (k≤0)||items.isEmpty)=true then _ else _) _ _ _
  rw[if_neg (by rw[hc,Bool.or_false];simp;omega)]
  have hl0:(sizeLine:Int)=16777216:=by rw[sizeLine_eq];rfl
  show wpAny _ _ (if (items.size:Int) * k>(2 ^ 63 - 1) / 8 then _ else _) _ _ _
  rw[if_neg (by omega)]
  show wpAny _ _ (if Builtin.Tuple.tupleTooMany ((items.size:Int) * k)=true then _ else _) _ _ _
  rw[if_neg (by unfold Builtin.Tuple.tupleTooMany;simp;omega)]
  exact wpAny_bind (m:=Builtin.Tuple.tupleExact _) (wpAny_newObj_type (wpAny_pure ⟨_,rfl,h⟩) hsz)
end
section
variable {X:Cx}
theorem fD:Op2 X (binaryOp .Mult) tMul:=by
 intro pins s σ Hq H t u w x y v v' Q I rx ry sb r1 r2 e k
 cases t with
 | int i =>
   cases u with
   | int j =>
     cases r1.int;cases r2.int
     simp only[tMul] at e
     split at e
     ·rename_i hm
      cases e
      refine G0 pins s σ H _ _ v v' Q I rx ry ⟨i,j,rfl,rfl,?_,k _ Hq H (.refl sb) cj⟩
      simp only[gj,Bool.or_eq_true,Bool.and_eq_true,decide_eq_true_eq] at hm
      exact hm
     ·cases e
   | _=>simp [tMul] at e
 | tup as =>
   cases u with
   | int j =>
     simp only[tMul] at e
     split at e
     ·rename_i hm
      cases e
      obtain⟨a,vs,rfl,q1,q2⟩:=r1.tup sb
      cases r2.int
      cases rx
      obtain⟨tt,rfl⟩:=ry
      obtain⟨its,r,p,_⟩:=I.tuple q1
      have hlen:its.length=as.length:=by rw[← r.length,q2.length]
      obtain⟨⟨cls,dd,data,sl⟩,ho,hc,n,hd⟩:=id p
      simp only at hc hd
      subst hc hd
      refine wpAny_binaryOp_repeat_ref (T:="tuple") (U:="int") (by decide) ⟨_,ho,rfl⟩ (fun s'=>typeIs_int s' j tt) Ge F.fills_int_mul F.slot_int_rmul Ir F.slot_int_index.lookup
       (call_meets F.slot_int_rmul (typeIs_int s j tt) F.entry_int_rmul (F.args_int_rmul_2 _ _) (Eu j tt a its.toArray n dd sl) ⟨ho,rfl,⟨_,ho,rfl⟩,?_⟩)
      by_cases h0:(its.toArray.isEmpty||j==1)=true
      ·refine call_meets F.slot_tuple_mul ⟨_,ho,rfl⟩ F.entry_tuple_mul (F.args_tuple_mul_2 _ _) (Lb a its.toArray n dd sl j tt (by omega) (by omega) h0) ⟨ho,?_⟩
       refine⟨.ref a,H,I,rfl,k _ Hq H (.refl sb) ?_⟩
       have ee:(List.replicate j.toNat as).flatten=as:=by
        rw[Bool.or_eq_true] at h0
        rcases h0 with z|z
        ·have:as=[]:=List.eq_nil_of_length_eq_zero (by rw[← hlen];simpa using z)
         subst this;simp
        ·have:j=1:=by simpa using z
         subst this;simp
       rw[ee]
       rcases r1 with r1|⟨_,_,_,_,z,_⟩
       ·exact r1
       ·cases z
      ·rw[Bool.not_eq_true,Bool.or_eq_false_iff] at h0
       by_cases hz:j=0
       ·subst hz
        refine call_meets F.slot_tuple_mul ⟨_,ho,rfl⟩ F.entry_tuple_mul (F.args_tuple_mul_2 _ _) (Lc a its.toArray n dd sl 0 tt rfl h0.1) ⟨ho,?_⟩
        exact⟨.ref s.heap.objs.size,_,I.laid (t':=s.toks) (o:=.tup []) (fun b ob q=>Heap.get?_push_of_some _ q) (Nat.le_refl _) ⟨Nat.zero_le _,[],.nil,PyProof.Rows.IsTup.new _ _⟩,rfl,k _ _ _ (.new sb I.fresh) (gn (sb.free I.fresh) .nil)⟩
       ·have h1:1<j:=by
         have:j≠1:=by simpa using h0.2
         omega
        have hnew:List.foldl (fun x1 x2=>x1++x2) #[] (List.replicate j.toNat its.toArray)=(List.replicate j.toNat its).flatten.toArray:=by
         have:=foldl_rep its j.toNat []
         rw[List.nil_append] at this
         exact this
        have hsz:(List.replicate j.toNat its).flatten.length≤sizeLine:=by rw[len_rep,Nat.mul_comm,hlen];exact hm.2.2
        refine call_meets F.slot_tuple_mul ⟨_,ho,rfl⟩ F.entry_tuple_mul (F.args_tuple_mul_2 _ _) (La a its.toArray n dd sl j tt h1 (by omega) h0.1 ?_ (by rw[hnew,List.size_toArray];exact hsz)) ⟨ho,?_⟩
        ·rw[List.size_toArray,hlen]
         have h3:=hm.2.2
         have:((as.length * j.toNat:Nat):Int)≤(sizeLine:Int):=by exact_mod_cast h3
         rw[Int.natCast_mul,Int.toNat_of_nonneg hm.1] at this
         exact this
        ·rw[hnew]
         exact⟨.ref s.heap.objs.size,_,I.laid (t':=s.toks) (o:=.tup (List.replicate j.toNat vs).flatten) (fun b ob q=>Heap.get?_push_of_some _ q) (Nat.le_refl _) ⟨by rw[(r.rep j.toNat).length];exact hsz,_,r.rep j.toNat,PyProof.Rows.IsTup.new _ _⟩,rfl,k _ _ _ (.new sb I.fresh) (gn (sb.free I.fresh) (q2.rep j.toNat))⟩
     ·cases e
   | _=>simp [tMul] at e
 | _=>cases u<;>simp [tMul] at e
end
end TL
namespace TL
open PySem L2
section
variable {X:Cx}{z:Z}{a b c:Expr}{f g h:FE}{fn fn':T→T→Option T}{pos:Pos}
theorem CV {ρ:Rho}{w:T}(e:fm fn fn' f g h ρ=some w):∃ t u,f ρ=some t∧g ρ=some u∧((∃ y,fn t u=some (.bl true)∧h ρ=some y∧fn' u y=some w)∨(fn t u=some (.bl false)∧w=.bl false)):=by
 unfold fm at e
 split at e
 ·rename_i t e1
  split at e
  ·rename_i u e2
   split at e
   ·rename_i e3
    split at e
    ·rename_i y e4
     exact⟨t,u,e1,e2,.inl ⟨y,e3,e4,e⟩⟩
    ·cases e
   ·rename_i e3
    cases e
    exact⟨t,u,e1,e2,.inr ⟨e3,rfl⟩⟩
   ·cases e
  ·cases e
 ·cases e
theorem Im (hK:z.K=X.K):∀ σ H Q,tT z (fm fn fn' f g h) σ H Q→zq (rT X.K fn) (rT X.K fn') (tR z f) (tR z g) (tR z h) σ H Q:=fun σ H Q ⟨ρ,Hq,w,r,e,k⟩=>by
 obtain⟨t,u,e1,e2,e3⟩:=CV e
 rw[← hK]
 refine⟨ρ,Hq,t,r,e1,fun v Hq1 H1 x1 r1=>⟨ρ,Hq1,u,r.ext x1,e2,fun v2 Hq2 H2 x2 r2=>?_⟩⟩
 rcases e3 with⟨y,e3,e4,e5⟩|⟨e3,rfl⟩
 ·exact⟨Hq2,t,u,.bl true,x2.sub,r1.ext x2,r2,e3,fun q Hq3 H3 x3 r3=>⟨true,r3.b,iteT ⟨ρ,Hq3,y,((r.ext x1).ext x2).ext x3,e4,fun v4 Hq4 H4 x4 r4=>⟨Hq4,u,y,w,x4.sub,(r2.ext x3).ext x4,r4,e5,fun q5 Hq5 H5 x5 r5=>k q5 Hq5 H5 ((((x1.trans x2).trans x3).trans x4).trans x5) r5⟩⟩⟩⟩
 ·exact⟨Hq2,t,u,.bl false,x2.sub,r1.ext x2,r2,e3,fun q Hq3 H3 x3 r3=>⟨false,r3.b,iteF (k _ Hq3 H3 ((x1.trans x2).trans x3) bD)⟩⟩
theorem et_chain (hK:z.K=X.K){op op':CmpOp}(ho:Op2 X (compareOp op) fn) (ho':Op2 X (compareOp op') fn') (ha:ER X z a f)(hb:ER X z b g)(hc:ER X z c h)
  (hm:lastMarks [op,op'] [b,c]=false:=by with_unfolding_all rfl):ET X z (.Compare a [op,op'] [b,c] pos) (fB (fm fn fn' f g h)) :=
 PT.imp (HX ho.r ho'.r ha hb hc hm) fun σ H Q ⟨ρ,Hq,b,r,e,k⟩ =>
  Im (X:=X) hK σ H (fun x H'=>∃ k,x=.bl k∧Q k H') ⟨ρ,Hq,.bl b,r,kG e,fun v Hq' H' x p=>⟨b,p.b,k Hq' H' x⟩⟩
end
def f1 (fn:T→Option T)(f:FE):FE:=fun ρ=>match f ρ with|some t=>fn t|none=>none
theorem kF {fn:T→Option T}{f:FE}{ρ:Rho}{w:T}(h:f1 fn f ρ=some w):∃ t,f ρ=some t∧fn t=some w:=by
 unfold f1 at h
 split at h
 ·rename_i t e;exact⟨t,e,h⟩
 ·cases h
def tNeg:T→Option T
 | .int i=>some (.int (-i))
 | _=>none
section
variable {X:Cx}{z:Z}{a b e:Expr}{f g:FE}{pos:Pos}
theorem ev_neg (h:EV X z a f):EV X z (.UnaryOp .USub a pos) (f1 tNeg f):=PE.imp (Hs Lk h) fun σ H Q ⟨ρ,Hq,w,r,e,k⟩=>by
 obtain⟨t,e1,e2⟩:=kF e
 cases t<;>simp [tNeg] at e2
 subst e2
 exact⟨ρ,Hq,_,r,e1,fun v Hq1 H1 x1 r1=>⟨_,r1.i,k _ Hq1 H1 x1 cj⟩⟩
def tIx:T→T→Option T
 | .tup ts,.int i=>atI ts i
 | .lst ts,.int i=>atI ts i
 | _,_=>none
theorem nq {K:PySem.W.Frag}{H:Hp}{ts:List T}{vs:List V}(h:RepL K H ts vs){i:Int}{t:T}(e:atI ts i=some t):∃ v,atI vs i=some v∧Rep K H t v:=by
 unfold atI at e ⊢
 rw[← h.length]
 cases q:ixN ts.length i with
 | none=>rw[q] at e;cases e
 | some j =>
   rw[q] at e
   exact h.get e
theorem ev_ix (hK:z.K=X.K)(ha:ER X z a f)(hb:EV X z b g)(hs:jO b):EV X z (.Subscript a b pos) (f2 tIx f g):=PE.imp (yw xw ha hb hs) fun σ H Q ⟨ρ,Hq,w,r,e,k⟩=>by
 obtain⟨t,u,e1,e2,e3⟩:=qv e
 refine⟨ρ,Hq,t,r,e1,fun v Hq1 H1 x1 r1=>⟨ρ,Hq1,u,r.ext x1,e2,fun v2 Hq2 H2 x2 r2=>?_⟩⟩
 cases t with
 | tup ts =>
   cases u with
   | int i =>
     obtain⟨p,vs,rfl,q1,q2⟩:=(r1.ext x2).tup x2.sub
     obtain⟨y,h1,h2⟩:=nq q2 e3
     exact .inr (.inl ⟨p,vs,i,y,rfl,r2.i,hK▸q1,h1,k y Hq2 H2 (x1.trans x2) h2⟩)
   | _=>simp [tIx] at e3
 | lst ts =>
   cases u with
   | int i =>
     obtain⟨p,vs,rfl,q1,q2⟩:=(r1.ext x2).lst x2.sub
     obtain⟨y,h1,h2⟩:=nq q2 e3
     exact .inl ⟨p,vs,i,y,rfl,r2.i,hK▸q1,h1,k y Hq2 H2 (x1.trans x2) h2⟩
   | _=>simp [tIx] at e3
 | _=>simp [tIx] at e3
def cutT {α:Type}(xs:List α)(lo hi:Option Int):List α:=(xs.drop (HT.sIx xs.length 0 lo)).take (HT.sIx xs.length xs.length hi - HT.sIx xs.length 0 lo)
def FO:=Rho→Option (Option Int)
def foN:FO:=fun _=>some none
def foS (f:FE):FO:=fun ρ=>match f ρ with|some (.int i)=>some (some i)|_=>none
def tCut (t:T)(lo hi:Option Int):Option T:=match t with
 | .tup ts=>some (.tup (cutT ts lo hi))
 | .lst ts=>some (.lst (cutT ts lo hi))
 | _=>none
def fCut (f:FE)(lo hi:FO):FE:=fun ρ=>match f ρ with|some t=>(match lo ρ with|some l=>(match hi ρ with|some h=>tCut t l h|none=>none)|none=>none)|none=>none
def tRev:T→Option T
 | .tup ts=>some (.tup ts.reverse)
 | _=>none
end
end TL
namespace TL
open PySem L2
section
variable {X:Cx}{z:Z}{e:Expr}{f g:FE}{p p' pos:Pos}
def tAR (z:Z)(f:FE):TA:=fun σ H Q=>∃ ρ Hq t,Rn z σ ρ Hq H∧f ρ=some t∧∀ v Hq' H',Ex Hq H Hq' H'→RepR z.K Hq' H' t v→Q [v] H'
theorem kE (h:ER X z e f)(hs:starEach [e] X.env=[(false,eval e X.env)]:=by rfl):PA X [e] (tAR z f):=PA.imp (bx h cE hs) fun σ H Q ⟨ρ,Hq,t,r,e,k⟩ =>
 ⟨ρ,Hq,t,r,e,fun v Hq' H' x rr=>k v Hq' H' x rr⟩
def Bi1 (X:Cx)(fv:Value)(fn:T→Option T):Prop:=dQ X fv fun xs H Q=>∃ Hq t w x,xs=[x]∧Same Hq H∧RepR X.K Hq H t x∧fn t=some w∧∀ q Hq' H',Ex Hq H Hq' H'→Rep X.K Hq' w q→Q q H'
theorem read1 (hK:z.K=X.K){fn:T→Option T}:∀ σ H Q,tT z (f1 fn f) σ H Q→tCB (fun xs H Q=>∃ Hq t w x,xs=[x]∧Same Hq H∧RepR X.K Hq H t x∧fn t=some w∧∀ q Hq' H',Ex Hq H Hq' H'→Rep X.K Hq' w q→Q q H') (tAR z f) σ H Q:=fun σ H Q ⟨ρ,Hq,w,r,e,k⟩=>by
 obtain⟨t,e1,e2⟩:=kF e
 rw[← hK]
 exact⟨ρ,Hq,t,r,e1,fun v Hq1 H1 x1 r1=>⟨Hq1,t,w,v,rfl,x1.sub,r1,e2,fun q Hq2 H2 x2 r2=>k q Hq2 H2 (x1.trans x2) r2⟩⟩
theorem ev_b1 (hK:z.K=X.K){fn:T→Option T}{x:Str}{id:String}(hb:Bi1 X (.builtin id) fn) (hg:Gl X x)(hm:X.mg x=none)(hv:bootBuiltins x=some (.builtin id)) (he:ER X z e f)(hn:x≠"__name__":=by decide)(hdb:(x==("__debug__":Str))=false:=by decide)
  (hs:starEach [e] X.env=[(false,eval e X.env)]:=by rfl):EV X z (.Call (.Name x p) [e] [] pos) (f1 fn f):=PE.imp (kM hb hg hm hv (kE he hs) hn hdb hs rfl) (read1 hK)
theorem ev_y1 (hK:z.K=X.K){fn:T→Option T}{x:Str}{id:String}(hb:Bi1 X (.type id) fn) (hg:Gl X x)(hm:X.mg x=none)(hv:bootBuiltins x=some (.type id)) (he:ER X z e f)(hn:x≠"__name__":=by decide)(hdb:(x==("__debug__":Str))=false:=by decide)
  (hs:starEach [e] X.env=[(false,eval e X.env)]:=by rfl):EV X z (.Call (.Name x p) [e] [] pos) (f1 fn f):=PE.imp (yt hb hg hm hv (kE he hs) hn hdb hs rfl) (read1 hK)
def tLen:T→Option T
 | .tup ts=>some (.int ts.length)
 | .lst ts=>some (.int ts.length)
 | .str x=>if x.length≤sizeLine then some (.int x.length) else none
 | _=>none
theorem f9:Bi1 X (.builtin "len") tLen:=by
 intro pins s σ H xs us Q I r h
 obtain⟨Hq,t,w,x,rfl,sb,r1,e,k⟩:=h
 cases t with
 | tup ts =>
   simp only[tLen,Option.some.injEq] at e;subst e
   obtain⟨a,vs,rfl,q1,q2⟩:=r1.tup sb
   exact vO pins s σ H _ us Q I r ⟨a,vs,rfl,.inr q1,by rw[← q2.length];exact k _ Hq H (.refl sb) cj⟩
 | lst ts =>
   simp only[tLen,Option.some.injEq] at e;subst e
   obtain⟨a,vs,rfl,q1,q2⟩:=r1.lst sb
   exact vO pins s σ H _ us Q I r ⟨a,vs,rfl,.inl q1,by rw[← q2.length];exact k _ Hq H (.refl sb) cj⟩
 | str y =>
   simp only[tLen] at e
   split at e
   ·rename_i hl
    cases e
    cases r1.str
    exact BI pins s σ H _ us Q I r ⟨y,rfl,hl,k _ Hq H (.refl sb) cj⟩
   ·cases e
 | _=>simp [tLen] at e
def aP:T→Option T
 | .tup ts=>some (.tup ts)
 | .lst ts=>some (.tup ts)
 | _=>none
theorem cH:Bi1 X (.type "tuple") aP:=by
 intro pins s σ H xs us Q I r h
 obtain⟨Hq,t,w,x,rfl,sb,r1,e,k⟩:=h
 cases t with
 | tup ts =>
   simp only[aP,Option.some.injEq] at e;subst e
   obtain⟨a,vs,rfl,q1,q2⟩:=r1.tup sb
   refine vP pins s σ H _ us Q I r ⟨a,vs,rfl,.inr ⟨q1,k _ Hq H (.refl sb) ?_⟩⟩
   rcases r1 with r1|⟨_,_,_,_,z,_⟩
   ·exact r1
   ·cases z
 | lst ts =>
   simp only[aP,Option.some.injEq] at e;subst e
   obtain⟨a,vs,rfl,q1,q2⟩:=r1.lst sb
   exact vP pins s σ H _ us Q I r ⟨a,vs,rfl,.inl ⟨q1,fun l hl=>k _ _ _ (.new sb hl) (gn (sb.free hl) q2)⟩⟩
 | _=>simp [aP] at e
def zw:T→Option T
 | .tup ts=>some (.lst ts)
 | .lst ts=>some (.lst ts)
 | _=>none
def KR:T→Option T
 | .int i=>if i.natAbs.log2<1920 then some (.str (toString i)) else none
 | _=>none
def tAll:T→Option T
 | .lst ts=>if (ts.all fun t=>match t with|.bl _=>true|_=>false)=true then some (.bl (ts.all fun t=>match t with|.bl b=>b|_=>true)) else none
 | _=>none
def tAny:T→Option T
 | .lst ts=>if (ts.all fun t=>match t with|.bl _=>true|_=>false)=true then some (.bl (ts.any fun t=>match t with|.bl b=>b|_=>false)) else none
 | _=>none
theorem oZ {K:PySem.W.Frag}{H:Hp}{ts:List T}{vs:List V}{its:List Value}(r:Vals vs its)(q:RepL K H ts vs)(hb:(ts.all fun t=>match t with|.bl _=>true|_=>false)=true) :
  ∃ bs:List Bool,ts=bs.map T.bl∧its=bs.map Value.bool:=by
 have:∃ bs:List Bool,ts=bs.map T.bl:=by
  clear q
  induction ts with
  | nil=>exact⟨[],rfl⟩
  | cons t ts ih =>
    rw[List.all_cons,Bool.and_eq_true] at hb
    obtain⟨bs,e⟩:=ih hb.2
    cases t with
    | bl b=>exact⟨b::bs,by rw[e];rfl⟩
    | _=>simp at hb
 obtain⟨bs,rfl⟩:=this
 refine⟨bs,rfl,?_⟩
 clear hb
 induction bs generalizing vs its with
 | nil=>unfold RepL at q;simp at q;subst q;cases r;rfl
 | cons b bs ih =>
   rw[List.map_cons] at q
   unfold RepL at q
   obtain⟨v,rr,rfl,h2,h3⟩:=q
   cases h2.b
   cases r with
   | cons r1 r2 =>
     cases r1
     rw[ih r2 h3];rfl
theorem range_all (bs:List Bool):(List.range bs.length).all (fun i=>bs.getD i true)=bs.all id:=by
 induction bs with
 | nil=>rfl
 | cons b bs ih =>
   rw[List.length_cons,List.range_succ_eq_map,List.all_cons,List.all_map,List.all_cons,← ih]
   rfl
theorem range_any (bs:List Bool):(List.range bs.length).any (fun i=>bs.getD i true)=bs.any id:=by
 induction bs with
 | nil=>rfl
 | cons b bs ih =>
   rw[List.length_cons,List.range_succ_eq_map,List.any_cons,List.any_map,List.any_cons,← ih]
   rfl
theorem uz {prog:Program}{w:World}{A:Around}(bs:List Bool):TruthOf prog w A (fun i v=>(bs.map Value.bool).toArray[i]?=some v) fun i=>bs.getD i true:=by
 intro i v s Q E hv hq
 have hv':(bs.map Value.bool)[i]?=some v:=by simpa using hv
 rw[List.getElem?_map] at hv'
 cases e:bs[i]? with
 | none=>rw[e] at hv';cases hv'
 | some b =>
   rw[e] at hv'
   cases hv'
   have:bs.getD i true=b:=by rw[List.getD_eq_getElem?_getD,e];rfl
   dsimp only at hq
   rw[this] at hq
   exact wpAny_truthy_bool hq
theorem vh (hc:X.calm=true):Bi1 X (.builtin "all") tAll:=by
 intro pins s σ H xs us Q I r h
 obtain⟨Hq,t,w,x,rfl,sb,r1,e,k⟩:=h
 cases t with
 | lst ts =>
   simp only[tAll] at e
   split at e
   ·rename_i hb
    cases e
    obtain⟨a,vs,rfl,q1,q2⟩:=r1.lst sb
    obtain⟨u,rfl,ru⟩:=vals1 r
    cases ru
    obtain⟨its,rv,p,hz⟩:=I.list q1
    obtain⟨bs,rfl,rfl⟩:=oZ rv q2 hb
    refine call_all_walk (wpAny_pyIter_list p.isList ?_)
    have hax:a<s.heap.objs.size:=let ⟨o,ho,_⟩:=p.isList;Heap.lt_size ho
    refine⟨s.heap.objs.size,[s.heap.objs.size,a],[s.heap.objs.size],(bs.map Value.bool).toArray.size,(fun i v=>(bs.map Value.bool).toArray[i]?=some v),(fun i h=>h.IsListIter s.heap.objs.size a i∧h.IsList a (bs.map Value.bool).toArray),fun i=>bs.getD i true,rfl,
     Walks.list (show X.A.in1.handled=none from I.ok.hd hc) s.heap.objs.size a (Nat.ne_of_lt hax) (bs.map Value.bool).toArray,⟨⟨_,Heap.get?_push_size _ rfl,rfl,rfl⟩,p.isList.push _⟩,uz bs,fun h' tk kp=>?_⟩
    have ev:(List.range (bs.map Value.bool).toArray.size).all (fun i=>bs.getD i true)=(bs.map T.bl).all fun t=>match t with|.bl b=>b|_=>true:=by
     rw[List.size_toArray,List.length_map,range_all,List.all_map]
     rfl
    rw[ev]
    exact⟨.bl _,H,I.kept (t':=tk) fun b o e=>kp b o (by simp;exact Nat.ne_of_lt (Heap.lt_size e)) (Heap.get?_push_of_some _ e),rfl,k _ Hq H (.refl sb) bD⟩
   ·cases e
 | _=>simp [tAll] at e
theorem vj (hc:X.calm=true):Bi1 X (.builtin "any") tAny:=by
 intro pins s σ H xs us Q I r h
 obtain⟨Hq,t,w,x,rfl,sb,r1,e,k⟩:=h
 cases t with
 | lst ts =>
   simp only[tAny] at e
   split at e
   ·rename_i hb
    cases e
    obtain⟨a,vs,rfl,q1,q2⟩:=r1.lst sb
    obtain⟨u,rfl,ru⟩:=vals1 r
    cases ru
    obtain⟨its,rv,p,hz⟩:=I.list q1
    obtain⟨bs,rfl,rfl⟩:=oZ rv q2 hb
    refine call_any_walk (wpAny_pyIter_list p.isList ?_)
    have hax:a<s.heap.objs.size:=let ⟨o,ho,_⟩:=p.isList;Heap.lt_size ho
    refine⟨s.heap.objs.size,[s.heap.objs.size,a],[s.heap.objs.size],(bs.map Value.bool).toArray.size,(fun i v=>(bs.map Value.bool).toArray[i]?=some v),(fun i h=>h.IsListIter s.heap.objs.size a i∧h.IsList a (bs.map Value.bool).toArray),fun i=>bs.getD i true,rfl,
     Walks.list (show X.A.in1.handled=none from I.ok.hd hc) s.heap.objs.size a (Nat.ne_of_lt hax) (bs.map Value.bool).toArray,⟨⟨_,Heap.get?_push_size _ rfl,rfl,rfl⟩,p.isList.push _⟩,uz bs,fun h' tk kp=>?_⟩
    have ev:(List.range (bs.map Value.bool).toArray.size).any (fun i=>bs.getD i true)=(bs.map T.bl).any fun t=>match t with|.bl b=>b|_=>false:=by
     rw[List.size_toArray,List.length_map,range_any,List.any_map]
     rfl
    rw[ev]
    exact⟨.bl _,H,I.kept (t':=tk) fun b o e=>kp b o (by simp;exact Nat.ne_of_lt (Heap.lt_size e)) (Heap.get?_push_of_some _ e),rfl,k _ Hq H (.refl sb) bD⟩
   ·cases e
 | _=>simp [tAny] at e
def isT (c:String):T→Bool
 | .non=>false
 | .bl _=>c=="bool"||c=="int"
 | .int _=>c=="int"
 | .str _=>c=="str"
 | .tup _=>c=="tuple"
 | .lst _=>c=="list"
def tIs (c:String)(t:T):Option T:=some (.bl (isT c t))
structure Kit (K:PySem.W.Frag)(c:String):Prop where
 non:PySem.W.kitOne K (.type "NoneType") (.type c)=some (isT c .non)
 bl:PySem.W.kitOne K (.type "bool") (.type c)=some (isT c (.bl true))
 int:PySem.W.kitOne K (.type "int") (.type c)=some (isT c (.int 0))
 str:PySem.W.kitOne K (.type "str") (.type c)=some (isT c (.str ""))
 tup:PySem.W.kitOne K (.type "tuple") (.type c)=some (isT c (.tup []))
 lst:PySem.W.kitOne K (.type "list") (.type c)=some (isT c (.lst []))
theorem E9 (K:PySem.W.Frag):Kit K "int":=⟨rfl,rfl,rfl,rfl,rfl,rfl⟩
theorem xA (K:PySem.W.Frag):Kit K "bool":=⟨rfl,rfl,rfl,rfl,rfl,rfl⟩
theorem kit_tuple (K:PySem.W.Frag):Kit K "tuple":=⟨rfl,rfl,rfl,rfl,rfl,rfl⟩
theorem ED {pins:List (Addr×Obj)}{σ:L2.St}{H:Hp}{s:Shared}{A:Around}{E:Value→Shared→Prop}{Q:Value→Shared→Prop}{c:String}(kt:Kit X.K c){t:T}{x:V}{u:Value}(I:Inv X pins σ H s)(rx:RelV x u)(h:Rep X.K H t x)
  (hq:∀ tk,Q (.bool (isT c t)) {s with toks:=tk}):wpAny (model X.prog X.w) A (call (.builtin "isinstance") [u,.type c]) Q E s:=by
 cases t with
 | non=>cases h.n;cases rx;exact PySem.W.kia_one PySem.W.kitx_none I.kIn True.intro kt.non (fun z=>nomatch z) hq
 | bl b=>cases h.b;cases rx;exact PySem.W.kia_one PySem.W.kitx_bool I.kIn True.intro kt.bl (fun z=>nomatch z) hq
 | int b=>cases h.i;obtain⟨k,rfl⟩:=rx;exact PySem.W.kia_one PySem.W.kitx_int I.kIn True.intro kt.int (fun z=>nomatch z) hq
 | str b=>cases h.s;obtain⟨k,rfl⟩:=rx;exact PySem.W.kia_one PySem.W.kitx_str I.kIn True.intro kt.str (fun z=>nomatch z) hq
 | tup ts =>
   unfold Rep at h
   obtain⟨a,vs,rfl,q1,q2⟩:=h
   cases rx
   obtain⟨_,_,⟨o,h1,h2,_⟩,_⟩:=I.tuple q1
   exact PySem.W.kia_one PySem.W.kitx_tuple I.kIn ⟨o,h1,h2⟩ kt.tup (fun z=>nomatch z) hq
 | lst ts =>
   unfold Rep at h
   obtain⟨a,vs,rfl,q1,q2⟩:=h
   cases rx
   obtain⟨_,_,p,_⟩:=I.list q1
   obtain⟨o,h1,h2,_⟩:=p.isList
   exact PySem.W.kia_one PySem.W.kitx_list I.kIn ⟨o,h1,h2⟩ kt.lst (fun z=>nomatch z) hq
theorem ev_isi (hK:z.K=X.K){c:Str}{cn:String}(kt:Kit X.K cn)(hg:Gl X "isinstance")(hm:X.mg "isinstance"=none)(hg2:Gl X c)(hm2:X.mg c=none)(hv2:bootBuiltins c=some (.type cn)) (he:ER X z e f)(hn:c≠"__name__":=by decide)(hdb:(c==("__debug__":Str))=false:=by decide)
  (hs:starEach [e,.Name c p'] X.env=[(false,eval e X.env),(false,eval (.Name c p') X.env)]:=by rfl) (hs2:starEach [.Name c p'] X.env=[(false,eval (.Name c p') X.env)]:=by rfl) :
  EV X z (.Call (.Name "isinstance" p) [e,.Name c p'] [] pos) (f1 (tIs cn) f):=by
 have hb:dQ X (.builtin "isinstance") fun xs H Q=>∃ Hq t x,xs=[x,.ty cn]∧Same Hq H∧RepR X.K Hq H t x∧Q (.bl (isT cn t)) H:=by
  intro pins s σ H xs us Q I r h
  obtain⟨Hq,t,x,rfl,sb,r1,k⟩:=h
  obtain⟨u,w',rfl,ru,rw'⟩:=vals2 r
  cases rw'
  exact ED kt I ru (r1.rep sb) fun tk=>⟨.bl _,H,I.tok _,rfl,k⟩
 refine PE.imp (kM hb hg hm (by rfl) (bx he (bx (yr (v:=.ty cn) hg2 hm2 hv2 rfl hn hdb) cE (by rw[hs2];rfl)) (by rw[hs,hs2])) (by decide) (by decide) (by rw[hs,hs2]) (by rw[hs2];rfl)) fun σ H Q ⟨ρ,Hq,w,r,e,k⟩=>?_
 obtain⟨t,e1,e2⟩:=kF e
 simp only[tIs,Option.some.injEq] at e2
 subst e2
 exact⟨ρ,Hq,t,r,e1,fun v Hq1 H1 x1 r1=>⟨Hq1,t,v,rfl,x1.sub,hK▸r1,k _ Hq1 H1 x1 bD⟩⟩
def tMin:T→T→Option T
 | .int i,.int j=>some (.int (if j<i then j else i))
 | _,_=>none
theorem ev_min (hc:X.calm=true){a b:Expr}(hg:Gl X "min")(hm:X.mg "min"=none)(ha:EV X z a f)(hb:EV X z b g)(hs:starEach [a,b] X.env=[(false,eval a X.env),(false,eval b X.env)]:=by rfl) (hs2:starEach [b] X.env=[(false,eval b X.env)]:=by rfl) :
  EV X z (.Call (.Name "min" p) [a,b] [] pos) (f2 tMin f g):=by
 refine PE.imp (kM (BJ hc) hg hm (by rfl) (bx ha (bx hb cE (by rw[hs2];rfl)) (by rw[hs,hs2])) (by decide) (by decide) (by rw[hs,hs2]) (by rw[hs2];rfl)) fun σ H Q ⟨ρ,Hq,w,r,e,k⟩=>?_
 obtain⟨t,u,e1,e2,e3⟩:=qv e
 cases t<;>cases u<;>simp [tMin] at e3
 subst e3
 rename_i i j
 exact⟨ρ,Hq,_,r,e1,fun v Hq1 H1 x1 r1=>⟨ρ,Hq1,_,r.ext x1,e2,fun v2 Hq2 H2 x2 r2=>⟨i,j,by rw[r1.i,r2.i],k _ Hq2 H2 (x1.trans x2) cj⟩⟩⟩
end
end TL
namespace TL
open PySem L2
def Walk (K:PySem.W.Frag)(J:It)(ts:List T)(Hq:Hp)(P:Hp→Prop):Prop:=∀(i:Nat)(Hq' H':Hp),Same Hq Hq'→Same Hq' H'→P H' →
 (∀ t,ts[i]?=some t→J.go i H'∧∀ x H3,J.yld i H' x H3→∃ Hq3,Ex Hq' H' Hq3 H3∧Rep K Hq3 t x)∧(ts.length≤i→J.stop i H')
def iR (z:Z)(f:FA):TI:=fun σ H R=>∃ ρ Hq ts,Rn z σ ρ Hq H∧f ρ=some ts∧∀ J Hq' H' P,Ex Hq H Hq' H'→P H'→(∀ a b,Same a b→P a→P b)→Walk z.K J ts Hq' P→R J H'
def iP (z:Z)(f:FA):TI:=fun σ H R=>∃ ρ Hq ts,Rn z σ ρ Hq H∧f ρ=some ts∧∀ J Hq' H',Ex Hq H Hq' H'→Walk z.K J ts Hq' (fun _=>True)→R J H'
def fIt (f:FE):FA:=fun ρ=>match f ρ with|some (.tup ts)=>some ts|some (.lst ts)=>some ts|_=>none
section
variable {X:Cx}{z:Z}{e tg:Expr}{f g:FE}{p pos:Pos}
theorem PI.imp {t t':TI}(h:PI X tg e t)(i:∀ σ H R,t' σ H R→t σ H R):PI X tg e t':=fun pins s σ H R I q=>h pins s σ H R I (i σ H R q)
def iSq (K:PySem.W.Frag)(tl:TE):TI:=fun σ H R=>tl σ H fun x H1=>∃ a,x=.ref a∧((∃ xs,SqL K H1 a xs)∧R (Itl K a) H1∨(∃ xs,SqT K H1 a xs)∧R (Itt K a) H1)
theorem yC {tl:TE}(hl:PE X e tl):PI X tg e (iSq X.K tl):=by
 intro pins s σ H R I h
 refine thn (hl pins s σ H _ I h) fun v s1 ⟨x,H1,I1,r1,q1⟩=>?_
 obtain⟨a,e,q1⟩:=q1
 subst e
 cases r1
 rcases q1 with⟨⟨xs,hq⟩,q⟩|⟨⟨xs,hq⟩,q⟩
 ·obtain⟨its,rv,p,hz⟩:=I1.list hq
  refine wpAny_pyIter_list p.isList ?_
  refine⟨s1.heap.objs.size,[s1.heap.objs.size],_,_,H1,rfl,I1.kept (t':=s1.toks) fun b o e=>Heap.get?_push_of_some _ e,Lf a _,⟨_,Heap.get?_push_size _ rfl,rfl,rfl⟩,fun b hb=>?_,q⟩
  have e:b=s1.heap.objs.size:=by simpa using hb
  subst e
  exact I1.fpOk (Nat.le_refl _) (I1.hok.fresh (Nat.le_refl _))
 ·obtain⟨its,rv,p,hz⟩:=I1.tuple hq
  refine wpAny_pyIter_tuple (show s1.heap.IsTuple a its.toArray from p) ?_
  refine⟨s1.heap.objs.size,[s1.heap.objs.size],_,_,H1,rfl,I1.kept (t':=s1.toks) fun b o e=>Heap.get?_push_of_some _ e,Lh a _,⟨_,Heap.get?_push_size _ rfl,rfl,rfl⟩,fun b hb=>?_,q⟩
  have e:b=s1.heap.objs.size:=by simpa using hb
  subst e
  exact I1.fpOk (Nat.le_refl _) (I1.hok.fresh (Nat.le_refl _))
theorem zR {K:PySem.W.Frag}{a:Addr}{ts:List T}{vs:List V}{Hq:Hp}(hr:RepL K Hq ts vs)(P:Hp→Prop)(hP:∀ Hq' H',Same Hq Hq'→Same Hq' H'→P H'→SqT K H' a vs):Walk K (Itt K a) ts Hq P:=by
 intro i Hq' H' s1 s2 p
 have q:=hP Hq' H' s1 s2 p
 refine⟨fun t e=>?_,fun h=>⟨vs,q,by rw[← hr.length];exact h⟩⟩
 obtain⟨v,e1,r1⟩:=hr.get e
 refine⟨⟨vs,v,q,e1⟩,fun x H3 y=>?_⟩
 obtain⟨rfl,y⟩:=y
 have:=y vs q
 rw[e1] at this
 cases this
 exact⟨Hq',.refl s2,r1.mono s1⟩
theorem zO {K:PySem.W.Frag}{a:Addr}{ts:List T}{vs:List V}{Hq:Hp}(hr:RepL K Hq ts vs)(P:Hp→Prop)(hP:∀ Hq' H',Same Hq Hq'→Same Hq' H'→P H'→SqL K H' a vs):Walk K (Itl K a) ts Hq P:=by
 intro i Hq' H' s1 s2 p
 have q:=hP Hq' H' s1 s2 p
 refine⟨fun t e=>?_,fun h=>⟨vs,q,by rw[← hr.length];exact h⟩⟩
 obtain⟨v,e1,r1⟩:=hr.get e
 refine⟨⟨vs,v,q,e1⟩,fun x H3 y=>?_⟩
 obtain⟨rfl,y⟩:=y
 have:=y vs q
 rw[e1] at this
 cases this
 exact⟨Hq',.refl s2,r1.mono s1⟩
def rangeT (lo:Int) (n:Nat):List T:=(List.range n).map fun(i:Nat)=>.int (lo+(i:Int))
theorem zP {K:PySem.W.Frag}{lo:Int}{n:Nat}{Hq:Hp}(P:Hp→Prop):Walk K (Itr lo n) (rangeT lo n) Hq P:=by
 intro i Hq' H' s1 s2 p
 have hl:(rangeT lo n).length=n:=by unfold rangeT;simp
 refine⟨fun t e=>?_,fun h=>by rw[hl] at h;exact h⟩
 have hi:i<n:=by
  have:=(List.getElem?_eq_some_iff.mp e).1
  rw[hl] at this;exact this
 refine⟨hi,fun x H3 y=>?_⟩
 obtain⟨rfl,rfl⟩:=y
 unfold rangeT at e
 rw[List.getElem?_map,List.getElem?_range hi] at e
 cases e
 exact⟨Hq',.refl s2,cj⟩
theorem ir_seq (hK:z.K=X.K)(h:ER X z e f):PI X tg e (iR z (fIt f)):=PI.imp (yC h) fun σ H R ⟨ρ,Hq,ts,r,e,k⟩=>by
 unfold fIt at e
 split at e
 ·rename_i us e1
  cases e
  refine⟨ρ,Hq,_,r,e1,fun v Hq1 H1 x1 r1=>?_⟩
  obtain⟨a,vs,rfl,q1,q2⟩:=r1.tup x1.sub
  rw[hK] at q1 q2
  refine⟨a,rfl,.inr ⟨⟨vs,q1⟩,?_⟩⟩
  rw[← hK]
  refine k _ Hq1 H1 (fun H'=>SqT X.K H' a vs) x1 q1 (fun a b s h=>dH s h) ?_
  rw[hK]
  exact zR q2 _ fun _ _ _ _ p=>p
 ·rename_i us e1
  cases e
  refine⟨ρ,Hq,_,r,e1,fun v Hq1 H1 x1 r1=>?_⟩
  obtain⟨a,vs,rfl,q1,q2⟩:=r1.lst x1.sub
  rw[hK] at q1 q2
  refine⟨a,rfl,.inl ⟨⟨vs,q1⟩,?_⟩⟩
  rw[← hK]
  refine k _ Hq1 H1 (fun H'=>SqL X.K H' a vs) x1 q1 (fun a b s h=>s.seq h) ?_
  rw[hK]
  exact zO q2 _ fun _ _ _ _ p=>p
 ·cases e
theorem ip_seq (hK:z.K=X.K)(h:EV X z e f):PI X tg e (iP z (fIt f)):=PI.imp (yC h) fun σ H R ⟨ρ,Hq,ts,r,e,k⟩=>by
 unfold fIt at e
 split at e
 ·rename_i us e1
  cases e
  refine⟨ρ,Hq,_,r,e1,fun v Hq1 H1 x1 r1=>?_⟩
  unfold Rep at r1
  obtain⟨a,vs,rfl,q1,q2⟩:=r1
  rw[hK] at q1 q2
  refine⟨a,rfl,.inr ⟨⟨vs,dH x1.sub q1⟩,?_⟩⟩
  rw[← hK]
  refine k _ Hq1 H1 x1 ?_
  rw[hK]
  exact zR q2 _ fun _ _ s1 s2 _=>dH s2 (dH s1 q1)
 ·rename_i us e1
  cases e
  refine⟨ρ,Hq,_,r,e1,fun v Hq1 H1 x1 r1=>?_⟩
  unfold Rep at r1
  obtain⟨a,vs,rfl,q1,q2⟩:=r1
  rw[hK] at q1 q2
  refine⟨a,rfl,.inl ⟨⟨vs,x1.sub.seq q1⟩,?_⟩⟩
  rw[← hK]
  refine k _ Hq1 H1 x1 ?_
  rw[hK]
  exact zO q2 _ fun _ _ s1 s2 _=>s2.seq (s1.seq q1)
 ·cases e
def fRng (f:FE):FA:=fun ρ=>match f ρ with|some (.int j)=>if -(2 ^ 62)≤j∧j<2 ^ 62 then some (rangeT 0 j.toNat) else none|_=>none
def gc (f g:FE):FA:=fun ρ=>match f ρ with|some (.int i)=>(match g ρ with|some (.int j)=>if -(2 ^ 62)≤i∧i<2 ^ 62 ∧ -(2 ^ 62)≤j∧j<2 ^ 62 then some (rangeT i (j - i).toNat) else none|_=>none)|_=>none
theorem ip_range (hg:Gl X "range")(hm:X.mg "range"=none)(h:EV X z e f)(hs:starEach [e] X.env=[(false,eval e X.env)]:=by rfl):PI X tg (.Call (.Name "range" p) [e] [] pos) (iP z (fRng f)) :=
 PI.imp (Hx hg hm (bx h cE hs) hs) fun σ H R ⟨ρ,Hq,ts,r,e,k⟩=>by
  unfold fRng at e
  split at e
  ·rename_i j e1
   split at e
   ·rename_i hj
    cases e
    exact⟨ρ,Hq,_,r,e1,fun v Hq1 H1 x1 r1=>⟨j,by rw[r1.i],hj.1,hj.2,k _ Hq1 H1 x1 (zP _)⟩⟩
   ·cases e
  ·cases e
theorem ip_range2 {a:Expr}(hg:Gl X "range")(hm:X.mg "range"=none)(ha:EV X z a f)(h:EV X z e g)(hs:starEach [a,e] X.env=[(false,eval a X.env),(false,eval e X.env)]:=by rfl) (hs2:starEach [e] X.env=[(false,eval e X.env)]:=by rfl):PI X tg (.Call (.Name "range" p) [a,e] [] pos) (iP z (gc f g)) :=
 PI.imp (Hy hg hm (bx ha (bx h cE (by rw[hs2];rfl)) (by rw[hs,hs2])) hs hs2) fun σ H R ⟨ρ,Hq,ts,r,e,k⟩=>by
  unfold gc at e
  split at e
  ·rename_i i e1
   split at e
   ·rename_i j e2
    split at e
    ·rename_i hj
     cases e
     exact⟨ρ,Hq,_,r,e1,fun v Hq1 H1 x1 r1=>⟨ρ,Hq1,_,r.ext x1,e2,fun v2 Hq2 H2 x2 r2=>⟨i,j,by rw[r1.i,r2.i],hj,k _ Hq2 H2 (x1.trans x2) (zP _)⟩⟩⟩
    ·cases e
   ·cases e
  ·cases e
theorem ir_of {f:FA}(h:PI X tg e (iP z f)):PI X tg e (iR z f):=PI.imp h fun σ H R ⟨ρ,Hq,ts,r,e,k⟩=>⟨ρ,Hq,ts,r,e,fun J Hq' H' x w=>k J Hq' H' (fun _=>True) x trivial (fun _ _ _ h=>h) w⟩
end
abbrev FG:=T→Rho→Option Rho
def tG (z:Z)(tc:List Nat)(g:FG):TG:=fun v σ H Q=>∃ ρ Hq t ρ',Rn z σ ρ Hq H∧Rep z.K Hq t v∧g t ρ=some ρ'∧∀ σ',Rn z σ' ρ' Hq H→(∀ j,j∉tc→σ'[j]?=σ[j]?)→Q σ' H
theorem Rn.setP {z:Z}{σ:L2.St}{ρ:Rho}{Hq H:Hp}(r:Rn z σ ρ Hq H) (i:Nat){t:T}{v:V}(h:Rep z.K Hq t v):Rn z (σ.set i (some v)) (ρ.set i (some (.pu t))) Hq H:=by
 have hl:=r.len
 refine⟨r.ex,by rw[List.length_set,List.length_set];exact hl,fun j u e=>?_,fun j u e=>?_,fun j k us ws a hjk e1 e2 e3=>?_,fun j C e=>?_,r.o.go (kW (fun _ q=>by cases q;exact id)) (fun _ _ _ _ h n=>⟨h,n⟩) (.refl _)⟩
 ·by_cases hj:i=j
  ·subst hj
   by_cases hi:i<ρ.length
   ·rw[List.getElem?_set_self hi] at e
    cases e
    exact⟨v,List.getElem?_set_self (by omega),h⟩
   ·rw[List.getElem?_eq_none (by rw[List.length_set];omega)] at e;cases e
  ·rw[List.getElem?_set_ne hj] at e ⊢
   exact r.pu j u e
 ·by_cases hj:i=j
  ·subst hj
   by_cases hi:i<ρ.length
   ·rw[List.getElem?_set_self hi] at e;cases e
   ·rw[List.getElem?_eq_none (by rw[List.length_set];omega)] at e;cases e
  ·rw[List.getElem?_set_ne hj] at e ⊢
   exact r.ow j u e
 ·have h1:i≠j:=fun z=>by
   subst z
   by_cases hi:i<ρ.length
   ·rw[List.getElem?_set_self hi] at e1;cases e1
   ·rw[List.getElem?_eq_none (by rw[List.length_set];omega)] at e1;cases e1
  have h2:i≠k:=fun z=>by
   subst z
   by_cases hi:i<ρ.length
   ·rw[List.getElem?_set_self hi] at e2;cases e2
   ·rw[List.getElem?_eq_none (by rw[List.length_set];omega)] at e2;cases e2
  rw[List.getElem?_set_ne h1] at e1 e3
  rw[List.getElem?_set_ne h2] at e2 ⊢
  exact r.ne j k us ws a hjk e1 e2 e3
 ·by_cases hj:i=j
  ·subst hj
   by_cases hi:i<ρ.length
   ·rw[List.getElem?_set_self hi] at e;cases e
   ·rw[List.getElem?_eq_none (by rw[List.length_set];omega)] at e;cases e
  ·rw[List.getElem?_set_ne hj] at e ⊢
   exact r.xc j C e
def gNm (i:Nat):FG:=fun t ρ=>some (ρ.set i (some (.pu t)))
section
variable {X:Cx}{z:Z}{pos:Pos}
theorem PG.imp {tg:Expr}{t t':TG}(h:PG X tg t)(i:∀ v σ H Q,t' v σ H Q→t v σ H Q):PG X tg t':=fun pins s σ H v u Q I r q=>h pins s σ H v u Q I r (i v σ H Q q)
theorem eg_name (i:Nat){x:Str}(hN:X.N.Nodup)(hi:X.N[i]?=some x:=by rfl)(hx:Loc X.env.scope x:=by first|exact Or.inl rfl|exact Or.inr rfl)(hf:X.fn x=true∨X.env.scope.names.lookup x=some .local:=by first|exact .inl rfl|exact .inr rfl):PG X (.Name x pos) (tG z [i] (gNm i)) :=
 PG.imp (sO hN hi hx hf) fun v σ H Q ⟨ρ,Hq,t,ρ',r,h,e,k⟩=>by
  cases e
  refine k _ (r.setP i h) fun j hj=>?_
  exact List.getElem?_set_ne fun z=>hj (by simp [z])
def gTp2 (i j:Nat):FG:=fun t ρ=>match t with|.tup [a,b]=>some ((ρ.set i (some (.pu a))).set j (some (.pu b)))|_=>none
theorem eg_tup2 (hK:z.K=X.K)(hc:X.calm=true) (i j:Nat){x y:Str}{px py:Pos}{kd:Nat}(hN:X.N.Nodup)(hi:X.N[i]?=some x:=by rfl)(hj:X.N[j]?=some y:=by rfl)(hx:Loc X.env.scope x:=by first|exact Or.inl rfl|exact Or.inr rfl)(hy:Loc X.env.scope y:=by first|exact Or.inl rfl|exact Or.inr rfl)
  (hf:X.fn x=true∨X.env.scope.names.lookup x=some .local:=by first|exact .inl rfl|exact .inr rfl)(hf2:X.fn y=true∨X.env.scope.names.lookup y=some .local:=by first|exact .inl rfl|exact .inr rfl):PG X (.Tuple [.Name x px,.Name y py] kd pos) (tG z [i,j] (gTp2 i j)) :=
 PG.imp (Hu (n:=2) hc (yz (sO hN hi hx hf) (yz (sO hN hj hy hf2) Hv))) fun v σ H Q ⟨ρ,Hq,t,ρ',r,h,e,k⟩=>by
  unfold gTp2 at e
  split at e
  ·rename_i a b
   cases e
   unfold Rep at h
   obtain⟨p,vs,rfl,q1,q2⟩:=h
   unfold RepL at q2
   obtain⟨v1,r1,rfl,h1,q2⟩:=q2
   unfold RepL at q2
   obtain⟨v2,r2,rfl,h2,q2⟩:=q2
   unfold RepL at q2
   subst q2
   refine⟨p,[v1,v2],rfl,hK▸dH r.sub q1,rfl,v1,[v2],rfl,v2,[],rfl,rfl,k _ ((r.setP i h1).setP j h2) fun l hl=>?_⟩
   have h1:j≠l:=fun z=>hl (by simp [z])
   have h2:i≠l:=fun z=>hl (by simp [z])
   rw[List.getElem?_set_ne h1,List.getElem?_set_ne h2]
  ·cases e
end
def aG (g:FG)(c:FT)(e:FE)(ρ:Rho):List T→Option (List T)
 | []=>some []
 | t::ts=>match g t ρ with
   | none=>none
   | some ρ1=>match c ρ1 with
     | none=>none
     | some false=>aG g c e ρ ts
     | some true=>match e ρ1 with
       | none=>none
       | some y=>match aG g c e ρ ts with
         | none=>none
         | some ys=>some (y::ys)
def subR (ix:List (Option Nat)) (ρ:Rho):Rho:=ix.map fun o=>o.bind fun i=>match ρ[i]? with|some (some (.pu t))=>some (.pu t)|_=>none
def aF (ix:List (Option Nat)) (fi:FA)(g:FG)(c:FT)(e:FE):FA:=fun ρ=>match fi ρ with|some ts=>if ts.length≤sizeLine then aG g c e (subR ix ρ) ts else none|none=>none
def fYes:FT:=fun _=>some true
theorem Rn.subst {z:Z}{σ:L2.St}{ρ:Rho}{Hq H:Hp}(r:Rn z σ ρ Hq H)(ix:List (Option Nat)):Rn ⟨z.K,Hq,H⟩ (bZ ix σ) (subR ix ρ) Hq H:=by
 have ye:∀(i:Nat)(ts:List T),(subR ix ρ)[i]?≠some (some (.ow ts)):=fun i ts e=>by
  unfold subR at e
  rw[List.getElem?_map] at e
  cases hj:ix[i]? with
  | none=>rw[hj] at e;cases e
  | some oi =>
    rw[hj] at e
    cases oi with
    | none=>cases e
    | some k =>
      have e':(match ρ[k]? with|some (some (.pu t))=>some (Sl.pu t)|_=>none)=some (.ow ts):=Option.some.inj e
      split at e'<;>cases e'
 have Gn:∀(i:Nat) (C:Str),(subR ix ρ)[i]?≠some (some (.xc C)):=fun i C e=>by
  unfold subR at e
  rw[List.getElem?_map] at e
  cases hj:ix[i]? with
  | none=>rw[hj] at e;cases e
  | some oi =>
    rw[hj] at e
    cases oi with
    | none=>cases e
    | some k =>
      have e':(match ρ[k]? with|some (some (.pu t))=>some (Sl.pu t)|_=>none)=some (.xc C):=Option.some.inj e
      split at e'<;>cases e'
 have Gm:∀(i:Nat)(sl:Sl),sl.isO→(subR ix ρ)[i]?≠some (some sl):=fun i sl ho e=>by
  unfold subR at e
  rw[List.getElem?_map] at e
  cases hj:ix[i]? with
  | none=>rw[hj] at e;cases e
  | some oi =>
    rw[hj] at e
    cases oi with
    | none=>cases e
    | some k =>
      have e':(match ρ[k]? with|some (some (.pu t))=>some (Sl.pu t)|_=>none)=some sl:=Option.some.inj e
      split at e'
      ·cases e';exact ho
      ·cases e'
 refine⟨.refl r.sub,by unfold subR bZ;rw[List.length_map,List.length_map],fun i t e=>?_,fun i ts e=>absurd e (ye i ts),fun i j ts us a _ e _=>absurd e (ye i ts),fun i C e=>absurd e (Gn i C),.none Gm⟩
 unfold subR at e
 unfold bZ
 rw[List.getElem?_map] at e ⊢
 cases hj:ix[i]? with
 | none=>rw[hj] at e;cases e
 | some oi =>
   rw[hj] at e
   cases oi with
   | none=>cases e
   | some k =>
     have e':(match ρ[k]? with|some (some (.pu t))=>some (Sl.pu t)|_=>none)=some (.pu t):=Option.some.inj e
     split at e'
     ·rename_i u h
      cases e'
      obtain⟨v,h1,h2⟩:=r.pu k _ h
      refine⟨v,?_,h2⟩
      show some ((σ[k]?).join)=some (some v)
      rw[h1];rfl
     ·cases e'
section
variable {X:Cx}{z:Z}{elt iter tg:Expr}{ifs:List Expr}{scope:Scope}{pos:Pos}{N':List Str}{ix:List (Option Nat)}{fi:FA}{g:FG}{tc:List Nat}{c:FT}{fe:FE}
theorem wm (hK:z.K=X.K)(hix:IxOk X.N X.env.scope scope N' ix)(htc:∀ j,j∈tc→∀ i,ix[j]?≠some (some i)):∀ σ H Q,tF z (aF ix fi g c fe) σ H Q→kY ix (iR z fi) (fun v σ H Q=>∃ z',z'.K=X.K∧tG z' tc g v σ H Q) (fun σ H Q=>∃ z',z'.K=X.K∧tB2 z' c σ H Q) (fun σ H Q=>∃ z',z'.K=X.K∧tT z' fe σ H Q) σ H Q:=by
 intro σ H Q ⟨ρ,Hq,us,r,e,k⟩
 unfold aF at e
 split at e
 ·rename_i ts e1
  split at e
  ·rename_i hlen
   refine⟨ρ,Hq,ts,r,e1,fun J Hq1 H1 P x1 hP hPm wk=>?_⟩
   refine⟨fun i m ys H'=>m=ts.length - i∧i≤ts.length∧ys.length≤i∧∃ Hq' pre rest,Ex Hq1 H1 Hq' H'∧RepL z.K Hq' pre ys∧aG g c fe (subR ix ρ) (ts.drop i)=some rest∧us=pre++rest,
    ⟨ts.length,rfl,Nat.zero_le _,Nat.le_refl _,Hq1,[],us,.refl x1.sub,.nil,by simpa using e,rfl⟩,?_⟩
   rintro i m ys H' ⟨rfl,hi,hy,Hq',pre,rest,x2,rp,cr,rfl⟩
   have w:=wk i Hq' H' x2.q x2.sub (hPm _ _ x2.all hP)
   by_cases hlt:i<ts.length
   ·obtain⟨go,yl⟩:=w.1 ts[i] (List.getElem?_eq_getElem hlt)
    refine .inr ⟨go,by omega,fun x H3 y=>?_⟩
    obtain⟨Hq3,x3,rx⟩:=yl x H3 y
    have ed:ts.drop i=ts[i]::ts.drop (i+1):=List.drop_eq_getElem_cons hlt
    rw[ed] at cr
    unfold aG at cr
    have rn:=(((r.ext x1).ext x2).ext x3).subst ix
    have x2:=x2.trans x3
    have rp:=rp.mono x3.q
    split at cr
    ·cases cr
    ·rename_i ρ1 eg
     refine⟨⟨z.K,Hq3,H3⟩,hK,subR ix ρ,Hq3,_,ρ1,rn,rx,eg,fun σ' rn' un=>⟨fun j v ej=>?_,?_⟩⟩
     ·by_cases hj:j∈tc
      ·unfold bZ at ej
       rw[List.getElem?_map] at ej
       cases hx:ix[j]? with
       | none=>rw[hx] at ej;cases ej
       | some oi =>
         rw[hx] at ej
         cases oi with
         | none=>cases ej
         | some k=>exact absurd hx (htc j hj k)
      ·rw[un j hj];exact ej
     ·split at cr
      ·cases cr
      ·rename_i ec
       refine⟨⟨z.K,Hq3,H3⟩,hK,ρ1,Hq3,false,rn',ec,fun Hq4 H4 x4=>iteF ⟨ts.length - (i+1),by omega,rfl,hlt,by omega,Hq4,pre,rest,x2.trans x4,rp.mono x4.q,cr,rfl⟩⟩
      ·rename_i ec
       split at cr
       ·cases cr
       ·rename_i y ey
        split at cr
        ·cases cr
        ·rename_i ys' er
         cases cr
         refine⟨⟨z.K,Hq3,H3⟩,hK,ρ1,Hq3,true,rn',ec,fun Hq4 H4 x4=>iteT ⟨⟨z.K,Hq3,H3⟩,hK,ρ1,Hq4,y,rn'.ext x4,ey,fun v5 Hq5 H5 x5 r5=>?_⟩⟩
         refine⟨ts.length - (i+1),by omega,rfl,hlt,by rw[List.length_append];simp;omega,Hq5,pre++[y],ys',(x2.trans x4).trans x5,((rp.mono x4.q).mono x5.q).append (.one r5),er,by simp⟩
   ·have hi':i=ts.length:=by omega
    subst hi'
    rw[List.drop_length] at cr
    cases cr
    refine .inl ⟨w.2 (Nat.le_refl _),by omega,fun p hp=>?_⟩
    rw[List.append_nil] at k
    exact k p ys Hq' H' (x1.trans x2) hp rp
  ·cases e
 ·cases e
theorem Cy (hK:z.K=X.K)(hc:X.calm=true)(hkind:scope.kind=.function)(hcell:∀ y∈scope.names,y.2=.cell→scope.names.lookup y.1=some .cell)(hdis:∀ x,(x,NameKind.cell)∈scope.names→(x,NameKind.free)∉scope.names) (hnames:∀ y∈scope.names,y.2=.local→scope.names.lookup y.1=some .local)
  (hfr:∀ x∈scope.names,x.2=.free→X.env.kindOf x.1=some .cell∨X.env.kindOf x.1=some .free)(hix:IxOk X.N X.env.scope scope N' ix)(hfree:∀(j i:Nat) (x:Str),ix[j]?=some (some i)→N'[j]?=some x→scope.names.lookup x=some .free)
  (htc:∀ j,j∈tc→∀ i,ix[j]?≠some (some i))
  (hi:PI X tg iter (iR z fi)) (hg:∀ C s H fp z',z'.K=X.K→PG (au X scope N' C s H fp) tg (tG z' tc g)) (ht:∀ C s H fp z',z'.K=X.K→PIfs (au X scope N' C s H fp) ifs (tB2 z' c)) (he:∀ C s H fp z',z'.K=X.K→EV (au X scope N' C s H fp) z' elt fe)
  (hs:∀ x,foldedSetIterable iter X.env x=pure x:=by intro _;rfl):EF X z (.ListComp elt [⟨tg,iter,ifs,0⟩] scope pos) (aF ix fi g c fe):=by
 have big:PE X (.ListComp elt [⟨tg,iter,ifs,0⟩] scope pos) (kY ix (iR z fi) (fun v σ H Q=>∃ z',z'.K=X.K∧tG z' tc g v σ H Q) (fun σ H Q=>∃ z',z'.K=X.K∧tB2 z' c σ H Q) (fun σ H Q=>∃ z',z'.K=X.K∧tT z' fe σ H Q)) :=
  G7 hc hkind hcell hdis hnames hfr hix hfree hi
   (fun C s H fp pins s' σ H' v u Q I r ⟨z',hz,q⟩=>hg C s H fp z' hz pins s' σ H' v u Q I r q)
   (fun C s H fp pins s' σ H' Q I ⟨z',hz,q⟩=>ht C s H fp z' hz pins s' σ H' Q I q)
   (fun C s H fp pins s' σ H' Q I ⟨z',hz,q⟩=>he C s H fp z' hz pins s' σ H' Q I q) hs
 exact PE.imp big (wm hK hix htc)
theorem HP (hK:z.K=X.K)(hc:X.calm=true)(hkind:scope.kind=.function)(hcell:∀ y∈scope.names,y.2=.cell→scope.names.lookup y.1=some .cell)(hdis:∀ x,(x,NameKind.cell)∈scope.names→(x,NameKind.free)∉scope.names) (hnames:∀ y∈scope.names,y.2=.local→scope.names.lookup y.1=some .local)
  (hfr:∀ x∈scope.names,x.2=.free→X.env.kindOf x.1=some .cell∨X.env.kindOf x.1=some .free)(hix:IxOk X.N X.env.scope scope N' ix)(hfree:∀(j i:Nat) (x:Str),ix[j]?=some (some i)→N'[j]?=some x→scope.names.lookup x=some .free)
  (htc:∀ j,j∈tc→∀ i,ix[j]?≠some (some i))
  (hi:PI X tg iter (iR z fi)) (hg:∀ C s H fp z',z'.K=X.K→PG (au X scope N' C s H fp) tg (tG z' tc g)) (ht:∀ C s H fp z',z'.K=X.K→PIfs (au X scope N' C s H fp) ifs (tB2 z' c)) (he:∀ C s H fp z',z'.K=X.K→EV (au X scope N' C s H fp) z' elt fe)
  (hs:∀ x,foldedSetIterable iter X.env x=pure x){i:Nat}{x:Str}{pos' pos2:Pos}(hN:X.N.Nodup)(hxi:X.N[i]?=some x)(hx:Loc X.env.scope x)
  (hsw:swapsWith (.ListComp elt [⟨tg,iter,ifs,0⟩] scope pos) (some (.Name x pos')) pos2.line X.env=pure true)
  (hf:X.fn x=true∨X.env.scope.names.lookup x=some .local):PS X (.Assign [.Name x pos'] (.ListComp elt [⟨tg,iter,ifs,0⟩] scope pos) pos2) (tAsg (tF z (aF ix fi g c fe)) (iZ i)) :=
 PS.imp (HS hc hkind hcell hdis hnames hfr hix hfree hi
   (fun C s H fp pins s' σ H' v u Q I r ⟨z',hz,q⟩=>hg C s H fp z' hz pins s' σ H' v u Q I r q)
   (fun C s H fp pins s' σ H' Q I ⟨z',hz,q⟩=>ht C s H fp z' hz pins s' σ H' Q I q)
   (fun C s H fp pins s' σ H' Q I ⟨z',hz,q⟩=>he C s H fp z' hz pins s' σ H' Q I q) hs hN hxi hx hsw hf) fun D σ H q=>wm (X:=X) (scope:=scope) (N':=N') hK hix htc σ H _ q
end
end TL
namespace TL
open PySem L2
inductive Out where
 | nx (ρ:Rho)|rt (t:T)|bk (ρ:Rho)|ct (ρ:Rho)
abbrev FS:=Rho→Option Out
def Fin (z:Z)(H0:Hp)(D:Ends):Out→Prop
 | .nx ρ=>∀ σ Hq H,Rn z σ ρ Hq H→Same H0 Hq→D.nx σ H
 | .rt t=>∀ v Hq H,Ex z.Hq z.H Hq H→Rep z.K Hq t v→D.rt v H
 | .bk ρ=>∀ σ Hq H,Rn z σ ρ Hq H→Same H0 Hq→D.bk σ H
 | .ct ρ=>∀ σ Hq H,Rn z σ ρ Hq H→Same H0 Hq→D.ct σ H
theorem Fin.from {z:Z}{H0 H1:Hp}{D:Ends}{o:Out}(k:Fin z H0 D o)(h:Same H0 H1):Fin z H1 D o:=by
 cases o with
 | nx ρ=>exact fun σ Hq H r s=>k σ Hq H r (h.trans s)
 | rt t=>exact k
 | bk ρ=>exact fun σ Hq H r s=>k σ Hq H r (h.trans s)
 | ct ρ=>exact fun σ Hq H r s=>k σ Hq H r (h.trans s)
def tS (z:Z)(F:FS):TS:=fun D σ H=>∃ ρ Hq o,Rn z σ ρ Hq H∧F ρ=some o∧Fin z Hq D o
abbrev SV (X:Cx)(z:Z)(s:Stmt)(F:FS):Prop:=PS X s (tS z F)
abbrev SVs (X:Cx)(z:Z)(s:List Stmt)(F:FS):Prop:=PSs X s (tS z F)
section
variable {X:Cx}{z:Z}{st:Stmt}{rest:List Stmt}{F G:FS}{e:Expr}{f g:FE}{fa:FA}{pos:Pos}
def sNil:FS:=fun ρ=>some (.nx ρ)
theorem ss_nil:SVs X z [] sNil:=PSs.imp HV fun D σ H ⟨ρ,Hq,o,r,e,k⟩=>by
 cases e;exact k σ Hq H r (.refl _)
def sSeq (F G:FS):FS:=fun ρ=>match F ρ with|some (.nx ρ')=>G ρ'|o=>o
theorem ss_cons (h1:SV X z st F)(h2:SVs X z rest G):SVs X z (st::rest) (sSeq F G):=PSs.imp (yI h1 h2) fun D σ H ⟨ρ,Hq,o,r,e,k⟩=>by
 unfold sSeq at e
 split at e
 ·rename_i ρ' e1
  exact⟨ρ,Hq,_,r,e1,fun σ' Hq' H' r' sm=>⟨ρ',Hq',o,r',e,k.from sm⟩⟩
 ·rename_i o' hne
  refine⟨ρ,Hq,o,r,e,?_⟩
  cases o with
  | nx ρ'=>exact absurd e (hne ρ')
  | rt t=>exact k
  | bk ρ'=>exact k
  | ct ρ'=>exact k
theorem ss_one (h1:SV X z st F):SVs X z [st] F:=yJ h1
def sRet (f:FE):FS:=fun ρ=>(f ρ).map .rt
theorem s_ret (h:EV X z e f):SV X z (.Return (some e) pos) (sRet f):=PS.imp (nj h) fun D σ H ⟨ρ,Hq,o,r,e,k⟩=>by
 unfold sRet at e
 cases q:f ρ with
 | none=>rw[q] at e;cases e
 | some t =>
   rw[q] at e
   cases e
   exact⟨ρ,Hq,t,r,q,fun v Hq' H' x p=>k v Hq' H' (r.ex.trans x) p⟩
def jg (i:Nat):FS:=fun ρ=>match ρ[i]? with|some (some (.ow ts))=>some (.rt (.lst ts))|_=>none
theorem s_retO (i:Nat){x:Str}{p:Pos}(hN:X.N[i]?=some x:=by rfl)(hv:Vis X.env.scope x:=by first|exact Or.inl rfl|exact Or.inr (Or.inl rfl)|exact Or.inr (Or.inr rfl)) (hd:(x==("__debug__":Str))=false:=by decide)
  (hcd:(x==("__classdict__":Str))=false:=by decide):SV X z (.Return (some (.Name x p)) pos) (jg i):=PS.imp (nj (bO hN hv hd hcd)) fun D σ H ⟨ρ,Hq,o,r,e,k⟩=>by
 unfold jg at e
 split at e
 ·rename_i ts h
  cases e
  obtain⟨a,vs,h1,h2,h3,h4,h5⟩:=r.ow i ts h
  refine⟨_,h1,k _ (upd Hq a (.lst vs)) H ?_ (nt h2 h5)⟩
  refine⟨r.ex.all,fun b u e=>?_,fun b u e=>?_,fun b e n=>?_⟩
  ·have:b≠a:=fun q=>by subst q;rw[r.ex.q b u e] at h2;cases h2
   rw[ak this];exact r.ex.q b u e
  ·by_cases hb:b=a
   ·subst hb;rw[bR] at e;cases e;exact h4
   ·rw[ak hb] at e;exact r.sub b u e
  ·have:b≠a:=fun q=>by subst q;exact e h3
   rw[ak this];exact r.ex.out b e n
 ·cases e
def sSet (i:Nat)(f:FE):FS:=fun ρ=>(f ρ).map fun t=>.nx (ρ.set i (some (.pu t)))
theorem s_set (i:Nat){x:Str}{pos':Pos}(hN:X.N.Nodup)(h:EV X z e f)(hi:X.N[i]?=some x:=by rfl)(hx:Loc X.env.scope x:=by first|exact Or.inl rfl|exact Or.inr rfl)
  (hs:swapsWith e (some (.Name x pos')) pos.line X.env=pure false:=by rfl) (hf:X.fn x=true∨X.env.scope.names.lookup x=some .local:=by first|exact .inl rfl|exact .inr rfl):SV X z (.Assign [.Name x pos'] e pos) (sSet i f) :=
 PS.imp (sS hN hi hx h hs hf) fun D σ H ⟨ρ,Hq,o,r,e,k⟩=>by
  unfold sSet at e
  cases q:f ρ with
  | none=>rw[q] at e;cases e
  | some t =>
    rw[q] at e
    cases e
    exact⟨ρ,Hq,t,r,q,fun v Hq' H' x p=>k _ Hq' H' ((r.ext x).setP i p) x.q⟩
theorem Rn.setO {z:Z}{σ:L2.St}{ρ:Rho}{Hq H:Hp}(r:Rn z σ ρ Hq H) (i:Nat){ts:List T}{vs:List V}{p:Addr}(hp:H p=none)(h:RepL z.K Hq ts vs):Rn z (σ.set i (some (.ref p))) (ρ.set i (some (.ow ts))) Hq (upd H p (.lst vs)):=by
 have hl:=r.len
 have hq:Hq p=none:=r.sub.free hp
 have hz:z.H p=none:=r.ex.all.free hp
 refine⟨⟨fun b u e=>?_,r.ex.q,fun b u e=>?_,r.ex.out⟩,by rw[List.length_set,List.length_set];exact hl,fun j u e=>?_,fun j u e=>?_,fun j k us ws a hjk e1 e2 e3=>?_,fun j C e=>?_,r.o.go (kW (fun _ q=>by cases q;exact id)) (fun _ _ _ _ h n=>⟨by rw[ak (aE h hp)];exact h,n⟩) (.refl _)⟩
 ·rw[ak (aE e hz)];exact r.ex.all b u e
 ·rw[ak (aE e hq)];exact r.sub b u e
 ·by_cases hj:i=j
  ·subst hj
   by_cases hi:i<ρ.length
   ·rw[List.getElem?_set_self hi] at e;cases e
   ·rw[List.getElem?_eq_none (by rw[List.length_set];omega)] at e;cases e
  ·rw[List.getElem?_set_ne hj] at e ⊢
   exact r.pu j u e
 ·by_cases hj:i=j
  ·subst hj
   by_cases hi:i<ρ.length
   ·rw[List.getElem?_set_self hi] at e
    cases e
    exact⟨p,vs,List.getElem?_set_self (by omega),hq,hz,bR,h⟩
   ·rw[List.getElem?_eq_none (by rw[List.length_set];omega)] at e;cases e
  ·rw[List.getElem?_set_ne hj] at e ⊢
   obtain⟨a,ws,h1,h2,h3,h4,h5⟩:=r.ow j u e
   exact⟨a,ws,h1,h2,h3,by rw[ak (aE h4 hp)];exact h4,h5⟩
 ·by_cases h1:i=j
  ·subst h1
   have h2:i≠k:=hjk
   by_cases hi:i<ρ.length
   ·rw[List.getElem?_set_self (by omega)] at e3
    cases e3
    rw[List.getElem?_set_ne h2] at e2 ⊢
    obtain⟨b,ws',g1,g2,g3,g4,g5⟩:=r.ow k ws e2
    rw[g1]
    intro q
    cases q
    rw[hp] at g4;cases g4
   ·rw[List.getElem?_eq_none (by rw[List.length_set];omega)] at e1;cases e1
  ·rw[List.getElem?_set_ne h1] at e1 e3
   by_cases h2:i=k
   ·subst h2
    by_cases hi:i<ρ.length
    ·rw[List.getElem?_set_self (by omega)]
     obtain⟨b,ws',g1,g2,g3,g4,g5⟩:=r.ow j us e1
     rw[g1] at e3
     intro q
     cases q
     cases e3
     rw[hp] at g4;cases g4
    ·rw[List.getElem?_eq_none (by rw[List.length_set];omega)] at e2;cases e2
   ·rw[List.getElem?_set_ne h2] at e2 ⊢
    exact r.ne j k us ws a hjk e1 e2 e3
 ·by_cases hj:i=j
  ·subst hj
   by_cases hi:i<ρ.length
   ·rw[List.getElem?_set_self hi] at e;cases e
   ·rw[List.getElem?_eq_none (by rw[List.length_set];omega)] at e;cases e
  ·rw[List.getElem?_set_ne hj] at e ⊢
   obtain⟨a,oe,u,h1,h2,h3,h4⟩:=r.xc j C e
   exact⟨a,oe,u,h1,h2,by rw[ak (aE h3 hp)];exact h3,h4⟩
def sOwn (i:Nat)(f:FA):FS:=fun ρ=>(f ρ).map fun ts=>.nx (ρ.set i (some (.ow ts)))
theorem s_own (i:Nat){x:Str}{pos':Pos}(hN:X.N.Nodup)(h:EF X z e fa)(hi:X.N[i]?=some x:=by rfl)(hx:Loc X.env.scope x:=by first|exact Or.inl rfl|exact Or.inr rfl)
  (hs:swapsWith e (some (.Name x pos')) pos.line X.env=pure false:=by rfl) (hf:X.fn x=true∨X.env.scope.names.lookup x=some .local:=by first|exact .inl rfl|exact .inr rfl):SV X z (.Assign [.Name x pos'] e pos) (sOwn i fa) :=
 PS.imp (sS hN hi hx h hs hf) fun D σ H ⟨ρ,Hq,o,r,e,k⟩=>by
  unfold sOwn at e
  cases q:fa ρ with
  | none=>rw[q] at e;cases e
  | some ts =>
    rw[q] at e
    cases e
    exact⟨ρ,Hq,ts,r,q,fun p vs Hq' H' x hp rl=>k _ Hq' _ ((r.ext x).setO i hp rl) x.q⟩
theorem JH {i:Nat}{fa:FA}{z:Z}:∀ D σ H,tS z (sSet i (fNew fa)) D σ H→tAsg (tF z fa) (iZ i) D σ H:=fun D σ H ⟨ρ,Hq,o,r,e,k⟩=>by
  unfold sSet fNew at e
  cases q:fa ρ with
  | none=>rw[q] at e;cases e
  | some ts =>
    rw[q] at e
    cases e
    refine⟨ρ,Hq,ts,r,q,fun p vs Hq' H' x hp rl=>?_⟩
    have x2:Ex Hq H (upd Hq' p (.lst vs)) (upd H' p (.lst vs)):=x.trans (.new x.sub hp)
    exact k _ _ _ ((r.ext x2).setP i (nt (x.sub.free hp) rl)) x2.q
theorem Rn.app {z:Z}{σ:L2.St}{ρ:Rho}{Hq H:Hp}(r:Rn z σ ρ Hq H) (i:Nat){ts us:List T}{vs ws:List V}{a:Addr}(e0:ρ[i]?=some (some (.ow ts))) (hσ:σ[i]?=some (some (.ref a))) (hq:Hq a=none)(hz:z.H a=none)(hH:H a=some (.lst vs)) (h:RepL z.K Hq us ws) :
  Rn z σ (ρ.set i (some (.ow us))) Hq (upd H a (.lst ws)):=by
 have hi:i<ρ.length:=(List.getElem?_eq_some_iff.mp e0).1
 refine⟨⟨fun b u e=>?_,r.ex.q,fun b u e=>?_,r.ex.out⟩,by rw[List.length_set];exact r.len,fun j u e=>?_,fun j u e=>?_,fun j k us' ws' b hjk e1 e2 e3=>?_,fun j C e=>?_,r.o.go (JG (fun _ q=>by cases q;exact id)) (fun _ _ _ _ h n=>⟨by rw[ak (ya h hH (fun q=>nomatch q))];exact h,n⟩) (.refl _)⟩
 ·rw[ak (aE e hz)];exact r.ex.all b u e
 ·rw[ak (aE e hq)];exact r.sub b u e
 ·by_cases hj:i=j
  ·subst hj;rw[List.getElem?_set_self hi] at e;cases e
  ·rw[List.getElem?_set_ne hj] at e;exact r.pu j u e
 ·by_cases hj:i=j
  ·subst hj
   rw[List.getElem?_set_self hi] at e
   cases e
   exact⟨a,ws,hσ,hq,hz,bR,h⟩
  ·rw[List.getElem?_set_ne hj] at e
   obtain⟨b,ws',h1,h2,h3,h4,h5⟩:=r.ow j u e
   have:b≠a:=fun q=>by subst q;exact r.ne i j ts u b hj e0 e hσ h1
   exact⟨b,ws',h1,h2,h3,by rw[ak this];exact h4,h5⟩
 ·have g1:∃ us0,ρ[j]?=some (some (.ow us0)):=by
   by_cases hj:i=j
   ·subst hj;exact⟨ts,e0⟩
   ·rw[List.getElem?_set_ne hj] at e1;exact⟨us',e1⟩
  have g2:∃ us0,ρ[k]?=some (some (.ow us0)):=by
   by_cases hj:i=k
   ·subst hj;exact⟨ts,e0⟩
   ·rw[List.getElem?_set_ne hj] at e2;exact⟨ws',e2⟩
  obtain⟨u1,g1⟩:=g1
  obtain⟨u2,g2⟩:=g2
  exact r.ne j k u1 u2 b hjk g1 g2 e3
 ·by_cases hj:i=j
  ·subst hj;rw[List.getElem?_set_self hi] at e;cases e
  ·rw[List.getElem?_set_ne hj] at e
   obtain⟨b,oe,u,h1,h2,h3,h4⟩:=r.xc j C e
   exact⟨b,oe,u,h1,h2,by rw[ak (ya h3 hH (fun q=>nomatch q))];exact h3,h4⟩
def sApp (i:Nat)(f:FE):FS:=fun ρ=>match ρ[i]? with
 | some (some (.ow ts))=>(match f ρ with|some t=>if ts.length<sizeLine then some (.nx (ρ.set i (some (.ow (ts++[t]))))) else none|none=>none)
 | _=>none
theorem s_app (i:Nat){x:Str}{p1 p2 p3:Pos}(hb:PE X (.Call (.Attribute (.Name x p1) "append" p2) [e] [] p3) (tBM X.K "list" sU (tVar i) (nN (tT z f) tNil))):SV X z (.Expr (.Call (.Attribute (.Name x p1) "append" p2) [e] [] p3) pos) (sApp i f) :=
 PS.imp (yG hb) fun D σ H ⟨ρ,Hq,o,r,e,k⟩=>by
  unfold sApp at e
  split at e
  ·rename_i ts e0
   split at e
   ·rename_i t e1
    split at e
    ·rename_i hl
     cases e
     obtain⟨a,vs,h1,h2,h3,h4,h5⟩:=r.ow i ts e0
     refine⟨_,h1,.inl ⟨rfl,_,SqL.of h4⟩,ρ,Hq,t,r,e1,fun v Hq1 H1 x1 r1=>?_⟩
     have r':=r.ext x1
     obtain⟨a',vs',g1,g2,g3,g4,g5⟩:=r'.ow i ts e0
     rw[h1] at g1
     cases g1
     have:vs'=vs:=by
      have:=x1.all _ _ h4
      rw[g4] at this
      cases this;rfl
     subst this
     refine⟨a,vs',v,rfl,rfl,g4,by rw[← g5.length];exact hl,k σ Hq1 _ (r'.app i e0 h1 g2 g3 g4 (g5.append (.one r1))) x1.q⟩
    ·cases e
   ·cases e
  ·cases e
def sIf (c:FT)(F G:FS):FS:=fun ρ=>match c ρ with|some true=>F ρ|some false=>G ρ|none=>none
theorem s_if {c:Expr}{a b:List Stmt}{ft:FT}(hc:ET X z c ft)(ha:SVs X z a F)(hb:SVs X z b G):SV X z (.If c a b pos) (sIf ft F G):=PS.imp (yH hc ha hb) fun D σ H ⟨ρ,Hq,o,r,e,k⟩=>by
 unfold sIf at e
 split at e
 ·rename_i q
  exact⟨ρ,Hq,true,r,q,fun Hq1 H1 x1=>iteT ⟨ρ,Hq1,o,r.ext x1,e,k.from x1.q⟩⟩
 ·rename_i q
  exact⟨ρ,Hq,false,r,q,fun Hq1 H1 x1=>iteF ⟨ρ,Hq1,o,r.ext x1,e,k.from x1.q⟩⟩
 ·cases e
def aI (g:FG)(b:FS):List T→Rho→Option Out
 | [],ρ=>some (.nx ρ)
 | t::ts,ρ=>match g t ρ with
   | none=>none
   | some ρ1=>match b ρ1 with
     | some (.nx ρ2)=>aI g b ts ρ2
     | some (.ct ρ2)=>aI g b ts ρ2
     | some (.bk ρ2)=>some (.nx ρ2)
     | some (.rt t)=>some (.rt t)
     | none=>none
def sFor (fi:FA)(g:FG)(b:FS):FS:=fun ρ=>match fi ρ with|some ts=>aI g b ts ρ|none=>none
theorem s_for {iter tg:Expr}{body:List Stmt}{g:FG}{tc:List Nat}(hp:PassesOwn (model X.prog X.w) X.A X.env X.xe) (hc:X.calm=true)(hi:PI X tg iter (iP z fa)) (hg:PG X tg (tG z tc g)) (hb:SVs X z body F)
  (hs:∀ x,foldedSetIterable iter X.env x=pure x:=by intro _;rfl):SV X z (.For tg iter body [] pos) (sFor fa g F):=PS.imp (HR hp hc hi hg hb hs) fun D σ H ⟨ρ,Hq,o,r,e,k⟩=>by
 unfold sFor at e
 split at e
 ·rename_i ts e1
  refine⟨ρ,Hq,ts,r,e1,fun J Hq1 H1 x1 wk=>?_⟩
  refine⟨fun i m σ' H'=>m=ts.length - i∧i≤ts.length∧∃ ρ' Hq',Rn z σ' ρ' Hq' H'∧Same Hq1 Hq'∧aI g F (ts.drop i) ρ'=some o,⟨ts.length,rfl,Nat.zero_le _,ρ,Hq1,r.ext x1,.refl _,by simpa using e⟩,?_⟩
  rintro i m σ' H' ⟨rfl,hi,ρ',Hq',r',sq,lp⟩
  have w:=wk i Hq' H' sq r'.sub trivial
  by_cases hlt:i<ts.length
  ·obtain⟨go,yl⟩:=w.1 ts[i] (List.getElem?_eq_getElem hlt)
   have ed:ts.drop i=ts[i]::ts.drop (i+1):=List.drop_eq_getElem_cons hlt
   rw[ed] at lp
   unfold aI at lp
   refine .inr ⟨go,fun σ2 H2=>∃ ρ2 Hq2,Rn z σ2 ρ2 Hq2 H2∧Same Hq1 Hq2∧aI g F (ts.drop (i+1)) ρ2=some o,fun σ2 H2 ⟨ρ2,Hq2,h1,h2,h3⟩=>⟨ts.length - (i+1),by omega,rfl,hlt,ρ2,Hq2,h1,h2,h3⟩,fun x H3 y=>?_⟩
   obtain⟨Hq3,x3,rx⟩:=yl x H3 y
   have r':=r'.ext x3
   have sq:=sq.trans x3.q
   split at lp
   ·cases lp
   ·rename_i ρ1 eg
    refine⟨ρ',Hq3,_,ρ1,r',rx,eg,fun σ1 r1 _=>?_⟩
    split at lp
    ·rename_i ρ2 eb
     exact⟨ρ1,Hq3,_,r1,eb,fun σ2 Hq2 H2 r2 s2=>⟨ρ2,Hq2,r2,sq.trans s2,lp⟩⟩
    ·rename_i ρ2 eb
     exact⟨ρ1,Hq3,_,r1,eb,fun σ2 Hq2 H2 r2 s2=>⟨ρ2,Hq2,r2,sq.trans s2,lp⟩⟩
    ·rename_i ρ2 eb
     cases lp
     exact⟨ρ1,Hq3,_,r1,eb,fun σ2 Hq2 H2 r2 s2=>k σ2 Hq2 H2 r2 ((x1.q.trans sq).trans s2)⟩
    ·rename_i t eb
     cases lp
     exact⟨ρ1,Hq3,_,r1,eb,k⟩
    ·cases lp
  ·have hi':i=ts.length:=by omega
   subst hi'
   rw[List.drop_length] at lp
   cases lp
   exact .inl ⟨w.2 (Nat.le_refl _),k σ' Hq' H' r' (x1.q.trans sq)⟩
 ·cases e
def yY (f:FE):FS:=fun ρ=>(f ρ).map fun _=>.nx ρ
def dw (c:FT)(b:FS):Nat→Rho→Option Out
 | 0,_=>none
 | n+1,ρ=>match c ρ with
   | some true=>(match b ρ with
     | some (.nx ρ2)=>dw c b n ρ2
     | some (.ct ρ2)=>dw c b n ρ2
     | some (.bk ρ2)=>some (.nx ρ2)
     | some (.rt t)=>some (.rt t)
     | none=>none)
   | some false=>some (.nx ρ)
   | none=>none
def kT (n:Nat)(c:FT)(b:FS):FS:=dw c b n
theorem s_while (n:Nat){c:Expr}{body:List Stmt}{ft:FT}(hp:PassesOwn (model X.prog X.w) X.A X.env X.xe) (hc:ET X z c ft)(hb:SVs X z body F):SV X z (.While c body [] pos) (kT n ft F) :=
 PS.imp (HU hp hc hb) fun D σ H ⟨ρ,Hq,o,r,e,k⟩=>by
  refine⟨fun m σ' H'=>∃ ρ' Hq',Rn z σ' ρ' Hq' H'∧Same Hq Hq'∧dw ft F m ρ'=some o,⟨n,ρ,Hq,r,.refl _,e⟩,?_⟩
  rintro m σ' H' ⟨ρ',Hq',r',sq,lp⟩
  cases m with
  | zero=>cases lp
  | succ m =>
    unfold dw at lp
    split at lp
    ·rename_i ec
     refine⟨ρ',Hq',true,r',ec,fun Hq1 H1 x1=>?_⟩
     refine⟨fun σ2 H2=>∃ ρ2 Hq2,Rn z σ2 ρ2 Hq2 H2∧Same Hq Hq2∧dw ft F m ρ2=some o,fun σ2 H2 q=>⟨m,Nat.lt_succ_self _,q⟩,?_⟩
     have sq1:=sq.trans x1.q
     split at lp
     ·rename_i ρ2 eb
      exact⟨ρ',Hq1,_,r'.ext x1,eb,fun σ2 Hq2 H2 r2 s2=>⟨ρ2,Hq2,r2,sq1.trans s2,lp⟩⟩
     ·rename_i ρ2 eb
      exact⟨ρ',Hq1,_,r'.ext x1,eb,fun σ2 Hq2 H2 r2 s2=>⟨ρ2,Hq2,r2,sq1.trans s2,lp⟩⟩
     ·rename_i ρ2 eb
      cases lp
      exact⟨ρ',Hq1,_,r'.ext x1,eb,fun σ2 Hq2 H2 r2 s2=>k σ2 Hq2 H2 r2 (sq1.trans s2)⟩
     ·rename_i t eb
      cases lp
      exact⟨ρ',Hq1,_,r'.ext x1,eb,k⟩
     ·cases lp
    ·rename_i ec
     cases lp
     exact⟨ρ',Hq',false,r',ec,fun Hq1 H1 x1=>k σ' Hq1 H1 (r'.ext x1) (sq.trans x1.q)⟩
    ·cases lp
end
def run (n:Nat)(F:FS)(ts:List T):Option T:=match F (ts.map (fun t=>some (.pu t))++List.replicate (n - ts.length) none) with
 | some (.rt t)=>some t
 | some (.nx _)=>some .non
 | _=>none
theorem tV {K:PySem.W.Frag}{Hq H:Hp}(sb:Same Hq H){N:List Str}{ts:List T}{vs:List V}(h:RepL K Hq ts vs):Rn ⟨K,Hq,H⟩ (start N vs) (ts.map (fun t=>some (.pu t))++List.replicate (N.length - ts.length) none) Hq H:=by
 have hl:=h.length
 have no:∀(i:Nat)(us:List T),(ts.map (fun t=>some (Sl.pu t))++List.replicate (N.length - ts.length) none)[i]?≠some (some (.ow us)):=fun i us e=>by
  by_cases hi:i<ts.length
  ·rw[List.getElem?_append_left (by rw[List.length_map];exact hi),List.getElem?_map,List.getElem?_eq_getElem hi] at e
   cases e
  ·rw[List.getElem?_append_right (by rw[List.length_map];omega),List.getElem?_replicate] at e
   split at e<;>cases e
 have nox:∀(i:Nat) (C:Str),(ts.map (fun t=>some (Sl.pu t))++List.replicate (N.length - ts.length) none)[i]?≠some (some (.xc C)):=fun i C e=>by
  by_cases hi:i<ts.length
  ·rw[List.getElem?_append_left (by rw[List.length_map];exact hi),List.getElem?_map,List.getElem?_eq_getElem hi] at e
   cases e
  ·rw[List.getElem?_append_right (by rw[List.length_map];omega),List.getElem?_replicate] at e
   split at e<;>cases e
 have noo:∀(i:Nat)(sl:Sl),sl.isO→(ts.map (fun t=>some (Sl.pu t))++List.replicate (N.length - ts.length) none)[i]?≠some (some sl):=fun i sl ho e=>by
  by_cases hi:i<ts.length
  ·rw[List.getElem?_append_left (by rw[List.length_map];exact hi),List.getElem?_map,List.getElem?_eq_getElem hi] at e
   cases e;exact ho
  ·rw[List.getElem?_append_right (by rw[List.length_map];omega),List.getElem?_replicate] at e
   split at e<;>cases e
 refine⟨.refl sb,by unfold L2.start;simp [hl],fun i t e=>?_,fun i us e=>absurd e (no i us),fun i j us ws a _ e _=>absurd e (no i us),fun i C e=>absurd e (nox i C),.none noo⟩
 by_cases hi:i<ts.length
 ·rw[List.getElem?_append_left (by rw[List.length_map];exact hi),List.getElem?_map,List.getElem?_eq_getElem hi] at e
  cases e
  obtain⟨v,e1,r1⟩:=h.get (List.getElem?_eq_getElem hi)
  refine⟨v,?_,r1⟩
  unfold L2.start
  rw[List.getElem?_append_left (by rw[List.length_map];omega),List.getElem?_map,e1];rfl
 ·rw[List.getElem?_append_right (by rw[List.length_map];omega),List.getElem?_replicate] at e
  split at e<;>cases e
section
variable {P:Program}{w:World}{K:PySem.W.Frag}{mg:Str→Option Value}{base:Heap}
theorem wW {x qual:Str}{st:Stmt}{f:Addr}{fd:FuncData}{N ps:List Str}{k:Nat}{F:FS}(G:Fun K x qual st f fd)(S:av N ps (af st))
  (hbody:∀(cdv:Value)(A:Around)(outer:List Env)(s:Shared)(H:Hp)(E:XK)(z:Z),Room k (A.deeper (PyProof.Rows.envOfC qual (af st) s.heap.objs.size f cdv))→z.K=K →
   SVs (cxOf CX0 P w K mg base N qual (af st) f cdv A outer s H E).nox z (aj st) F):FnOk P w K mg base CX0 (k+1) f fd ps (spT K ps.length (run N.length F)):=by
 refine G.ok S (fun vs H Q E h=>?_) fun cdv A outer s H vs Q E hr h=>?_
 ·obtain⟨Hq,ts,t,hl,_,r,_⟩:=h
  rw[← r.length,hl]
 ·obtain⟨Hq,ts,t,hl,sb,r,e,k⟩:=h
  refine⟨_,hbody cdv A outer s H E ⟨K,Hq,H⟩ hr rfl,?_⟩
  unfold run at e
  split at e
  ·rename_i t' e1
   cases e
   exact⟨_,Hq,_,tV sb r,e1,fun v Hq' H' x p=>k v Hq' H' x p⟩
  ·rename_i ρ' e1
   cases e
   exact⟨_,Hq,_,tV sb r,e1,fun σ' Hq' H' r' _=>k .non Hq' H' r'.ex kQ⟩
  ·cases e
end
end TL
namespace TL
open PySem L2
def Src (K:PySem.W.Frag)(mg:Str→Option Value) (x:Str)(st:Stmt)(ps:List Str):Prop:=∃ a fd,Fun K x x st a fd∧Binds K fd ps []∧mg x=some (.ref a)
def Has (P:Program)(w:World)(K:PySem.W.Frag)(mg:Str→Option Value)(base:Heap) (x:Str) (k n:Nat)(F:List T→Option T):Prop :=
 ∃ a fd ps,ps.length=n∧FnOk P w K mg base CX0 k a fd ps (spT K n F)∧mg x=some (.ref a)∧PySem.W.keepIn K (.ref a)=true∧Binds K fd ps []
theorem ev_has {X:Cx}{z:Z}{k n:Nat}{x:Str}{p pos:Pos}{e:Expr}{es:List Expr}{fa:FA}{F:List T→Option T}(hK:z.K=X.K)(h:Has X.prog X.w X.K X.mg X.base x k n F)(hr:Room k X.A)(ha:EA X z (e::es) fa) (hg:Gl X x:=by rfl)
  (hd:(x==("__debug__":Str))=false:=by decide) (hs:starEach (e::es) X.env=(false,eval e X.env)::starEach es X.env:=by rfl) (hpl:(backTo pos (starEach es X.env)).any (·.1)=false:=by rfl) :
  EV X z (.Call (.Name x p) (e::es) [] pos) (aq n F fa):=by
 obtain⟨a,fd,ps,hl,G,hm,hk,hb⟩:=h
 exact CG hK G hr hg hm hk hb hl ha hd hs hpl
section
variable {P:Program}{w:World}{K:PySem.W.Frag}{mg:Str→Option Value}{base:Heap}
theorem D8 {x:Str}{st:Stmt}{N ps:List Str}{k:Nat}{F:FS}(G:Src K mg x st ps)(S:av N ps (af st))
  (hbody:∀(f:Addr)(cdv:Value)(A:Around)(outer:List Env)(s:Shared)(H:Hp)(E:XK)(z:Z),Room k (A.deeper (PyProof.Rows.envOfC x (af st) s.heap.objs.size f cdv))→z.K=K →
   SVs (cxOf CX0 P w K mg base N x (af st) f cdv A outer s H E).nox z (aj st) F):Has P w K mg base x (k+1) ps.length (run N.length F):=by
 obtain⟨a,fd,f,b,m⟩:=G
 exact⟨a,fd,ps,rfl,wW f S (hbody a),m,f.kp,b⟩
theorem D9 {x:Str}{st:Stmt}{N ps:List Str}{k n m:Nat}{F:FS}(hn:ps.length=n)(hm:N.length=m)(G:Src K mg x st ps)(S:av N ps (af st))
  (hbody:∀(f:Addr)(cdv:Value)(A:Around)(outer:List Env)(s:Shared)(H:Hp)(E:XK)(z:Z),Room k (A.deeper (PyProof.Rows.envOfC x (af st) s.heap.objs.size f cdv))→z.K=K →
   SVs (cxOf CX0 P w K mg base N x (af st) f cdv A outer s H E).nox z (aj st) F):Has P w K mg base x (k+1) n (run m F):=by
 subst hn hm
 exact D8 G S hbody
theorem Dj {x qual:Str}{st:Stmt}{f:Addr}{fd:FuncData}{N ps:List Str}{k n m:Nat}{F:FS}(hn:ps.length=n)(hm:N.length=m)(G:Fun K x qual st f fd)(S:av N ps (af st))
  (hbody:∀(cdv:Value)(A:Around)(outer:List Env)(s:Shared)(H:Hp)(E:XK)(z:Z),Room k (A.deeper (PyProof.Rows.envOfC qual (af st) s.heap.objs.size f cdv))→z.K=K →
   SVs (cxOf CX0 P w K mg base N qual (af st) f cdv A outer s H E).nox z (aj st) F):FnOk P w K mg base CX0 (k+1) f fd ps (spT K n (run m F)):=by
 subst hn hm
 exact wW G S hbody
theorem J2 {h:Heap}{x:Str}{st:Stmt}{ps:List Str}{f:Addr}{oc:Value}{od an:Option Addr}{osl:Array (Option Value)}{kV doc pm cdv ct:Value}(X:K.In h)(G:h.Ns mainGlobals mg)(a:PySem.W.nsIn K mainGlobals x=some (some (.ref f)))
  (l:K.lookup f=some ⟨oc,od,.func (PySem.W.fnOf x x (bf st) (aj st) (af st) .none kV doc pm an cdv ct),osl⟩)
  (c:PySem.W.codeIn K cdv x=true)(k:PySem.W.keepIn K (.ref f)=true)
  (hb:∀(kV doc pm:Value)(an:Option Addr)(cdv ct:Value)(us:List Value),us.length=ps.length→bindArgs (PySem.W.fnOf x x (bf st) (aj st) (af st) .none kV doc pm an cdv ct) ⟨us,[]⟩=pure (ps.zip us)):Src K mg x st ps :=
 ⟨f,_,kH (st:=st) l c k,(kH (st:=st) l c k).binds hb,PySem.W.mg_of X G a⟩
end
def ez (N:List Str)(sc scope:Scope)(N':List Str)(ix:List (Option Nat)) (tc:List Nat):Bool :=
 scope.kind==.function&&scope.names.all (fun y=>y.2 != .cell||(scope.names.lookup y.1==some .cell&&scope.names.all (fun z=>z.2 != .free||z.1 != y.1)))&&scope.names.all (fun y=>y.2 != .local||scope.names.lookup y.1==some .local) &&
 scope.names.all (fun x=>x.2 != .free||(sc.names.lookup x.1==some .cell||sc.names.lookup x.1==some .free))&&ix.length==N'.length &&
 (List.range ix.length).all (fun j=>match ix[j]?,N'[j]? with
  | some (some i),some x=>N[i]?==some x&&(sc.names.lookup x==some .cell||sc.names.lookup x==some .free)&&scope.names.lookup x==some .free
  | _,_=>true) &&
 tc.all (fun j=>match ix[j]? with|some (some _)=>false|_=>true)
theorem ef_comp' {X:Cx}{z:Z}{elt iter tg:Expr}{ifs:List Expr}{scope:Scope}{pos:Pos}{fi:FA}{g:FG}{c:FT}{fe:FE}(N:List Str)(sc:Scope)(N':List Str)(ix:List (Option Nat)) (tc:List Nat)(ok:ez N sc scope N' ix tc=true)
  (hK:z.K=X.K)(hi:PI X tg iter (iR z fi)) (hg:∀ C s H fp z',z'.K=X.K→PG (au X scope N' C s H fp) tg (tG z' tc g)) (ht:∀ C s H fp z',z'.K=X.K→PIfs (au X scope N' C s H fp) ifs (tB2 z' c)) (he:∀ C s H fp z',z'.K=X.K→EV (au X scope N' C s H fp) z' elt fe)
  (hN:X.N=N:=by rfl)(hsc:X.env.scope=sc:=by rfl)(hc:X.calm=true:=by rfl)(hs:∀ x,foldedSetIterable iter X.env x=pure x:=by intro _;rfl):EF X z (.ListComp elt [⟨tg,iter,ifs,0⟩] scope pos) (aF ix fi g c fe):=by
 simp only[ez,Bool.and_eq_true,List.all_eq_true,Bool.or_eq_true,bne_iff_ne,beq_iff_eq] at ok
 obtain⟨⟨⟨⟨⟨⟨o1,o2⟩,o3⟩,o4⟩,o5⟩,o6⟩,o7⟩:=ok
 subst hN
 have at6:∀(j i:Nat) (x:Str),ix[j]?=some (some i)→N'[j]?=some x→X.N[i]?=some x∧(sc.names.lookup x=some .cell∨sc.names.lookup x=some .free)∧scope.names.lookup x=some .free:=fun j i x e1 e2=>by
  have hj:j<ix.length:=(List.getElem?_eq_some_iff.mp e1).1
  have:=o6 j (List.mem_range.mpr hj)
  rw[e1,e2] at this
  simp only[Bool.and_eq_true,beq_iff_eq,Bool.or_eq_true] at this
  exact⟨this.1.1,this.1.2,this.2⟩
 refine Cy hK hc o1 (fun y hy e=>((o2 y hy).resolve_left fun z=>z e).1) (fun x h1 h2=>by
   have:=((o2 _ h1).resolve_left fun z=>z rfl).2 _ h2
   rcases this with z|z
   ·exact z rfl
   ·exact z rfl) (fun y hy e=>(o3 y hy).resolve_left fun z=>z e) (fun x hx e=>?_) ⟨o5,fun j i x e1 e2=>⟨(at6 j i x e1 e2).1,?_⟩⟩ (fun j i x e1 e2=>(at6 j i x e1 e2).2.2) (fun j hj i e=>?_) hi hg ht he hs
 ·have:=(o4 x hx).resolve_left fun z=>z e
  show X.env.scope.names.lookup x.1=_∨X.env.scope.names.lookup x.1=_
  rw[hsc];exact this
 ·rw[hsc]
  exact .inr (at6 j i x e1 e2).2.1
 ·have:=o7 j hj
  rw[e] at this
  cases this
theorem Jg {X:Cx}{z:Z}{elt iter tg:Expr}{ifs:List Expr}{scope:Scope}{pos:Pos}{fi:FA}{g:FG}{c:FT}{fe:FE}{x:Str}{pos' pos2:Pos} (i:Nat)(hnd:X.N.Nodup)(N:List Str)(sc:Scope)(N':List Str)(ix:List (Option Nat)) (tc:List Nat)(ok:ez N sc scope N' ix tc=true)
  (hK:z.K=X.K)(hi:PI X tg iter (iR z fi)) (hg:∀ C s H fp z',z'.K=X.K→PG (au X scope N' C s H fp) tg (tG z' tc g)) (ht:∀ C s H fp z',z'.K=X.K→PIfs (au X scope N' C s H fp) ifs (tB2 z' c)) (he:∀ C s H fp z',z'.K=X.K→EV (au X scope N' C s H fp) z' elt fe)
  (hN:X.N=N:=by rfl)(hsc:X.env.scope=sc:=by rfl)(hc:X.calm=true:=by rfl)(hs:∀ x,foldedSetIterable iter X.env x=pure x:=by intro _;rfl)(hxi:X.N[i]?=some x:=by rfl)(hx:Loc X.env.scope x:=by first|exact Or.inl rfl|exact Or.inr rfl)
  (hsw:swapsWith (.ListComp elt [⟨tg,iter,ifs,0⟩] scope pos) (some (.Name x pos')) pos2.line X.env=pure true:=by rfl)
  (hf:X.fn x=true∨X.env.scope.names.lookup x=some .local:=by first|exact .inl rfl|exact .inr rfl):PS X (.Assign [.Name x pos'] (.ListComp elt [⟨tg,iter,ifs,0⟩] scope pos) pos2) (tAsg (tF z (aF ix fi g c fe)) (iZ i)):=by
 simp only[ez,Bool.and_eq_true,List.all_eq_true,Bool.or_eq_true,bne_iff_ne,beq_iff_eq] at ok
 obtain⟨⟨⟨⟨⟨⟨o1,o2⟩,o3⟩,o4⟩,o5⟩,o6⟩,o7⟩:=ok
 subst hN
 have at6:∀(j i:Nat) (x:Str),ix[j]?=some (some i)→N'[j]?=some x→X.N[i]?=some x∧(sc.names.lookup x=some .cell∨sc.names.lookup x=some .free)∧scope.names.lookup x=some .free:=fun j i x e1 e2=>by
  have hj:j<ix.length:=(List.getElem?_eq_some_iff.mp e1).1
  have:=o6 j (List.mem_range.mpr hj)
  rw[e1,e2] at this
  simp only[Bool.and_eq_true,beq_iff_eq,Bool.or_eq_true] at this
  exact⟨this.1.1,this.1.2,this.2⟩
 refine HP hK hc o1 (fun y hy e=>((o2 y hy).resolve_left fun z=>z e).1) (fun x h1 h2=>by
   have:=((o2 _ h1).resolve_left fun z=>z rfl).2 _ h2
   rcases this with z|z
   ·exact z rfl
   ·exact z rfl) (fun y hy e=>(o3 y hy).resolve_left fun z=>z e) (fun x hx e=>?_) ⟨o5,fun j i x e1 e2=>⟨(at6 j i x e1 e2).1,?_⟩⟩ (fun j i x e1 e2=>(at6 j i x e1 e2).2.2) (fun j hj i e=>?_) hi hg ht he hs hnd hxi hx hsw hf
 ·have:=(o4 x hx).resolve_left fun z=>z e
  show X.env.scope.names.lookup x.1=_∨X.env.scope.names.lookup x.1=_
  rw[hsc];exact this
 ·rw[hsc]
  exact .inr (at6 j i x e1 e2).2.1
 ·have:=o7 j hj
  rw[e] at this
  cases this
theorem s_setC {X:Cx}{z:Z}{elt iter tg:Expr}{ifs:List Expr}{scope:Scope}{pos:Pos}{fi:FA}{g:FG}{c:FT}{fe:FE}{x:Str}{pos' pos2:Pos} (i:Nat)(hnd:X.N.Nodup)(N:List Str)(sc:Scope)(N':List Str)(ix:List (Option Nat)) (tc:List Nat)(ok:ez N sc scope N' ix tc=true)
  (hK:z.K=X.K)(hi:PI X tg iter (iR z fi)) (hg:∀ C s H fp z',z'.K=X.K→PG (au X scope N' C s H fp) tg (tG z' tc g)) (ht:∀ C s H fp z',z'.K=X.K→PIfs (au X scope N' C s H fp) ifs (tB2 z' c)) (he:∀ C s H fp z',z'.K=X.K→EV (au X scope N' C s H fp) z' elt fe)
  (hN:X.N=N:=by rfl)(hsc:X.env.scope=sc:=by rfl)(hc:X.calm=true:=by rfl)(hs:∀ x,foldedSetIterable iter X.env x=pure x:=by intro _;rfl)(hxi:X.N[i]?=some x:=by rfl)(hx:Loc X.env.scope x:=by first|exact Or.inl rfl|exact Or.inr rfl)
  (hsw:swapsWith (.ListComp elt [⟨tg,iter,ifs,0⟩] scope pos) (some (.Name x pos')) pos2.line X.env=pure true:=by rfl)
  (hf:X.fn x=true∨X.env.scope.names.lookup x=some .local:=by first|exact .inl rfl|exact .inr rfl):SV X z (.Assign [.Name x pos'] (.ListComp elt [⟨tg,iter,ifs,0⟩] scope pos) pos2) (sSet i (fNew (aF ix fi g c fe))) :=
 PS.imp (Jg i hnd N sc N' ix tc ok hK hi hg ht he hN hsc hc hs hxi hx hsw hf) JH
theorem ef_compN {X:Cx}{z:Z}{elt iter tg:Expr}{ifs:List Expr}{scope:Scope}{pos:Pos}{fi:FA}{g:FG}{c:FT}{fe:FE}(N':List Str)(ix:List (Option Nat)) (tc:List Nat)(ok:ez X.N X.env.scope scope N' ix tc=true)
  (hK:z.K=X.K)(hi:PI X tg iter (iR z fi)) (hg:∀ C s H fp z',z'.K=X.K→PG (au X scope N' C s H fp) tg (tG z' tc g)) (ht:∀ C s H fp z',z'.K=X.K→PIfs (au X scope N' C s H fp) ifs (tB2 z' c)) (he:∀ C s H fp z',z'.K=X.K→EV (au X scope N' C s H fp) z' elt fe)
  (hc:X.calm=true:=by rfl)(hs:∀ x,foldedSetIterable iter X.env x=pure x:=by intro _;rfl):EF X z (.ListComp elt [⟨tg,iter,ifs,0⟩] scope pos) (aF ix fi g c fe) :=
 ef_comp' X.N X.env.scope N' ix tc ok hK hi hg ht he rfl rfl hc hs
theorem et_ifs1 {X:Cx}{z:Z}{c:Expr}{f:FT}(h:ET X z c f):PIfs X [c] (tB2 z f):=HB h
theorem et_ifs0 {X:Cx}{z:Z}:PIfs X [] (tB2 z fYes):=fun pins s σ H Q I ⟨ρ,Hq,b,r,e,k⟩=>HA pins s σ H Q I (by
 cases e;exact k Hq H (.refl r.sub))
end TL
namespace TL
open PySem L2
section
variable {env:Env}{r:List Expr}{pos:Pos}
theorem ao {x:Str}:starEach (.Name x pos::r) env=(false,eval (.Name x pos) env)::starEach r env:=rfl
theorem bY {c:Const}{k:Nat}:starEach (.Constant c k pos::r) env=(false,eval (.Constant c k pos) env)::starEach r env:=rfl
theorem tQ {a b:Expr}{o:Operator}:starEach (.BinOp a o b pos::r) env=(false,eval (.BinOp a o b pos) env)::starEach r env:=rfl
theorem J4 {o:UnaryOp}{a:Expr}:starEach (.UnaryOp o a pos::r) env=(false,eval (.UnaryOp o a pos) env)::starEach r env:=rfl
theorem ck {a:Expr}{vs:List Expr}{ks:List Keyword}:starEach (.Call a vs ks pos::r) env=(false,eval (.Call a vs ks pos) env)::starEach r env:=rfl
theorem jj {a:Expr}{x:Str}:starEach (.Attribute a x pos::r) env=(false,eval (.Attribute a x pos) env)::starEach r env:=rfl
theorem jk {a b:Expr}:starEach (.Subscript a b pos::r) env=(false,eval (.Subscript a b pos) env)::starEach r env:=rfl
theorem tU {vs:List Expr}:starEach (.List vs pos::r) env=(false,eval (.List vs pos) env)::starEach r env:=rfl
theorem eN {vs:List Expr}{k:Nat}:starEach (.Tuple vs k pos::r) env=(false,eval (.Tuple vs k pos) env)::starEach r env:=rfl
end
end TL
namespace L2
open PySem PySem.Spec PyProof.Rows
section
variable {prog:Program}{w:World}{A:Around}{E:Value→Shared→Prop}{s:Shared}
theorem Ga {it t:Addr}{i:Nat}{items:Array Value}{x:Value}{Q:Value→Shared→Prop}(hit:s.heap.IsTupleIter it t i)
  (ht:s.heap.IsTuple t items)(hx:items[i]?=some x)
  (hQ:∀ h',h'.IsTupleIter it t (i+1)→Heap.SameBut it s.heap h'→Q x {s with heap:=h'}) :
  wpAny (model prog w) A (Builtin.SmallTypes.nextOf (.ref it)) Q E s:=by
 obtain⟨o,ho,hc,hd⟩:=id hit
 obtain⟨ol,hol,_,nl,hdl⟩:=ht
 unfold Builtin.SmallTypes.nextOf
 refine wpAny_bind (wpAny_callSpecial?_slot (name:=Str.ofString "__next__") hit.typeIs F.slot_tuple_iterator_next
  (wpAny_call_entry F.slot_tuple_iterator_next hit.typeIs F.entry_tuple_iterator_next ?_ (F.args_tuple_iterator_next_1 _)))
 show wpAny _ _ (field (.ref it) 0 >>= _) _ _ s
 refine wpAny_bind (wpAny_field ho hd (x:=.ref t) rfl ?_)
 show wpAny _ _ (if (Value.ref t==Value.none)=true then _ else _) _ _ s
 rw[if_neg (show ¬((Value.ref t==Value.none)=true) from Bool.false_ne_true)]
 show wpAny _ _ (field (.ref it) 1 >>= _) _ _ s
 refine wpAny_bind (wpAny_field ho hd (x:=.int i 0) rfl ?_)
 show wpAny _ _ (seqItems? (.ref t) >>= _) _ _ s
 refine wpAny_bind (wpAny_seqItems hol hdl ?_)
 simp only[Int.toNat_natCast,hx]
 refine wpAny_bind (wpAny_setField ho hd (by simp) (wpAny_pure ⟨x,rfl,wpAny_pure (hQ _ ?_ (Heap.SameBut.update ..))⟩))
 exact⟨_,Heap.get?_update_self _ ho (Obj.isFreed_of_fields (Obj.data_mapFields hd _)),(Obj.cls_mapFields ..).trans hc,by
  rw[Obj.data_mapFields hd];simp [rawInt]⟩
theorem yb {it t:Addr}{i:Nat}{items:Array Value}{Q:Value→Shared→Prop}(hh:A.handled=none)
  (hit:s.heap.IsTupleIter it t i)(ht:s.heap.IsTuple t items)(hx:items[i]?=none)
  (hE:∀ h' e,Heap.ExtBut it s.heap h'→(∃ o,h'.get? e=some o∧o.cls=.type "StopIteration")→E (.ref e) {s with heap:=h'}) :
  wpAny (model prog w) A (Builtin.SmallTypes.nextOf (.ref it)) Q E s:=by
 obtain⟨o,ho,hc,hd⟩:=id hit
 obtain⟨ol,hol,_,nl,hdl⟩:=ht
 unfold Builtin.SmallTypes.nextOf
 refine wpAny_bind (wpAny_callSpecial?_slot (name:=Str.ofString "__next__") hit.typeIs F.slot_tuple_iterator_next
  (wpAny_call_entry F.slot_tuple_iterator_next hit.typeIs F.entry_tuple_iterator_next ?_ (F.args_tuple_iterator_next_1 _)))
 show wpAny _ _ (field (.ref it) 0 >>= _) _ _ s
 refine wpAny_bind (wpAny_field ho hd (x:=.ref t) rfl ?_)
 show wpAny _ _ (if (Value.ref t==Value.none)=true then _ else _) _ _ s
 rw[if_neg (show ¬((Value.ref t==Value.none)=true) from Bool.false_ne_true)]
 show wpAny _ _ (field (.ref it) 1 >>= _) _ _ s
 refine wpAny_bind (wpAny_field ho hd (x:=.int i 0) rfl ?_)
 show wpAny _ _ (seqItems? (.ref t) >>= _) _ _ s
 refine wpAny_bind (wpAny_seqItems hol hdl ?_)
 simp only[Int.toNat_natCast,hx]
 refine wpAny_bind (wpAny_rule (wpAny_bind (wpAny_setField ho hd (by simp) ?_)))
 show wpAny _ _ (newExc (.type "StopIteration") [] >>= _) _ _ _
 refine wpAny_bind ?_
 simp only[newExc,newTuple]
 refine wpAny_bind (wpAny_newObj_type ?_ (by size_fits))
 refine wpAny_bind (m:=firstArgMember _ _) (wpAny_of_eq (a:=Value.none) (by first|rfl|(simp only[firstArgMember];rfl)) ?_)
 refine wpAny_newObj_type ?_ (by size_fits)
 simp only[raiseNew]
 refine wpAny_bind (wpAny_handled ?_)
 first|rw[show A.in1.handled=none from hh]|rw[hh]
 refine wpAny_bind (wpAny_pure (wpAny_throw ?_))
 exact hE _ _ (((Heap.SameBut.update ..).extBut.push _).push _) ⟨_,Heap.get?_push_size _ rfl,rfl⟩
end
theorem Cw {prog:Program}{w:World}{A:Around}(hh:A.handled=none)(it t:Addr)(hne:t≠it)(items:Array Value) :
  Draws prog w A it [it,t] items.size (fun i v=>items[i]?=some v) (fun i h=>h.IsTupleIter it t i∧h.IsTuple t items) where
 live:=fun _ _ st=>let ⟨o,ho,_⟩:=st.1;⟨o,ho⟩
 frame:=fun _ _ _ st hk=>⟨let ⟨o,ho,r⟩:=st.1;⟨o,hk it (by simp) o ho,r⟩,let ⟨o,ho,r⟩:=st.2;⟨o,hk t (by simp) o ho,r⟩⟩
 item:=fun i s Q E hi st hQ=>by
  refine Ga st.1 st.2 (x:=items[i]) (by simp [hi]) fun h' hit' hs'=>?_
  exact hQ _ h' s.toks (by simp [hi]) ⟨hit',st.2.extBut hs'.extBut hne⟩ hs'
 done:=fun s Q E st hE=>yb hh st.1 st.2 (by simp) hE
set_option maxHeartbeats 1000000 in
theorem FP (l:Addr)(items:Array Value) (n:Nat)(dct:Option Addr)(sl:Array (Option Value)) :
  Meets (Builtin.«enumerate.__new__» ⟨[.type "enumerate",.ref l],[]⟩) (fun _ R s=>s.heap.get? l=some {cls:=.type "tuple",dict:=dct,data:=.seq items n,slots:=sl} ∧
   R (.ok (.ret (.ref (s.heap.push {cls:=.type "tuple_iterator",data:=.fields #[.ref l,.int 0 0]}).objs.size)))
     {s with heap:=(s.heap.push {cls:=.type "tuple_iterator",data:=.fields #[.ref l,.int 0 0]}).push {cls:=.type "enumerate",data:=.fields #[.none,.bool false,.ref s.heap.objs.size,rawInt 0,.none,.none]}}) :=
 .of_wp fun prog w A R s h=>by
  obtain⟨hp,g,d,tk,os⟩:=s;obtain⟨hl,h⟩:=h
  have hsub:=sub_enumerate
  have hL:Heap.IsTuple (Shared.heap ⟨hp,g,d,tk,os⟩) l items:=⟨_,hl,rfl,n,rfl⟩
  wp_walk using AutoSeq1.wpAny_loadPart' hl
  refine wpAny_stack_any fun st=>wpAny_pure ?_
  split
  ·rename_i c _ _ _ _ _
   cases (c==Value.type "enumerate")
   ·wp_walk using AutoSeq1.wpAny_loadPart' hl,wpAny_pyIter_tuple hL
    exact⟨_,rfl,h⟩
   ·wp_walk using AutoSeq1.wpAny_loadPart' hl,wpAny_pyIter_tuple hL
    exact⟨_,rfl,h⟩
  ·wp_walk using AutoSeq1.wpAny_loadPart' hl,wpAny_pyIter_tuple hL
   exact⟨_,rfl,h⟩
section
variable {prog:Program}{w:World}{A:Around}{E:Value→Shared→Prop}{s:Shared}
theorem BH {l:Addr}{items:Array Value}{Q:Value→Shared→Prop}(hL:s.heap.IsTuple l items)
  (h:∀ h',IsEnum h' (s.heap.objs.size+1) s.heap.objs.size 0 .none→h'.IsTupleIter s.heap.objs.size l 0→h'.objs.size=s.heap.objs.size+2 →
   (∀ b o,s.heap.get? b=some o→h'.get? b=some o)→Q (.ref (s.heap.objs.size+1)) {s with heap:=h'}) :
  wpAny (model prog w) A (call (.type "enumerate") [.ref l]) Q E s:=by
 obtain⟨⟨c,dct,dt,sl⟩,hl,hc,n,hd⟩:=hL
 replace hc:c=.type "tuple":=hc
 replace hd:dt=.seq items n:=hd
 subst hc hd
 refine callType_new F.called_enumerate (by decide) (F.typeCall_enumerate_1 _) (F.newCall_enumerate_1 _) (fun obj=>F.args_object_init_2 obj _) F.entry_enumerate_new
  (FP l items n dct sl) ⟨hl,?_⟩
 have hz:(s.heap.push {cls:=.type "tuple_iterator",data:=.fields #[.ref l,.int 0 0]}).objs.size=s.heap.objs.size+1:=Heap.size_push ..
 show _∧_
 rw[hz]
 have he:IsEnum ((s.heap.push {cls:=.type "tuple_iterator",data:=.fields #[.ref l,.int 0 0]}).push
   {cls:=.type "enumerate",data:=.fields #[.none,.bool false,.ref s.heap.objs.size,rawInt 0,.none,.none]}) (s.heap.objs.size+1) s.heap.objs.size 0 .none:=by
  have:=Heap.get?_push_size (s.heap.push {cls:=.type "tuple_iterator",data:=.fields #[.ref l,.int 0 0]})
   (o:={cls:=.type "enumerate",data:=.fields #[.none,.bool false,.ref s.heap.objs.size,rawInt 0,.none,.none]}) rfl
  rw[hz] at this;exact this
 refine⟨⟨_,he,rfl⟩,h _ he ⟨_,Heap.get?_push_of_some _ (Heap.get?_push_size _ rfl),rfl,rfl⟩ (by rw[Heap.size_push,hz]) fun b o x=>Heap.get?_push_of_some _ (Heap.get?_push_of_some _ x)⟩
end
section
variable {X:Cx}{pins:List (Addr×Obj)}{σ:St}{H:Hp}{s:Shared}{h':Heap}
theorem Inv.jq {t':Nat}{fp:List Addr}(I:Inv X pins σ H s)(k:∀ b o,b∉fp→s.heap.get? b=some o→h'.get? b=some o)(hf:∀ b∈fp,FpOk X pins H b):Inv X pins σ H {s with heap:=h',toks:=t'}:=by
 have nit:∀ b u,H b=some u→b∉fp:=fun b u e z=>by rw[(hf b z).1] at e;cases e
 refine I.step (g':=s.gens) (d':=s.drawn) (ch:=fp) (fun b hb=>?_) (fun b o _ _ hc e _=>k b o hc e) (fun b o _ _ hc e _=>⟨o.slots,k b o hc e⟩) (fun _ _ _ _ n=>n)
  (fun b o hc e=>⟨o,k b o hc e⟩) (fun _ _ e=>e) (fun _ _ _ e=>e) (fun b ps e=>⟨#[],by rw[e];simp⟩) (fun m hm=>?_) (fun b u e=>?_) I.bare
 ·obtain⟨f0,f1,f2,f3,f4,f5⟩:=hf b hb
  exact⟨f3,f1,f4,f5⟩
 ·obtain⟨o,es,ep,ho,r⟩:=hm
  exact⟨o,es,ep,k _ o (fun z=>(hf _ z).2.1 rfl) ho,r⟩
 ·refine(I.hok b u e).stay (fun c v hc q=>k c v ?_ q) (fun _ q=>q) fun _ _ q=>q
  rcases hc with z|z
  ·rw[z];exact nit b u e
  ·exact nit c _ z
theorem Inv.track {a:Addr}{o:HO}(I:Inv X pins σ H s)(hn:H a=none)(h0:X.s₀.heap.objs.size≤a)(hL:a≠X.env.locals)(hc:∀ x c,X.env.cells.lookup x=some c→c≠a)(hp:∀ p∈X.pn++pins,p.1≠a)
  (new:bE X.prog X.w (upd H a o) s.heap a o):Inv X pins σ (upd H a o) s:=by
 refine⟨I.ok,I.os,I.bare,?_,I.loc,I.cell,?_,fun x c e=>?_,fun p q=>?_,I.hok.track hn new,I.len⟩
 ·have B:=I.base
  refine⟨B.keep,B.slot,fun b ob e n hx=>?_,B.there,fun b xs e=>?_,fun b ob u e=>?_,fun b ps e=>?_⟩
  ·rw[ak (Nat.ne_of_lt (Nat.lt_of_lt_of_le (Heap.lt_size e) h0))];exact B.free b ob e n hx
  ·have:=B.tups b xs e
   rw[ak (aE this hn)];exact this
  ·have:=B.frzs b ob u e
   rw[ak (aE this hn)];exact this
  ·obtain⟨more,this⟩:=B.tbls b ps e
   exact⟨more,by rw[ak (aE this hn)];exact this⟩
 ·rw[ak (Ne.symm hL)];exact I.free
 ·rw[ak (hc x c e)];exact I.bK x c e
 ·obtain⟨p1,p2,p3⟩:=I.pin p q
  exact⟨p1,by rw[ak (hp p q)];exact p2,p3⟩
end
section
variable {prog:Program}{w:World}{A:Around}{E:Value→Shared→Prop}{s:Shared}
theorem Ii {e it l:Addr}{i:Nat}{items:Array Value}{old:Value}{Q:Option Value→Shared→Prop}(hh:A.handled=none)
  (he:IsEnum s.heap e it i old)(hit:s.heap.IsTupleIter it l i)(hl:s.heap.IsTuple l items)(hx:items[i]?=none)
  (hQ:∀ h',Heap.ExtBut it s.heap h'→Q none {s with heap:=h'}):wpAny (model prog w) A (pyNext (.ref e)) Q E s:=by
 have hT:s.TypeIs (.ref e) "enumerate":=⟨_,he,rfl⟩
 unfold pyNext
 refine wpAny_bind (wpAny_attempt (wpAny_callSpecial?_slot (name:=Str.ofString "__next__") hT F.slot_enumerate_next
  (wpAny_call_entry F.slot_enumerate_next hT F.entry_enumerate_next ?_ (F.args_enumerate_next_1 _))))
 show wpAny _ _ (field (.ref e) 2 >>= _) _ _ _
 refine wpAny_bind (wpAny_field he rfl (x:=.ref it) rfl ?_)
 refine wpAny_bind (yb hh hit hl hx fun h' x he' hx'=>?_)
 obtain⟨o,ho,hc⟩:=hx'
 refine wpAny_bind (wpAny_isInstance (T:="StopIteration") (b:=true) ⟨o,ho,hc⟩ isSubtype_stop ?_)
 exact wpAny_pure (hQ _ he')
end
def IteT (K:PySem.W.Frag)(a:Addr):It :=
 ⟨fun i H=>∃ xs x,SqT K H a xs∧xs[i]?=some x,fun i H x H'=>∃ p y,x=.ref p∧H p=none∧(∀ xs,SqT K H a xs→xs[i]?=some y)∧H'=upd H p (.tup [.int i,y]),fun i H=>∃ xs,SqT K H a xs∧xs.length≤i⟩
theorem Le {P:Program}{w:World}{K:PySem.W.Frag}{elts:List Expr}{kd:Nat}{ps:Pos}(a e it:Addr)(hei:e≠it)(hai:a≠it)(hae:a≠e):Turn P w K (.Tuple elts kd ps) (IteT K a) [e,it] e (fun i h=>(∃ old,IsEnum h e it i old)∧h.IsTupleIter it a i) where
 mem:=by simp
 obj:=fun i h st b hb=>by
  obtain⟨⟨old,he⟩,o,ho,c,d⟩:=st
  rcases List.mem_cons.mp hb with z|z
  ·subst z
   exact⟨_,he,fun v q=>by cases q⟩
  ·have z':b=it:=by simpa using z
   subst z'
   exact⟨o,ho,fun v q=>by rw[d] at q;cases q⟩
 keep:=fun i h h' st k=>by
  obtain⟨⟨old,he⟩,o,ho,r⟩:=st
  exact⟨⟨old,k e (by simp) _ he⟩,o,k it (by simp) o ho,r⟩
 item:=by
  intro X hP hw hK hc i pins s σ H E I hf st hg
  subst hP hw hK
  obtain⟨xs,x,hq,hx⟩:=hg
  obtain⟨its,rv,p,hz⟩:=I.tuple hq
  obtain⟨u,hu,ru⟩:=rv.get hx
  obtain⟨⟨old,he⟩,hit⟩:=st
  have hlt:i<its.toArray.size:=by
   have:=(List.getElem?_eq_some_iff.mp hu).1
   simpa using this
  refine wpAny_pyNext_enum_itemD (Cw (prog:=X.prog) (w:=X.w) (A:=X.A.in1) (I.ok.hd hc) it a hai its.toArray) he ⟨hit,(show s.heap.IsTuple a its.toArray from p)⟩ hlt hei (by simp;exact⟨hei,Ne.symm hae⟩) fun y h1 tk hy ho hs1 hT hsz hk=>?_
  have ey:y=u:=by
   have h2:its[i]?=some y:=by simpa using hy
   rw[hu] at h2
   exact(Option.some.inj h2).symm
  subst ey
  refine⟨_,rfl,?_⟩
  have pn:H s.heap.objs.size=none:=I.hok.fresh (Nat.le_refl _)
  have I1:Inv X pins σ H {s with heap:=h1,toks:=tk+1}:=I.jq (fp:=[e,it]) (fun b o hb e'=>hk b o (fun z=>hb (by simp [z])) (fun z=>hb (by simp [z])) e') hf
  refine wpAny_letOwnedTupleGo_enum (s:={s with heap:=h1,toks:=tk+1}) ho fun h2 he2 hs2=>?_
  have I2:Inv X pins σ H {s with heap:=h2,toks:=tk+1}:=Inv.jq (s:={s with heap:=h1,toks:=tk+1}) (h':=h2) (t':=tk+1) (fp:=[e,it]) I1 (fun b o hb e'=>(hs2.2 b fun z=>hb (by simp [z])).trans e') hf
  have lte:e<s.heap.objs.size:=Heap.lt_size he
  have lti:it<s.heap.objs.size:=let ⟨o,ho,_⟩:=hit;Heap.lt_size ho
  have ht2:h2.get? s.heap.objs.size=some {cls:=.type "tuple",data:=.seq #[.int i tk,y]}:=(hs2.2 _ (Nat.ne_of_gt lte)).trans hT
  have I3:Inv X pins σ (upd H s.heap.objs.size (.tup [.int i,x])) {s with heap:=h2,toks:=tk+1}:=by
   have f:=I.fpOk (H':=H) (Nat.le_refl _) pn
   refine I2.track pn (Nat.le_trans I.sz (Nat.le_refl _)) f.2.1 f.2.2.2.2.1 f.2.2.2.2.2 ⟨by show 2≤sizeLine;decide,[.int i tk,y],.cons ⟨tk,rfl⟩ (.cons ru .nil),?_⟩
   exact⟨_,ht2,rfl,_,rfl⟩
  refine⟨.ref s.heap.objs.size,_,I3,rfl,⟨_,x,rfl,pn,fun ys hy=>by rw[I.uA hy hq];exact hx,rfl⟩,⟨⟨y,by simpa using he2⟩,?_⟩,fun b hb=>?_⟩
  ·obtain⟨o,ho',r⟩:=hs1.1
   exact⟨o,(hs2.2 it (Ne.symm hei)).trans ho',r⟩
  ·have hb':b<s.heap.objs.size:=by
    rcases List.mem_cons.mp hb with z|z
    ·rw[z];exact lte
    ·have z':b=it:=by simpa using z
     rw[z'];exact lti
   rw[ak (Nat.ne_of_lt hb')];exact(hf b hb).1
 done:=by
  intro X hP hw hK hc i pins s σ H E I hf st hg
  subst hP hw hK
  obtain⟨xs,hq,hx⟩:=hg
  obtain⟨its,rv,p,hz⟩:=I.tuple hq
  obtain⟨⟨old,he⟩,hit⟩:=st
  have hl:=rv.length
  exact Ii (I.ok.hd hc) he hit (show s.heap.IsTuple a its.toArray from p) (by simp;omega) fun h' eb=>⟨rfl,I.jq (t':=s.toks) (fp:=[e,it]) (fun b o hb e'=>eb b o (fun z=>hb (by simp [z])) e') hf⟩
 self:=fun _ _ _ _ _ st h=>by
  obtain⟨⟨old,he⟩,_⟩:=st
  exact wpAny_pyIter_enum he h
def IteL (K:PySem.W.Frag)(a:Addr):It :=
 ⟨fun i H=>∃ xs x,SqL K H a xs∧xs[i]?=some x,fun i H x H'=>∃ p y,x=.ref p∧H p=none∧(∀ xs,SqL K H a xs→xs[i]?=some y)∧H'=upd H p (.tup [.int i,y]),fun i H=>∃ xs,SqL K H a xs∧xs.length≤i⟩
theorem Ld {P:Program}{w:World}{K:PySem.W.Frag}{elts:List Expr}{kd:Nat}{ps:Pos}(a e it:Addr)(hei:e≠it)(hai:a≠it)(hae:a≠e):Turn P w K (.Tuple elts kd ps) (IteL K a) [e,it] e (fun i h=>(∃ old,IsEnum h e it i old)∧h.IsListIter it a i) where
 mem:=by simp
 obj:=fun i h st b hb=>by
  obtain⟨⟨old,he⟩,o,ho,c,d⟩:=st
  rcases List.mem_cons.mp hb with z|z
  ·subst z
   exact⟨_,he,fun v q=>by cases q⟩
  ·have z':b=it:=by simpa using z
   subst z'
   exact⟨o,ho,fun v q=>by rw[d] at q;cases q⟩
 keep:=fun i h h' st k=>by
  obtain⟨⟨old,he⟩,o,ho,r⟩:=st
  exact⟨⟨old,k e (by simp) _ he⟩,o,k it (by simp) o ho,r⟩
 item:=by
  intro X hP hw hK hc i pins s σ H E I hf st hg
  subst hP hw hK
  obtain⟨xs,x,hq,hx⟩:=hg
  obtain⟨its,rv,p,hz⟩:=I.list hq
  obtain⟨u,hu,ru⟩:=rv.get hx
  obtain⟨⟨old,he⟩,hit⟩:=st
  have hlt:i<its.toArray.size:=by
   have:=(List.getElem?_eq_some_iff.mp hu).1
   simpa using this
  refine wpAny_pyNext_enum_itemD (Draws.list (prog:=X.prog) (w:=X.w) (A:=X.A.in1) (I.ok.hd hc) it a hai its.toArray) he ⟨hit,p.isList⟩ hlt hei (by simp;exact⟨hei,Ne.symm hae⟩) fun y h1 tk hy ho hs1 hT hsz hk=>?_
  have ey:y=u:=by
   have h2:its[i]?=some y:=by simpa using hy
   rw[hu] at h2
   exact(Option.some.inj h2).symm
  subst ey
  refine⟨_,rfl,?_⟩
  have pn:H s.heap.objs.size=none:=I.hok.fresh (Nat.le_refl _)
  have I1:Inv X pins σ H {s with heap:=h1,toks:=tk+1}:=I.jq (fp:=[e,it]) (fun b o hb e'=>hk b o (fun z=>hb (by simp [z])) (fun z=>hb (by simp [z])) e') hf
  refine wpAny_letOwnedTupleGo_enum (s:={s with heap:=h1,toks:=tk+1}) ho fun h2 he2 hs2=>?_
  have I2:Inv X pins σ H {s with heap:=h2,toks:=tk+1}:=Inv.jq (s:={s with heap:=h1,toks:=tk+1}) (h':=h2) (t':=tk+1) (fp:=[e,it]) I1 (fun b o hb e'=>(hs2.2 b fun z=>hb (by simp [z])).trans e') hf
  have lte:e<s.heap.objs.size:=Heap.lt_size he
  have lti:it<s.heap.objs.size:=let ⟨o,ho,_⟩:=hit;Heap.lt_size ho
  have ht2:h2.get? s.heap.objs.size=some {cls:=.type "tuple",data:=.seq #[.int i tk,y]}:=(hs2.2 _ (Nat.ne_of_gt lte)).trans hT
  have I3:Inv X pins σ (upd H s.heap.objs.size (.tup [.int i,x])) {s with heap:=h2,toks:=tk+1}:=by
   have f:=I.fpOk (H':=H) (Nat.le_refl _) pn
   refine I2.track pn (Nat.le_trans I.sz (Nat.le_refl _)) f.2.1 f.2.2.2.2.1 f.2.2.2.2.2 ⟨by show 2≤sizeLine;decide,[.int i tk,y],.cons ⟨tk,rfl⟩ (.cons ru .nil),?_⟩
   exact⟨_,ht2,rfl,_,rfl⟩
  refine⟨.ref s.heap.objs.size,_,I3,rfl,⟨_,x,rfl,pn,fun ys hy=>by rw[I.r9 hy hq];exact hx,rfl⟩,⟨⟨y,by simpa using he2⟩,?_⟩,fun b hb=>?_⟩
  ·obtain⟨o,ho',r⟩:=hs1.1
   exact⟨o,(hs2.2 it (Ne.symm hei)).trans ho',r⟩
  ·have hb':b<s.heap.objs.size:=by
    rcases List.mem_cons.mp hb with z|z
    ·rw[z];exact lte
    ·have z':b=it:=by simpa using z
     rw[z'];exact lti
   rw[ak (Nat.ne_of_lt hb')];exact(hf b hb).1
 done:=by
  intro X hP hw hK hc i pins s σ H E I hf st hg
  subst hP hw hK
  obtain⟨xs,hq,hx⟩:=hg
  obtain⟨its,rv,p,hz⟩:=I.list hq
  obtain⟨⟨old,he⟩,hit⟩:=st
  have hl:=rv.length
  exact wpAny_pyNext_enum_end (I.ok.hd hc) he hit p.isList (by simp;omega) fun h' eb=>⟨rfl,I.jq (t':=s.toks) (fp:=[e,it]) (fun b o hb e'=>eb b o (fun z=>hb (by simp [z])) e') hf⟩
 self:=fun _ _ _ _ _ st h=>by
  obtain⟨⟨old,he⟩,_⟩:=st
  exact wpAny_pyIter_enum he h
section
variable {X:Cx}{elts:List Expr}{kd:Nat}{ps:Pos}
def El (K:PySem.W.Frag)(ta:TA):TI:=fun σ H R=>ta σ H fun vs H1=>∃ a,vs=[.ref a]∧((∃ xs,SqL K H1 a xs)∧R (IteL K a) H1∨(∃ xs,SqT K H1 a xs)∧R (IteT K a) H1)
theorem Hw {b:Expr}{ta:TA}{p pos:Pos}(hg:Gl X "enumerate")(hm:X.mg "enumerate"=none)(ha:PA X [b] ta)(hs:starEach [b] X.env=[(false,eval b X.env)]:=by rfl):PI X (.Tuple elts kd ps) (.Call (.Name "enumerate" p) [b] [] pos) (El X.K ta):=by
 intro pins s σ H R I h
 refine Call_ (cI I hg hm boot_enumerate (PyProof.Rows.callWith_type1 (thn (ha pos pins s σ H _ I h) fun us s1 ⟨vs,H1,I1,r1,q1⟩=>?_) hs rfl))
 obtain⟨a,e,q1⟩:=q1
 subst e
 cases r1 with
 | cons r rr =>
   cases rr
   cases r
   rcases q1 with⟨⟨xs,hq⟩,q⟩|⟨⟨xs,hq⟩,q⟩
   ·obtain⟨its,rv,p,hz⟩:=I1.list hq
    have la:a<s1.heap.objs.size:=let ⟨o,ho,_⟩:=p.isList;Heap.lt_size ho
    refine call_enumerate_list p.isList fun h1 he hit hsz kp=>?_
    have I2:Inv X pins σ H1 {s1 with heap:=h1}:=I1.kept (t':=s1.toks) kp
    refine wpAny_pyIter_enum he ⟨s1.heap.objs.size+1,[s1.heap.objs.size+1,s1.heap.objs.size],_,_,H1,rfl,I2,Ld a _ _ (Nat.ne_of_gt (Nat.lt_succ_self _)) (Nat.ne_of_lt la) (Nat.ne_of_lt (Nat.lt_succ_of_lt la)),⟨⟨_,by simpa using he⟩,hit⟩,fun b hb=>?_,q⟩
    have hb':s1.heap.objs.size≤b:=by
     rcases List.mem_cons.mp hb with z|z
     ·rw[z];exact Nat.le_succ _
     ·have z':b=s1.heap.objs.size:=by simpa using z
      rw[z'];exact Nat.le_refl _
    exact I1.fpOk hb' (I1.hok.fresh hb')
   ·obtain⟨its,rv,p,hz⟩:=I1.tuple hq
    have la:a<s1.heap.objs.size:=let ⟨o,ho,_⟩:=p;Heap.lt_size ho
    refine BH (show s1.heap.IsTuple a its.toArray from p) fun h1 he hit hsz kp=>?_
    have I2:Inv X pins σ H1 {s1 with heap:=h1}:=I1.kept (t':=s1.toks) kp
    refine wpAny_pyIter_enum he ⟨s1.heap.objs.size+1,[s1.heap.objs.size+1,s1.heap.objs.size],_,_,H1,rfl,I2,Le a _ _ (Nat.ne_of_gt (Nat.lt_succ_self _)) (Nat.ne_of_lt la) (Nat.ne_of_lt (Nat.lt_succ_of_lt la)),⟨⟨_,by simpa using he⟩,hit⟩,fun b hb=>?_,q⟩
    have hb':s1.heap.objs.size≤b:=by
     rcases List.mem_cons.mp hb with z|z
     ·rw[z];exact Nat.le_succ _
     ·have z':b=s1.heap.objs.size:=by simpa using z
      rw[z'];exact Nat.le_refl _
    exact I1.fpOk hb' (I1.hok.fresh hb')
end
end L2
namespace TL
open PySem L2
def cg (ts:List T):List T:=(List.range ts.length).map fun(i:Nat)=>.tup [.int (i:Int),ts.getD i .non]
def iV (f:FE):FA:=fun ρ=>match f ρ with|some (.tup ts)=>some (cg ts)|some (.lst ts)=>some (cg ts)|_=>none
theorem wJ {ts:List T}{i:Nat}{t:T}(h:(cg ts)[i]?=some t):∃ u,ts[i]?=some u∧t=.tup [.int (i:Int),u]:=by
 have hi:i<ts.length:=by
  have:=(List.getElem?_eq_some_iff.mp h).1
  simpa [cg] using this
 unfold cg at h
 rw[List.getElem?_map,List.getElem?_range hi] at h
 refine⟨ts[i],List.getElem?_eq_getElem hi,?_⟩
 have h':=Option.some.inj h
 rw[← h']
 simp [List.getD_eq_getElem?_getD,List.getElem?_eq_getElem hi]
section
variable {X:Cx}{z:Z}{e:Expr}{f:FE}{p pos:Pos}{elts:List Expr}{kd:Nat}{ps:Pos}
theorem Ln {K:PySem.W.Frag}{a:Addr}{ts:List T}{vs:List V}{Hq:Hp}(hr:RepL K Hq ts vs)(P:Hp→Prop)(hP:∀ Hq' H',Same Hq Hq'→Same Hq' H'→P H'→SqT K H' a vs):Walk K (IteT K a) (cg ts) Hq P:=by
 intro i Hq' H' s1 s2 p
 have q:=hP Hq' H' s1 s2 p
 refine⟨fun t e=>?_,fun h=>⟨vs,q,by rw[← hr.length];simpa [cg] using h⟩⟩
 obtain⟨u,eu,rfl⟩:=wJ e
 obtain⟨v,e1,r1⟩:=hr.get eu
 refine⟨⟨vs,v,q,e1⟩,fun x H3 y=>?_⟩
 obtain⟨b,w,rfl,hb,hw,rfl⟩:=y
 have:=hw vs q
 rw[e1] at this
 cases this
 have hq:Hq' b=none:=s2.free hb
 exact⟨_,.new s2 hb,gn hq (.cons cj (.one (r1.mono s1)))⟩
theorem Lm {K:PySem.W.Frag}{a:Addr}{ts:List T}{vs:List V}{Hq:Hp}(hr:RepL K Hq ts vs)(P:Hp→Prop)(hP:∀ Hq' H',Same Hq Hq'→Same Hq' H'→P H'→SqL K H' a vs):Walk K (IteL K a) (cg ts) Hq P:=by
 intro i Hq' H' s1 s2 p
 have q:=hP Hq' H' s1 s2 p
 refine⟨fun t e=>?_,fun h=>⟨vs,q,by rw[← hr.length];simpa [cg] using h⟩⟩
 obtain⟨u,eu,rfl⟩:=wJ e
 obtain⟨v,e1,r1⟩:=hr.get eu
 refine⟨⟨vs,v,q,e1⟩,fun x H3 y=>?_⟩
 obtain⟨b,w,rfl,hb,hw,rfl⟩:=y
 have:=hw vs q
 rw[e1] at this
 cases this
 have hq:Hq' b=none:=s2.free hb
 exact⟨_,.new s2 hb,gn hq (.cons cj (.one (r1.mono s1)))⟩
theorem ir_enum (hK:z.K=X.K)(hg:Gl X "enumerate")(hm:X.mg "enumerate"=none)(h:ER X z e f)(hs:starEach [e] X.env=[(false,eval e X.env)]:=by rfl):PI X (.Tuple elts kd ps) (.Call (.Name "enumerate" p) [e] [] pos) (iR z (iV f)) :=
 PI.imp (Hw hg hm (kE h hs) hs) fun σ H R ⟨ρ,Hq,ts,r,e,k⟩=>by
  unfold iV at e
  split at e
  ·rename_i us e1
   cases e
   refine⟨ρ,Hq,_,r,e1,fun v Hq1 H1 x1 r1=>?_⟩
   obtain⟨a,vs,rfl,q1,q2⟩:=r1.tup x1.sub
   rw[hK] at q1 q2
   refine⟨a,rfl,.inr ⟨⟨vs,q1⟩,?_⟩⟩
   rw[← hK]
   refine k _ Hq1 H1 (fun H'=>SqT X.K H' a vs) x1 q1 (fun a b s h=>dH s h) ?_
   rw[hK]
   exact Ln q2 _ fun _ _ _ _ p=>p
  ·rename_i us e1
   cases e
   refine⟨ρ,Hq,_,r,e1,fun v Hq1 H1 x1 r1=>?_⟩
   obtain⟨a,vs,rfl,q1,q2⟩:=r1.lst x1.sub
   rw[hK] at q1 q2
   refine⟨a,rfl,.inl ⟨⟨vs,q1⟩,?_⟩⟩
   rw[← hK]
   refine k _ Hq1 H1 (fun H'=>SqL X.K H' a vs) x1 q1 (fun a b s h=>s.seq h) ?_
   rw[hK]
   exact Lm q2 _ fun _ _ _ _ p=>p
  ·cases e
end
end TL
namespace L2
open PySem PySem.Spec PyProof.Rows
def aO:List (List Nat):=(List.range 64).map fun c=>(List.range 6).filter fun i=>c.testBit i
def tabOf (mask mv:Nat)(l:Bool)(ms:List Nat):SetTable:={mask:=mask,place:=ms.toArray,dummies:=#[],finger:=0,led:=l,moves:=mv,plain:=true}
def insN (k:Nat)(ms:List Nat):List Nat:=if ms.contains k then ms else (List.range 6).filter fun i=>ms.contains i||i==k
def posN (k:Nat)(ms:List Nat):Nat:=(ms.filter (·<k)).length
theorem t6:∀ ms∈aO,∀ k∈List.range 6,insN k ms∈aO:=by decide +kernel
theorem zo:∀ ms∈aO,∀ k∈List.range 6,ms.contains k=false→posN k ms≤ms.length∧insN k ms=ms.take (posN k ms)++k::ms.drop (posN k ms):=by decide +kernel
theorem Kd:∀ ms∈aO,∀ k∈List.range 6,ms.contains k=false→SetTable.below ms.toArray k=posN k ms:=by decide +kernel
theorem Ke:∀ ms∈aO,∀ k∈List.range 6,∀ m∈[7,15,31],ms.contains k=false→(tabOf m 0 false ms).freeSlot (k:Int)=some (k,false):=by decide +kernel
theorem Kf:∀ ms∈aO,∀ m∈[7,15,31],(SetTable.laid m 0 0 false true (ms.map fun(i:Nat)=>(i:Int)).toArray).map (fun r=>(r.1.place,r.2))=some (ms.toArray,(List.range ms.length).toArray):=by decide +kernel
theorem dI:∀ ms∈aO,ms.length≤6:=by decide +kernel
theorem fF:∀ ms∈aO,ms.Pairwise (·<·):=by decide +kernel
theorem nM:∀ ms∈aO,∀ k∈ms,k<6:=by decide +kernel
theorem jl:[]∈aO:=by decide +kernel
theorem eL:∀{a b:List Nat},a.Pairwise (·<·)→b.Pairwise (·<·)→(∀ x,x∈a↔x∈b)→a=b
 | [],[],_,_,_=>rfl
 | [],y::b,_,_,h=>absurd ((h y).mpr List.mem_cons_self) (by simp)
 | x::a,[],_,_,h=>absurd ((h x).mp List.mem_cons_self) (by simp)
 | x::a,y::b,ha,hb,h=>by
   rw[List.pairwise_cons] at ha hb
   have e:x=y:=by
    rcases List.mem_cons.mp ((h x).mp List.mem_cons_self) with z|z
    ·exact z
    ·rcases List.mem_cons.mp ((h y).mpr List.mem_cons_self) with w|w
     ·exact w.symm
     ·have:=ha.1 y w
      have:=hb.1 x z
      omega
   subst e
   congr 1
   refine eL ha.2 hb.2 fun z=>?_
   have hz:=h z
   rw[List.mem_cons,List.mem_cons] at hz
   constructor
   ·intro q
    rcases hz.mp (.inr q) with w|w
    ·have:=ha.1 z q;omega
    ·exact w
   ·intro q
    rcases hz.mpr (.inr q) with w|w
    ·have:=hb.1 z q;omega
    ·exact w
theorem Et {k:Nat}(hk:k<6){ms:List Nat}(hm:ms∈aO) (x:Nat):x∈insN k ms↔x=k∨x∈ms:=by
 unfold insN
 split
 ·rename_i h
  have:k∈ms:=by simpa using h
  constructor
  ·exact .inr
  ·rintro(rfl|h)
   ·exact this
   ·exact h
 ·rw[List.mem_filter,List.mem_range]
  simp only[Bool.or_eq_true,List.contains_iff_mem,beq_iff_eq]
  constructor
  ·rintro⟨_,h|h⟩
   ·exact .inr h
   ·exact .inl h
  ·rintro(rfl|h)
   ·exact⟨hk,.inr rfl⟩
   ·exact⟨nM ms hm x h,.inl h⟩
inductive EsR:List (Int×Value)→List Nat→Prop
 | nil:EsR [] []
 | cons {i:Nat}{t:Tok}{r:List (Int×Value)}{ms:List Nat}(h:EsR r ms):EsR (((i:Int),.int (i:Int) t)::r) (i::ms)
theorem EsR.length {es:List (Int×Value)}{ms:List Nat}(h:EsR es ms):es.length=ms.length:=by
 induction h with
 | nil=>rfl
 | cons _ ih=>simp [ih]
theorem EsR.append {a b:List (Int×Value)}{ms ns:List Nat}(h:EsR a ms)(g:EsR b ns):EsR (a++b) (ms++ns):=by
 induction h with
 | nil=>exact g
 | cons _ ih=>exact .cons ih
theorem EsR.take {a:List (Int×Value)}{ms:List Nat}(h:EsR a ms):∀ n,EsR (a.take n) (ms.take n):=by
 induction h with
 | nil=>intro n;simp;exact .nil
 | cons _ ih =>
   intro n
   cases n with
   | zero=>exact .nil
   | succ n=>exact .cons (ih n)
theorem EsR.drop {a:List (Int×Value)}{ms:List Nat}(h:EsR a ms):∀ n,EsR (a.drop n) (ms.drop n):=by
 induction h with
 | nil=>intro n;simp;exact .nil
 | cons h ih =>
   intro n
   cases n with
   | zero=>exact .cons h
   | succ n=>exact ih n
theorem EsR.hashes {a:List (Int×Value)}{ms:List Nat}(h:EsR a ms):a.map (·.1)=ms.map fun(i:Nat)=>(i:Int):=by
 induction h with
 | nil=>rfl
 | cons _ ih=>simp [ih]
theorem EsR.elems {P:Program}{w:World}{a:List (Int×Value)}{ms:List Nat}(h:EsR a ms)(hl:∀ k∈ms,k<6):ElemsOf (intKind P w) a:=by
 induction h with
 | nil=>exact fun e he=>nomatch he
 | @cons i t r ms _ ih =>
   intro e he
   rcases List.mem_cons.mp he with rfl|he
   ·refine⟨⟨(i:Int),by simp [intKind,Value.isInt],?_⟩,rfl⟩
    have hi:=hl i List.mem_cons_self
    match i,hi with
    | 0,_=>rfl
    | 1,_=>rfl
    | 2,_=>rfl
    | 3,_=>rfl
    | 4,_=>rfl
    | 5,_=>rfl
   ·exact ih (fun k hk=>hl k (List.mem_cons_of_mem _ hk)) e he
theorem EsR.find {P:Program}{w:World}{a:List (Int×Value)}{ms:List Nat}(h:EsR a ms) (k:Nat):(a.findIdx? fun e=>(intKind P w).is (k:Int) e.2).isSome=ms.contains k:=by
 induction h with
 | nil=>rfl
 | @cons i t r ms _ ih =>
   rw[List.findIdx?_cons]
   have e:(intKind P w).is (k:Int) (Value.int (i:Int) t)=(k==i):=by
    show Value.isInt (k:Int) (.int (i:Int) t)=_
    rw[Bool.eq_iff_iff]
    simp [Value.isInt]
    omega
   rw[e,List.contains_cons]
   cases hk:k==i with
   | true=>simp
   | false=>simp [ih]
end L2
namespace L2
open PySem PySem.Spec PyProof.Rows
theorem tL {t t':SetTable}(h1:t.mask=t'.mask)(h2:t.place=t'.place)(h3:t.dummies=t'.dummies)(g:Nat→Int) (h:Int):∀(f:Nat)(p:SetTable.Probe),SetTable.probe.go t g h f p=SetTable.probe.go t' g h f p
 | 0,_=>rfl
 | f+1,p=>by
   have es:t.slot p.j=t'.slot p.j:=by unfold SetTable.slot;rw[h2,h3]
   have ea:∀ p,t.advance p=t'.advance p:=fun p=>by unfold SetTable.advance;rw[h1]
   unfold SetTable.probe.go
   rw[es]
   split
   ·rfl
   ·rw[ea];exact tL h1 h2 h3 g h f _
   ·rw[ea]
    split
    ·rfl
    ·exact tL h1 h2 h3 g h f _
theorem Dm {t t':SetTable}(h1:t.mask=t'.mask)(h2:t.place=t'.place)(h3:t.dummies=t'.dummies) (h:Int):t.freeSlot h=t'.freeSlot h:=by
 have e1:t.probeStart h=t'.probeStart h:=by unfold SetTable.probeStart;rw[h1]
 unfold SetTable.freeSlot SetTable.probe
 rw[e1,h1,tL h1 h2 h3]
def cD (m:Nat):Prop:=m=7∨m=15∨m=31
theorem cD.mem {m:Nat}(h:cD m):m∈[7,15,31]:=by rcases h with rfl|rfl|rfl<;>decide
theorem cD.ge {m:Nat}(h:cD m):7≤m:=by rcases h with rfl|rfl|rfl<;>decide
theorem rq {α:Type}(xs:Array α) (p:Nat)(x:α):(SetTable.insertAt xs p x).toList=xs.toList.take p++x::xs.toList.drop p:=by
 unfold SetTable.insertAt
 simp [Array.toList_extract,List.extract_eq_take_drop]
 exact List.take_of_length_le (by simp)
theorem mK {m mv:Nat}{l:Bool}{ms:List Nat}(hm:cD m)(h:ms∈aO){n:Nat}(hn:n=ms.length):(tabOf m mv l ms).fits n=true:=by
 subst hn
 have h1:=dI ms h
 have h2:=hm.ge
 unfold SetTable.fits tabOf SetTable.fill
 simp
 omega
theorem Fp {m mv:Nat}{l:Bool}{ms:List Nat}(hm:cD m)(h:ms∈aO){k:Nat}(hk:k<6)(hc:ms.contains k=false){es:Array (Int×Value)}(he:es.size=ms.length)(x:Value) :
  layNew (tabOf m mv l ms) es (k:Int) x=(SetTable.insertAt es (posN k ms) ((k:Int),x),tabOf m mv l (insN k ms),false,false):=by
 have hkr:k∈List.range 6:=List.mem_range.mpr hk
 have e1:(tabOf m mv l ms).freeSlot (k:Int)=some (k,false):=(Dm (t:=tabOf m mv l ms) (t':=tabOf m 0 false ms) rfl rfl rfl _).trans (Ke ms h k hkr m hm.mem hc)
 have e2:SetTable.below ms.toArray k=posN k ms:=Kd ms h k hkr hc
 have e3:=zo ms h k hkr hc
 have e4:SetTable.insertAt ms.toArray (posN k ms) k=(insN k ms).toArray:=by
  apply Array.toList_inj.mp
  rw[rq,e3.2]
 have e5:(tabOf m mv l ms).put k=(tabOf m mv l (insN k ms),posN k ms):=by
  have hh:SetTable.has #[] k=false:=by simp [SetTable.has]
  simp only[SetTable.put,tabOf,e2,e4,hh]
  simp
 have hsz:(SetTable.insertAt es (posN k ms) ((k:Int),x)).size=(insN k ms).length:=by
  rw[← Array.length_toList,rq,e3.2]
  simp [he]
 have hf:(tabOf m mv l (insN k ms)).fits (SetTable.insertAt es (posN k ms) ((k:Int),x)).size=true:=mK hm (t6 ms h k hkr) hsz
 unfold layNew
 rw[e1]
 dsimp only
 rw[e5]
 dsimp only
 simp only[SetTable.orStandIn,hf,if_true,Bool.not_true]
theorem Fd (m f mv:Nat)(l p:Bool)(hs:Array Int):SetTable.laid m f mv l p hs=(SetTable.laid m 0 0 false true hs).map fun r=>({mask:=m,place:=r.1.place,dummies:=#[],finger:=f,led:=l,moves:=mv,plain:=p},r.2):=by
 unfold SetTable.laid
 cases SetTable.layClean m hs<;>rfl
theorem r6 {m f mv:Nat}{l p:Bool}{ms:List Nat}(hm:cD m)(h:ms∈aO):SetTable.laid m f mv l p (ms.map fun(i:Nat)=>(i:Int)).toArray=some ({mask:=m,place:=ms.toArray,dummies:=#[],finger:=f,led:=l,moves:=mv,plain:=p},(List.range ms.length).toArray):=by
 have e:=Kf ms h m hm.mem
 rw[Fd]
 cases q:SetTable.laid m 0 0 false true (ms.map fun(i:Nat)=>(i:Int)).toArray with
 | none=>rw[q] at e;cases e
 | some r =>
   rw[q] at e
   have e':=Option.some.inj e
   have h1:r.1.place=ms.toArray:=congrArg (·.1) e'
   have h2:r.2=(List.range ms.length).toArray:=congrArg (·.2) e'
   show some (_,r.2)=_
   rw[h1,h2]
theorem AN:∀ n∈List.range 25,SetTable.sizeAbove n - 1∈[7,15,31]:=by decide +kernel
theorem j0 {n:Nat}(h:n≤24):cD (SetTable.sizeAbove n - 1):=by
 have:=AN n (List.mem_range.mpr (by omega))
 simpa [cD] using this
theorem sP {α:Type}(es:Array α):(List.range es.size).toArray.filterMap (fun i=>es[i]?)=es:=by
 apply Array.toList_inj.mp
 rw[Array.toList_filterMap]
 obtain⟨l⟩:=es
 simp only[List.size_toArray,List.getElem?_toArray]
 induction l with
 | nil=>rfl
 | cons a r ih =>
   rw[List.length_cons,List.range_succ_eq_map]
   simp [List.filterMap_map,Function.comp_def]
   simpa using ih
theorem EB:∀ n∈List.range 7,(List.range n).isPerm (List.range n)=true:=by decide +kernel
theorem Ip {m mv:Nat}{l:Bool}{ms:List Nat}(h:ms∈aO){es:Array (Int×Value)}(hr:EsR es.toList ms){n:Nat}(hn:n≤24) :
  ∃ m' mv',cD m'∧relayAll (tabOf m mv l ms) es n=(es,tabOf m' mv' l ms,false):=by
 have hsz:es.size=ms.length:=by rw[← Array.length_toList];exact hr.length
 have eh:es.map (·.1)=(ms.map fun(i:Nat)=>(i:Int)).toArray:=by
  apply Array.toList_inj.mp
  rw[Array.toList_map];exact hr.hashes
 refine⟨SetTable.sizeAbove n - 1,(tabOf m mv l ms).movedTo (SetTable.sizeAbove n - 1),j0 hn,?_⟩
 have e1:(tabOf m mv l ms).relaid (es.map (·.1)) n=some (tabOf (SetTable.sizeAbove n - 1) ((tabOf m mv l ms).movedTo (SetTable.sizeAbove n - 1)) l ms,(List.range ms.length).toArray):=by
  unfold SetTable.relaid
  rw[eh]
  exact r6 (j0 hn) h
 unfold relayAll
 rw[e1]
 dsimp only
 rw[← hsz,sP]
 have h1:coversAll (List.range es.size).toArray es.size=true:=by
  unfold coversAll
  have:=dI ms h
  exact EB es.size (List.mem_range.mpr (by omega))
 rw[h1,mK (j0 hn) h hsz]
 rfl
def SSet (h:Heap)(a:Addr)(l:Bool)(ms:List Nat):Prop :=
 ∃ o es ep m mv,h.get? a=some o∧o.ExactSet∧o.data=.set es ep (tabOf m mv l ms)∧EsR es.toList ms∧ms∈aO∧cD m
theorem SSet.at {h h':Heap}{a:Addr}{l:Bool}{ms:List Nat}(x:SSet h a l ms)(k:∀ o,h.get? a=some o→h'.get? a=some o):SSet h' a l ms:=by
 obtain⟨o,es,ep,m,mv,ho,r⟩:=x
 exact⟨o,es,ep,m,mv,k o ho,r⟩
theorem SSet.mem {h:Heap}{a:Addr}{l:Bool}{ms:List Nat}(x:SSet h a l ms):ms∈aO:=let ⟨_,_,_,_,_,_,_,_,_,q,_⟩:=x;q
section
variable {prog:Program}{w:World}{A:Around}{E:Value→Shared→Prop}{s:Shared}
theorem kX {a:Addr}{o:Obj}{es es':Array (Int×Value)}{ep:Nat}{t:SetTable}{m mv:Nat}{l:Bool}{ms:List Nat}{h:Heap}(ho:h.get? a=some o)(hex:o.ExactSet)(hd:o.data=.set es ep t)(hr:EsR es'.toList ms)(hms:ms∈aO)(hm:cD m) :
  (h.update a (Obj.putSet es' (tabOf m mv l ms))).get? a=some {o with data:=.set es' (ep+1) (tabOf m mv l ms)}∧SSet (h.update a (Obj.putSet es' (tabOf m mv l ms))) a l ms:=by
 have hg:(h.update a (Obj.putSet es' (tabOf m mv l ms))).get? a=some {o with data:=.set es' (ep+1) (tabOf m mv l ms)}:=by
  have:=Heap.get?_update_self (Obj.putSet es' (tabOf m mv l ms)) ho (by rw[putSet_of es' _ hd];rfl)
  rw[putSet_of es' _ hd] at this;exact this
 exact⟨hg,_,es',ep+1,m,mv,hg,hex,rfl,hr,hms,hm⟩
theorem w5 {k:Nat}(hk:k<6):hashInt (k:Int)=(k:Int):=by
 match k,hk with
 | 0,_=>rfl
 | 1,_=>rfl
 | 2,_=>rfl
 | 3,_=>rfl
 | 4,_=>rfl
 | 5,_=>rfl
theorem zm {a:Addr}{l:Bool}{ms:List Nat}{k:Nat}{tk:Tok}{Q:Bool→Shared→Prop}(hS:SSet s.heap a l ms)(hk:k<6)
  (h:∀(b:Bool) h',Heap.SameBut a s.heap h'→SSet h' a l (insN k ms)→Q b {s with heap:=h'}):wpAny (model prog w) A (setAddHashed a (.int (k:Int) tk) (k:Int)) Q E s:=by
 obtain⟨o,es,ep,m,mv,ho,hex,hd,hr,hms,hm⟩:=hS
 have hsz:es.size=ms.length:=by rw[← Array.length_toList];exact hr.length
 have hl6:=dI ms hms
 have hf:=mK (mv:=mv) (l:=l) hm hms hsz
 have hel:ElemsOf (intKind prog w) es.toList:=hr.elems (nM ms hms)
 have hkey:(intKind prog w).is (k:Int) (.int (k:Int) tk)=true:=by simp [intKind,Value.isInt]
 have hb:es.size<scanBound:=by unfold scanBound;omega
 have hh:(intKind prog w).hash (k:Int)=(k:Int):=w5 hk
 unfold setAddHashed setAddHashedIn
 refine wpAny_holding (wpAny_bind (wpAny_setState_of ho hd hf ?_))
 dsimp only
 rw[byScan_of (knd:=intKind prog w) rfl hb hel]
 simp only[↓reduceIte]
 unfold setAddByScan
 refine wpAny_bind ?_
 refine wpAny_bind (wpAny_rule ?_)
 have hsc:∀(Q':ScanMet→Shared→Prop),Q' (match es.toList.findIdx? (fun e=>(intKind prog w).is (k:Int) e.2) with|some j=>.found (0+j)|none=>.absent) s→wpAny (model prog w) A (setScan a (.int (k:Int) tk) (k:Int) true es) Q' E s:=fun Q' hq=>by
  have:=wpAny_setScan_of (prog:=prog) (w:=w) (A:=A) (E:=E) (s:=s) (knd:=intKind prog w) (adding:=true) (Q:=Q') hkey ho hd hf hel hq
  rw[hh] at this
  exact this
 refine wpAny_bind (hsc _ ?_)
 have hfd:=hr.find (P:=prog) (w:=w) k
 cases hq:List.findIdx? (fun e=>(intKind prog w).is (k:Int) e.2) es.toList with
 | some j =>
   rw[hq] at hfd
   dsimp only
   refine wpAny_pure (wpAny_pure ?_)
   have e:insN k ms=ms:=by unfold insN;rw[← hfd];rfl
   have:=h false s.heap (Heap.SameBut.refl a s.heap) (by rw[e];exact⟨o,es,ep,m,mv,ho,hex,hd,hr,hms,hm⟩)
   exact this
 | none =>
   rw[hq] at hfd
   have hc:ms.contains k=false:=hfd.symm
   dsimp only
   rw[Fp hm hms hk hc hsz]
   dsimp only
   have e3:=zo ms hms k (List.mem_range.mpr hk) hc
   have hr1:EsR (SetTable.insertAt es (posN k ms) ((k:Int),Value.int (k:Int) tk)).toList (insN k ms):=by
    rw[rq,e3.2]
    exact(hr.take _).append (.cons (hr.drop _))
   have hms1:=t6 ms hms k (List.mem_range.mpr hk)
   have hsz1:(SetTable.insertAt es (posN k ms) ((k:Int),Value.int (k:Int) tk)).size=(insN k ms).length:=by rw[← Array.length_toList];exact hr1.length
   have hl1:=dI _ hms1
   have hz1:(SetTable.insertAt es (posN k ms) ((k:Int),Value.int (k:Int) tk)).size≤sizeLine:=by rw[sizeLine_eq];omega
   generalize hes1:SetTable.insertAt es (posN k ms) ((k:Int),Value.int (k:Int) tk)=es1 at hr1 hsz1 hz1 ⊢
   refine wpAny_bind (wpAny_pure ?_)
   refine wpAny_bind ?_
   rw[hashByValue_scannable 8 rfl]
   refine wpAny_pure ?_
   simp only[plainKind,if_true]
   refine wpAny_bind (wpAny_storeSet_of ho hd ?_ hz1)
   obtain⟨ho1,hS1⟩:=kX (mv:=mv) (l:=l) ho hex hd hr1 hms1 hm
   have hsb1:=Heap.SameBut.update s.heap a (Obj.putSet es1 (tabOf m mv l (insN k ms)))
   split
   ·obtain⟨m',mv',hm',er⟩:=Ip (m:=m) (mv:=mv) (l:=l) hms1 hr1 (n:=SetTable.grown es1.size) (by unfold SetTable.grown;split<;>omega)
    rw[er]
    dsimp only
    refine wpAny_bind (wpAny_pure ?_)
    refine wpAny_bind (wpAny_storeSet_of ho1 rfl ?_ hz1)
    obtain⟨_,hS2⟩:=kX (mv:=mv') (l:=l) ho1 hex rfl hr1 hms1 hm'
    exact wpAny_pure (wpAny_pure (h true _ (hsb1.trans (Heap.SameBut.update _ a _)) hS2))
   ·exact wpAny_pure (wpAny_pure (h true _ hsb1 hS1))
end
end L2
namespace L2
open PySem PySem.Spec PyProof.Rows
theorem ji:Slot "set_iterator" "__next__" "set_iterator.__next__" :=
 .of (owner:="set_iterator") (n:="__next__") (by rw[typeLookup_type,builtinLookup_eq_fast];kernel_rfl) (by decide +kernel) (by decide +kernel) (by decide +kernel)
  (by first|exact .inl (by decide +kernel)|exact .inr (by decide +kernel)) (by rw[isSubtype_type];kernel_rfl)
theorem wI:entryFor table "set_iterator.__next__"=some Builtin.«set_iterator.__next__»:=entryFor_of_tree (by kernel_rfl)
theorem zl:Slot "set_iterator" "__iter__" "set_iterator.__iter__" :=
 .of (owner:="set_iterator") (n:="__iter__") (by rw[typeLookup_type,builtinLookup_eq_fast];kernel_rfl) (by decide +kernel) (by decide +kernel) (by decide +kernel)
  (by first|exact .inl (by decide +kernel)|exact .inr (by decide +kernel)) (by rw[isSubtype_type];kernel_rfl)
theorem Cz:entryFor table "set.__iter__"=some Builtin.«frozenset.__iter__» :=
 entryFor_alias (id':="frozenset.__iter__") (by kernel_rfl) (by first|rfl|decide +kernel|(unfold String.splitOn;simp +decide [String.splitOnAux])) (by decide +kernel) (by kernel_rfl)
theorem yq:Manifest.owners.lookup (String.ofList ['r','o','t','a','r','e','t','i','_','t','e','s'].reverse)=some Manifest.sig_set_iterator:=by kernel_rfl
theorem u7 (a:Value):argsOk "set_iterator.__next__" ⟨[a],[]⟩:=by
 unfold argsOk;rw[signature?_of (id:="set_iterator.__next__") (n:=['_','_','t','x','e','n','_','_']) (o:=['r','o','t','a','r','e','t','i','_','t','e','s']) (by kernel_rfl) yq];kernel_rfl
theorem A5 (a:Value):argsOk "set_iterator.__iter__" ⟨[a],[]⟩:=by
 unfold argsOk;rw[signature?_of (id:="set_iterator.__iter__") (n:=['_','_','r','e','t','i','_','_']) (o:=['r','o','t','a','r','e','t','i','_','t','e','s']) (by kernel_rfl) yq];kernel_rfl
theorem CB:entryFor table "set_iterator.__iter__"=some Builtin.«dict_keyiterator.__iter__» :=
 entryFor_alias (id':="dict_keyiterator.__iter__") (by kernel_rfl) (by first|rfl|decide +kernel|(unfold String.splitOn;simp +decide [String.splitOnAux])) (by decide +kernel) (by kernel_rfl)
theorem yD {α:Type}(next:Nat→Nat):∀(fuel k:Nat)(left:List α)(out:Array α),fuel=left.length→(pickOrder.go next fuel k left out).toList.Perm (out.toList++left)
 | 0,k,left,out,h=>by
   have:left=[]:=List.eq_nil_of_length_eq_zero h.symm
   subst this
   unfold pickOrder.go
   simp
 | fuel+1,k,left,out,h=>by
   unfold pickOrder.go
   have hl:0<left.length:=by omega
   have hi:next k % left.length<left.length:=Nat.mod_lt _ hl
   rw[List.getElem?_eq_getElem hi]
   dsimp only
   refine(yD next fuel (k+1) _ _ (by rw[List.length_eraseIdx_of_lt hi];omega)).trans ?_
   rw[Array.toList_push,List.append_assoc]
   refine List.Perm.append_left _ ?_
   have e:=List.eraseIdx_eq_take_drop_succ left (next k % left.length)
   have e2:left=left.take (next k % left.length)++left[next k % left.length]::left.drop (next k % left.length+1):=by
    rw[← List.drop_eq_getElem_cons hi,List.take_append_drop]
   rw[e]
   have p:(left[next k % left.length]::(left.take (next k % left.length)++left.drop (next k % left.length+1))).Perm (left.take (next k % left.length)++left[next k % left.length]::left.drop (next k % left.length+1)):=List.perm_middle.symm
   rw[← e2] at p
   simpa using p
theorem Hz {α:Type}(next:Nat→Nat)(xs:Array α):(pickOrder next xs).toList.Perm xs.toList:=by
 have:=yD next xs.size 0 xs.toList #[] (by simp)
 unfold pickOrder
 simpa using this
def byT (w:World):Bool:=w.params.followText "set-order"
def ordS (w:World)(S:Addr) (ep:Nat)(es:Array (Int×Value)):Array (Int×Value):=if byT w=true then pickOrder (w.params.setOrder S ep) es else es
theorem jf (w:World)(S:Addr) (ep:Nat)(es:Array (Int×Value)):(ordS w S ep es).toList.Perm es.toList:=by
 unfold ordS
 split
 ·exact Hz _ _
 ·exact .refl _
def bQ (w:World)(ms:List Nat) (i:Nat):Nat:=if byT w=true then 0 else if i=0 then 0 else ms.getD (i - 1) 0+1
theorem Kg:∀ ms∈aO,∀ i∈List.range (ms.length+1),SetTable.below ms.toArray (if i=0 then 0 else ms.getD (i - 1) 0+1)=i:=by decide +kernel
abbrev iE (w:World)(h:Heap)(I S:Addr)(ms:List Nat) (ep i:Nat):Prop:=h.get? I=some {cls:=.type "set_iterator",dict:=none,data:=.fields #[rawInt (bQ w ms i),rawInt i,.ref S,rawInt ms.length,rawInt ep],slots:=#[]}
structure SRec (h:Heap)(S:Addr)(o:Obj)(es:Array (Int×Value)) (ep m mv:Nat)(l:Bool)(ms:List Nat):Prop where
 ho:h.get? S=some o
 ex:o.ExactSet
 hd:o.data=.set es ep (tabOf m mv l ms)
 er:EsR es.toList ms
 ms6:ms∈aO
 hm:cD m
theorem SRec.sz {h:Heap}{S:Addr}{o:Obj}{es:Array (Int×Value)}{ep m mv:Nat}{l:Bool}{ms:List Nat}(x:SRec h S o es ep m mv l ms):es.size=ms.length:=by rw[← Array.length_toList];exact x.er.length
theorem SRec.fits {h:Heap}{S:Addr}{o:Obj}{es:Array (Int×Value)}{ep m mv:Nat}{l:Bool}{ms:List Nat}(x:SRec h S o es ep m mv l ms):(tabOf m mv l ms).fits es.size=true:=mK x.hm x.ms6 x.sz
section
variable {prog:Program}{w:World}{A:Around}{E:Value→Shared→Prop}{s:Shared}{S I:Addr}{o:Obj}{es:Array (Int×Value)}{ep m mv:Nat}{ms:List Nat}
theorem jt {Q:Bool→Shared→Prop}(h:Q (byT w) s):wpAny (model prog w) A setsByText Q E s:=by
 unfold setsByText
 exact wpAny_bind (wpAny_askSetting (wpAny_pure h))
theorem zU {i:Nat}{Q:Option (Value×Nat)→Shared→Prop}(R:SRec s.heap S o es ep m mv (!byT w) ms) (hi:i≤ms.length)
  (h:Q (((ordS w S ep es)[i]?).map fun e=>(e.2,bQ w ms (i+1))) s):wpAny (model prog w) A (setNext S (bQ w ms i) i ep) Q E s:=by
 have hl:=R.sz
 unfold setNext
 refine wpAny_bind (wpAny_setState_of R.ho R.hd R.fits ?_)
 dsimp only
 refine wpAny_bind (jt ?_)
 cases hb:byT w with
 | true =>
   simp only[↓reduceIte,bne_self_eq_false,Bool.false_eq_true]
   unfold setWalk
   refine wpAny_bind (wpAny_bind (wpAny_setState_of R.ho R.hd R.fits ?_))
   dsimp only
   refine wpAny_bind (jt ?_)
   rw[hb]
   simp only[↓reduceIte]
   refine wpAny_bind (wpAny_askSetting (wpAny_pure (wpAny_pure ?_)))
   have e1:ordS w S ep es=pickOrder (w.params.setOrder S ep) es:=by unfold ordS;rw[hb];rfl
   have e2:∀ j,bQ w ms j=0:=fun j=>by unfold bQ;rw[hb];rfl
   rw[e1,e2] at h
   rw[e2]
   exact h
 | false =>
   simp only[Bool.false_eq_true,↓reduceIte]
   rw[hb] at R
   have e1:ordS w S ep es=es:=by unfold ordS;rw[hb];rfl
   have e2:∀ j,bQ w ms j=if j=0 then 0 else ms.getD (j - 1) 0+1:=fun j=>by unfold bQ;rw[hb];rfl
   rw[e1,e2] at h
   rw[e2]
   have e3:SetTable.below ms.toArray (if i=0 then 0 else ms.getD (i - 1) 0+1)=i:=Kg ms R.ms6 i (List.mem_range.mpr (by omega))
   show wpAny _ _ (if (!(tabOf m mv true ms).plain&&decide (es.size>1))=true then _ else _) _ _ s
   rw[if_neg (by simp [tabOf])]
   refine wpAny_bind ?_
   show wpAny _ _ (if (!(tabOf m mv true ms).led&&!es.isEmpty)=true then _ else _) _ _ s
   rw[if_neg (by simp [tabOf])]
   refine wpAny_pure (wpAny_pure ?_)
   show Q (match es[SetTable.below ms.toArray (if i=0 then 0 else ms.getD (i - 1) 0+1)]?,ms.toArray[SetTable.below ms.toArray (if i=0 then 0 else ms.getD (i - 1) 0+1)]? with|some (_,x),some j=>some (x,j+1)|_,_=>none) s
   rw[e3]
   by_cases hlt:i<ms.length
   ·have h1:es[i]?=some es[i]:=Array.getElem?_eq_getElem (by omega)
    have h2:ms.toArray[i]?=some ms[i]:=by simp [hlt]
    rw[h1] at h ⊢
    rw[h2]
    have h3:(if i+1=0 then 0 else ms.getD (i+1 - 1) 0+1)=ms[i]+1:=by simp [hlt]
    rw[h3] at h
    exact h
   ·have h1:es[i]?=none:=Array.getElem?_eq_none (by omega)
    rw[h1] at h ⊢
    exact h
theorem JN {i:Nat}{Q:Option Value→Shared→Prop}(hit:iE w s.heap I S ms ep i)(R:SRec s.heap S o es ep m mv (!byT w) ms) (hi:i<ms.length)(hne:S≠I)
  (hQ:∀ e h',(ordS w S ep es)[i]?=some e→iE w h' I S ms ep (i+1)→Heap.SameBut I s.heap h'→Q (some e.2) {s with heap:=h'}):wpAny (model prog w) A (pyNext (.ref I)) Q E s:=by
 have hl:=R.sz
 have hT:s.TypeIs (.ref I) "set_iterator":=⟨_,hit,rfl⟩
 have hol:(ordS w S ep es).size=ms.length:=by rw[← Array.length_toList,(jf w S ep es).length_eq,Array.length_toList,hl]
 have he:(ordS w S ep es)[i]?=some ((ordS w S ep es)[i]'(by omega)):=Array.getElem?_eq_getElem _
 unfold pyNext
 refine wpAny_bind (wpAny_attempt (wpAny_callSpecial?_slot (name:=Str.ofString "__next__") hT ji
  (wpAny_call_entry ji hT wI ?_ (u7 _))))
 show wpAny _ _ (fieldsOf (.ref I) >>= _) _ _ s
 refine wpAny_bind (wpAny_fieldsOf hit rfl ?_)
 show wpAny _ _ (setEntries S >>= _) _ _ s
 refine wpAny_bind (wpAny_setEntries_of R.ho R.hd R.fits ?_)
 dsimp only
 rw[if_neg (by rw[hl];simp)]
 show wpAny _ _ (setNext S ((bQ w ms i:Nat):Int).toNat ((i:Nat):Int).toNat ((ep:Nat):Int).toNat >>= _) _ _ s
 rw[Int.toNat_natCast,Int.toNat_natCast,Int.toNat_natCast]
 refine wpAny_bind (zU R (Nat.le_of_lt hi) ?_)
 rw[he]
 show wpAny _ _ (setField (.ref I) 0 (rawInt (bQ w ms (i+1))) >>= _) _ _ s
 refine wpAny_bind (wpAny_setField_rec hit (by simp) fun h1 h1e h1s=>?_)
 refine wpAny_bind (wpAny_setField_rec (s:={s with heap:=h1}) h1e (by simp) fun h2 h2e h2s=>?_)
 refine wpAny_pure ⟨_,rfl,wpAny_pure (hQ _ h2 he ?_ (Heap.SameBut.trans h1s h2s))⟩
 have ec:((i+1:Nat):Int)=(i:Int)+1:=by omega
 show h2.get? I=some {cls:=.type "set_iterator",dict:=none,data:=.fields #[rawInt (bQ w ms (i+1)),rawInt ((i+1:Nat):Int),.ref S,rawInt ms.length,rawInt ep],slots:=#[]}
 rw[ec]
 simpa using h2e
theorem JM {Q:Option Value→Shared→Prop}(hh:A.handled=none)(hit:iE w s.heap I S ms ep ms.length)(R:SRec s.heap S o es ep m mv (!byT w) ms)
  (hQ:∀ h',Heap.ExtBut I s.heap h'→Q none {s with heap:=h'}):wpAny (model prog w) A (pyNext (.ref I)) Q E s:=by
 have hl:=R.sz
 have hT:s.TypeIs (.ref I) "set_iterator":=⟨_,hit,rfl⟩
 have hol:(ordS w S ep es).size=ms.length:=by rw[← Array.length_toList,(jf w S ep es).length_eq,Array.length_toList,hl]
 have he:(ordS w S ep es)[ms.length]?=none:=Array.getElem?_eq_none (by omega)
 unfold pyNext
 refine wpAny_bind (wpAny_attempt (wpAny_callSpecial?_slot (name:=Str.ofString "__next__") hT ji
  (wpAny_call_entry ji hT wI ?_ (u7 _))))
 show wpAny _ _ (fieldsOf (.ref I) >>= _) _ _ s
 refine wpAny_bind (wpAny_fieldsOf hit rfl ?_)
 show wpAny _ _ (setEntries S >>= _) _ _ s
 refine wpAny_bind (wpAny_setEntries_of R.ho R.hd R.fits ?_)
 dsimp only
 rw[if_neg (by rw[hl];simp)]
 show wpAny _ _ (setNext S ((bQ w ms ms.length:Nat):Int).toNat ((ms.length:Nat):Int).toNat ((ep:Nat):Int).toNat >>= _) _ _ s
 rw[Int.toNat_natCast,Int.toNat_natCast,Int.toNat_natCast]
 refine wpAny_bind (zU R (Nat.le_refl _) ?_)
 rw[he]
 show wpAny _ _ (setField (.ref I) 2 .none >>= _) _ _ s
 refine wpAny_bind (wpAny_setField hit rfl (by simp) ?_)
 show wpAny _ _ (newExc (.type "StopIteration") [] >>= _) _ _ _
 refine wpAny_bind ?_
 simp only[newExc,newTuple]
 refine wpAny_bind (wpAny_newObj_type ?_ (by size_fits))
 refine wpAny_bind (m:=firstArgMember _ _) (wpAny_of_eq (a:=Value.none) (by first|rfl|(simp only[firstArgMember];rfl)) ?_)
 refine wpAny_newObj_type ?_ (by size_fits)
 simp only[raiseNew]
 refine wpAny_bind (wpAny_handled ?_)
 first|rw[show A.in1.handled=none from hh]|rw[hh]
 refine wpAny_bind (wpAny_pure (wpAny_throw ?_))
 refine wpAny_bind (wpAny_isInstance (T:="StopIteration") (b:=true) ⟨_,Heap.get?_push_size _ rfl,rfl⟩ isSubtype_stop ?_)
 exact wpAny_pure (hQ _ (((Heap.SameBut.update ..).extBut.push _).push _))
theorem Lr (hh:A.handled=none)(I S:Addr)(hne:S≠I)(o:Obj)(es:Array (Int×Value)) (ep m mv:Nat)(ms:List Nat) :
  Walks prog w A I [I,S] [I] ms.length (fun i v=>∃ e,(ordS w S ep es)[i]?=some e∧v=e.2) (fun i h=>iE w h I S ms ep i∧SRec h S o es ep m mv (!byT w) ms) where
 sub:=fun b hb=>by simp at hb;simp [hb]
 frame:=fun _ _ _ st hk=>⟨hk I (by simp) _ st.1,⟨hk S (by simp) _ st.2.ho,st.2.ex,st.2.hd,st.2.er,st.2.ms6,st.2.hm⟩⟩
 item:=fun i s Q E hi st hQ=>JN st.1 st.2 hi hne fun e h' he hit' hs' =>
  hQ _ h' s.toks ⟨e,he,rfl⟩ ⟨hit',⟨(hs'.2 S hne).trans st.2.ho,st.2.ex,st.2.hd,st.2.er,st.2.ms6,st.2.hm⟩⟩ fun b o hb e=>hs'.extBut b o (fun h=>hb (by simp [h])) e
 done:=fun s Q E st hQ=>JM hh st.1 st.2 fun h' he'=>hQ h' s.toks fun b o hb e=>he' b o (fun h=>hb (by simp [h])) e
 self:=fun i s Q E st hQ=>by
  have hT:s.TypeIs (.ref I) "set_iterator":=⟨_,st.1,rfl⟩
  refine wpAny_pyIter_slot hT zl (wpAny_call_entry zl hT CB ?_ (A5 _))
  show wpAny _ _ (ret (.ref I)) _ _ s
  exact wpAny_pure ⟨_,rfl,"set_iterator",_,hT,ji.lookup,hQ⟩
end
end L2
namespace L2
open PySem PySem.Spec PyProof.Rows
section
variable {prog:Program}{w:World}{A:Around}{E:Value→Shared→Prop}{s:Shared}{S I:Addr}{o:Obj}{es:Array (Int×Value)}{ep m mv:Nat}{ms:List Nat}
theorem SRec.type {l:Bool}(R:SRec s.heap S o es ep m mv l ms):s.TypeIs (.ref S) "set":=⟨o,R.ho,R.ex.1⟩
theorem SRec.kept {h h':Heap}{l:Bool}(R:SRec h S o es ep m mv l ms)(k:∀ o,h.get? S=some o→h'.get? S=some o):SRec h' S o es ep m mv l ms:=⟨k o R.ho,R.ex,R.hd,R.er,R.ms6,R.hm⟩
theorem Ih {Q:Value→Shared→Prop}(R:SRec s.heap S o es ep m mv (!byT w) ms)
  (hQ:Q (.ref s.heap.objs.size) {s with heap:=s.heap.push {cls:=.type "set_iterator",data:=.fields #[rawInt (bQ w ms 0),rawInt 0,.ref S,rawInt ms.length,rawInt ep]}}):wpAny (model prog w) A (pyIter (.ref S)) Q E s:=by
 have hl:=R.sz
 have h0:bQ w ms 0=0:=by unfold bQ;split<;>rfl
 rw[h0] at hQ
 refine wpAny_pyIter_slot R.type F.slot_set_iter (wpAny_call_entry F.slot_set_iter R.type Cz ?_ (F.args_set_iter_1 _))
 show wpAny _ _ (Builtin.Frozenset.sizeOf S >>= _) _ _ s
 unfold Builtin.Frozenset.sizeOf
 refine wpAny_bind (wpAny_bind (wpAny_setEntries_of R.ho R.hd R.fits (wpAny_pure ?_)))
 unfold setDrawn
 refine wpAny_bind (wpAny_bind (wpAny_setState_of R.ho R.hd R.fits ?_))
 dsimp only
 refine wpAny_bind (jt (wpAny_pure ?_))
 show wpAny _ _ (if (!byT w&&(!(tabOf m mv (!byT w) ms).plain&&decide (es.size>1)))=true then _ else _) _ _ s
 rw[if_neg (by simp [tabOf])]
 refine wpAny_bind (wpAny_pure ?_)
 refine wpAny_bind (wpAny_setEpoch_of R.ho R.hd R.fits ?_)
 rw[hl]
 exact wpAny_bind (wpAny_newObj_type (wpAny_pure ⟨_,rfl,"set_iterator",_,⟨_,Heap.get?_push_size _ rfl,rfl⟩,ji.lookup,hQ⟩))
theorem Fv:typeLookup (.type "set") "__len__"=pure (some (.builtin "set.__len__")):=by rw[typeLookup_type,builtinLookup_eq_fast];kernel_rfl
theorem BY {Q:List Value→Shared→Prop}(hh:A.handled=none)(R:SRec s.heap S o es ep m mv (!byT w) ms)
  (hQ:∀ h' tk,s.heap.objs.size≤h'.objs.size→(∀ b o,s.heap.get? b=some o→h'.get? b=some o)→Q ((ordS w S ep es).toList.map (·.2)) {s with heap:=h',toks:=tk}):wpAny (model prog w) A (collect (.ref S)) Q E s:=by
 have hl:=R.sz
 have hls:=dI ms R.ms6
 have hS:S<s.heap.objs.size:=Heap.lt_size R.ho
 unfold collect
 refine wpAny_bind (wpAny_runValue (codeAny_builtin F.entry_proto_collect ?_))
 rw[Around.under_plainId F.plain_proto_collect _]
 show wpAny _ A.in1 (newList [] >>= fun l=>again (.builtin "list.__iadd__" ⟨[l,.ref S],[]⟩)) _ _ s
 refine wpAny_bind (wpAny_newObj_type ?_)
 refine wpAny_pure ⟨plainId_quiet F.plain_list_iadd _,codeAny_builtin F.entry_list_iadd ?_⟩
 rw[Around.under_plainId F.plain_list_iadd _]
 have hS₁:(s.heap.push {cls:=.type "list",data:=.seq ([]:List Value).toArray}).get? s.heap.objs.size=some {cls:=.type "list",data:=.seq ([]:List Value).toArray}:=Heap.get?_push_size _ rfl
 have hz:(s.heap.push {cls:=.type "list",data:=.seq ([]:List Value).toArray}).objs.size=s.heap.objs.size+1:=Heap.size_push ..
 have R1:SRec (s.heap.push {cls:=.type "list",data:=.seq ([]:List Value).toArray}) S o es ep m mv (!byT w) ms:=R.kept fun o e=>Heap.get?_push_of_some _ e
 have h1:Builtin.List.listSameRef (.ref s.heap.objs.size) (.ref S)=false:=by simp [Builtin.List.listSameRef];exact Nat.ne_of_gt hS
 show wpAny _ A.in1 (Builtin.List.listExtendWith (.ref s.heap.objs.size) (.ref S) (.ref s.heap.objs.size)) _ _ {s with heap:=s.heap.push {cls:=.type "list",data:=.seq ([]:List Value).toArray}}
 unfold Builtin.List.listExtendWith
 refine wpAny_bind (wpAny_typeOf (SRec.type (s:={s with heap:=_}) R1) ?_)
 rw[if_neg (by rw[h1];decide)]
 refine wpAny_bind (Ih (s:={s with heap:=_}) R1 ?_)
 rw[hz]
 generalize hK:(s.heap.push {cls:=.type "list",data:=.seq ([]:List Value).toArray}).push {cls:=.type "set_iterator",data:=.fields #[rawInt (bQ w ms 0),rawInt 0,.ref S,rawInt ms.length,rawInt ep]}=K2
 have R2:SRec K2 S o es ep m mv (!byT w) ms:=by rw[← hK];exact R1.kept fun o e=>Heap.get?_push_of_some _ e
 have hS2:K2.get? s.heap.objs.size=some {cls:=.type "list",data:=.seq ([]:List Value).toArray}:=by rw[← hK];exact Heap.get?_push_of_some _ hS₁
 have hI2:iE w K2 (s.heap.objs.size+1) S ms ep 0:=by
  have:=Heap.get?_push_size (s.heap.push {cls:=.type "list",data:=.seq ([]:List Value).toArray}) (o:={cls:=.type "set_iterator",data:=.fields #[rawInt (bQ w ms 0),rawInt 0,.ref S,rawInt ms.length,rawInt ep]}) rfl
  rw[hz,hK] at this
  exact this
 have kp2:∀ b o,s.heap.get? b=some o→K2.get? b=some o:=fun b o e=>by rw[← hK];exact Heap.get?_push_of_some _ (Heap.get?_push_of_some _ e)
 have hT2:Shared.TypeIs {s with heap:=K2} (.ref S) "set":=SRec.type (s:={s with heap:=K2}) R2
 refine wpAny_bind (wpAny_holding ?_)
 unfold Builtin.List.listLengthHint
 refine wpAny_bind (wpAny_specialOf hT2 Fv ?_)
 (generalize hid:("set.__len__":String)=id0;(fail_if_success (clear hid id0));wp_delta;rw[show splitId id0=some ("set","__len__") from by subst hid;decide +kernel];subst hid)
 refine wpAny_bind (wpAny_isInstance (b:=true) hT2 (by rw[isSubtype_type];kernel_rfl) ?_)
 ·show wpAny _ A.in1 (typeOf (.ref S) >>= _) _ _ _
  refine wpAny_bind (wpAny_typeOf hT2 ?_)
  refine wpAny_pure ?_
  show wpAny _ A.in1 (rule "list.extend.makes-room" >>= fun _=>Builtin.List.listTouch (.ref s.heap.objs.size) >>= fun _=>again (.builtin "list.extend.loop" ⟨[.ref s.heap.objs.size,.ref (s.heap.objs.size+1),.ref s.heap.objs.size],[]⟩)) _ _ _
  refine wpAny_bind (wpAny_rule ?_)
  unfold Builtin.List.listTouch Builtin.List.listUpdate
  refine wpAny_bind (wpAny_bind (wpAny_updateSeq hS2 rfl ?_))
  have hS3:(K2.update s.heap.objs.size (Obj.mapSeq (·.push Value.none))).get? s.heap.objs.size=some (Obj.mapSeq (·.push Value.none) {cls:=.type "list",data:=.seq ([]:List Value).toArray}):=Heap.get?_update_self _ hS2 rfl
  refine wpAny_updateSeq (s:={s with heap:=K2.update s.heap.objs.size (Obj.mapSeq (·.push Value.none))}) hS3 rfl ?_
  have hS4:=Heap.get?_update_self (Obj.mapSeq (·.pop)) hS3 rfl
  generalize hK4:(K2.update s.heap.objs.size (Obj.mapSeq (·.push Value.none))).update s.heap.objs.size (Obj.mapSeq (·.pop))=K4 at hS4 ⊢
  have kp4:∀ b o,b≠s.heap.objs.size→K2.get? b=some o→K4.get? b=some o:=fun b o hb e=>by
   rw[← hK4]
   exact(Heap.get?_update_other _ _ (Ne.symm hb)).trans ((Heap.get?_update_other _ _ (Ne.symm hb)).trans e)
  have R2:SRec K4 S o es ep m mv (!byT w) ms:=R2.kept fun o e=>kp4 S o (Nat.ne_of_lt hS) e
  have hI2:iE w K4 (s.heap.objs.size+1) S ms ep 0:=kp4 _ _ (Nat.ne_of_gt (Nat.lt_succ_self _)) hI2
  have kp2:∀ b o,s.heap.get? b=some o→K4.get? b=some o:=fun b o e=>kp4 b o (Nat.ne_of_lt (Heap.lt_size e)) (kp2 b o e)
  have hS2:K4.get? s.heap.objs.size=some {cls:=.type "list",dict:=none,data:=.seq #[] 2,slots:=#[]}:=by simpa [Obj.mapSeq] using hS4
  have W:=(Lr (prog:=prog) (w:=w) (A:=A.in1) (by simpa using hh) (s.heap.objs.size+1) S (Nat.ne_of_lt (Nat.lt_succ_of_lt hS)) o es ep m mv ms).toS
  have hSf:s.heap.objs.size∉[s.heap.objs.size+1,S]:=by
   simp only[List.mem_cons,List.not_mem_nil,or_false,not_or]
   exact⟨Nat.ne_of_lt (Nat.lt_succ_self _),Nat.ne_of_gt hS⟩
  refine wpAny_pure ⟨plainId_quiet F.plain_extend_loop _,codeAny_extend_loopS W (by rw[sizeLine_eq];omega) _ hSf _ ms.length 0 _ _ _ rfl (Nat.zero_le _) ⟨hI2,R2⟩ hS2 (ItemsOf.nil _) fun s' acc' c' hm hS' hacc=>?_⟩
  show wpAny _ A (load s.heap.objs.size >>= _) _ _ s'
  refine wpAny_bind (wpAny_load hS' ?_)
  refine wpAny_pure ?_
  have eacc:acc'.toList=(ordS w S ep es).toList.map (·.2):=by
   have hol:(ordS w S ep es).size=ms.length:=by rw[← Array.length_toList,(jf w S ep es).length_eq,Array.length_toList,hl]
   apply List.ext_getElem?
   intro j
   by_cases hj:j<ms.length
   ·have h3:acc'[j]?=some (acc'[j]'(by rw[hacc.1];exact hj)):=Array.getElem?_eq_getElem _
    obtain⟨e,he,hv⟩:=hacc.2 j _ h3
    rw[Array.getElem?_toList,h3,List.getElem?_map,Array.getElem?_toList,he,hv]
    rfl
   ·rw[List.getElem?_eq_none (by rw[Array.length_toList,hacc.1];omega),List.getElem?_eq_none (by rw[List.length_map,Array.length_toList,hol];omega)]
  rw[eacc]
  obtain⟨h',g',d',tk',os'⟩:=s'
  have eg:g'=s.gens:=hm.gens
  have ed:d'=s.drawn:=hm.drawn
  have eo:os'=s.os:=hm.os
  subst eg ed eo
  refine hQ h' tk' (Nat.le_of_lt (Heap.lt_size hS')) fun b ob e=>hm.heap b ob ?_ (kp2 b ob e)
  have hb:=Heap.lt_size e
  simp only[List.mem_cons,List.not_mem_nil,or_false,not_or]
  exact⟨Nat.ne_of_lt hb,Nat.ne_of_lt (Nat.lt_succ_of_lt hb)⟩
theorem EsR.ints {a:List (Int×Value)}{ms:List Nat}(h:EsR a ms):IntsAre (a.map (·.2)) (ms.map fun(i:Nat)=>(i:Int)):=by
 induction h with
 | nil=>exact .nil
 | @cons i t r ms _ ih=>exact .cons _ _ ih
end
end L2
namespace L2
open PySem PySem.Spec PyProof.Rows
def aB (ms:List Nat):List Int:=ms.map fun(i:Nat)=>(i:Int)
theorem Ht:∀{vs vs':List Value}{ns:List Int},IntsAre vs ns→vs'.Perm vs→∃ ns',IntsAre vs' ns'∧ns'.Perm ns:=by
 intro vs vs' ns h p
 induction p generalizing ns with
 | nil=>exact⟨ns,h,.refl _⟩
 | cons x _ ih =>
   cases h with
   | cons n t h =>
     obtain⟨ns',h1,h2⟩:=ih h
     exact⟨n::ns',.cons n t h1,h2.cons _⟩
 | swap x y l =>
   cases h with
   | cons n t h =>
     cases h with
     | cons m u h=>exact⟨m::n::_,.cons m u (.cons n t h),.swap ..⟩
 | trans _ _ ih1 ih2 =>
   obtain⟨n1,a1,b1⟩:=ih2 h
   obtain⟨n2,a2,b2⟩:=ih1 a1
   exact⟨n2,a2,b2.trans b1⟩
theorem JX:∀{a b:List Int},a.Perm b→a.Pairwise (·≤·)→b.Pairwise (·≤·)→a=b:=fun p ha hb=>PySem.W.ksm_same p ha hb
theorem A6 {ms:List Nat}(h:ms.Pairwise (·<·)):(aB ms).Pairwise (·≤·):=by
 unfold aB
 rw[List.pairwise_map]
 exact h.imp fun h=>by omega
section
variable {prog:Program}{w:World}{A:Around}{E:Value→Shared→Prop}{s:Shared}{S I:Addr}{o:Obj}{es:Array (Int×Value)}{ep m mv:Nat}{ms:List Nat}
theorem JZ {Q:Value→Shared→Prop}(hh:A.handled=none)(R:SRec s.heap S o es ep m mv (!byT w) ms)
  (h:∀(D:Addr)(its:List Value) (n:Nat)(h':Heap) (tk:Nat),s.heap.objs.size≤D→IntsAre its (aB ms)→h'.get? D=some {cls:=.type "list",data:=.seq its.toArray n}→(∀ b o,s.heap.get? b=some o→h'.get? b=some o)→Q (.ref D) {s with heap:=h',toks:=tk}) :
  wpAny (model prog w) A (call (.builtin "sorted") [.ref S]) Q E s:=by
 have hls:=dI ms R.ms6
 refine Calls.call_function_entry kind_sorted plain_sorted entry_sorted (args_sorted1 _) ?_
 unfold Builtin.«sorted»
 refine wpAny_bind (m:=checkCount "sorted" 1 1 _) (wpAny_pure ?_)
 refine wpAny_bind (BY (by simpa using hh) R fun h1 tk hz1 kp=>?_)
 obtain⟨ns1,hi1,hp1⟩:=Ht R.er.ints ((jf w S ep es).map (·.2))
 have hlen:((ordS w S ep es).toList.map (·.2)).length<64:=by
  rw[List.length_map,(jf w S ep es).length_eq,R.er.length];omega
 generalize hvs:(ordS w S ep es).toList.map (·.2)=vs at hi1 hlen ⊢
 refine wpAny_bind (wpAny_newList ?_ (by rw[sizeLine_eq];omega))
 have hoL:(h1.push (seqObj "list" vs.toArray 0)).get? h1.objs.size=some (seqObj "list" vs.toArray 0):=Heap.get?_push_size _ rfl
 refine wpAny_bind (wpAny_holding (wpAny_call_entry slot_list_sort ⟨_,hoL,rfl⟩ entry_list_sort (list_sort_tree hoL hi1 hlen fun out ns' a1 a2 a3=>⟨_,rfl,?_⟩) (args_list_sort _)))
 obtain⟨e,he⟩:=sortedHeap_at (out:=out) hoL
 have ens:ns'=aB ms:=JX (a2.trans hp1) a3 (A6 (fF ms R.ms6))
 subst ens
 refine wpAny_pure ⟨_,rfl,h h1.objs.size out.toList e _ tk ?_ a1 (by simpa using he) fun b ob q=>?_⟩
 ·exact hz1
 ·have hb:=Heap.lt_size (kp b ob q)
  rw[sortedHeap_old (Nat.ne_of_lt hb) (by rw[size_push'];exact Nat.lt_succ_of_lt hb)]
  exact Heap.get?_push_of_some _ (kp b ob q)
theorem code_set_new (a:Value){Q₁:Value→Shared→Prop}
  (h:Q₁ (.ref s.heap.objs.size) {s with heap:=s.heap.push {cls:=.type "set",dict:=none,data:=.set #[] 0 (tabOf 7 0 (!byT w) [])}}) :
  codeAny (model prog w) A (.call (.builtin "set.__new__") ⟨[.type "set",a],[]⟩) (wants Q₁ E) s:=by
 refine codeAny_of_tree ?_
 show wpAny _ A.in1 (do checkBuiltinCall "set.__new__" ⟨[.type "set",a],[]⟩;again (.builtin "set.__new__" ⟨[.type "set",a],[]⟩)) _ _ s
 refine wpAny_bind (wpAny_of_eq (F.newCall_set_1 a) (wpAny_pure ⟨plainId_quiet F.plain_set_new _,codeAny_builtin F.entry_set_new ?_⟩))
 rw[Around.under_plainId F.plain_set_new _]
 unfold Builtin.«set.__new__» Builtin.Frozenset.newClass
 have hsub:=sub_set_self
 obtain⟨hp,g,d,tk,os⟩:=s
 dsimp only
 wp_walk
 refine wpAny_askSetting (wpAny_pure ?_)
 dsimp only
 simp only[newObj]
 refine wpAny_bind (wpAny_alloc (wpAny_pure ?_))
 exact wpAny_pure h
def aM (ms:List Nat)(ks:List Nat):List Nat:=ks.foldl (fun a k=>insN k a) ms
theorem fy:∀(ks:List Nat){ms:List Nat},ms∈aO→(∀ k∈ks,k<6)→aM ms ks∈aO∧∀ x,x∈aM ms ks↔x∈ms∨x∈ks
 | [],ms,h,_=>⟨h,fun x=>by simp [aM]⟩
 | k::ks,ms,h,hk=>by
   have h1:=t6 ms h k (List.mem_range.mpr (hk k List.mem_cons_self))
   obtain⟨h2,h3⟩:=fy ks h1 fun j hj=>hk j (List.mem_cons_of_mem _ hj)
   refine⟨h2,fun x=>?_⟩
   have:=h3 x
   rw[Et (hk k List.mem_cons_self) h] at this
   show x∈aM (insN k ms) ks↔_
   rw[this,List.mem_cons]
   constructor
   ·rintro((a|a)|a)
    ·exact .inr (.inl a)
    ·exact .inl a
    ·exact .inr (.inr a)
   ·rintro(a|a|a)
    ·exact .inl (.inr a)
    ·exact .inl (.inl a)
    ·exact .inr a
theorem Es {ks:List Nat}{ms:List Nat}{i:Nat}(h:i<ks.length):aM ms (ks.take (i+1))=insN ks[i] (aM ms (ks.take i)):=by
 unfold aM
 rw[List.take_succ_eq_append_getElem h,List.foldl_append]
 rfl
end
section
variable {prog:Program}{w:World}{A:Around}{R:Result→Shared→Prop}{I:Addr}{fp wr:List Addr}{G:Array GenState→Array GenState→Prop}{n:Nat}{P:Nat→Value→Prop}{St:Nat→Shared→Prop}
theorem JJ (W:WalksS prog w A.in1 I fp wr G n P St)(S:Addr)(hSf:S∉fp)(ks:List Nat)(hn:ks.length=n)(hk6:∀ k∈ks,k<6)(hval:∀ i v,P i v→∃ k t,ks[i]?=some k∧v=.int (k:Int) t) (l:Bool) :
  ∀(d i:Nat)(s:Shared),n - i=d→i≤n→St i s→SSet s.heap S l (aM [] (ks.take i)) →
   (∀ s',Moved (S::wr) G s s'→SSet s'.heap S l (aM [] ks)→R (.ok (.ret .none)) s') →
   codeAny (model prog w) A (.builtin "set.update.loop" ⟨[.ref S,.ref I],[]⟩) R s:=by
 have hSw:S∉wr:=fun h=>hSf (W.sub _ h)
 have hsub:∀ b∈wr,b∈S::wr:=fun b hb=>List.mem_cons_of_mem _ hb
 intro d
 induction d with
 | zero =>
   intro i s hd hi hst hS hR
   have hin:i=n:=by omega
   subst hin
   refine codeAny_builtin F.entry_set_update_loop ?_
   rw[Around.under_plainId F.plain_set_update_loop _]
   show wpAny _ A.in1 (pyNext (.ref I) >>= _) _ _ s
   refine wpAny_bind (W.done s _ _ hst fun s' hm=>?_)
   show wpAny _ A.in1 (ret Value.none) _ _ s'
   refine wpAny_pure (hR s' (hm.mono hsub) ?_)
   rw[List.take_of_length_le (by omega)] at hS
   exact hS.at fun o e=>hm.heap S _ hSw e
 | succ d ih =>
   intro i s hd hi hst hS hR
   have hlt:i<n:=by omega
   refine codeAny_builtin F.entry_set_update_loop ?_
   rw[Around.under_plainId F.plain_set_update_loop _]
   show wpAny _ A.in1 (pyNext (.ref I) >>= _) _ _ s
   refine wpAny_bind (W.item i s _ _ hlt hst fun v s' hP hst' hm=>?_)
   obtain⟨k,t,hk,rfl⟩:=hval i v hP
   have hki:ks[i]'(by omega)=k:=by
    have:=List.getElem?_eq_getElem (show i<ks.length by omega)
    rw[hk] at this
    exact(Option.some.inj this).symm
   have hk6':k<6:=hk6 k (List.mem_of_getElem? hk)
   have hS':SSet s'.heap S l (aM [] (ks.take i)):=hS.at fun o e=>hm.heap S _ hSw e
   show wpAny _ A.in1 (holding [Value.int (k:Int) t] (setAdd S (.int (k:Int) t)) >>= _) _ _ s'
   refine wpAny_bind (wpAny_holding ?_)
   unfold setAdd
   refine wpAny_holding ?_
   refine wpAny_bind ((intKind prog w).pyHash (k:=(k:Int)) (intKind_is _ _ _ _) ?_)
   rw[show(intKind prog w).hash (k:Int)=(k:Int) from w5 hk6']
   refine zm (s:={s' with toks:=s'.toks+1}) hS' hk6' fun b h' hsb hS2=>?_
   rw[← hki,← Es (by omega)] at hS2
   refine wpAny_pure ⟨plainId_quiet F.plain_set_update_loop _,ih (i+1) _ (by omega) hlt (W.frame _ s' _ _ hst' (Nat.le_succ _) fun b hb o e=>?_) hS2 fun s'' hm'' hS''=>?_⟩
   ·rw[hsb.2 b (fun h:b=S=>hSf (by rw[← h];exact hb))];exact e
   ·refine hR s'' (Moved.trans W.gtrans ((hm.mono hsub).then_heap (Nat.le_succ _) fun b o hb e=>?_) hm'') hS''
    rw[hsb.2 b (fun h:b=S=>hb (by rw[h];exact List.mem_cons_self))];exact e
end
end L2
namespace L2
open PySem PySem.Spec PyProof.Rows
theorem Ka:isSubtype (.type "tuple") (.type "set")=pure false:=by rw[isSubtype_type];kernel_rfl
theorem J9:isSubtype (.type "tuple") (.type "frozenset")=pure false:=by rw[isSubtype_type];kernel_rfl
set_option maxHeartbeats 3200000 in
theorem BK {prog:Program}{w:World}{A:Around}{E:Value→Shared→Prop}{s:Shared}{l:Addr}{items:Array Value}{ks:List Nat}{Q:Value→Shared→Prop}
  (hh:A.handled=none)(hl:s.heap.IsTuple l items)(hi:IntsAre items.toList (aB ks)) (hk6:∀ k∈ks,k<6)
  (h:∀(h':Heap) (tk:Nat),SSet h' s.heap.objs.size (!byT w) (aM [] ks)→s.heap.objs.size≤h'.objs.size→(∀ b o,s.heap.get? b=some o→h'.get? b=some o)→Q (.ref s.heap.objs.size) {s with heap:=h',toks:=tk}) :
  wpAny (model prog w) A (call (.type "set") [.ref l]) Q E s:=by
 obtain⟨c,tl,hmro⟩:=F.called_set.mro
 have hmade:=F.called_set.made
 have hsub:=F.called_set.sub
 have hlen:items.size=ks.length:=by
  have:=IntsAre.length hi
  simpa [aB] using this
 refine wpAny_call (codeAny_of_tree ?_)
 show wpAny _ _ (callAny (.type "set") _) _ _ _
 refine wpAny_pure ⟨Code.quiet_builtin _ (by decide +kernel),codeAny_builtin F.entry_type_call ?_⟩
 rw[Around.under_plain (weight_type_call_type "set" [.ref l] []) rfl]
 have h1:=F.called_set.notType
 have h2:=F.called_set.canCreate
 have hct:=F.typeCall_set_1 (.ref l)
 repeat (any_goals (first|assumption|wp_step))
 refine codeAny_mono (code_set_new (.ref l) (E:=E) (Q₁:=fun obj s₁=>obj=.ref s.heap.objs.size∧s₁={s with heap:=s.heap.push {cls:=.type "set",dict:=none,data:=.set #[] 0 (tabOf 7 0 (!byT w) [])}}) ⟨rfl,rfl⟩) fun r s₁ hr=>?_
 cases r with
 | error e=>exact hr
 | ok fl =>
   cases fl with
   | ret obj =>
     obtain⟨rfl,rfl⟩:=hr
     have hS:(s.heap.push {cls:=.type "set",dict:=none,data:=.set #[] 0 (tabOf 7 0 (!byT w) [])}).get? s.heap.objs.size=some {cls:=.type "set",dict:=none,data:=.set #[] 0 (tabOf 7 0 (!byT w) [])}:=Heap.get?_push_size _ rfl
     have hT:Shared.TypeIs {s with heap:=s.heap.push {cls:=.type "set",dict:=none,data:=.set #[] 0 (tabOf 7 0 (!byT w) [])}} (.ref s.heap.objs.size) "set":=⟨_,hS,rfl⟩
     have hli:=F.called_set.init.lookup
     have hbi:=F.called_set.init.bind (.ref s.heap.objs.size)
     repeat (any_goals (first|assumption|wp_step))
     refine codeAny_mono (codeAny_call_builtin (R:=wants (fun r s₂=>r=.none∧∃ h' tk,s₂={s with heap:=h',toks:=tk} ∧
       SSet h' s.heap.objs.size (!byT w) (aM [] ks)∧s.heap.objs.size≤h'.objs.size∧(∀ b o,s.heap.get? b=some o→h'.get? b=some o)) E) F.called_set.init.plain F.entry_set_init (check_set_init_1 hT ?_)) fun r₂ s₂ hr₂=>?_
     ·obtain⟨ol,hol,hcl,nl,hdl⟩:=hl
      obtain⟨ocls,odict,odata,oslots⟩:=ol
      simp only at hcl hdl
      subst hcl;subst hdl
      have hol':(s.heap.push {cls:=.type "set",dict:=none,data:=.set #[] 0 (tabOf 7 0 (!byT w) [])}).get? l=some {cls:=.type "tuple",dict:=odict,data:=.seq items nl,slots:=oslots}:=Heap.get?_push_of_some _ hol
      have hsls:=Ka
      have hslf:=J9
      have hne:(Value.type "tuple"==Value.type "dict")=false:=by decide
      have hl1:(s.heap.push {cls:=.type "set",dict:=none,data:=.set #[] 0 (tabOf 7 0 (!byT w) [])}).IsTuple l items:=⟨_,hol',rfl,nl,rfl⟩
      unfold Builtin.«set.__init__» noKeywords Builtin.Frozenset.updateFrom
      generalize hPI:pyIter=PI
      wp_walk
      subst hPI
      refine wpAny_pyIter_tuple hl1 ?_
      refine wpAny_bind (wpAny_runValue ?_)
      have hlS:l<s.heap.objs.size:=Heap.lt_size hol
      have hh3:A.in1.in1.in1.handled=none:=by simp [hh]
      have hneI:l≠(s.heap.push {cls:=.type "set",dict:=none,data:=.set #[] 0 (tabOf 7 0 (!byT w) [])}).objs.size:=by
       rw[Heap.size_push];exact Nat.ne_of_lt (Nat.lt_succ_of_lt hlS)
      have hSf:s.heap.objs.size∉[(s.heap.push {cls:=.type "set",dict:=none,data:=.set #[] 0 (tabOf 7 0 (!byT w) [])}).objs.size,l]:=by
       rw[Heap.size_push];simp only[List.mem_cons,List.mem_singleton,List.not_mem_nil,or_false,not_or]
       exact⟨Nat.ne_of_lt (Nat.lt_succ_self _),Nat.ne_of_gt hlS⟩
      have hval:∀(i:Nat)(v:Value),items[i]?=some v→∃ k t,ks[i]?=some k∧v=.int (k:Int) t:=fun i v hv=>by
       obtain⟨t,rfl⟩:=PyProof.Rows.IntsAre.int_at hi i v (by rw[Array.getElem?_toList];exact hv)
       have hil:i<ks.length:=by
        have:=(Array.getElem?_eq_some_iff.mp hv).1
        omega
       refine⟨ks[i],t,List.getElem?_eq_getElem hil,?_⟩
       have:(aB ks).getD i 0=((ks[i]:Nat):Int):=by simp [aB,hil]
       rw[this]
      refine JJ ((Walks.tuple hh3 _ l hneI items).toS) s.heap.objs.size hSf ks hlen.symm hk6 hval (!byT w) (items.size - 0) 0 _ (by omega) (Nat.zero_le _)
       ⟨⟨_,Heap.get?_push_size _ rfl,rfl,rfl⟩,hl1.push _⟩ ?hS0 ?hR
      case hS0 =>
       have hget:((s.heap.push {cls:=.type "set",dict:=none,data:=.set #[] 0 (tabOf 7 0 (!byT w) [])}).push {cls:=.type "tuple_iterator",data:=.fields #[.ref l,.int 0 0]}).get? s.heap.objs.size
         = some {cls:=.type "set",dict:=none,data:=.set #[] 0 (tabOf 7 0 (!byT w) [])}:=Heap.get?_push_of_some _ hS
       exact⟨_,#[],0,7,0,hget,⟨rfl,rfl,rfl⟩,rfl,.nil,jl,.inl rfl⟩
      case hR =>
       intro s' hm hS'
       obtain⟨h',g',d',tk',os'⟩:=s'
       have eg:g'=s.gens:=hm.gens
       have ed:d'=s.drawn:=hm.drawn
       have eo:os'=s.os:=hm.os
       subst eg;subst ed;subst eo
       show wpAny _ _ _ _ _ _
       refine wpAny_pure ?_
       show wpAny _ _ (ret Value.none) _ _ _
       refine wpAny_pure ⟨rfl,h',tk',rfl,hS',?_,fun b o e=>?_⟩
       ·obtain⟨_,_,_,_,_,q,_⟩:=hS'
        exact Nat.le_of_lt (Heap.lt_size q)
       ·have hb:=Heap.lt_size e
        have hb1:b≠s.heap.objs.size:=Nat.ne_of_lt hb
        have hb2:b≠(s.heap.push {cls:=.type "set",dict:=none,data:=.set #[] 0 (tabOf 7 0 (!byT w) [])}).objs.size:=by
         rw[Heap.size_push];exact Nat.ne_of_lt (Nat.lt_succ_of_lt hb)
        exact hm.heap b o (by simp only[List.mem_cons,List.mem_singleton,List.not_mem_nil,or_false,not_or];exact⟨hb1,hb2⟩) (Heap.get?_push_of_some _ (Heap.get?_push_of_some _ e))
     ·cases r₂ with
      | error e=>exact hr₂
      | ok fl₂ =>
        cases fl₂ with
        | ret r =>
          obtain⟨rfl,h',tk,rfl,hS',hz',hk'⟩:=hr₂
          repeat (any_goals (first|assumption|wp_step))
          exact h _ _ hS' hz' hk'
        | _=>exact hr₂.elim
   | _=>exact hr.elim
end L2
namespace L2
open PySem PySem.Spec PyProof.Rows
theorem AO:∀ n∈List.range 25,SetTable.sizeAbove n≤32:=by decide +kernel
section
variable {prog:Program}{w:World}{A:Around}{E:Value→Shared→Prop}{s:Shared}
theorem SSet.rec' {h:Heap}{a:Addr}{l:Bool}{ms:List Nat}(x:SSet h a l ms):∃ o es ep m mv,SRec h a o es ep m mv l ms :=
 let ⟨o,es,ep,m,mv,h1,h2,h3,h4,h5,h6⟩:=x
 ⟨o,es,ep,m,mv,h1,h2,h3,h4,h5,h6⟩
theorem Iq {a:Addr}{l:Bool}{ms:List Nat}{n:Nat}{Q:Unit→Shared→Prop}(hS:SSet s.heap a l ms)(hn:n≤24)
  (h:∀ h',Heap.SameBut a s.heap h'→SSet h' a l ms→Q () {s with heap:=h'}):wpAny (model prog w) A (setRelay a n) Q E s:=by
 obtain⟨o,es,ep,m,mv,R⟩:=hS.rec'
 have hsz:=R.sz
 have hl6:=dI ms R.ms6
 have eh:es.map (·.1)=(ms.map fun(i:Nat)=>(i:Int)).toArray:=by
  apply Array.toList_inj.mp
  rw[Array.toList_map];exact R.er.hashes
 have e1:(tabOf m mv l ms).relaid (es.map (·.1)) n=some (tabOf (SetTable.sizeAbove n - 1) ((tabOf m mv l ms).movedTo (SetTable.sizeAbove n - 1)) l ms,(List.range es.size).toArray):=by
  unfold SetTable.relaid
  rw[eh,hsz]
  exact r6 (j0 hn) R.ms6
 have h32:=AO n (List.mem_range.mpr (by omega))
 unfold setRelay
 refine wpAny_bind (wpAny_setState_of R.ho R.hd R.fits ?_)
 dsimp only
 rw[if_neg (by rw[sizeLine_eq];omega)]
 first|refine wpAny_bind (wpAny_pure ?_)|skip
 rw[e1]
 refine wpAny_bind ?_
 show wpAny _ _ (if ((List.range es.size).toArray.filterMap (fun i=>es[i]?)).size != es.size then _ else _) _ _ _
 rw[sP,if_neg (by simp)]
 first|refine wpAny_pure ?_|refine wpAny_bind (wpAny_pure (wpAny_pure ?_))
 dsimp only
 refine wpAny_storeSet_of R.ho R.hd ?_ (by rw[sizeLine_eq];omega)
 have:=kX (mv:=(tabOf m mv l ms).movedTo (SetTable.sizeAbove n - 1)) (l:=l) R.ho R.ex R.hd R.er R.ms6 (j0 hn)
 exact h _ (Heap.SameBut.update s.heap a _) this.2
theorem yV {a:Addr}{l:Bool}{ms:List Nat}{n:Nat}{Q:Unit→Shared→Prop}(hS:SSet s.heap a l ms)(hn:n≤6)
  (h:∀ h',Heap.SameBut a s.heap h'→SSet h' a l ms→Q () {s with heap:=h'}):wpAny (model prog w) A (setRoomFor a n) Q E s:=by
 obtain⟨o,es,ep,m,mv,R⟩:=hS.rec'
 have hl6:=dI ms R.ms6
 unfold setRoomFor
 refine wpAny_bind (wpAny_setState_of R.ho R.hd R.fits ?_)
 dsimp only
 unfold SetTable.roomFor
 split
 ·rename_i wanted hw
  split at hw
  ·cases hw
   exact Iq hS (by show(ms.toArray.size+n) * 2≤24;simp;omega) h
  ·cases hw
 ·exact wpAny_pure (h s.heap (Heap.SameBut.refl a s.heap) hS)
theorem zQ {S:Addr}{o:Obj}{es:Array (Int×Value)}{ep m mv:Nat}{ms:List Nat}{Q:Array (Int×Value)→Shared→Prop}(R:SRec s.heap S o es ep m mv (!byT w) ms) (h:Q (ordS w S ep es) s) :
  wpAny (model prog w) A (setWalk S) Q E s:=by
 unfold setWalk
 refine wpAny_bind (wpAny_setState_of R.ho R.hd R.fits ?_)
 dsimp only
 refine wpAny_bind (jt ?_)
 cases hb:byT w with
 | true =>
   simp only[↓reduceIte]
   refine wpAny_bind (wpAny_askSetting (wpAny_pure ?_))
   have e1:ordS w S ep es=pickOrder (w.params.setOrder S ep) es:=by unfold ordS;rw[hb];rfl
   rw[e1] at h
   exact h
 | false =>
   simp only[Bool.false_eq_true,↓reduceIte]
   have e1:ordS w S ep es=es:=by unfold ordS;rw[hb];rfl
   rw[e1] at h
   show wpAny _ _ (if (!(tabOf m mv true ms).plain&&decide (es.size>1))=true then _ else _) _ _ s
   rw[if_neg (by simp [tabOf])]
   refine wpAny_bind ?_
   show wpAny _ _ (if (!(tabOf m mv true ms).led&&decide (es.size>1))=true then _ else _) _ _ s
   rw[if_neg (by simp [tabOf])]
   exact wpAny_pure (wpAny_pure h)
theorem Ll {S:Addr}{os:List Addr}{f:Option Addr}{o:Obj}{es:Array (Int×Value)}{ep m mv:Nat}{ms:List Nat}{Q:Array (Int×Value)→Shared→Prop}(R:SRec s.heap S o es ep m mv (!byT w) ms) (h:Q (ordS w S ep es) s) :
  wpAny (model prog w) A (setWalkUnseen S os f) Q E s:=by
 unfold setWalkUnseen
 refine wpAny_bind (wpAny_setState_of R.ho R.hd R.fits ?_)
 dsimp only
 refine wpAny_bind (jt ?_)
 rw[if_pos (by cases byT w<;>simp [tabOf])]
 first|exact zQ R h|exact wpAny_bind (zQ R (wpAny_pure h))
theorem EsR.perm {es es':List (Int×Value)}{ms:List Nat}(h:EsR es ms)(p:es'.Perm es):∃ ms',EsR es' ms'∧ms'.Perm ms:=by
 induction p generalizing ms with
 | nil=>exact⟨ms,h,.refl _⟩
 | cons x _ ih =>
   cases h with
   | cons h =>
     obtain⟨ns',h1,h2⟩:=ih h
     exact⟨_::ns',.cons h1,h2.cons _⟩
 | swap x y l =>
   cases h with
   | cons h =>
     cases h with
     | cons h=>exact⟨_::_::_,.cons (.cons h),.swap ..⟩
 | trans _ _ ih1 ih2 =>
   obtain⟨n1,a1,b1⟩:=ih2 h
   obtain⟨n2,a2,b2⟩:=ih1 a1
   exact⟨n2,a2,b2.trans b1⟩
theorem Ep {ms ks js:List Nat}(h:ms∈aO)(hk:∀ k∈ks,k<6)(hj:∀ k∈js,k<6)(e:∀ x,x∈ks↔x∈js):aM ms ks=aM ms js:=by
 obtain⟨a1,a2⟩:=fy ks h hk
 obtain⟨b1,b2⟩:=fy js h hj
 refine eL (fF _ a1) (fF _ b1) fun x=>?_
 rw[a2,b2,e]
theorem xh {ms:List Nat}(h:ms∈aO):aM [] ms=ms:=by
 have hl:=nM ms h
 obtain⟨a1,a2⟩:=fy ms jl hl
 refine eL (fF _ a1) (fF _ h) fun x=>?_
 rw[a2];simp
set_option maxHeartbeats 1600000 in
theorem xY {a b:Addr}{ms ns:List Nat}{each:Sem Unit}{Q:Unit→Shared→Prop}(hab:a≠b)(hS:SSet s.heap a (!byT w) ms) (hO:SSet s.heap b (!byT w) ns)
  (hE:∀(s':Shared)(Q':Unit→Shared→Prop),s'.heap.get? b=s.heap.get? b→Q' () s'→wpAny (model prog w) A each Q' E s')
  (h:∀ h',Heap.SameBut a s.heap h'→SSet h' a (!byT w) (aM ms ns)→Q () {s with heap:=h'}):wpAny (model prog w) A (setMerge a b each) Q E s:=by
 obtain⟨o,es,ep,m,mv,R⟩:=hO.rec'
 have hl6:=dI ns R.ms6
 have hsz:=R.sz
 have hlt:=nM ns R.ms6
 unfold setMerge
 rw[if_neg (by simpa using hab)]
 first|refine wpAny_bind (wpAny_setState_of R.ho R.hd R.fits ?_)|refine wpAny_bind (wpAny_pure (wpAny_bind (wpAny_setState_of R.ho R.hd R.fits ?_)))
 dsimp only
 by_cases hne:es.isEmpty=true
 ·rw[if_pos hne]
  have:ns=[]:=List.eq_nil_of_length_eq_zero (by rw[← hsz];simpa using hne)
  subst this
  exact wpAny_pure (h s.heap (Heap.SameBut.refl a s.heap) hS)
 ·rw[if_neg hne]
  first|refine wpAny_bind (yV hS (by omega) fun h1 sb1 hS1=>?_)|refine wpAny_bind (wpAny_pure (wpAny_bind (yV hS (by omega) fun h1 sb1 hS1=>?_)))
  have R1:SRec h1 b o es ep m mv (!byT w) ns:=⟨by rw[sb1.2 b (Ne.symm hab)];exact R.ho,R.ex,R.hd,R.er,R.ms6,R.hm⟩
  obtain⟨oa,ea,epa,ma,mva,Ra⟩:=hS1.rec'
  refine wpAny_bind (wpAny_setState_of Ra.ho Ra.hd Ra.fits ?_)
  dsimp only
  by_cases hms:ms=[]
  ·subst hms
   have ei:aM [] ns=ns:=xh R.ms6
   rw[ei] at h
   by_cases hm:ma=m
   ·have er:(tabOf ma mva (!byT w) []).road (tabOf m mv (!byT w) ns)=.slotForSlot:=by unfold SetTable.road;simp [tabOf,SetTable.fill,hm]
    rw[er]
    dsimp only
    refine wpAny_storeSet_of Ra.ho Ra.hd ?_ (by rw[sizeLine_eq];omega)
    have et:({tabOf m mv (!byT w) ns with finger:=(tabOf ma mva (!byT w) []).finger,led:=(tabOf ma mva (!byT w) []).led&&(tabOf m mv (!byT w) ns).led,moves:=(tabOf ma mva (!byT w) []).moves,plain:=(tabOf ma mva (!byT w) []).plain&&(tabOf m mv (!byT w) ns).plain}:SetTable)=tabOf m mva (!byT w) ns:=by
     simp [tabOf]
    rw[et]
    exact h _ (sb1.trans (Heap.SameBut.update _ a _)) (kX (mv:=mva) (l:=!byT w) Ra.ho Ra.ex Ra.hd R.er R.ms6 R.hm).2
   ·have er:(tabOf ma mva (!byT w) []).road (tabOf m mv (!byT w) ns)=.clean:=by unfold SetTable.road;simp [tabOf,SetTable.fill,hm]
    rw[er]
    dsimp only
    have eh:es.map (·.1)=(ns.map fun(i:Nat)=>(i:Int)).toArray:=by
     apply Array.toList_inj.mp
     rw[Array.toList_map];exact R.er.hashes
    have el:SetTable.laid (tabOf ma mva (!byT w) []).mask (tabOf ma mva (!byT w) []).finger (tabOf ma mva (!byT w) []).moves ((tabOf ma mva (!byT w) []).led&&(tabOf m mv (!byT w) ns).led) ((tabOf ma mva (!byT w) []).plain&&(tabOf m mv (!byT w) ns).plain) (es.map (·.1))
      = some (tabOf ma mva (!byT w) ns,(List.range es.size).toArray):=by
     rw[eh,hsz]
     refine(r6 Ra.hm R.ms6).trans ?_
     simp [tabOf]
    rw[el]
    refine wpAny_bind ?_
    show wpAny _ _ (if ((List.range es.size).toArray.filterMap (fun i=>es[i]?)).size != es.size then _ else _) _ _ _
    rw[sP,if_neg (by simp)]
    first|refine wpAny_pure ?_|refine wpAny_bind (wpAny_pure (wpAny_pure ?_))
    dsimp only
    refine wpAny_storeSet_of Ra.ho Ra.hd ?_ (by rw[sizeLine_eq];omega)
    exact h _ (sb1.trans (Heap.SameBut.update _ a _)) (kX (mv:=mva) (l:=!byT w) Ra.ho Ra.ex Ra.hd R.er R.ms6 Ra.hm).2
  ·have er:(tabOf ma mva (!byT w) ms).road (tabOf m mv (!byT w) ns)=.oneByOne:=by
    unfold SetTable.road;simp [tabOf,SetTable.fill,hms]
   rw[er]
   dsimp only
   refine wpAny_bind (Ll (R1:SRec ({s with heap:=h1}:Shared).heap _ _ _ _ _ _ _ _) ?_)
   obtain⟨qs,hq,hp⟩:=R.er.perm (jf w b ep es)
   have hqs:∀ x,x∈qs↔x∈ns:=fun x=>hp.mem_iff
   have hq6:∀ k∈qs,k<6:=fun k hk=>hlt k ((hqs k).mp hk)
   rw[Ep hS.mem hlt hq6 fun x=>(hqs x).symm] at h
   refine wpAny_bind (wpAny_forIn_array' _ (fun left _ s'=>∃(done rest:List Nat)(h':Heap),qs=done++rest∧EsR left rest∧s'={s with heap:=h'}∧Heap.SameBut a s.heap h'∧SSet h' a (!byT w) (aM ms done)) _ ?_ ?_ _ _ ?_)
   ·rintro⟨hh,x⟩ left u s' ⟨done,rest,h',eq,hr,rfl,sb,hS'⟩
    cases hr with
    | @cons k t _ rest hr =>
      dsimp only
      have hk6:k<6:=hq6 k (by rw[eq];simp)
      refine wpAny_bind (wpAny_holding (zm (s:={s with heap:=h'}) hS' hk6 fun bb h2 sb2 hS2=>?_))
      have sb3:Heap.SameBut a s.heap h2:=sb.trans sb2
      have e3:h2.get? b=s.heap.get? b:=sb3.2 b (Ne.symm hab)
      refine wpAny_bind (hE _ _ e3 ?_)
      refine wpAny_bind (wpAny_setState_of (by rw[e3];exact R.ho) R.hd R.fits ?_)
      dsimp only
      rw[if_neg (by simp)]
      refine wpAny_pure ⟨done++[k],rest,h2,by rw[eq];simp,hr,rfl,sb3,?_⟩
      have:aM ms (done++[k])=insN k (aM ms done):=by unfold aM;rw[List.foldl_append];rfl
      rw[this];exact hS2
   ·rintro u s' ⟨done,rest,h',eq,hr,rfl,sb,hS'⟩
    cases hr
    rw[List.append_nil] at eq
    rw[eq] at h
    exact wpAny_pure (h h' sb hS')
   ·exact⟨[],qs,h1,rfl,hq,rfl,sb1,hS1⟩
theorem SSet.ty {s:Shared}{a:Addr}{l:Bool}{ms:List Nat}(x:SSet s.heap a l ms):s.TypeIs (.ref a) "set":=by
 obtain⟨o,es,ep,m,mv,R⟩:=x.rec'
 exact⟨o,R.ho,R.ex.1⟩
theorem CA:entryFor table "set.__or__"=some Builtin.«frozenset.__or__» :=
 entryFor_alias (id':="frozenset.__or__") (by kernel_rfl) (by first|rfl|decide +kernel|(unfold String.splitOn;simp +decide [String.splitOnAux])) (by decide +kernel) (by kernel_rfl)
theorem F9 {Q:Value→Shared→Prop}(h:Q (.ref s.heap.objs.size) {s with heap:=s.heap.push {cls:=.type "set",dict:=none,data:=.set #[] 0 (tabOf 7 0 (!byT w) [])}}):wpAny (model prog w) A (newSet (.type "set")) Q E s:=by
 unfold newSet
 refine wpAny_bind (jt ?_)
 dsimp only[newObj]
 first|exact wpAny_bind (wpAny_alloc (wpAny_pure h))|exact wpAny_alloc h
theorem oF {v:Value}{Q:Bool→Shared→Prop}(hv:s.TypeIs v "set")(h:Q true s):wpAny (model prog w) A (Builtin.Frozenset.isAnySet v) Q E s:=by
 unfold Builtin.Frozenset.isAnySet orM
 exact wpAny_bind (wpAny_isInstance hv sub_set_self (by exact wpAny_pure h))
theorem G2 {a b:Addr}{ms ns:List Nat}{Q:Value→Shared→Prop}(hab:a≠b)(hS:SSet s.heap a (!byT w) ms) (hO:SSet s.heap b (!byT w) ns)
  (h:∀ h',SSet h' s.heap.objs.size (!byT w) (aM ms ns)→(∀ b o,s.heap.get? b=some o→h'.get? b=some o)→Q (.ref s.heap.objs.size) {s with heap:=h'}) :
  wpAny (model prog w) A (binaryOp .BitOr (.ref a) (.ref b)) Q E s:=by
 refine wpAny_binaryOp_same (op:=.BitOr) (T:="set") hS.ty hO.ty PySem.F.fills_set_or PySem.F.slot_set_or (wpAny_call_entry PySem.F.slot_set_or hS.ty CA ?_ (PySem.F.args_set_or_2 _ _))
 show wpAny _ _ (Builtin.Frozenset.slot1 "__or__" ⟨[.ref a,.ref b],[]⟩ >>= _) _ _ _
 refine wpAny_bind ?_
 show wpAny _ _ (slotArgs "__or__" 1 ⟨[.ref a,.ref b],[]⟩ >>= _) _ _ _
 refine wpAny_bind (wpAny_pure (wpAny_pure ?_))
 dsimp only
 simp only[Bool.false_eq_true,↓reduceIte]
 refine wpAny_bind ?_
 unfold andM
 refine wpAny_bind (oF hS.ty ?_)
 refine oF hO.ty ?_
 simp only[Bool.not_true,Bool.false_eq_true,↓reduceIte]
 refine wpAny_bind (wpAny_pure ?_)
 refine wpAny_bind ?_
 show wpAny _ _ (Builtin.Frozenset.copyOf a >>= _) _ _ _
 have hal:a<s.heap.objs.size:=by
  obtain⟨o,es,ep,m,mv,R⟩:=hS.rec';exact Heap.lt_size R.ho
 have hbl:b<s.heap.objs.size:=by
  obtain⟨o,es,ep,m,mv,R⟩:=hO.rec';exact Heap.lt_size R.ho
 refine wpAny_bind ?_
 unfold Builtin.Frozenset.copyOf
 refine wpAny_bind ?_
 unfold Builtin.Frozenset.baseOf
 refine wpAny_bind (wpAny_isInstance hS.ty sub_set_self ?_)
 simp only[↓reduceIte]
 refine wpAny_pure ?_
 refine wpAny_bind (F9 ?_)
 generalize hD:s.heap.objs.size=D at hal hbl h ⊢
 have hget:(s.heap.push {cls:=.type "set",dict:=none,data:=.set #[] 0 (tabOf 7 0 (!byT w) [])}).get? D=some {cls:=.type "set",dict:=none,data:=.set #[] 0 (tabOf 7 0 (!byT w) [])}:=by rw[← hD];exact Heap.get?_push_size _ rfl
 have hN:SSet (s.heap.push {cls:=.type "set",dict:=none,data:=.set #[] 0 (tabOf 7 0 (!byT w) [])}) D (!byT w) []:=⟨_,#[],0,7,0,hget,⟨rfl,rfl,rfl⟩,rfl,.nil,jl,.inl rfl⟩
 have kp:∀ b o,s.heap.get? b=some o→(s.heap.push {cls:=.type "set",dict:=none,data:=.set #[] 0 (tabOf 7 0 (!byT w) [])}).get? b=some o:=fun b o e=>Heap.get?_push_of_some _ e
 generalize s.heap.push {cls:=.type "set",dict:=none,data:=.set #[] 0 (tabOf 7 0 (!byT w) [])}=h1 at hget hN kp ⊢
 refine wpAny_bind (wpAny_pure ?_)
 refine wpAny_bind (xY (s:={s with heap:=h1}) (Nat.ne_of_gt hal) hN (hS.at fun o e=>kp a o e) (fun s' Q' _ hq=>wpAny_pure hq) fun h2 sb2 hS2=>?_)
 rw[xh hS.mem] at hS2
 have hO2:SSet h2 b (!byT w) ns:=hO.at fun o e=>by rw[sb2.2 b (Nat.ne_of_lt hbl)];exact kp b o e
 refine wpAny_pure ?_
 have hne:(Value.ref b != Value.ref a)=true:=by simpa using Ne.symm hab
 try simp only[]
 rw[if_pos hne]
 refine wpAny_bind ?_
 refine wpAny_pure ?_
 refine wpAny_bind (wpAny_holding ?_)
 unfold Builtin.Frozenset.updateFrom
 refine wpAny_bind (oF (s:={s with heap:=h2}) hO2.ty ?_)
 simp only[↓reduceIte]
 refine wpAny_bind (wpAny_pure ?_)
 unfold Builtin.Frozenset.merge
 obtain⟨o,es,ep,m,mv,R⟩:=hO2.rec'
 refine wpAny_bind (wpAny_setEpoch_of R.ho R.hd R.fits ?_)
 refine xY (s:={s with heap:=h2}) (Nat.ne_of_gt hbl) hS2 hO2 (fun s' Q' e hq=>?_) fun h3 sb3 hS3=>?_
 ·unfold Builtin.Frozenset.unchanged
  refine wpAny_bind (wpAny_setEpoch_of (by rw[e];exact R.ho) R.hd R.fits ?_)
  rw[if_neg (by simp)]
  exact wpAny_pure hq
 ·refine wpAny_pure ?_
  refine wpAny_pure ⟨_,rfl,by simp,h h3 hS3 fun c o e=>?_⟩
  have hc:=Heap.lt_size e
  rw[hD] at hc
  rw[sb3.2 c (Nat.ne_of_lt hc),sb2.2 c (Nat.ne_of_lt hc)]
  exact kp c o e
end
end L2
namespace TL
open PySem L2
abbrev FZ:=Rho→Option (List Nat)
def PZ (X:Cx)(e:Expr)(t:L2.St→Hp→(List Nat→Hp→Prop)→Prop):Prop :=
 ∀(pins:List (Addr×Obj)) (s:Shared)(σ:L2.St)(H:Hp)(Q:List Nat→Hp→Prop),Inv X pins σ H s→t σ H Q →
  wpAny (model X.prog X.w) X.A (eval e X.env) (fun u s'=>∃ S ms H',u=.ref S∧SSet s'.heap S (!byT X.w) ms∧FpOk X pins H' S∧Inv X pins σ H' s'∧Q ms H') X.xe s
def tZ (z:Z)(f:FZ):L2.St→Hp→(List Nat→Hp→Prop)→Prop:=fun σ H Q=>∃ ρ Hq ms,Rn z σ ρ Hq H∧f ρ=some ms∧∀ Hq' H',Ex Hq H Hq' H'→Q ms H'
abbrev EZ (X:Cx)(z:Z)(e:Expr)(f:FZ):Prop:=PZ X e (tZ z f)
def cC:List T→Option (List Nat)
 | []=>some []
 | .int i::r=>if 0≤i∧i<6 then (cC r).map (i.toNat::·) else none
 | _=>none
theorem x9 {K:PySem.W.Frag}{H:Hp}:∀{ts:List T}{ks:List Nat}{vs:List V}{its:List Value},cC ts=some ks→RepL K H ts vs→Vals vs its→PyProof.Rows.IntsAre its (aB ks)∧∀ k∈ks,k<6
 | [],ks,vs,its,e,r,v=>by
   simp only[cC,Option.some.injEq] at e;subst e
   unfold RepL at r;subst r
   cases v
   exact⟨.nil,fun k hk=>nomatch hk⟩
 | t::ts,ks,vs,its,e,r,v=>by
   unfold RepL at r
   obtain⟨x,r',rfl,h2,h3⟩:=r
   cases t with
   | int i =>
     simp only[cC] at e
     split at e
     ·rename_i hi
      cases q:cC ts with
      | none=>rw[q] at e;cases e
      | some js =>
        rw[q] at e
        simp only[Option.map_some,Option.some.injEq] at e
        subst e
        cases v with
        | cons v1 v2 =>
          obtain⟨a,b⟩:=x9 q h3 v2
          cases h2.i
          obtain⟨tk,rfl⟩:=v1
          have ei:((i.toNat:Nat):Int)=i:=Int.toNat_of_nonneg hi.1
          refine⟨?_,fun k hk=>?_⟩
          ·show PyProof.Rows.IntsAre _ (((i.toNat:Nat):Int)::aB js)
           rw[ei]
           exact .cons i tk a
          ·rcases List.mem_cons.mp hk with rfl|hk
           ·omega
           ·exact b k hk
     ·cases e
   | _=>simp [cC] at e
section
variable {X:Cx}{z:Z}{e a b:Expr}{f:FE}{fa fb fz:FZ}{p pos:Pos}
def gf (f:FE):FZ:=fun ρ=>match f ρ with|some (.tup ts)=>(cC ts).map (aM [])|_=>none
theorem boot_set:bootBuiltins "set"=some (.type "set"):=by rfl
theorem boot_sorted:bootBuiltins "sorted"=some (.builtin "sorted"):=by rfl
theorem ez_set (hK:z.K=X.K)(hc:X.calm=true)(hg:Gl X "set")(hm:X.mg "set"=none)(h:ER X z e f)(hs:starEach [e] X.env=[(false,eval e X.env)]:=by rfl):EZ X z (.Call (.Name "set" p) [e] [] pos) (gf f):=by
 intro pins s σ H Q I ⟨ρ,Hq,ms,r,e,k⟩
 unfold gf at e
 split at e
 ·rename_i ts et
  refine wpAny_Call_Name_kw (cI I hg hm boot_set ?_)
  refine PyProof.Rows.callWith_type1 (thn (kE h hs pos pins s σ H (fun vs H1=>∃ v Hq1,vs=[v]∧Ex Hq H Hq1 H1∧RepR z.K Hq1 H1 (.tup ts) v) I ⟨ρ,Hq,_,r,et,fun v Hq' H' x q=>⟨v,Hq',rfl,x,q⟩⟩) fun us s1 ⟨vs,H1,I1,r1,v,Hq1,ev,x1,q1⟩=>?_) hs rfl
  subst ev
  obtain⟨l,ws,rfl,q2,q3⟩:=q1.tup x1.sub
  cases r1 with
  | cons r1 rr =>
    cases rr
    cases r1
    rw[hK] at q2
    obtain⟨its,v1,p1,_⟩:=I1.tuple q2
    cases qn:cC ts with
    | none=>rw[qn] at e;cases e
    | some ks =>
      rw[qn] at e
      simp only[Option.map_some,Option.some.injEq] at e
      subst e
      obtain⟨hi,hk6⟩:=x9 qn q3 v1
      refine BK (I.ok.hd hc) (items:=its.toArray) p1 (by simpa using hi) hk6 fun h' tk hS hsz kp=>?_
      exact⟨_,_,H1,rfl,hS,I1.fpOk (Nat.le_refl _) I1.fresh,I1.kept (t':=tk) kp,k Hq1 H1 x1⟩
 ·cases e
def iX (f g:FZ):FZ:=fun ρ=>match f ρ with|some a=>(match g ρ with|some b=>some (aM a b)|none=>none)|none=>none
theorem SSet.kJ {h:Heap}{a:Addr}{l:Bool}{ms:List Nat}(x:SSet h a l ms):∃ o,h.get? a=some o∧∀ v,o.data≠.cell v:=by
 obtain⟨o,es,ep,m,mv,R⟩:=x.rec'
 exact⟨o,R.ho,fun v=>by rw[R.hd];simp⟩
theorem ez_or (ha:EZ X z a fa)(hb:EZ X z b fb):EZ X z (.BinOp a .BitOr b pos) (iX fa fb):=by
 intro pins s σ H Q I ⟨ρ,Hq,ms,r,e,k⟩
 unfold iX at e
 split at e
 ·rename_i m1 e1
  split at e
  ·rename_i m2 e2
   cases e
   refine wpAny_BinOp (thn (ha pins s σ H (fun ms H1=>ms=m1∧∃ Hq1,Ex Hq H Hq1 H1) I ⟨ρ,Hq,m1,r,e1,fun Hq1 H1 x=>⟨rfl,Hq1,x⟩⟩) fun u s1 ⟨S1,n1,H1,eu,hS1,fp1,I1,en,Hq1,x1⟩=>?_)
   subst eu;subst en
   have I1':=I1.pinned (fp:=[S1]) (fun b hb=>by rw[List.mem_singleton] at hb;subst hb;exact fp1) (fun b hb=>by rw[List.mem_singleton] at hb;subst hb;exact SSet.kJ hS1)
   refine thn (hb _ s1 σ H1 (fun ms H2=>ms=m2∧∃ Hq2,Ex Hq1 H1 Hq2 H2) I1' ⟨ρ,Hq1,m2,r.ext x1,e2,fun Hq1 H1 x=>⟨rfl,Hq1,x⟩⟩) fun u s2 ⟨S2,n2,H2,eu2,hS2,fp2,I2,en2,Hq2,x2⟩=>?_
   subst eu2;subst en2
   obtain⟨o1,ho1,_⟩:=SSet.kJ hS1
   have hp:=i9 (fp:=[S1]) List.mem_cons_self ho1
   have h12:s2.heap.get? S1=some o1:=(I2.pin _ (List.mem_append_right _ (List.mem_append_right _ hp))).1
   have hne:S1≠S2:=fp2.2.2.2.2.2 _ (List.mem_append_right _ (List.mem_append_right _ hp))
   have hS1':SSet s2.heap S1 (!byT X.w) n1:=hS1.at fun o q=>by rw[ho1] at q;cases q;exact h12
   have I3:=I2.lg
   refine G2 hne hS1' hS2 fun h' hS kp=>⟨_,_,H2,rfl,hS,I3.fpOk (Nat.le_refl _) I3.fresh,I3.kept (t':=s2.toks) kp,k Hq2 H2 (x1.trans x2)⟩
  ·cases e
 ·cases e
def iY (f:FZ):FA:=fun ρ=>(f ρ).map fun ms=>ms.map fun(i:Nat)=>T.int (i:Int)
theorem lq:∀{its:List Value}{ns:List Int},PyProof.Rows.IntsAre its ns→Vals (ns.map V.int) its
 | _,_,.nil=>.nil
 | _,_,.cons n t h=>.cons ⟨t,rfl⟩ (lq h)
theorem ef_sorted (hc:X.calm=true)(hg:Gl X "sorted")(hm:X.mg "sorted"=none)(h:EZ X z e fz)(hs:starEach [e] X.env=[(false,eval e X.env)]:=by rfl):EF X z (.Call (.Name "sorted" p) [e] [] pos) (iY fz):=by
 intro pins s σ H Q I ⟨ρ,Hq,ts,r,e,k⟩
 unfold iY at e
 cases q:fz ρ with
 | none=>rw[q] at e;cases e
 | some ms =>
   rw[q] at e
   cases e
   refine wpAny_Call_Name_kw (cI I hg hm boot_sorted ?_)
   refine PyProof.Rows.callWith_builtin1 ?_ hs rfl
   rw[hs]
   show wpAny _ _ (spliced ((false,eval _ X.env)::[])) _ _ s
   refine Calls.spliced_cons (thn (h pins s σ H (fun m H1=>m=ms∧∃ Hq1,Ex Hq H Hq1 H1) I ⟨ρ,Hq,ms,r,q,fun Hq1 H1 x=>⟨rfl,Hq1,x⟩⟩) fun u s1 ⟨S,m,H1,eu,hS,fp,I1,en,Hq1,x1⟩=>?_)
   subst eu;subst en
   refine Calls.spliced_nil ?_
   obtain⟨o,es,ep,mm,mv,R⟩:=hS.rec'
   refine JZ (I.ok.hd hc) R fun D its n h' tk hD hi ho kp=>?_
   have hv:=lq hi
   have hl6:=dI m R.ms6
   have hH:H1 D=none:=I1.hok.fresh hD
   refine⟨.ref D,upd H1 D (.lst ((aB m).map V.int)),I1.laid (t':=tk) kp hD ⟨?_,its,n,hv,ho⟩,rfl,k D _ Hq1 H1 x1 hH ?_⟩
   ·simp [aB,sizeLine_eq];omega
   ·have:(m.map fun(i:Nat)=>T.int (i:Int))=(aB m).map T.int:=by simp [aB]
    show RepL _ _ (m.map fun(i:Nat)=>T.int (i:Int)) _
    rw[this]
    exact RepL.ints.mpr rfl
theorem zN:∀(xs:List V)(us:List Value),xs.length=us.length→(∀(j:Nat)(x:V)(u:Value),xs[j]?=some x→us[j]?=some u→RelV x u)→Vals xs us
 | [],[],_,_=>.nil
 | [],_::_,h,_=>by simp at h
 | _::_,[],h,_=>by simp at h
 | x::xs,u::us,h,k=>.cons (k 0 x u rfl rfl) (zN xs us (by simpa using h) fun j y v h1 h2=>k (j+1) y v (by simpa using h1) (by simpa using h2))
def iW (f:FE):FA:=fun ρ=>match f ρ with|some (.int j)=>if 0≤j∧j≤2 ^ 20 then some ((List.range j.toNat).map fun(i:Nat)=>T.int (i:Int)) else none|_=>none
theorem boot_list:bootBuiltins "list"=some (.type "list"):=by rfl
theorem ef_lrange {e':Expr}{p2 pos2:Pos}(hc:X.calm=true)(hg:Gl X "list")(hm:X.mg "list"=none)(hg2:Gl X "range")(hm2:X.mg "range"=none)(h:EV X z e' f)(hs:starEach [e'] X.env=[(false,eval e' X.env)]:=by rfl):EF X z (.Call (.Name "list" p) [.Call (.Name "range" p2) [e'] [] pos2] [] pos) (iW f):=by
 intro pins s σ H Q I ⟨ρ,Hq,ts,r,e,k⟩
 unfold iW at e
 split at e
 ·rename_i j ej
  split at e
  ·rename_i hj
   cases e
   have hs0:starEach [.Call (.Name "range" p2) [e'] [] pos2] X.env=[(false,eval (.Call (.Name "range" p2) [e'] [] pos2) X.env)]:=rfl
   refine wpAny_Call_Name_kw (cI I hg hm boot_list ?_)
   refine PyProof.Rows.callWith_type1 ?_ hs0 rfl
   rw[hs0]
   show wpAny _ _ (spliced ((false,eval _ X.env)::[])) _ _ s
   refine Calls.spliced_cons ?_
   refine wpAny_Call_Name_kw (cI I hg2 hm2 (show bootBuiltins "range"=some (.type "range") from rfl) ?_)
   refine PyProof.Rows.callWith_type1 ?_ hs rfl
   rw[hs]
   show wpAny _ _ (spliced ((false,eval _ X.env)::[])) _ _ s
   refine Calls.spliced_cons (thn (h pins s σ H (fun v H1=>v=.int j∧∃ Hq1,Ex Hq H Hq1 H1) I ⟨ρ,Hq,_,r,ej,fun v Hq1 H1 x q=>⟨q.i,Hq1,x⟩⟩) fun u s1 ⟨v,H1,I1,r1,ev,Hq1,x1⟩=>?_)
   subst ev
   obtain⟨t,rfl⟩:=r1
   refine Calls.spliced_nil (call_range_1 ?_)
   refine Calls.spliced_nil ?_
   have hget:=Heap.get?_push_size s1.heap (o:={cls:=.type "range",data:=.fields #[.int 0 s1.toks,.int j t,.int 1 (s1.toks+1)]}) rfl
   have I2:=I1.kept (h':=s1.heap.push {cls:=.type "range",data:=.fields #[.int 0 s1.toks,.int j t,.int 1 (s1.toks+1)]}) (t':=s1.toks+1+1) fun b o e=>Heap.get?_push_of_some _ e
   refine call_list_range (a:=0) (b:=j) (c:=1) (n:=j.toNat) (I.ok.hd hc) hget (small_one (by omega) (by omega) (by omega) (by omega)) (by have:=PyProof.Rows.rangeSize_nat 0 j;simpa using this) (by omega) fun h' tk acc c' kp ho hacc=>?_
   have hv:Vals ((List.range j.toNat).map fun(i:Nat)=>V.int (i:Int)) acc.toList:=by
    refine zN _ _ (by simp [hacc.1]) fun i x u h1 h2=>?_
    rw[Array.getElem?_toList] at h2
    obtain⟨t',rfl⟩:=hacc.2 i u h2
    rw[List.getElem?_map] at h1
    obtain⟨m,h3,rfl⟩:=Option.map_eq_some_iff.mp h1
    obtain⟨h4,h5⟩:=List.getElem?_eq_some_iff.mp h3
    rw[List.getElem_range] at h5
    subst h5
    exact⟨t',by simp⟩
   refine⟨.ref _,upd H1 _ (.lst ((List.range j.toNat).map fun(i:Nat)=>V.int (i:Int))),I2.laid (t':=tk) kp (Nat.le_refl _) ⟨?_,acc.toList,c',hv,ho⟩,rfl,k _ _ Hq1 H1 x1 I2.fresh ?_⟩
   ·simp [sizeLine_eq];omega
   ·have:((List.range j.toNat).map fun(i:Nat)=>T.int (i:Int))=((List.range j.toNat).map fun(i:Nat)=>(i:Int)).map T.int:=by simp
    rw[this]
    exact RepL.ints.mpr (by simp)
  ·cases e
 ·cases e
end
end TL
namespace TL
open PySem L2 SeqAt
section
variable {X:Cx}{z:Z}{e a b:Expr}{f g:FE}{p1 p2 p3 pos:Pos}
def yL (K:PySem.W.Frag):V→List V→Hp→VK→Prop:=fun x vs H Q=>∃ l b xs zs,x=.ref l∧vs=[.ref b]∧H l=some (.lst xs)∧SqL K H b zs∧xs.length+zs.length≤sizeLine∧Q .non (upd H l (.lst (xs++zs)))
theorem CL (l:Addr)(items:Array Value) (n:Nat)(b:Addr)(items2:Array Value) (n2:Nat)(sl2:Array (Option Value)) (q0:¬(!items.isEmpty&&Builtin.List.listTooLong (items.size+items2.size))=true) (q1:items.size≤sizeLine)(q2:items.size+items2.size≤sizeLine+1) :
  Meets (Builtin.«list.extend» ⟨[.ref l,.ref b],[]⟩) (fun _ R s=>(s.heap.get? l=some {cls:=.type "list",dict:=none,data:=.seq items n,slots:=#[]}∧s.heap.get? b=some {cls:=.type "list",dict:=none,data:=.seq items2 n2,slots:=sl2})∧R (.ok (.ret Value.none)) {s with heap:=s.heap.update l (Obj.mapSeq fun x=>x++items2),toks:=s.toks}) :=
 .of_wp fun prog w A R s h=>by
  obtain⟨hp,g,d,tk,os⟩:=s
  obtain⟨⟨hl,hb⟩,h⟩:=h
  have f1:=AutoSeq1.idx_int
  have f2:=AutoSeq1.sub_tuple_tuple
  have f3:=AutoSeq1.sub_list_list
  have f4:=AutoSeq1.sub_tuple_list
  have f5:=AutoSeq1.sub_list_tuple
  have big:(items++items2).size≤sizeLine+1:=by rw[Array.size_append];omega
  wp_walk using(wpAny_updateSeq hl rfl (hz:=q1) (_hz':=big)),AutoSeq1.wpAny_loadPart' hl,AutoSeq1.wpAny_loadPart' hb
  exact⟨_,rfl,h⟩
theorem F3:MtR X "list.extend" (yL X.K):=by
 intro pins s σ H x vs v us Q I rx rv h
 obtain⟨l,b,xs,zs,rfl,rfl,hH,hB,hz,q⟩:=h
 cases rx
 obtain⟨u,rfl,ru⟩:=rv.one
 cases ru
 obtain⟨z,its,n,r,hl,e⟩:=I.lstM hH
 obtain⟨its2,r2,⟨⟨oc,od,oD,os⟩,n2,e2,c1,c2,c3⟩,z2⟩:=I.list hB
 simp only at c1 c2 c3
 subst c1 c2 c3
 have hl2:=r2.length
 have hsz:its.toArray.size+its2.toArray.size≤sizeLine:=by rw[List.size_toArray,List.size_toArray];omega
 have Ek:¬(!its.toArray.isEmpty&&Builtin.List.listTooLong (its.toArray.size+its2.toArray.size))=true:=by
  rw[Gp hsz,Bool.and_false]
  exact Bool.false_ne_true
 refine call_meets F.slot_list_extend ⟨_,e,rfl⟩ F.entry_list_extend (F.args_list_extend_2 _ _)
  (CL l its.toArray n b its2.toArray n2 os Ek (by rw[List.size_toArray];omega) (by omega)) ⟨⟨e,e2⟩,?_⟩
 refine⟨.non,_,I.lset (its':=its++its2) hH e (by simp) (r.append r2) ?_,rfl,q⟩
 rw[List.length_append]
 omega
def sExt (i:Nat)(f:FE):FS:=fun ρ=>match ρ[i]? with
 | some (some (.ow ts))=>(match f ρ with|some (.lst us)=>if ts.length+us.length≤sizeLine then some (.nx (ρ.set i (some (.ow (ts++us))))) else none|_=>none)
 | _=>none
theorem Jh (hK:z.K=X.K) (i:Nat){x:Str}(hb:PE X (.Call (.Attribute (.Name x p1) "extend" p2) [e] [] p3) (tBM X.K "list" (yL X.K) (tVar i) (nN (tR z f) tNil))):SV X z (.Expr (.Call (.Attribute (.Name x p1) "extend" p2) [e] [] p3) pos) (sExt i f) :=
 PS.imp (yG hb) fun D σ H ⟨ρ,Hq,o,r,e,k⟩=>by
  unfold sExt at e
  split at e
  ·rename_i ts e0
   split at e
   ·rename_i us e1
    split at e
    ·rename_i hl
     cases e
     obtain⟨a,vs,h1,h2,h3,h4,h5⟩:=r.ow i ts e0
     refine⟨_,h1,.inl ⟨rfl,_,SqL.of h4⟩,ρ,Hq,_,r,e1,fun v Hq1 H1 x1 r1=>?_⟩
     have r':=r.ext x1
     obtain⟨a',vs',g1,g2,g3,g4,g5⟩:=r'.ow i ts e0
     rw[h1] at g1
     cases g1
     have:vs'=vs:=by
      have:=x1.all _ _ h4
      rw[g4] at this
      cases this;rfl
     subst this
     obtain⟨b,ws,rfl,q2,q3⟩:=r1.lst x1.sub
     rw[hK] at q2
     refine⟨a,b,vs',ws,rfl,rfl,g4,q2,by rw[← g5.length,← q3.length];exact hl,k σ Hq1 _ (r'.app i e0 h1 g2 g3 g4 (g5.append q3)) x1.q⟩
    ·cases e
   ·cases e
  ·cases e
theorem s_extend (hK:z.K=X.K) (i:Nat){x:Str}(h:ER X z e f)(hN:X.N[i]?=some x:=by rfl)(hv:Vis X.env.scope x:=by first|exact Or.inl rfl|exact Or.inr (Or.inl rfl)|exact Or.inr (Or.inr rfl)) (hd:(x==("__debug__":Str))=false:=by decide) (hcd:(x==("__classdict__":Str))=false:=by decide)
  (hbase:attributeBase (.Name x p1) "extend" X.env (eval (.Name x p1) X.env)=eval (.Name x p1) X.env:=by rfl) (hline:(p2.endLine==p3.line)=true:=by rfl) (hs:starEach [e] X.env=[(false,eval e X.env)]:=by rfl):SV X z (.Expr (.Call (.Attribute (.Name x p1) "extend" p2) [e] [] p3) pos) (sExt i f) :=
 Jh hK i (sL PySem.F.plainAttrs_list PySem.F.slot_list_extend PySem.F.type_list_extend F3 (bO hN hv hd hcd) (bx h cE hs) hbase (by rw[hs];rfl) hline hs rfl)
def fTru (f:FE):FT:=fun ρ=>match f ρ with|some (.tup ts)=>some !ts.isEmpty|some (.lst ts)=>some !ts.isEmpty|some (.bl b)=>some b|_=>none
theorem et_tru (hK:z.K=X.K)(h:ER X z e f)(he:∀ whole,isTrue e X.env whole=(do let v ← whole;standAt e.pos;holding [v] (truthy v)):=by intro _;rfl):ET X z e (fTru f) :=
 PT.imp (HZ h he) fun σ H Q ⟨ρ,Hq,b,r,e,k⟩=>by
  unfold fTru at e
  split at e
  ·rename_i ts e1
   cases e
   refine⟨ρ,Hq,_,r,e1,fun v Hq1 H1 x1 r1=>⟨_,?_,k Hq1 H1 x1⟩⟩
   obtain⟨a,vs,rfl,q1,q2⟩:=r1.tup x1.sub
   rw[hK] at q1
   have hl:=q2.length
   exact .inr (.inl ⟨vs,q1,by cases ts<;>cases vs<;>simp at hl ⊢⟩)
  ·rename_i ts e1
   cases e
   refine⟨ρ,Hq,_,r,e1,fun v Hq1 H1 x1 r1=>⟨_,?_,k Hq1 H1 x1⟩⟩
   obtain⟨a,vs,rfl,q1,q2⟩:=r1.lst x1.sub
   rw[hK] at q1
   have hl:=q2.length
   exact .inl ⟨vs,q1,by cases ts<;>cases vs<;>simp at hl ⊢⟩
  ·rename_i c e1
   cases e
   refine⟨ρ,Hq,_,r,e1,fun v Hq1 H1 x1 r1=>⟨_,?_,k Hq1 H1 x1⟩⟩
   cases r1.bl
   rfl
  ·cases e
def idxT (ts:List T)(u:T):Nat:=ts.findIdx fun t=>teq t u
def Ky (t u:T):Option T:=match t with
 | .lst ts=>if (ts.all fun y=>decide (dep y≤60))=true∧idxT ts u<ts.length then some (.int (idxT ts u:Int)) else none
 | _=>none
end
end TL
namespace SR
open PySem PyProof.Rows PySem.W
abbrev gal (l:Bool)(key:Keyed)(arr:Array Keyed) (base n hint:Nat):StateT SortSt Sem (Option Nat):=(sortPriv% PySem.Builtin.gallop) l key arr base n hint
abbrev mLo (x y:Array Keyed):StateT SortSt Sem (Array Keyed):=(sortPriv% PySem.Builtin.mergeLo) x y
def stOf (κ:SortKind)(it:Nat→Keyed)(p:Array Nat)(pd:Array (Nat×Nat×Nat)):SortSt:=SortSt.mk' κ (p.map it) pd 7 none
def Orc (prog:Program)(w:World)(A:Around)(s:Shared)(κ:SortKind)(it:Nat→Keyed)(b:Nat→Nat→Bool):Prop :=
 ∀(i j:Nat)(E:Value→Shared→Prop)(C:Bool→Shared→Prop),C (b i j) s→wpAny (model prog w) A (keyLt' κ (it i).1 (it j).1) C E s
section
variable {prog:Program}{w:World}{A:Around}{E:Value→Shared→Prop}{s:Shared}{κ:SortKind}{it:Nat→Keyed}{b:Nat→Nat→Bool}{p:Array Nat}{pd:Array (Nat×Nat×Nat)}
theorem mZ (O:Orc prog w A s κ it b){i j:Nat}{Q:Option Bool→SortSt→Prop}(h:Q (some (b i j)) (stOf κ it p pd)):wpS (model prog w) A E s (lt' (it i) (it j)) Q (stOf κ it p pd):=by
 rw[lt'_eq]
 refine wpS_bind (wpS_get ?_)
 refine wpS_bind (wpS_lift (wpAny_attempt (O i j _ _ ⟨rfl,?_⟩)))
 exact wpS_pure h
theorem u9 (h:i<p.size):(arrOf (stOf κ it p pd))[i]?=some (it (p.getD i 0)):=by
 show(p.map it)[i]?=_
 simp [h]
theorem sd (O:Orc prog w A s κ it b){i j:Nat}{Q:Option Bool→SortSt→Prop}(hi:i<p.size)(hj:j<p.size)(h:Q (some (b (p.getD i 0) (p.getD j 0))) (stOf κ it p pd)):wpS (model prog w) A E s (ltAt' i j) Q (stOf κ it p pd):=by
 rw[ltAt'_eq]
 refine wpS_bind (wpS_get ?_)
 show wpS _ _ _ _ (elem' (arrOf (stOf κ it p pd)) i >>= fun x=>elem' (arrOf (stOf κ it p pd)) j >>= fun y=>lt' x y) Q _
 rw[elem'_eq,elem'_eq,u9 hi,u9 hj]
 exact wpS_bind (wpS_pure (wpS_bind (wpS_pure (mZ O h))))
def asc (b:Nat→Nat→Bool)(p:Array Nat) (lo:Nat):Nat→Nat→Nat
 | 0,n=>n
 | f+1,n=>if b (p.getD (lo+n) 0) (p.getD (lo+n - 1) 0) then n else asc b p lo f (n+1)
theorem oH (b:Nat→Nat→Bool)(p:Array Nat) (lo:Nat):∀ f n,asc b p lo f n≤n+f
 | 0,n=>Nat.le_refl _
 | f+1,n=>by
   unfold asc
   split
   ·omega
   ·have:=oH b p lo f (n+1);omega
theorem pM (O:Orc prog w A s κ it b){lo nrem:Nat}{Q:Option Nat→SortSt→Prop}(h1:1≤nrem)(hz:lo+nrem≤p.size)
  (hc:asc b p lo (nrem - 1) 1=nrem∨(1<asc b p lo (nrem - 1) 1∧b (p.getD lo 0) (p.getD (lo+asc b p lo (nrem - 1) 1 - 1) 0)=true))
  (h:Q (some (asc b p lo (nrem - 1) 1)) (stOf κ it p pd)):wpS (model prog w) A E s (countRun' lo nrem) Q (stOf κ it p pd):=by
 rw[countRun'_eq]
 have hle:=oH b p lo (nrem - 1) 1
 generalize hN:asc b p lo (nrem - 1) 1=N at *
 refine wpS_bind (wpS_mono (wpS_forRange (I:=fun x c st'=>st'=stOf κ it p pd∧c=(none,x)∧asc b p lo (nrem - x) x=N)
  (Q:=fun c st'=>st'=stOf κ it p pd∧c=(none,N)) ?step ?fin ⟨rfl,rfl,hN⟩) ?post)
 case fin =>
  rintro c st' ⟨rfl,rfl,e⟩
  refine⟨rfl,?_⟩
  rw[show nrem - max 1 nrem=0 by omega] at e
  have:max 1 nrem=N:=e
  rw[this]
 case step =>
  rintro x c st' hx1 hx2 ⟨rfl,rfl,e⟩
  dsimp only
  obtain⟨f,hf⟩:∃ f,nrem - x=f+1:=⟨nrem - x - 1,by omega⟩
  rw[hf] at e
  unfold asc at e
  refine wpS_bind (sd O (by omega) (by omega) ?_)
  dsimp only
  cases hb:b (p.getD (lo+x) 0) (p.getD (lo+x - 1) 0) with
  | true =>
    rw[hb] at e
    have e':x=N:=e
    simp only[if_true]
    exact wpS_pure ⟨rfl,by rw[e']⟩
  | false =>
    rw[hb] at e
    have e':asc b p lo f (x+1)=N:=e
    simp only[Bool.false_eq_true,if_false]
    exact wpS_pure ⟨rfl,rfl,by rw[show nrem - (x+1)=f by omega];exact e'⟩
 case post =>
  rintro c st' ⟨rfl,rfl⟩
  dsimp only
  by_cases hn:N=nrem
  ·rw[if_pos (by simpa using hn)]
   exact wpS_pure h
  ·rw[if_neg (by simpa using hn)]
   obtain⟨g1,g2⟩:=hc.resolve_left hn
   rw[if_pos g1]
   refine wpS_bind (sd O (by omega) (by omega) ?_)
   rw[g2]
   simp only[if_true]
   exact wpS_pure h
end
end SR
namespace SR
open PySem PyProof.Rows PySem.W
section
variable {prog:Program}{w:World}{A:Around}{E:Value→Shared→Prop}{s:Shared}{κ:SortKind}{it:Nat→Keyed}{b:Nat→Nat→Bool}{p:Array Nat}{pd:Array (Nat×Nat×Nat)}
def plc (b:Nat→Nat→Bool)(p:Array Nat) (lo k:Nat):Nat→Nat→Nat→Nat
 | 0,l,_=>l
 | f+1,l,r=>if r≤l then l else if b (p.getD (lo+k) 0) (p.getD (lo+(l+r) / 2) 0) then plc b p lo k f l ((l+r) / 2) else plc b p lo k f ((l+r) / 2+1) r
theorem sQ (b:Nat→Nat→Bool)(p:Array Nat) (lo k:Nat):∀ f l r,l≤k→r≤k→plc b p lo k f l r≤k
 | 0,l,r,h,_=>h
 | f+1,l,r,h,g=>by
   unfold plc
   split
   ·exact h
   ·split
    ·exact sQ b p lo k f l _ h (by omega)
    ·exact sQ b p lo k f _ r (by omega) g
def bins (b:Nat→Nat→Bool) (lo:Nat):Nat→Nat→Array Nat→Array Nat
 | 0,_,p=>p
 | f+1,k,p=>bins b lo f (k+1) (bubble p (lo+k) (lo+k - (lo+plc b p lo k k 0 k)))
theorem F2 {k l:Nat}{Q:Unit→SortSt→Prop}(h:Q () (stOf κ it (bubble p k (k - l)) pd)):wpS (model prog w) A E s (moveDown' k l) Q (stOf κ it p pd):=by
 rw[moveDown'_eq]
 refine wpS_modify ?_
 have e:bubble (arrOf (stOf κ it p pd)) k (k - l)=(bubble p k (k - l)).map it:=by
  show bubble (p.map it) k (k - l)=_
  unfold bubble
  exact kas_swaps_map it _ _ _ _
 show Q () (setArr (stOf κ it p pd) (bubble (arrOf (stOf κ it p pd)) k (k - l)))
 rw[e]
 exact h
theorem oY (O:Orc prog w A s κ it b){lo n ok:Nat}{Q:Bool→SortSt→Prop}(hz:lo+n≤p.size)(hok:ok≤n)
  (h:Q true (stOf κ it (bins b lo (n - max ok 1) (max ok 1) p) pd)):wpS (model prog w) A E s (binarySort' lo n ok) Q (stOf κ it p pd):=by
 rw[binarySort'_eq]
 by_cases hn0:n=0
 ·subst hn0
  rw[show 0 - max ok 1=0 by omega] at h
  refine wpS_bind (wpS_mono (wpS_forRange (I:=fun x c st'=>st'=stOf κ it p pd∧c=(none,())) (Q:=fun c st'=>st'=stOf κ it p pd∧c=(none,())) ?_ (fun _ _ z=>z) ⟨rfl,rfl⟩) ?_)
  ·intro i c st' h1 h2 _;omega
  ·rintro c st' ⟨rfl,rfl⟩
   exact wpS_pure h
 generalize hR:bins b lo (n - max ok 1) (max ok 1) p=R at h
 refine wpS_bind (wpS_mono (wpS_forRange (I:=fun k c st'=>c=(none,())∧∃ q:Array Nat,q.size=p.size∧st'=stOf κ it q pd∧bins b lo (n - k) k q=R)
  (Q:=fun c st'=>c=(none,())∧st'=stOf κ it R pd) ?step ?fin ⟨rfl,p,rfl,rfl,hR⟩) ?post)
 case post =>
  rintro c st' ⟨rfl,rfl⟩
  exact wpS_pure h
 case fin =>
  rintro c st' ⟨rfl,q,hq,rfl,e⟩
  refine⟨rfl,?_⟩
  rw[show n - max (max ok 1) n=0 by omega] at e
  have e':q=R:=e
  rw[e']
 case step =>
  rintro k c st' hk1 hk2 ⟨rfl,q,hq,rfl,e⟩
  obtain⟨f,hf⟩:∃ f,n - k=f+1:=⟨n - k - 1,by omega⟩
  rw[hf] at e
  unfold bins at e
  have hpl:=sQ b q lo k k 0 k (by omega) (by omega)
  generalize hP:plc b q lo k k 0 k=P at e hpl
  refine wpS_bind (wpS_mono (wpS_forRange (I:=fun x c st'=>st'=stOf κ it q pd∧∃ l r,c=(none,l,r)∧l≤k∧r≤k∧plc b q lo k (k - x) l r=P)
   (Q:=fun c st'=>st'=stOf κ it q pd∧∃ r,c=(none,P,r)) ?rC ?ifin ⟨rfl,0,k,rfl,by omega,by omega,hP⟩) ?rA)
  case ifin =>
   rintro c st' ⟨rfl,l,r,rfl,hl,hr,e2⟩
   rw[show k - max 0 k=0 by omega] at e2
   have e3:l=P:=e2
   exact⟨rfl,r,by rw[e3]⟩
  case rC =>
   rintro x c st' _ hx ⟨rfl,l,r,rfl,hl,hr,e2⟩
   dsimp only
   obtain⟨g,hg⟩:∃ g,k - x=g+1:=⟨k - x - 1,by omega⟩
   rw[hg] at e2
   unfold plc at e2
   by_cases hge:r≤l
   ·rw[if_pos hge] at e2
    rw[if_pos hge]
    exact wpS_pure ⟨rfl,r,by rw[e2]⟩
   ·rw[if_neg hge] at e2
    rw[if_neg hge]
    refine wpS_bind (sd O (by omega) (by omega) ?_)
    dsimp only
    cases hb:b (q.getD (lo+k) 0) (q.getD (lo+(l+r) / 2) 0) with
    | true =>
      rw[hb] at e2
      simp only[if_true] at e2 ⊢
      exact wpS_pure ⟨rfl,l,_,rfl,hl,by omega,by rw[show k - (x+1)=g by omega];exact e2⟩
    | false =>
      rw[hb] at e2
      simp only[Bool.false_eq_true,if_false] at e2 ⊢
      exact wpS_pure ⟨rfl,_,r,rfl,by omega,hr,by rw[show k - (x+1)=g by omega];exact e2⟩
  case rA =>
   rintro c st' ⟨rfl,r,rfl⟩
   dsimp only
   refine wpS_bind (F2 ?_)
   exact wpS_pure ⟨rfl,_,by rw[bubble_size];exact hq,rfl,by rw[show n - (k+1)=f by omega];exact e⟩
end
end SR
namespace SR
open PySem PyProof.Rows PySem.W
section
variable {prog:Program}{w:World}{A:Around}{E:Value→Shared→Prop}{s:Shared}{κ:SortKind}{it:Nat→Keyed}{b:Nat→Nat→Bool}{p:Array Nat}{pd:Array (Nat×Nat×Nat)}
def bey (b:Nat→Nat→Bool)(left:Bool) (kk:Nat)(a:Array Nat) (base i:Nat):Bool:=if left then b (a.getD (base+i) 0) kk else !b kk (a.getD (base+i) 0)
theorem fk {a:Array Nat}{i:Nat}{Q:Keyed→SortSt→Prop}{st:SortSt}(hi:i<a.size)(h:Q (it (a.getD i 0)) st):wpS (model prog w) A E s (elem' (a.map it) i) Q st:=by
 rw[elem'_eq]
 have:(a.map it)[i]?=some (it (a.getD i 0)):=by simp [hi]
 rw[this]
 exact wpS_pure h
theorem l6 (O:Orc prog w A s κ it b){left:Bool}{kk:Nat}{a:Array Nat}{base i:Nat}{Q:Option Bool→SortSt→Prop}(hi:base+i<a.size)(h:Q (some (bey b left kk a base i)) (stOf κ it p pd)) :
  wpS (model prog w) A E s (elem' (a.map it) (base+i) >>= fun x=>if left=true then lt' x (it kk) else (lt' (it kk) x >>= fun r=>pure (Option.map (fun x=>!x) r))) Q (stOf κ it p pd):=by
 refine wpS_bind (fk hi ?_)
 unfold bey at h
 cases left with
 | true =>
   simp only[if_true] at h ⊢
   exact mZ O h
 | false =>
   simp only[Bool.false_eq_true,if_false] at h ⊢
   exact wpS_bind (mZ O (wpS_pure h))
def expo (q:Nat→Bool) (mx:Nat):Nat→Nat→Nat→Nat×Nat
 | 0,l,o=>(l,o)
 | f+1,l,o=>if mx≤o then (l,o) else if q o then expo q mx f o (2 * o+1) else (l,o)
def bse (q:Nat→Bool):Nat→Nat→Nat→Nat
 | 0,_,hi=>hi
 | f+1,lo,hi=>if hi≤lo then hi else if q (lo+(hi - lo) / 2) then bse q f (lo+(hi - lo) / 2+1) hi else bse q f lo (lo+(hi - lo) / 2)
def gp (b:Nat→Nat→Bool)(left:Bool) (kk:Nat)(a:Array Nat) (base n hint:Nat):Nat :=
 if bey b left kk a base hint then
  bse (bey b left kk a base) n (hint+(expo (fun o=>bey b left kk a base (hint+o)) (n - hint) n 0 1).1+1) (hint+min (expo (fun o=>bey b left kk a base (hint+o)) (n - hint) n 0 1).2 (n - hint))
 else
  bse (bey b left kk a base) n (hint+1 - min (expo (fun o=>!bey b left kk a base (hint - o)) (hint+1) n 0 1).2 (hint+1)) (hint - (expo (fun o=>!bey b left kk a base (hint - o)) (hint+1) n 0 1).1)
theorem vM (O:Orc prog w A s κ it b){left:Bool}{kk:Nat}{a:Array Nat}{base n:Nat}{Q:Option Nat→SortSt→Prop}(hz:base+n≤a.size) (lo hi:Nat)(hhi:hi≤n)
  (h:Q (some (bse (bey b left kk a base) n lo hi)) (stOf κ it p pd)) (F:Nat→Option (Option Nat)×Nat×Nat→StateT SortSt Sem (ForInStep (Option (Option Nat)×Nat×Nat)))
  (G:Option (Option Nat)×Nat×Nat→StateT SortSt Sem (Option Nat)) (hG:∀ lo hi,G (none,lo,hi)=pure (some hi))
  (hF:∀ x lo hi,F x (none,lo,hi)=if lo≥hi then pure (ForInStep.done (none,lo,hi)) else
   ((elem' (a.map it) (base+(lo+(hi - lo) / 2)) >>= fun x=>if left=true then lt' x (it kk) else (lt' (it kk) x >>= fun r=>pure (Option.map (fun x=>!x) r))) >>= fun x=>match x with
     | some more=>if more=true then pure (ForInStep.yield (none,lo+(hi - lo) / 2+1,hi)) else pure (ForInStep.yield (none,lo,lo+(hi - lo) / 2))
     | none=>pure (ForInStep.done (some none,lo,hi)))) :
  wpS (model prog w) A E s (forIn [:n] (none,lo,hi) F >>= G) Q (stOf κ it p pd):=by
 generalize hR:bse (bey b left kk a base) n lo hi=R at h
 refine wpS_bind (wpS_mono (wpS_forRange (I:=fun x c st'=>st'=stOf κ it p pd∧∃ l r,c=(none,l,r)∧r≤n∧bse (bey b left kk a base) (n - x) l r=R)
  (Q:=fun c st'=>st'=stOf κ it p pd∧∃ l,c=(none,l,R)) ?step ?fin ⟨rfl,lo,hi,rfl,hhi,hR⟩) ?post)
 case post =>
  rintro c st' ⟨rfl,l,rfl⟩
  rw[hG]
  exact wpS_pure h
 case fin =>
  rintro c st' ⟨rfl,l,r,rfl,hr,e⟩
  rw[show n - max 0 n=0 by omega] at e
  have e':r=R:=e
  exact⟨rfl,l,by rw[e']⟩
 case step =>
  rintro x c st' _ hx ⟨rfl,l,r,rfl,hr,e⟩
  rw[hF]
  obtain⟨f,hf⟩:∃ f,n - x=f+1:=⟨n - x - 1,by omega⟩
  rw[hf] at e
  unfold bse at e
  by_cases hge:r≤l
  ·rw[if_pos hge] at e
   rw[if_pos hge]
   exact wpS_pure ⟨rfl,l,by rw[e]⟩
  ·rw[if_neg hge] at e
   rw[if_neg hge]
   refine wpS_bind (l6 O (by omega) ?_)
   dsimp only
   cases hb:bey b left kk a base (l+(r - l) / 2) with
   | true =>
     rw[hb] at e
     simp only[if_true] at e ⊢
     exact wpS_pure ⟨rfl,_,r,rfl,hr,by rw[show n - (x+1)=f by omega];exact e⟩
   | false =>
     rw[hb] at e
     simp only[Bool.false_eq_true,if_false] at e ⊢
     exact wpS_pure ⟨rfl,l,_,rfl,by omega,by rw[show n - (x+1)=f by omega];exact e⟩
theorem wM (q:Nat→Bool) (mx:Nat):∀ f l o,l<mx→(expo q mx f l o).1<mx
 | 0,l,o,h=>h
 | f+1,l,o,h=>by
   unfold expo
   split
   ·exact h
   ·split
    ·exact wM q mx f _ _ (by omega)
    ·exact h
theorem wY (O:Orc prog w A s κ it b){left:Bool}{kk:Nat}{a:Array Nat}{base n hint:Nat}{Q:Option Nat→SortSt→Prop}(hz:base+n≤a.size)(hh:hint<n)
  (h:Q (some (gp b left kk a base n hint)) (stOf κ it p pd)):wpS (model prog w) A E s (gal left (it kk) (a.map it) base n hint) Q (stOf κ it p pd):=by
 refine wpS_bind ?_
 refine l6 O (by omega) ?_
 dsimp only
 unfold gp at h
 cases hb:bey b left kk a base hint with
 | true =>
   rw[hb] at h
   simp only[if_true] at h ⊢
   generalize hX:expo (fun o=>bey b left kk a base (hint+o)) (n - hint) n 0 1=X at h
   have hXl:X.1<n - hint:=by rw[← hX];exact wM _ _ _ _ _ (by omega)
   refine wpS_bind (wpS_mono (wpS_forRange (I:=fun x c st'=>st'=stOf κ it p pd∧∃ l o,c=(none,l,o)∧expo (fun o=>bey b left kk a base (hint+o)) (n - hint) (n - x) l o=X)
    (Q:=fun c st'=>st'=stOf κ it p pd∧c=(none,X.1,X.2)) ?step ?fin ⟨rfl,0,1,rfl,hX⟩) ?post)
   case fin =>
    rintro c st' ⟨rfl,l,o,rfl,e⟩
    rw[show n - max 0 n=0 by omega] at e
    have e':(l,o)=X:=e
    exact⟨rfl,by rw[← e']⟩
   case step =>
    rintro x c st' _ hx ⟨rfl,l,o,rfl,e⟩
    dsimp only
    obtain⟨f,hf⟩:∃ f,n - x=f+1:=⟨n - x - 1,by omega⟩
    rw[hf] at e
    unfold expo at e
    by_cases hge:n - hint≤o
    ·rw[if_pos hge] at e
     rw[if_pos hge]
     exact wpS_pure ⟨rfl,by rw[← e]⟩
    ·rw[if_neg hge] at e
     rw[if_neg hge]
     refine wpS_bind (l6 O (by omega) ?_)
     dsimp only
     cases hb2:bey b left kk a base (hint+o) with
     | true =>
       rw[hb2] at e
       simp only[if_true,Bool.not_true,Bool.false_eq_true,if_false] at e ⊢
       exact wpS_pure ⟨rfl,_,_,rfl,by rw[show n - (x+1)=f by omega];exact e⟩
     | false =>
       rw[hb2] at e
       simp only[Bool.false_eq_true,if_false,Bool.not_false,if_true] at e ⊢
       exact wpS_pure ⟨rfl,by rw[← e]⟩
   case post =>
    rintro c st' ⟨rfl,rfl⟩
    dsimp only
    exact vM O hz _ _ (by omega) h _ _ (fun _ _=>rfl) (fun x lo hi=>by
     dsimp only
     split
     ·rfl
     ·exact bind_congr fun y=>by cases y<;>rfl)
 | false =>
   rw[hb] at h
   simp only[Bool.false_eq_true,if_false] at h ⊢
   generalize hX:expo (fun o=>!bey b left kk a base (hint - o)) (hint+1) n 0 1=X at h
   refine wpS_bind (wpS_mono (wpS_forRange (I:=fun x c st'=>st'=stOf κ it p pd∧∃ l o,c=(none,l,o)∧expo (fun o=>!bey b left kk a base (hint - o)) (hint+1) (n - x) l o=X)
    (Q:=fun c st'=>st'=stOf κ it p pd∧c=(none,X.1,X.2)) ?step ?fin ⟨rfl,0,1,rfl,hX⟩) ?post)
   case fin =>
    rintro c st' ⟨rfl,l,o,rfl,e⟩
    rw[show n - max 0 n=0 by omega] at e
    have e':(l,o)=X:=e
    exact⟨rfl,by rw[← e']⟩
   case step =>
    rintro x c st' _ hx ⟨rfl,l,o,rfl,e⟩
    dsimp only
    obtain⟨f,hf⟩:∃ f,n - x=f+1:=⟨n - x - 1,by omega⟩
    rw[hf] at e
    unfold expo at e
    by_cases hge:hint+1≤o
    ·rw[if_pos hge] at e
     rw[if_pos hge]
     exact wpS_pure ⟨rfl,by rw[← e]⟩
    ·rw[if_neg hge] at e
     rw[if_neg hge]
     refine wpS_bind (l6 O (by omega) ?_)
     dsimp only
     cases hb2:bey b left kk a base (hint - o) with
     | true =>
       rw[hb2] at e
       simp only[if_true,Bool.not_true,Bool.false_eq_true,if_false] at e ⊢
       exact wpS_pure ⟨rfl,by rw[← e]⟩
     | false =>
       rw[hb2] at e
       simp only[Bool.false_eq_true,if_false,Bool.not_false,if_true] at e ⊢
       exact wpS_pure ⟨rfl,_,_,rfl,by rw[show n - (x+1)=f by omega];exact e⟩
   case post =>
    rintro c st' ⟨rfl,rfl⟩
    dsimp only
    exact vM O hz _ _ (by omega) h _ _ (fun _ _=>rfl) (fun x lo hi=>by
     dsimp only
     split
     ·rfl
     ·exact bind_congr fun y=>by cases y<;>rfl)
end
end SR
namespace SR
open PySem PyProof.Rows PySem.W
section
variable {prog:Program}{w:World}{A:Around}{E:Value→Shared→Prop}{s:Shared}{κ:SortKind}{it:Nat→Keyed}{b:Nat→Nat→Bool}{p:Array Nat}{pd:Array (Nat×Nat×Nat)}
def mrg (b:Nat→Nat→Bool)(x y:Array Nat):Nat→Array Nat→Nat→Nat→Nat→Nat→Option (Array Nat)
 | 0,_,_,_,_,_=>none
 | f+1,out,ia,ib,ac,bc =>
   if b (y.getD ib 0) (x.getD ia 0) then
    if ib+1=y.size then some (out.push (y.getD ib 0)++x.extract ia++y.extract (ib+1))
    else if 7≤bc+1 then none else mrg b x y f (out.push (y.getD ib 0)) ia (ib+1) 0 (bc+1)
   else
    if ia+1+1=x.size then some (out.push (x.getD ia 0)++y.extract ib++x.extract (ia+1))
    else if 7≤ac+1 then none else mrg b x y f (out.push (x.getD ia 0)) (ia+1) ib (ac+1) 0
theorem F1 (O:Orc prog w A s κ it b){x y R:Array Nat}{Q:Array Keyed→SortSt→Prop}(hx:2≤x.size)(hy:2≤y.size)(hR:mrg b x y (x.size+y.size) #[y.getD 0 0] 0 1 0 0=some R)
  (h:Q (R.map it) (stOf κ it p pd)):wpS (model prog w) A E s (mLo (x.map it) (y.map it)) Q (stOf κ it p pd):=by
 refine wpS_bind (wpS_lift (wpAny_rule ⟨rfl,?_⟩))
 refine wpS_bind (fk (a:=y) (by omega) ?_)
 rw[if_neg (by simp;omega),if_neg (by simp;omega)]
 refine wpS_bind (wpS_get ?_)
 dsimp only
 have ht:(x.map it).size+(y.map it).size=x.size+y.size:=by simp
 rw[ht]
 refine wpS_bind (wpS_mono (wpS_forRange (I:=fun i c st'=>i=0∧st'=stOf κ it p pd∧c=(none,#[it (y.getD 0 0)],0,1,7)) (Q:=fun c st'=>st'=stOf κ it p pd∧c.1=some (R.map it)) ?step ?fin ⟨rfl,rfl,rfl⟩) ?post)
 case fin =>
  rintro c st' ⟨hi,_⟩
  omega
 case post =>
  rintro⟨c1,c2⟩ st' ⟨rfl,hc⟩
  dsimp only at hc ⊢
  rw[hc]
  exact wpS_pure h
 case step =>
  rintro i c st' _ hi ⟨rfl,rfl,rfl⟩
  dsimp only
  refine wpS_bind (wpS_mono (wpS_forRange (I:=fun i c st'=>st'=stOf κ it p pd∧∃ out ia ib ac bc,c=(none,Array.map it out,ia,ib,ac,bc)∧ia+1<x.size∧ib<y.size∧mrg b x y (x.size+y.size - i) out ia ib ac bc=some R)
   (Q:=fun c st'=>st'=stOf κ it p pd∧c.1=some (R.map it)) ?rC ?ifin ⟨rfl,#[y.getD 0 0],0,1,0,0,by simp,by omega,by omega,hR⟩) ?rA)
  case ifin =>
   rintro c st' ⟨rfl,out,ia,ib,ac,bc,rfl,h1,h2,e⟩
   rw[show x.size+y.size - max 0 (x.size+y.size)=0 by omega] at e
   cases e
  case rA =>
   rintro⟨c1,c2⟩ st' ⟨rfl,hc⟩
   dsimp only at hc ⊢
   rw[hc]
   exact wpS_pure ⟨rfl,rfl⟩
  case rC =>
   rintro j c st' _ hj ⟨rfl,out,ia,ib,ac,bc,rfl,h1,h2,e⟩
   obtain⟨f,hf⟩:∃ f,x.size+y.size - j=f+1:=⟨x.size+y.size - j - 1,by omega⟩
   rw[hf] at e
   unfold mrg at e
   dsimp only
   refine wpS_bind (fk (a:=y) h2 (wpS_bind (fk (a:=x) (by omega) (wpS_bind (mZ O ?_)))))
   dsimp only
   cases hb:b (y.getD ib 0) (x.getD ia 0) with
   | true =>
     rw[hb] at e
     simp only[if_true] at e ⊢
     refine wpS_bind (fk (a:=y) h2 ?_)
     by_cases he:ib+1=y.size
     ·rw[if_pos he] at e
      rw[if_pos (by simpa using he)]
      cases e
      exact wpS_pure ⟨rfl,by simp [Array.map_append]⟩
     ·rw[if_neg he] at e
      rw[if_neg (by simpa using he)]
      by_cases h7:7≤bc+1
      ·rw[if_pos h7] at e;cases e
      ·rw[if_neg h7] at e
       rw[if_neg h7]
       exact wpS_pure ⟨rfl,_,ia,ib+1,0,bc+1,by rw[Array.map_push],h1,by omega,by rw[show x.size+y.size - (j+1)=f by omega];exact e⟩
   | false =>
     rw[hb] at e
     simp only[Bool.false_eq_true,if_false] at e ⊢
     refine wpS_bind (fk (a:=x) (by omega) ?_)
     by_cases he:ia+1+1=x.size
     ·rw[if_pos he] at e
      rw[if_pos (by simpa using he)]
      cases e
      exact wpS_pure ⟨rfl,by simp [Array.map_append]⟩
     ·rw[if_neg he] at e
      rw[if_neg (by simpa using he)]
      by_cases h7:7≤ac+1
      ·rw[if_pos h7] at e;cases e
      ·rw[if_neg h7] at e
       rw[if_neg h7]
       exact wpS_pure ⟨rfl,_,ia+1,ib,ac+1,0,by rw[Array.map_push],by omega,h2,by rw[show x.size+y.size - (j+1)=f by omega];exact e⟩
end
end SR
namespace SR
open PySem PyProof.Rows PySem.W
section
variable {prog:Program}{w:World}{A:Around}{E:Value→Shared→Prop}{s:Shared}{κ:SortKind}{it:Nat→Keyed}{b:Nat→Nat→Bool}{p:Array Nat}
theorem JI {σ:Type}{st st':σ}{Q:PUnit→σ→Prop}{M:Model}(h:Q ⟨⟩ st'):wpS M A E s (set st':StateT σ Sem PUnit) Q st:=by
 unfold wpS
 rw[StateT.run_set]
 exact wpAny_pure ⟨rfl,h⟩
def lay (o:Nat)(R p:Array Nat):Array Nat:=R.toList.zipIdx.foldl (fun a x=>a.setIfInBounds (o+x.2) x.1) p
theorem tH (it:Nat→Keyed)(a:Array Nat) (i v:Nat):(a.map it).setIfInBounds i (it v)=(a.setIfInBounds i v).map it:=by
 apply Array.ext
 ·simp
 ·intro j h1 h2
  simp [Array.getElem_setIfInBounds]
  try (split<;>simp)
theorem xF (it:Nat→Keyed) (o:Nat):∀(l:List Nat) (j:Nat)(p:Array Nat),((l.map it).zipIdx j).foldl (fun a x=>a.setIfInBounds (o+x.2) x.1) (p.map it)=((l.zipIdx j).foldl (fun a x=>a.setIfInBounds (o+x.2) x.1) p).map it
 | [],j,p=>rfl
 | v::l,j,p=>by
   rw[List.map_cons,List.zipIdx_cons,List.zipIdx_cons,List.foldl_cons,List.foldl_cons]
   dsimp only
   rw[tH]
   exact xF it o l (j+1) _
structure Mg (b:Nat→Nat→Bool)(p:Array Nat) (sa na sb nb k nb':Nat)(R:Array Nat):Prop where
 hk:gp b false (p.getD sb 0) p sa na 0=k
 h0:(na - k==0)=false
 hn:gp b true (p.getD (sa+k+(na - k) - 1) 0) p sb nb (nb - 1)=nb'
 h1:(nb'==0)=false
 hle:na - k≤nb'
 x2:2≤(p.extract (sa+k) sb).size
 y2:2≤(p.extract sb (sb+nb')).size
 hR:mrg b (p.extract (sa+k) sb) (p.extract sb (sb+nb')) ((p.extract (sa+k) sb).size+(p.extract sb (sb+nb')).size) #[(p.extract sb (sb+nb')).getD 0 0] 0 1 0 0=some R
 z1:sa+na≤p.size
 z2:sb+nb≤p.size
 n1:0<na
 n2:0<nb
 z3:sa+k+(na - k) - 1<p.size
theorem FN (O:Orc prog w A s κ it b){sa na pw sb nb pw2 k nb':Nat}{R:Array Nat}{Q:Bool→SortSt→Prop}(m:Mg b p sa na sb nb k nb' R)
  (h:Q true (stOf κ it (lay (sa+k) R p) #[(sa,na+nb,pw)])):wpS (model prog w) A E s (mergeAt' 0) Q (stOf κ it p #[(sa,na,pw),(sb,nb,pw2)]):=by
 refine wpS_bind (wpS_get ?_)
 dsimp only
 refine wpS_bind (JI ?_)
 have e0:((#[(sa,na,pw),(sb,nb,pw2)]:Array (Nat×Nat×Nat)).setIfInBounds 0 (sa,na+nb,pw)).eraseIdxIfInBounds (0+1)=#[(sa,na+nb,pw)]:=by
  simp [Array.eraseIdxIfInBounds,Array.setIfInBounds]
 show wpS _ _ _ _ _ _ (SortSt.mk' κ (p.map it) (((#[(sa,na,pw),(sb,nb,pw2)]:Array (Nat×Nat×Nat)).setIfInBounds 0 (sa,na+nb,pw)).eraseIdxIfInBounds (0+1)) 7 none)
 rw[e0]
 show wpS _ _ _ _ _ _ (stOf κ it p #[(sa,na+nb,pw)])
 refine wpS_bind (fk (a:=p) (by have:=m.z2;have:=m.n2;omega) ?_)
 refine wpS_bind (wY O m.z1 m.n1 ?_)
 rw[m.hk]
 dsimp only
 rw[if_neg (by rw[m.h0];exact Bool.false_ne_true)]
 refine wpS_bind (fk (a:=p) m.z3 ?_)
 refine wpS_bind (wY O m.z2 (by have:=m.n2;omega) ?_)
 rw[m.hn]
 dsimp only
 rw[if_neg (by rw[m.h1];exact Bool.false_ne_true),if_pos m.hle]
 have e1:(p.map it).extract (sa+k) sb=(p.extract (sa+k) sb).map it:=by simp
 have e2:(p.map it).extract sb (sb+nb')=(p.extract sb (sb+nb')).map it:=by simp
 show wpS _ _ _ _ (mLo ((p.map it).extract (sa+k) sb) ((p.map it).extract sb (sb+nb')) >>= _) _ _
 rw[e1,e2]
 refine wpS_bind (F1 O m.x2 m.y2 m.hR ?_)
 refine wpS_bind (wpS_modify (wpS_bind (wpS_get (wpS_pure ?_))))
 have e3:List.foldl (fun a x=>a.setIfInBounds (sa+k+x.2) x.1) (p.map it) ((R.map it).toList.zipIdx)=(lay (sa+k) R p).map it:=by
  rw[Array.toList_map]
  exact xF it (sa+k) R.toList 0 p
 show Q true (SortSt.mk' κ (List.foldl (fun a x=>a.setIfInBounds (sa+k+x.2) x.1) (p.map it) ((R.map it).toList.zipIdx)) #[(sa,na+nb,pw)] 7 none)
 rw[e3]
 exact h
end
end SR
namespace SR
open PySem PyProof.Rows PySem.W
section
variable {prog:Program}{w:World}{A:Around}{E:Value→Shared→Prop}{s:Shared}{κ:SortKind}{it:Nat→Keyed}{b:Nat→Nat→Bool}{p:Array Nat}
theorem KZ {n:Nat}{Q:Unit→SortSt→Prop}{st:SortSt}(hp:(pendingOf st).size≤1) (hn:0<n)(h:Q () st) (F:Nat→Option Unit×Unit→StateT SortSt Sem (ForInStep (Option Unit×Unit))) (G:Option Unit×Unit→StateT SortSt Sem Unit)
  (hG:G (none,())=pure ()) (hF:∀ x,wpS (model prog w) A E s (F x (none,())) (fun r st'=>st'=st∧r=.done (none,())) st):wpS (model prog w) A E s (forIn [:n] (none,()) F >>= G) Q st:=by
 refine wpS_bind (wpS_mono (wpS_forRange (I:=fun x c st'=>c=(none,())∧st'=st) (Q:=fun c st'=>c=(none,())∧st'=st) ?_ (fun _ _ z=>z) ⟨rfl,rfl⟩) ?_)
 ·rintro i c st' _ _ ⟨rfl,rfl⟩
  refine wpS_mono (hF i) fun r st'' ⟨e1,e2⟩=>?_
  subst e1;subst e2
  exact⟨rfl,rfl⟩
 ·rintro c st' ⟨rfl,rfl⟩
  rw[hG]
  exact wpS_pure h
theorem IA (O:Orc prog w A s κ it b){n N:Nat}{Q:Unit→SortSt→Prop}(hn:p.size=n)(h2:2≤n)(h64:n<64)(hN:asc b p 0 (n - 1) 1=N)
  (hc:N=n∨(1<N∧b (p.getD 0 0) (p.getD (N - 1) 0)=true)) (h:Q () (stOf κ it (if N<n then bins b 0 (n - max N 1) (max N 1) p else p) #[(0,n,0)])) :
  wpS (model prog w) A E s sortRuns' Q (stOf κ it p #[]):=by
 rw[sortRuns'_eq]
 refine wpS_bind (wpS_get ?_)
 dsimp only
 have hsz:(arrOf (stOf κ it p #[])).size=n:=by show(p.map it).size=n;simp [hn]
 have hmr:minRun' n n 0=n:=by
  obtain⟨f,hf⟩:∃ f,n=f+1:=⟨n - 1,by omega⟩
  have e:minRun' (f+1) n 0=n:=by rw[minRun'_succ,if_pos h64];rfl
  rwa [← hf] at e
 simp only[hsz,hmr]
 generalize hF:stOf κ it (if N<n then bins b 0 (n - max N 1) (max N 1) p else p) #[(0,n,0)]=stF at h
 refine wpS_bind (wpS_mono (wpS_forRange (I:=fun x c st'=>(x=0∧c=(none,0)∧st'=stOf κ it p #[])∨(1≤x∧c=(none,n)∧st'=stF)) (Q:=fun c st'=>c=(none,n)∧st'=stF) ?step ?fin (.inl ⟨rfl,rfl,rfl⟩)) ?post)
 case fin =>
  rintro c st' (⟨hx,_⟩|⟨_,h1,h2⟩)
  ·omega
  ·exact⟨h1,h2⟩
 case step =>
  rintro x c st' _ hx (⟨rfl,rfl,rfl⟩|⟨hx1,rfl,rfl⟩)
  ·dsimp only
   rw[if_neg (by omega)]
   simp only[Nat.sub_zero,Nat.min_self]
   have hle:=oH b p 0 (n - 1) 1
   refine wpS_bind (pM O (by omega) (by omega) (by rw[hN,Nat.zero_add];exact hc) ?_)
   rw[hN] at hle ⊢
   dsimp only
   by_cases hlt:N<n
   ·rw[if_pos hlt] at hF ⊢
    refine wpS_bind (wpS_lift (wpAny_rule ⟨rfl,?_⟩))
    refine wpS_bind (oY O (by omega) (by omega) ?_)
    simp only[Bool.not_true,Bool.false_eq_true,if_false]
    refine wpS_bind (wpS_get ?_)
    have hb:(pendingOf (stOf κ it (bins b 0 (n - max N 1) (max N 1) p) #[])).back?=none:=rfl
    rw[hb]
    dsimp only
    refine wpS_bind (wpS_modify (wpS_pure (.inr ⟨by omega,by rw[Nat.zero_add],?_⟩)))
    rw[← hF];rfl
   ·rw[if_neg hlt] at hF ⊢
    have hm:N=n:=by omega
    refine wpS_bind (wpS_get ?_)
    have hb:(pendingOf (stOf κ it p #[])).back?=none:=rfl
    rw[hb]
    dsimp only
    refine wpS_bind (wpS_modify (wpS_pure (.inr ⟨by omega,by rw[hm,Nat.zero_add],?_⟩)))
    rw[← hF,hm];rfl
  ·dsimp only
   rw[if_pos (Nat.le_refl _)]
   exact wpS_pure ⟨rfl,rfl⟩
 case post =>
  rintro c st' ⟨rfl,rfl⟩
  dsimp only
  refine KZ (by rw[← hF];exact Nat.le_refl _) (by omega) h _ _ rfl fun x=>?_
  refine wpS_bind (wpS_get ?_)
  rw[if_pos (by rw[← hF];exact Nat.le_refl _)]
  exact wpS_pure ⟨rfl,rfl⟩
theorem IB (O:Orc prog w A s κ it b){N1 N2 k nb':Nat}{q1 q2 R:Array Nat}{Q:Unit→SortSt→Prop}(hn:p.size=64)(h1:asc b p 0 63 1=N1)(c1:1<N1∧b (p.getD 0 0) (p.getD (N1 - 1) 0)=true) (l1:N1<32)
  (e1:bins b 0 (32 - max N1 1) (max N1 1) p=q1) (z1:q1.size=64)(h2:asc b q1 32 31 1=N2)(c2:1<N2∧b (q1.getD 32 0) (q1.getD (32+N2 - 1) 0)=true) (l2:N2<32)
  (e2:bins b 32 (32 - max N2 1) (max N2 1) q1=q2) (z2:q2.size=64)(m:Mg b q2 0 32 32 32 k nb' R)(h:∀ pw,Q () (stOf κ it (lay (0+k) R q2) #[(0,64,pw)])) :
  wpS (model prog w) A E s sortRuns' Q (stOf κ it p #[]):=by
 rw[sortRuns'_eq]
 refine wpS_bind (wpS_get ?_)
 dsimp only
 have hsz:(arrOf (stOf κ it p #[])).size=64:=by show(p.map it).size=64;simp [hn]
 have hmr:minRun' 64 64 0=32:=by decide +kernel
 simp only[hsz,hmr]
 obtain⟨pw,hpw⟩:∃ pw,pw=power' 64 (2 * 0+32) (2 * 0+32+32+32) 64:=⟨_,rfl⟩
 refine wpS_bind (wpS_mono (wpS_forRange (I:=fun x c st'=>(x=0∧c=(none,0)∧st'=stOf κ it p #[])∨(x=1∧c=(none,32)∧st'=stOf κ it q1 #[(0,32,0)])∨(2≤x∧c=(none,64)∧st'=stOf κ it q2 #[(0,32,pw),(32,32,0)]))
  (Q:=fun c st'=>c=(none,64)∧st'=stOf κ it q2 #[(0,32,pw),(32,32,0)]) ?step ?fin (.inl ⟨rfl,rfl,rfl⟩)) ?post)
 case fin =>
  rintro c st' (⟨hx,_⟩|⟨hx,_⟩|⟨_,h1,h2⟩)
  ·omega
  ·omega
  ·exact⟨h1,h2⟩
 case step =>
  rintro x c st' _ hx (⟨rfl,rfl,rfl⟩|⟨rfl,rfl,rfl⟩|⟨hx1,rfl,rfl⟩)
  ·dsimp only
   rw[if_neg (by omega)]
   refine wpS_bind (pM O (by omega) (by omega) (.inr (by rw[show(64:Nat) - 0 - 1=63 by omega,h1,Nat.zero_add];exact c1)) ?_)
   rw[show(64:Nat) - 0 - 1=63 by omega,h1]
   dsimp only
   rw[if_pos l1]
   refine wpS_bind (wpS_lift (wpAny_rule ⟨rfl,?_⟩))
   rw[show min (64 - 0) 32=32 by omega]
   refine wpS_bind (oY O (by omega) (by omega) ?_)
   rw[e1]
   simp only[Bool.not_true,Bool.false_eq_true,if_false]
   refine wpS_bind (wpS_get ?_)
   have hb:(pendingOf (stOf κ it q1 #[])).back?=none:=rfl
   rw[hb]
   dsimp only
   exact wpS_bind (wpS_modify (wpS_pure (.inr (.inl (by exact⟨by simp,rfl,rfl⟩)))))
  ·dsimp only
   rw[if_neg (by omega)]
   refine wpS_bind (pM O (by omega) (by omega) (.inr (by rw[show(64:Nat) - 32 - 1=31 by omega,h2];exact c2)) ?_)
   rw[show(64:Nat) - 32 - 1=31 by omega,h2]
   dsimp only
   rw[if_pos l2]
   refine wpS_bind (wpS_lift (wpAny_rule ⟨rfl,?_⟩))
   rw[show min (64 - 32) 32=32 by omega]
   refine wpS_bind (oY O (by omega) (by omega) ?_)
   rw[e2]
   simp only[Bool.not_true,Bool.false_eq_true,if_false]
   refine wpS_bind (wpS_get ?_)
   have hb:(pendingOf (stOf κ it q2 #[(0,32,0)])).back?=some (0,32,0):=rfl
   rw[hb]
   dsimp only
   refine wpS_bind (wpS_mono (wpS_forRange (I:=fun x c st'=>c=(none,())∧st'=stOf κ it q2 #[(0,32,0)]) (Q:=fun c st'=>c=(none,())∧st'=stOf κ it q2 #[(0,32,0)]) ?_ (fun _ _ z=>z) ⟨rfl,rfl⟩) ?_)
   ·rintro i c st' _ _ ⟨rfl,rfl⟩
    refine wpS_bind (wpS_get ?_)
    exact wpS_pure ⟨rfl,rfl⟩
   ·rintro c st' ⟨rfl,rfl⟩
    dsimp only
    refine wpS_bind (wpS_modify (wpS_bind (wpS_modify (wpS_pure (.inr (.inr ⟨by omega,rfl,?_⟩))))))
    rw[hpw]
    rfl
  ·dsimp only
   rw[if_pos (Nat.le_refl _)]
   exact wpS_pure ⟨rfl,rfl⟩
 case post =>
  rintro c st' ⟨rfl,rfl⟩
  dsimp only
  refine wpS_bind (wpS_mono (wpS_forRange (I:=fun x c st'=>c=(none,())∧((x=0∧st'=stOf κ it q2 #[(0,32,pw),(32,32,0)])∨(1≤x∧st'=stOf κ it (lay (0+k) R q2) #[(0,64,pw)]))) (Q:=fun c st'=>c=(none,())∧st'=stOf κ it (lay (0+k) R q2) #[(0,64,pw)]) ?_ ?_ ⟨rfl,.inl ⟨rfl,rfl⟩⟩) ?_)
  ·rintro i c st' _ _ ⟨rfl,(⟨rfl,rfl⟩|⟨h1,rfl⟩)⟩
   ·refine wpS_bind (wpS_get ?_)
    rw[if_neg (by show ¬(2≤1);omega)]
    refine wpS_bind (FN O (pw:=pw) (pw2:=0) m ?_)
    exact wpS_pure ⟨rfl,.inr ⟨by omega,rfl⟩⟩
   ·refine wpS_bind (wpS_get ?_)
    rw[if_pos (by show 1≤1;omega)]
    exact wpS_pure ⟨rfl,rfl⟩
  ·rintro c st' ⟨rfl,(⟨h1,_⟩|⟨_,h1⟩)⟩
   ·omega
   ·exact⟨rfl,h1⟩
  ·rintro c st' ⟨rfl,rfl⟩
   exact wpS_pure (h pw)
end
end SR
namespace SR
open PySem PyProof.Rows PySem.W L2 SeqAt
def lexN:List Nat→List Nat→Bool
 | [],[]=>false
 | [],_::_=>true
 | _::_,[]=>false
 | a::as,c::cs=>if a=c then lexN as cs else decide (a<c)
section
variable {prog:Program}{w:World}{A:Around}{E:Value→Shared→Prop}{s:Shared}
theorem i7 {vs:List Value}{ks:List Nat}(h:IntsAre vs (aB ks)):vs.length=ks.length:=by
 have:=IntsAre.length h
 simpa [aB] using this
theorem xu {x:Addr}{o:Obj}{xs:Array Value}{n:Nat}{Q:Array Value→Shared→Prop}(ho:s.heap.get? x=some o)(hd:o.data=.seq xs n)(h:Q xs s):wpAny (model prog w) A (Builtin.Tuple.tupleItemsOf (.ref x)) Q E s:=by
 exact wpAny_tupleItemsOf ho hd h
theorem K8 {x y:Addr}{xs ys:List Value}{ks js:List Nat}{Q:Value→Shared→Prop}(hx:IsTup s.heap x xs.toArray)(hy:IsTup s.heap y ys.toArray)(ix:IntsAre xs (aB ks)) (iy:IntsAre ys (aB js)) (hu:A.units<cLine)
  (h:Q (.bool (lexN ks js)) s):wpAny (model prog w) A (richCompare .Lt (.ref x) (.ref y)) Q E s:=by
 obtain⟨ox,hox,hcx,nx,hdx⟩:=hx
 obtain⟨oy,hoy,hcy,ny,hdy⟩:=hy
 have tx:s.TypeIs (.ref x) "tuple":=⟨ox,hox,hcx⟩
 have ty:s.TypeIs (.ref y) "tuple":=⟨oy,hoy,hcy⟩
 refine wpAny_richCompare_same_room (op:=.Lt) (T:="tuple") tx ty PySem.F.slot_tuple_lt (wpAny_call_entry PySem.F.slot_tuple_lt tx PySem.F.entry_tuple_lt ?_ (PySem.F.args_tuple_lt_2 _ _)) hu
 show wpAny _ _ (slotArgs "__lt__" 1 ⟨[.ref x,.ref y],[]⟩ >>= _) _ _ _
 refine wpAny_bind (wpAny_pure ?_)
 dsimp only
 refine wpAny_bind (wpAny_isInstance ty AutoSeq1.sub_tuple_tuple ?_)
 simp only[Bool.not_true,Bool.false_eq_true,if_false]
 refine wpAny_bind (xu hox hdx ?_)
 refine wpAny_bind (xu hoy hdy ?_)
 dsimp only
 refine wpAny_bind (wpAny_mono (wpAny_forIn_list _ (fun rest c s'=>c=(none,())∧s'=s∧∃(xs' ys':List Value)(ks' js':List Nat) (d:Nat),rest=xs'.zip ys'∧IntsAre xs' (aB ks')∧IntsAre ys' (aB js')∧lexN ks js=lexN ks' js'∧xs.length=d+ks'.length∧ys.length=d+js'.length)
  (fun c s'=>s'=s∧((c=(none,())∧lexN ks js=decide (xs.length<ys.length))∨c=(some (PySem.Fin.done (.ret (.bool (lexN ks js)))),()))) ?turn ?fin _ _ ?init) ?post fun _ _ e=>e)
 case init=>exact⟨rfl,rfl,xs,ys,ks,js,0,by simp,ix,iy,rfl,by rw[i7 ix];omega,by rw[i7 iy];omega⟩
 case fin =>
  rintro c s' ⟨rfl,rfl,xs',ys',ks',js',d,e,i1,i2,el,l1,l2⟩
  refine⟨rfl,.inl ⟨rfl,?_⟩⟩
  rw[el]
  have z1:=i7 i1
  have z2:=i7 i2
  cases ks' with
  | nil =>
    cases js' with
    | nil=>simp [lexN];simp at l1 l2;omega
    | cons j js'=>simp [lexN];simp at l1 l2;omega
  | cons k ks' =>
    cases js' with
    | nil=>simp [lexN];simp at l1 l2;omega
    | cons j js' =>
      cases xs' with
      | nil=>simp at z1
      | cons u us =>
        cases ys' with
        | nil=>simp at z2
        | cons v vs=>simp at e
 case turn =>
  rintro⟨u,v⟩ rest c s' ⟨rfl,rfl,xs',ys',ks',js',d,e,i1,i2,el,l1,l2⟩
  cases xs' with
  | nil=>simp at e
  | cons u' us =>
    cases ys' with
    | nil=>simp at e
    | cons v' vs =>
      rw[List.zip_cons_cons] at e
      injection e with e1 e2
      injection e1 with e3 e4
      subst e3;subst e4;subst e2
      cases ks' with
      | nil=>cases i1
      | cons k ks' =>
        cases js' with
        | nil=>cases i2
        | cons j js' =>
          cases i1 with
          | cons n t i1 =>
            cases i2 with
            | cons n' t' i2 =>
              dsimp only
              refine wpAny_bind (EqAt.int_int _ t _ t' prog w _ _ ?_)
              by_cases hkj:k=j
              ·subst hkj
               simp only[beq_self_eq_true,Bool.not_true,Bool.false_eq_true,if_false]
               refine wpAny_pure ⟨rfl,rfl,us,vs,ks',js',d+1,rfl,i1,i2,?_,?_,?_⟩
               ·rw[el];simp [lexN]
               ·rw[l1];simp;omega
               ·rw[l2];simp;omega
              ·have hne:((k:Int)==(j:Int))=false:=by simpa using fun z=>hkj (by omega)
               rw[hne]
               simp only[Bool.not_false,if_true]
               refine wpAny_bind (wpAny_rule ?_)
               refine wpAny_bind ?_
               show wpAny _ _ (compareOp .Lt (.int (k:Int) t) (.int (j:Int) t')) _ _ _
               refine wpAny_lt_int ?_
               refine wpAny_bind (wpAny_pure (wpAny_pure ⟨rfl,.inr ?_⟩))
               have:lexN ks js=decide ((k:Int)<(j:Int)):=by rw[el];simp [lexN,hkj]
               rw[this]
 case post =>
  rintro c s' ⟨rfl,(⟨rfl,e⟩|rfl)⟩
  ·dsimp only
   refine wpAny_pure ⟨_,rfl,by simp [Builtin.Tuple.tupleCompareSizes],?_⟩
   have:Builtin.Tuple.tupleCompareSizes .Lt xs.toArray.size ys.toArray.size=.bool (lexN ks js):=by rw[e];rfl
   rw[this]
   exact h
  ·exact wpAny_pure ⟨_,rfl,by simp,h⟩
end
end SR
namespace SR
open PySem PyProof.Rows PySem.W L2 SeqAt
section
variable {prog:Program}{w:World}{A:Around}{E:Value→Shared→Prop}{s:Shared}
theorem Fz {a:Addr}{vs:List Value}{n:Nat}{κ:SortKind}{out:Array Value}{P:PySem.Fin→Shared→Prop}(ho:s.heap.get? a=some (seqObj "list" vs.toArray n)) (h2:2≤vs.length)(hv:vs.length≤100000)(hz:out.size≤100000)
  (hrun:∀ s':Shared,(∀ b o,b≠a→s.heap.get? b=some o→s'.heap.get? b=some o)→(∀ Q:SortKind→Shared→Prop,Q κ s'→wpAny (model prog w) A (keyKind' vs.toArray) Q E s') ∧
   wpS (model prog w) A E s' sortRuns' (fun _ st'=>(arrOf st').map (·.2)=out∧failedOf st'=none) (SortSt.mk' κ (pairsOf vs) #[] 7 none))
  (h:P (.done (.ret .none)) {s with heap:=sortedHeap s.heap a vs out}):wpAny (model prog w) A (Builtin.«list.sort» ⟨[.ref a],[]⟩) P E s:=by
 rw[list_sort_plain]
 have ha:=Heap.lt_size ho
 refine wpAny_bind (listItems_at ho rfl (wpAny_bind (listUpdate_at ho rfl ?_ (hsz:=by rw[List.size_toArray,sizeLine_eq];omega))))
 obtain⟨e1,ho1⟩:∃ e1,(s.heap.update a (Obj.mapSeq fun _=>#[])).get? a=some (seqObj "list" #[] e1):=⟨_,get?_update_seq ho (fun _=>#[])⟩
 refine wpAny_bind (seqEpoch_at ho1 rfl (wpAny_bind (wpAny_newTuple (wpAny_bind (wpAny_newList (wpAny_holding ?_))) (hsz:=by show vs.length≤_;rw[sizeLine_eq];omega))))
 have kp1:∀ b,b<s.heap.objs.size→(((s.heap.update a (Obj.mapSeq fun _=>#[])).push (seqObj "tuple" vs.toArray 0)).push (seqObj "list" #[] 0)).get? b=(s.heap.update a (Obj.mapSeq fun _=>#[])).get? b:=fun b hb=>by
  rw[Heap.get?_push_ne _ _ _ (by rw[size_push',Heap.size_update];exact Nat.ne_of_lt (Nat.lt_succ_of_lt hb)),Heap.get?_push_ne _ _ _ (by rw[Heap.size_update];exact Nat.ne_of_lt hb)]
 have ho6:(((s.heap.update a (Obj.mapSeq fun _=>#[])).push (seqObj "tuple" vs.toArray 0)).push (seqObj "list" #[] 0)).get? a=some (seqObj "list" #[] e1):=(kp1 a ha).trans ho1
 show wpAny (model prog w) A _ P E {s with heap:=((s.heap.update a (Obj.mapSeq fun _=>#[])).push (seqObj "tuple" vs.toArray 0)).push (seqObj "list" #[] 0)}
 dsimp only
 have hsz:vs.toArray.size=vs.length:=by simp
 rw[if_neg (by omega),if_neg (by omega)]
 obtain⟨r1,r2⟩:=hrun {s with heap:=((s.heap.update a (Obj.mapSeq fun _=>#[])).push (seqObj "tuple" vs.toArray 0)).push (seqObj "list" #[] 0)} fun b o hb e=>by
  rw[kp1 b (Heap.lt_size e),Heap.get?_update_ne _ _ _ _ hb];exact e
 refine wpAny_bind (r1 _ ?_)
 refine wpAny_bind (wpAny_mono r2 ?_ fun _ _ e=>e)
 rintro⟨⟨⟩,st'⟩ s' ⟨rfl,e2,e3⟩
 dsimp only at e2 e3 ⊢
 rw[e2,e3]
 refine wpAny_bind (seqEpoch_at ho6 rfl ?_)
 refine wpAny_bind (listUpdate_at ho6 rfl ?_ (hsz2:=by rw[sizeLine_eq];omega))
 simp only[bne_self_eq_false,Bool.false_eq_true,if_false]
 exact wpAny_pure h
theorem JY {l:Addr}{vs:List Value}{κ:SortKind}{out:Array Value}{Q:Value→Shared→Prop}(hl:s.heap.IsList l vs.toArray)(h2:2≤vs.length)(hv:vs.length≤100000)(hz:out.size≤100000)
  (hrun:∀ s':Shared,(∀ b o,s.heap.get? b=some o→s'.heap.get? b=some o)→(∀ Q:SortKind→Shared→Prop,Q κ s'→wpAny (model prog w) A.in1.in1 (keyKind' vs.toArray) Q E s') ∧
   wpS (model prog w) A.in1.in1 E s' sortRuns' (fun _ st'=>(arrOf st').map (·.2)=out∧failedOf st'=none) (SortSt.mk' κ (pairsOf vs) #[] 7 none))
  (h:∀(D:Addr) (e:Nat)(h':Heap),s.heap.objs.size≤D→h'.get? D=some (seqObj "list" out e)→(∀ b o,s.heap.get? b=some o→h'.get? b=some o)→Q (.ref D) {s with heap:=h'}) :
  wpAny (model prog w) A (call (.builtin "sorted") [.ref l]) Q E s:=by
 refine Calls.call_function_entry kind_sorted plain_sorted entry_sorted (args_sorted1 _) ?_
 unfold Builtin.«sorted»
 refine wpAny_bind (m:=checkCount "sorted" 1 1 _) (wpAny_pure ?_)
 refine wpAny_bind (collect_list hl ?_ (by rw[sizeLine_eq];omega))
 refine wpAny_bind (wpAny_newList ?_ (by rw[sizeLine_eq];omega))
 generalize hH1:(s.heap.push (seqObj "list" #[] 0)).update s.heap.objs.size (Obj.mapSeq (·++vs.toArray))=H1
 have hz1:H1.objs.size=s.heap.objs.size+1:=by rw[← hH1,Heap.size_update,size_push']
 have kp:∀ b o,s.heap.get? b=some o→H1.get? b=some o:=fun b o e=>by
  have hb:=Heap.lt_size e
  rw[← hH1,Heap.get?_update_ne _ _ _ _ (Nat.ne_of_lt hb)]
  exact Heap.get?_push_of_some _ e
 have hoL:(H1.push (seqObj "list" vs.toArray 0)).get? H1.objs.size=some (seqObj "list" vs.toArray 0):=Heap.get?_push_size _ rfl
 show wpAny _ _ _ _ _ {s with heap:=H1.push (seqObj "list" vs.toArray 0)}
 refine wpAny_bind (wpAny_holding (wpAny_call_entry slot_list_sort ⟨_,hoL,rfl⟩ entry_list_sort (Fz (κ:=κ) (out:=out) hoL h2 hv hz (fun s' k=>hrun s' fun b o e=>?_) ⟨_,rfl,?_⟩) (args_list_sort _)))
 ·have hb:=Heap.lt_size e
  exact k b o (by rw[hz1];exact Nat.ne_of_lt (Nat.lt_succ_of_lt hb)) (Heap.get?_push_of_some _ (kp b o e))
 ·obtain⟨e,he⟩:=sortedHeap_at (out:=out) hoL
  refine wpAny_pure ⟨_,rfl,h H1.objs.size e _ (by rw[hz1];exact Nat.le_succ _) he fun b o q=>?_⟩
  have hb:=Heap.lt_size q
  rw[sortedHeap_old (by rw[hz1];exact Nat.ne_of_lt (Nat.lt_succ_of_lt hb)) (by rw[size_push',hz1];exact Nat.lt_succ_of_lt (Nat.lt_succ_of_lt hb))]
  exact Heap.get?_push_of_some _ (kp b o q)
end
end SR
namespace SR
open PySem PyProof.Rows PySem.W L2 SeqAt
def plt (x y:Nat×List Nat):Bool:=if x.1=y.1 then (if x.2=y.2 then false else lexN x.2 y.2) else decide (x.1<y.1)
def dX (h:Heap)(v:Value)(x:Nat×List Nat):Prop :=
 ∃(a:Addr)(o:Obj) (n:Nat)(t:Tok)(r:Addr)(its:List Value),v=.ref a∧h.get? a=some o∧o.cls=.type "tuple"∧o.data=.seq #[.int (x.1:Int) t,.ref r] n∧IsTup h r its.toArray∧IntsAre its (aB x.2)
theorem K7 {h h':Heap}{a:Addr}{its:Array Value}(k:∀ b o,h.get? b=some o→h'.get? b=some o)(x:IsTup h a its):IsTup h' a its:=by
 obtain⟨o,e,r⟩:=x
 exact⟨o,k _ _ e,r⟩
theorem dX.keep {h h':Heap}{v:Value}{x:Nat×List Nat}(k:∀ b o,h.get? b=some o→h'.get? b=some o)(p:dX h v x):dX h' v x:=by
 obtain⟨a,o,n,t,r,its,e1,e2,e3,e4,e5,e6⟩:=p
 exact⟨a,o,n,t,r,its,e1,k _ _ e2,e3,e4,K7 k e5,e6⟩
section
variable {prog:Program}{w:World}{A:Around}{E:Value→Shared→Prop}{s:Shared}
theorem xj:∀{vs:List Value}{ns ms:List Int},IntsAre vs ns→IntsAre vs ms→ns=ms
 | _,_,_,.nil,.nil=>rfl
 | _,_,_,.cons n t h,.cons _ _ g=>by rw[xj h g]
theorem oG:∀{a b:List Nat},aB a=aB b→a=b
 | [],[],_=>rfl
 | [],_::_,h=>by simp [aB] at h
 | _::_,[],h=>by simp [aB] at h
 | x::a,y::b,h=>by
   have h':((x:Nat):Int)::aB a=((y:Nat):Int)::aB b:=h
   injection h' with h1 h2
   rw[oG h2,show x=y by omega]
theorem CD {x y:Addr}{xs ys:List Value}{ks js:List Nat}(hx:IsTup s.heap x xs.toArray)(hy:IsTup s.heap y ys.toArray)(ix:IntsAre xs (aB ks)) (iy:IntsAre ys (aB js)) (hu:A.units<cLine) :
  EqAt A s (.ref x) (.ref y) (decide (ks=js)):=by
 by_cases hxy:x=y
 ·subst hxy
  obtain⟨o1,e1,c1,n1,d1⟩:=hx
  obtain⟨o2,e2,c2,n2,d2⟩:=hy
  rw[e1] at e2;cases e2
  rw[d1] at d2
  have:xs=ys:=by injection d2 with z;simpa using z
  subst this
  have:ks=js:=oG (xj ix iy)
  subst this
  have e:decide (ks=ks)=true:=by simp
  rw[e]
  exact EqAt.same _
 ·have l1:=i7 ix
  have l2:=i7 iy
  have:=RcAt.tuples (A:=A) (e:=fun j=>ks.getD j 0==js.getD j 0) hx hy hu fun j h1 h2=>by
   have h1':j<xs.length:=by simpa using h1
   have h2':j<ys.length:=by simpa using h2
   obtain⟨t,e1⟩:=IntsAre.int_at ix j xs[j] (List.getElem?_eq_getElem h1')
   obtain⟨u,e2⟩:=IntsAre.int_at iy j ys[j] (List.getElem?_eq_getElem h2')
   have g1:(aB ks).getD j 0=((ks.getD j 0:Nat):Int):=by simp [aB,show j<ks.length by omega]
   have g2:(aB js).getD j 0=((js.getD j 0:Nat):Int):=by simp [aB,show j<js.length by omega]
   rw[List.getElem_toArray,List.getElem_toArray,e1,e2,g1,g2]
   have:=EqAt.int_int (A:=A.in1) (s:=s) ((ks.getD j 0:Nat):Int) t ((js.getD j 0:Nat):Int) u
   have eb:(((ks.getD j 0:Nat):Int)==((js.getD j 0:Nat):Int))=(ks.getD j 0==js.getD j 0):=by rw[Bool.eq_iff_iff];simp;omega
   rw[← eb];exact this
  have ee:((List.range (min xs.toArray.size ys.toArray.size)).all (fun j=>ks.getD j 0==js.getD j 0)&&xs.toArray.size==ys.toArray.size)=decide (ks=js):=by
   rw[Bool.eq_iff_iff]
   simp only[List.size_toArray,l1,l2,Bool.and_eq_true,List.all_eq_true,List.mem_range,beq_iff_eq,decide_eq_true_eq]
   constructor
   ·rintro⟨h1,h2⟩
    apply List.ext_getElem h2
    intro i q1 q2
    have:=h1 i (by omega)
    simpa [q1,q2] using this
   ·rintro rfl
    exact⟨fun _ _=>rfl,rfl⟩
  rw[ee] at this
  exact EqAt.of_refs hxy this
theorem G3 {v u:Value}{x y:Nat×List Nat}{Q:Bool→Shared→Prop}(hv:dX s.heap v x)(hu:dX s.heap u y)(hA:A.units<cLine)(h:Q (plt x y) s):wpAny (model prog w) A (keyLt' (tuples' true) v u) Q E s:=by
 obtain⟨a,o,n,t,r,its,rfl,e2,e3,e4,e5,e6⟩:=hv
 obtain⟨a',o',n',t',r',its',rfl,f2,f3,f4,f5,f6⟩:=hu
 refine kat_lt e2 e4 f2 f4 ?_
 unfold plt at h
 refine kat_cons (EqAt.int_int _ t _ t' prog w _ _ ?_)
 by_cases h1:x.1=y.1
 ·rw[if_pos h1] at h
  have eb:(((x.1:Nat):Int)==((y.1:Nat):Int))=true:=by rw[h1];simp
  rw[eb]
  refine kat_yes (kat_cons (CD e5 f5 e6 f6 hA prog w _ _ ?_))
  by_cases h2:x.2=y.2
  ·rw[if_pos h2] at h
   have:decide (x.2=y.2)=true:=by simp [h2]
   rw[this]
   exact kat_yes (kat_nil h)
  ·rw[if_neg h2] at h
   have:decide (x.2=y.2)=false:=by simp [h2]
   rw[this]
   refine kat_no ?_
   refine kat_one _ _ ?_
   exact K8 e5 f5 e6 f6 hA h
 ·rw[if_neg h1] at h
  have eb:(((x.1:Nat):Int)==((y.1:Nat):Int))=false:=by simpa using fun z=>h1 (by omega)
  rw[eb]
  refine kat_no (oneLt_int ?_)
  have:decide ((x.1:Int)<(y.1:Int))=decide (x.1<y.1):=by rw[decide_eq_decide];omega
  rw[this];exact h
end
end SR
namespace SR
open PySem PyProof.Rows PySem.W L2 SeqAt
def every:Nat→List (List Nat)
 | 0=>[[]]
 | m+1=>every m++(every m).map (·++[m])
def prsL (m:Nat):List (Nat×List Nat):=(every m).map fun r=>(r.length,r)
def bW (m i:Nat):Nat×List Nat:=(prsL m).getD i (0,[])
def bOf (m i j:Nat):Bool:=plt (bW m i) (bW m j)
def run1 (b:Nat→Nat→Bool) (n:Nat):Array Nat :=
 let p:=Array.range n
 let N:=asc b p 0 (n - 1) 1
 if N<n then bins b 0 (n - max N 1) (max N 1) p else p
def q1 (b:Nat→Nat→Bool):Array Nat:=bins b 0 (32 - max (asc b (Array.range 64) 0 63 1) 1) (max (asc b (Array.range 64) 0 63 1) 1) (Array.range 64)
def q2 (b:Nat→Nat→Bool):Array Nat:=bins b 32 (32 - max (asc b (q1 b) 32 31 1) 1) (max (asc b (q1 b) 32 31 1) 1) (q1 b)
def resP (m:Nat):Array Nat:=if m=6 then
    let b:=bOf 6
    let q:=q2 b
    let k:=gp b false (q.getD 32 0) q 0 32 0
    let n:=gp b true (q.getD (0+k+(32 - k) - 1) 0) q 32 32 31
    match mrg b (q.extract (0+k) 32) (q.extract 32 (32+n)) ((q.extract (0+k) 32).size+(q.extract 32 (32+n)).size) #[(q.extract 32 (32+n)).getD 0 0] 0 1 0 0 with
    | some R=>lay (0+k) R q
    | none=>#[]
 else run1 (bOf m) (2 ^ m)
theorem Dc:∀ m∈[1,2,3,4,5],(prsL m).length=2 ^ m∧2 ^ m<64∧2≤2 ^ m∧(asc (bOf m) (Array.range (2 ^ m)) 0 (2 ^ m - 1) 1=2 ^ m∨(1<asc (bOf m) (Array.range (2 ^ m)) 0 (2 ^ m - 1) 1∧bOf m ((Array.range (2 ^ m)).getD 0 0) ((Array.range (2 ^ m)).getD (asc (bOf m) (Array.range (2 ^ m)) 0 (2 ^ m - 1) 1 - 1) 0)=true)):=by decide +kernel
def k6:Nat:=gp (bOf 6) false ((q2 (bOf 6)).getD 32 0) (q2 (bOf 6)) 0 32 0
def n6:Nat:=gp (bOf 6) true ((q2 (bOf 6)).getD (0+k6+(32 - k6) - 1) 0) (q2 (bOf 6)) 32 32 31
def R6:Option (Array Nat):=mrg (bOf 6) ((q2 (bOf 6)).extract (0+k6) 32) ((q2 (bOf 6)).extract 32 (32+n6)) (((q2 (bOf 6)).extract (0+k6) 32).size+((q2 (bOf 6)).extract 32 (32+n6)).size) #[((q2 (bOf 6)).extract 32 (32+n6)).getD 0 0] 0 1 0 0
theorem Dd:(1<asc (bOf 6) (Array.range 64) 0 63 1∧bOf 6 ((Array.range 64).getD 0 0) ((Array.range 64).getD (asc (bOf 6) (Array.range 64) 0 63 1 - 1) 0)=true)∧asc (bOf 6) (Array.range 64) 0 63 1<32∧(q1 (bOf 6)).size=64 ∧
  (1<asc (bOf 6) (q1 (bOf 6)) 32 31 1∧bOf 6 ((q1 (bOf 6)).getD 32 0) ((q1 (bOf 6)).getD (32+asc (bOf 6) (q1 (bOf 6)) 32 31 1 - 1) 0)=true)∧asc (bOf 6) (q1 (bOf 6)) 32 31 1<32∧(q2 (bOf 6)).size=64:=by decide +kernel
theorem De:(32 - k6==0)=false∧(n6==0)=false∧32 - k6≤n6∧2≤((q2 (bOf 6)).extract (0+k6) 32).size∧2≤((q2 (bOf 6)).extract 32 (32+n6)).size∧0+k6+(32 - k6) - 1<64∧R6.isSome=true:=by decide +kernel
theorem res6 {R:Array Nat}(h:R6=some R):resP 6=lay (0+k6) R (q2 (bOf 6)):=by
 unfold resP
 rw[if_pos rfl]
 show(match R6 with|some R=>lay (0+k6) R (q2 (bOf 6))|none=>#[])=_
 rw[h]
section
variable {prog:Program}{w:World}{A:Around}{E:Value→Shared→Prop}{s:Shared}{κ:SortKind}{it:Nat→Keyed}
theorem IC {m:Nat}(hm:m∈[1,2,3,4,5,6])(O:Orc prog w A s κ it (bOf m)) :
  wpS (model prog w) A E s sortRuns' (fun _ st'=>arrOf st'=(resP m).map it∧failedOf st'=none) (stOf κ it (Array.range (2 ^ m)) #[]):=by
 by_cases h6:m=6
 ·subst h6
  obtain⟨c1,l1,z1,c2,l2,z2⟩:=Dd
  obtain⟨b1,b2,b3,b4,b5,b6,b7⟩:=De
  obtain⟨R,hR⟩:=Option.isSome_iff_exists.mp b7
  refine IB O (p:=Array.range 64) (q1:=q1 (bOf 6)) (q2:=q2 (bOf 6)) (k:=k6) (nb':=n6) (R:=R) (by simp) rfl c1 l1 rfl z1 rfl c2 l2 rfl z2 ⟨rfl,b1,rfl,b2,b3,b4,b5,hR,by omega,by omega,by decide,by decide,by rw[z2];exact b6⟩ fun pw=>⟨?_,rfl⟩
  rw[res6 hR];rfl
 ·have hm5:m∈[1,2,3,4,5]:=by
   simp only[List.mem_cons,List.not_mem_nil,or_false] at hm ⊢
   omega
  obtain⟨f1,f2,f3,f4⟩:=Dc m hm5
  refine IA O (p:=Array.range (2 ^ m)) (n:=2 ^ m) (by simp) f3 f2 rfl f4 ⟨?_,rfl⟩
  unfold resP
  rw[if_neg h6]
  rfl
end
end SR
namespace TL
open PySem L2 SR
def toP (x:Nat×List Nat):T:=.tup [.int (x.1:Int),.tup (x.2.map fun(i:Nat)=>T.int (i:Int))]
def unR:List T→Option (List Nat)
 | []=>some []
 | .int i::r=>if 0≤i then (unR r).map (i.toNat::·) else none
 | _=>none
def unP:List T→Option (List (Nat×List Nat))
 | []=>some []
 | .tup [.int i,.tup ts]::r=>if 0≤i then (match unR ts with|some ks=>(unP r).map ((i.toNat,ks)::·)|none=>none) else none
 | _=>none
theorem zK:∀{ts:List T}{ks:List Nat},unR ts=some ks→ts=ks.map fun(i:Nat)=>T.int (i:Int)
 | [],ks,h=>by simp [unR] at h;subst h;rfl
 | t::ts,ks,h=>by
   cases t with
   | int i =>
     simp only[unR] at h
     split at h
     ·rename_i hi
      obtain⟨js,h1,h2⟩:=Option.map_eq_some_iff.mp h
      subst h2
      rw[zK h1,List.map_cons,Int.toNat_of_nonneg hi]
     ·cases h
   | _=>simp [unR] at h
theorem zI:∀{ts:List T}{ks:List (Nat×List Nat)},unP ts=some ks→ts=ks.map toP
 | [],ks,h=>by simp [unP] at h;subst h;rfl
 | t::ts,ks,h=>by
   unfold unP at h
   split at h
   ·rename_i h0;cases h0
   ·rename_i i us r h0
    cases h0
    split at h
    ·rename_i hi
     split at h
     ·rename_i js h1
      obtain⟨js',h2,h3⟩:=Option.map_eq_some_iff.mp h
      subst h3
      rw[zI h2,List.map_cons]
      unfold toP
      rw[zK h1,Int.toNat_of_nonneg hi]
     ·cases h
    ·cases h
   ·cases h
def tO (ks:List (Nat×List Nat)):Option (List (Nat×List Nat)):=([1,2,3,4,5,6].find? fun m=>prsL m==ks).map fun m=>(resP m).toList.map (bW m)
def gg (f:FE):FA:=fun ρ=>match f ρ with|some (.lst ts)=>((unP ts).bind tO).map fun ks=>ks.map toP|_=>none
theorem Df:∀ m∈[1,2,3,4,5,6],(prsL m).length=2 ^ m∧2 ^ m≤64∧2≤2 ^ m∧(resP m).size=2 ^ m∧((resP m).toList.all fun i=>decide (i<2 ^ m))=true∧(prsL m).headD (0,[])=(0,[]):=by decide +kernel
theorem G4 {X:Cx}{pins:List (Addr×Obj)}{σ:L2.St}{H Hq:Hp}{s:Shared}(I:Inv X pins σ H s)(sb:Same Hq H){x:Nat×List Nat}{v:V}{u:Value}(h:Rep X.K Hq (toP x) v) (r:RelV v u):dX s.heap u x:=by
 unfold toP Rep at h
 obtain⟨a,vs,rfl,h1,h2⟩:=h
 unfold RepL at h2
 obtain⟨v1,r1,rfl,k1,h3⟩:=h2
 unfold RepL at h3
 obtain⟨v2,r2,rfl,k2,h4⟩:=h3
 unfold RepL at h4
 subst h4
 cases k1.i
 unfold Rep at k2
 obtain⟨a2,ws,rfl,g1,g2⟩:=k2
 obtain⟨its,z1,⟨o,e1,e2,n,e3⟩,_⟩:=I.tuple (dH sb h1)
 obtain⟨its2,z2,p2,_⟩:=I.tuple (dH sb g1)
 cases r
 cases z1 with
 | cons q1 q2 =>
   cases q2 with
   | cons q3 q4 =>
     cases q4
     obtain⟨t,rfl⟩:=q1
     cases q3
     have hw:ws=(aB x.2).map V.int:=by
      have e:(x.2.map fun(i:Nat)=>T.int (i:Int))=(aB x.2).map T.int:=by simp [aB]
      rw[e] at g2
      exact RepL.ints.mp g2
     subst hw
     have hi:PyProof.Rows.IntsAre its2 (aB x.2):=by
      clear p2 g1 g2
      generalize aB x.2=ns at z2
      induction ns generalizing its2 with
      | nil=>cases z2;exact .nil
      | cons m ns ih =>
        cases z2 with
        | cons q1 q2 =>
          obtain⟨t,rfl⟩:=q1
          exact .cons m t (ih _ q2)
     exact⟨a,o,n,t,a2,its2,rfl,e1,e2,e3,p2,hi⟩
theorem zH {h:Heap}:∀{its:List Value},(∀ u∈its,∃ x,dX h u x)→∃ fs,PySem.W.KatTups h its fs∧fs.length=its.length∧∀ f∈fs,∃(n:Int)(t:Tok),f=.int n t
 | [],_=>⟨[],.nil,rfl,fun f hf=>nomatch hf⟩
 | u::its,hp=>by
   obtain⟨fs,h1,h2,h3⟩:=zH fun v hv=>hp v (List.mem_cons_of_mem _ hv)
   obtain⟨x,a,o,n,t,r,its2,rfl,e2,e3,e4,_⟩:=hp u List.mem_cons_self
   refine⟨.int (x.1:Int) t::fs,.cons e2 e3 e4 rfl h1,by simp [h2],fun f hf=>?_⟩
   rcases List.mem_cons.mp hf with rfl|hf
   ·exact⟨_,_,rfl⟩
   ·exact h3 f hf
theorem yQ {K:PySem.W.Frag}{H:Hp}{f:Nat→T}{g:Nat→V}:∀(l:List Nat),(∀ i∈l,Rep K H (f i) (g i))→RepL K H (l.map f) (l.map g)
 | [],_=>.nil
 | i::l,h=>.cons (h i List.mem_cons_self) (yQ l fun j hj=>h j (List.mem_cons_of_mem _ hj))
theorem zM {f:Nat→V}{g:Nat→Value}:∀(l:List Nat),(∀ i∈l,RelV (f i) (g i))→Vals (l.map f) (l.map g)
 | [],_=>.nil
 | i::l,h=>.cons (h i List.mem_cons_self) (zM l fun j hj=>h j (List.mem_cons_of_mem _ hj))
section
variable {X:Cx}{z:Z}{e:Expr}{f:FE}{p pos:Pos}
set_option maxHeartbeats 1600000 in
theorem ef_sortP (hK:z.K=X.K)(hu:X.A.units+64<cLine)(hg:Gl X "sorted")(hm:X.mg "sorted"=none)(h:ER X z e f)(hs:starEach [e] X.env=[(false,eval e X.env)]:=by rfl):EF X z (.Call (.Name "sorted" p) [e] [] pos) (gg f):=by
 intro pins s σ H Q I ⟨ρ,Hq,us,r,e,k⟩
 unfold gg at e
 split at e
 ·rename_i ts et
  obtain⟨ks,e1,e2⟩:=Option.map_eq_some_iff.mp e
  obtain⟨ks0,e3,e4⟩:=Option.bind_eq_some_iff.mp e1
  obtain⟨m,e5,e6⟩:=Option.map_eq_some_iff.mp e4
  have hm6:m∈[1,2,3,4,5,6]:=List.mem_of_find?_eq_some e5
  have e7:prsL m=ks0:=by have:=List.find?_some e5;simpa using this
  subst e7 e6 e2
  have hts:=zI e3
  obtain⟨g1,g2,g3,g4,g5,g6⟩:=Df m hm6
  refine wpAny_Call_Name_kw (cI I hg hm boot_sorted ?_)
  refine PyProof.Rows.callWith_builtin1 (thn (kE h hs pos pins s σ H (fun vs H1=>∃ v Hq1,vs=[v]∧Ex Hq H Hq1 H1∧RepR z.K Hq1 H1 (.lst ts) v) I ⟨ρ,Hq,_,r,et,fun v Hq' H' x q=>⟨v,Hq',rfl,x,q⟩⟩) fun us s1 ⟨vs,H1,I1,r1,v,Hq1,ev,x1,q1⟩=>?_) hs rfl
  subst ev
  obtain⟨l,ws,rfl,q2,q3⟩:=q1.lst x1.sub
  cases r1 with
  | cons r1 rr =>
    cases rr
    cases r1
    rw[hK] at q2 q3
    obtain⟨its,v1,p1,_⟩:=I1.list q2
    have lts:ts.length=2 ^ m:=by rw[hts,List.length_map,g1]
    have lws:ws.length=2 ^ m:=by rw[← q3.length,lts]
    have lits:its.length=2 ^ m:=by rw[← v1.length,lws]
    have at_:∀ i,i<2 ^ m→∃(v:V)(u:Value),ws[i]?=some v∧its[i]?=some u∧RelV v u∧Rep X.K Hq1 (toP (bW m i)) v:=fun i hi=>by
     have ht:ts[i]?=some (toP (bW m i)):=by
      rw[hts,List.getElem?_map]
      unfold bW
      simp [show i<(prsL m).length by rw[g1];exact hi]
     obtain⟨v,h1,h2⟩:=q3.get ht
     obtain⟨u,h3,h4⟩:=v1.get h1
     exact⟨v,u,h1,h3,h4,h2⟩
    have pr:∀ i,i<2 ^ m→dX s1.heap (its.getD i (its.headD .none)) (bW m i):=fun i hi=>by
     obtain⟨v,u,h1,h2,h3,h4⟩:=at_ i hi
     have:its.getD i (its.headD .none)=u:=by simp [List.getD,h2]
     rw[this]
     exact G4 I1 x1.sub h4 h3
    have pr0:∀ i,dX s1.heap (its.getD i (its.headD .none)) (bW m i):=fun i=>by
     by_cases hi:i<2 ^ m
     ·exact pr i hi
     ·have h0:=pr 0 (by omega)
      have a1:its.getD i (its.headD .none)=its.getD 0 (its.headD .none):=by
       have hne:its[i]?=none:=List.getElem?_eq_none (by omega)
       cases its with
       | nil=>rfl
       | cons a as=>simp [List.getD,hne]
      have a2:bW m i=bW m 0:=by
       have b1:bW m i=(0,[]):=by
        unfold bW
        simp [List.getD,List.getElem?_eq_none (show(prsL m).length≤i by rw[g1];omega)]
       have b2:bW m 0=(0,[]):=by
        unfold bW
        rw[← g6]
        cases prsL m<;>rfl
       rw[b1,b2]
      rw[a1,a2];exact h0
    have hal:∀ i∈(resP m).toList,i<2 ^ m:=fun i hi=>by simpa using List.all_eq_true.mp g5 i hi
    refine JY (κ:=PyProof.Rows.tuples' true) (out:=(resP m).map fun i=>its.getD i (its.headD .none)) p1.isList (by omega) (by omega) (by simp;omega) (fun s' kp=>⟨fun Q' hq=>?_,?_⟩) fun D ep h' hD ho kp=>?_
    ·obtain⟨fs,t1,t2,t3⟩:=zH (h:=s'.heap) (its:=its) fun u hu=>by
      obtain⟨i,hi,rfl⟩:=List.getElem_of_mem hu
      have:=(pr i (by omega)).keep kp
      have e:its.getD i (its.headD .none)=its[i]:=by simp [List.getD,hi]
      rw[e] at this
      exact⟨_,this⟩
     exact PySem.W.kat_kind (T:=.type "int") t1 (by omega) (fun v hv=>by obtain⟨n,t,rfl⟩:=t3 v hv;exact .now) (by decide) hq
    ·have O:Orc X.prog X.w X.A.in1.in1 s' (PyProof.Rows.tuples' true) (fun i=>(its.getD i (its.headD .none),its.getD i (its.headD .none))) (bOf m):=fun i j E C hC =>
      G3 ((pr0 i).keep kp) ((pr0 j).keep kp) (by show X.A.units+1+1<cLine;omega) hC
     have hst:PyProof.Rows.SortSt.mk' (PyProof.Rows.tuples' true) (PyProof.Rows.pairsOf its) #[] 7 none=stOf (PyProof.Rows.tuples' true) (fun i=>(its.getD i (its.headD .none),its.getD i (its.headD .none))) (Array.range (2 ^ m)) #[]:=by
      unfold stOf
      congr 1
      apply Array.ext
      ·rw[PyProof.Rows.pairsOf_size];simp [lits]
      ·intro i h1 h2
       have hi:i<its.length:=by rw[PyProof.Rows.pairsOf_size] at h1;exact h1
       simp [PyProof.Rows.pairsOf,List.getD,hi]
     rw[hst]
     refine PyProof.Rows.wpS_mono (IC hm6 O) fun _ st' ⟨a1,a2⟩=>⟨?_,a2⟩
     rw[a1,Array.map_map];rfl
    ·have hv:Vals ((resP m).toList.map fun i=>ws.getD i (ws.headD .non)) ((resP m).toList.map fun i=>its.getD i (its.headD .none)):=zM _ fun i hi=>by
      obtain⟨v,u,h1,h2,h3,h4⟩:=at_ i (hal i hi)
      simp only[List.getD,h1,h2,Option.getD_some]
      exact h3
     have hr:RepL z.K Hq1 ((resP m).toList.map (bW m) |>.map toP) ((resP m).toList.map fun i=>ws.getD i (ws.headD .non)):=by
      rw[List.map_map,hK]
      refine yQ _ fun i hi=>?_
      obtain⟨v,u,h1,h2,h3,h4⟩:=at_ i (hal i hi)
      simp only[List.getD,h1,Option.getD_some]
      exact h4
     have hH:H1 D=none:=I1.hok.fresh hD
     refine⟨.ref D,upd H1 D (.lst ((resP m).toList.map fun i=>ws.getD i (ws.headD .non))),I1.laid (t':=s1.toks) kp hD ⟨?_,_,ep,hv,?_⟩,rfl,k D _ Hq1 H1 x1 hH hr⟩
     ·rw[List.length_map,Array.length_toList,g4,sizeLine_eq];omega
     ·rw[ho]
      congr 1
      show PyProof.Rows.seqObj "list" _ ep=_
      unfold PyProof.Rows.seqObj
      congr 1
      congr 1
      apply Array.toList_inj.mp
      simp
 ·cases e
end
end TL
namespace TL
open PySem L2 SR
def ni {α:Type}(xs:List α)(lo hi st:Option Int):List α :=
 (sliceRange (sliceBounds lo hi st xs.length).1 (sliceBounds lo hi st xs.length).2.1 (sliceBounds lo hi st xs.length).2.2).filterMap (xs[·]?)
def wO (f:FE)(lo hi st:FO):FA:=fun ρ=>match f ρ with
 | some (.lst ts)=>(match lo ρ with
   | some l=>(match hi ρ with
     | some h=>(match st ρ with
       | some (some k)=>if k≠0∧(ni ts l h (some k)).length≤sizeLine then some (ni ts l h (some k)) else none
       | _=>none)
     | none=>none)
   | none=>none)
 | _=>none
section
variable {X:Cx}{z:Z}{e:Expr}{f:FE}{p pos:Pos}
def srt (ks:List Nat):List Nat:=ks.mergeSort fun a b=>decide (a≤b)
def wQ (f:FE):FA:=fun ρ=>match f ρ with
 | some (.lst ts)=>(match unR ts with|some ks=>if ks.length<64 then some ((srt ks).map fun(i:Nat)=>T.int (i:Int)) else none|none=>none)
 | _=>none
end
end TL
namespace TL
open PySem L2 SR
section
variable {X:Cx}{z:Z}{F G:FS}{e:Expr}{f g:FE}{fa:FA}{pos:Pos}
theorem oG {k l:List Nat}(h:aB k=aB l):k=l:=List.map_inj_right (f:=fun(n:Nat)=>(n:Int)) (fun x y z=>by omega) |>.mp h
end
end TL
namespace TL
open PySem L2 SR
def bmVE:List Value:=[.type "ValueError",.type "Exception",.type "BaseException",.type "object"]
def xo:Value→Bool
 | .str _ _=>true
 | _=>false
def nsB (K:PySem.W.Frag)(N:Addr):Bool:=match K.lookup N with
 | some ⟨_,_,.dict es _,_⟩=>es.toList.all (fun e=>xo e.key)&&(nsFind es "__init__").isNone
 | _=>false
def k9 (K:PySem.W.Frag):List Value→Bool
 | .ref A::tl=>(match K.lookup A with|some ⟨_,_,.cls cd,_⟩=>nsB K cd.ns|_=>false)&&k9 K tl
 | l=>l==bmVE
def excB (K:PySem.W.Frag)(C:Addr):Bool:=match K.lookup C with
 | some ⟨.type "type",_,.cls cd,sl⟩=>(match cd.mro,sl.toList with
   | .ref C'::bm,[_,_,_,_,some (.builtin n),_]=>C'==C&&!cd.hasDel&&n=="ValueError.__new__"&&nsB K cd.ns&&k9 K bm
   | _,_=>false)
 | _=>false
theorem yf {K:PySem.W.Frag}{N:Addr}(q:nsB K N=true):∃ mN:Str→Option Value,mN "__init__"=none∧∀ h:Heap,K.In h→h.Ns N mN:=by
 unfold nsB at q
 split at q
 ·rename_i c d es ep sl ho
  rw[Bool.and_eq_true] at q
  refine⟨nsFind es,by simpa using q.2,fun h X=>⟨_,es,ep,X _ _ ho,rfl,fun e he=>?_,fun _=>rfl⟩⟩
  have:=List.all_eq_true.mp q.1 e (by simpa using he)
  unfold xo at this
  split at this
  ·rename_i n t ek;exact⟨n,t,ek⟩
  ·cases this
 ·cases q
theorem zC {K:PySem.W.Frag}{h:Heap}(X:K.In h):∀{tl:List Value},k9 K tl=true→OwnTail h bmVE tl
 | [],q=>by simp [k9,bmVE] at q
 | v::tl,q=>by
   unfold k9 at q
   split at q
   ·rename_i A tl' e
    injection e with e1 e2
    subst e1 e2
    rw[Bool.and_eq_true] at q
    have q1:=q.1
    split at q1
    ·rename_i c d cd sl ho
     obtain⟨mN,h2,h1⟩:=yf q1
     exact .own (X _ _ ho) (h1 h X) h2 (zC X q.2)
    ·cases q1
   ·have:v::tl=bmVE:=eq_of_beq q
    rw[this];exact .base
theorem CJ {K:PySem.W.Frag}{C:Addr}(q:excB K C=true):∃ bm N nm qn bs hdct sn sub ab col dd k0 k1 k2 k3 k5,∃ mN:Str→Option Value,mN "__init__"=none∧∀ h:Heap,K.In h →
  h.get? C=some (excClassObj nm qn C N bs bm hdct sn sub ab col dd k0 k1 k2 k3 k5 "ValueError.__new__")∧h.Ns N mN∧OwnTail h bmVE bm:=by
 unfold excB at q
 split at q
 ·rename_i dd cd sl ho
  split at q
  ·rename_i C' bm k0 k1 k2 k3 n k5 hm hs
   simp only[Bool.and_eq_true,beq_iff_eq,Bool.not_eq_true'] at q
   obtain⟨⟨⟨⟨rfl,hdel⟩,hn⟩,hns⟩,ht⟩:=q
   obtain⟨nm,bs,mro,ns,qn,hd,sn,sub,ab,col,del⟩:=cd
   dsimp only at hm hdel hns
   subst hm hdel hn
   have hsl:sl=#[k0,k1,k2,k3,some (.builtin "ValueError.__new__"),k5]:=by
    obtain⟨l⟩:=sl
    simp only at hs
    rw[hs]
   subst hsl
   obtain⟨mN,h2,h1⟩:=yf hns
   exact⟨bm,ns,nm,qn,bs,hd,sn,sub,ab,col,dd,k0,k1,k2,k3,k5,mN,h2,fun h X=>⟨X _ _ ho,h1 h X,zC X ht⟩⟩
  ·cases q
 ·cases q
section
variable {X:Cx}{pins:List (Addr×Obj)}{σ:L2.St}{H:Hp}{s:Shared}
theorem wp_raise {x msg:Str}{C:Addr}{np cpos pos p:Pos}{j:Nat}{Q:Flow→Shared→Prop}(I:Inv X pins σ H s)(hc:X.calm=true)(hg:Gl X x)(hm:X.mg x=some (.ref C)) (hx:excB X.K C=true)(hd:(x==("__debug__":Str))=false)
  (h:∀ s2 h' e v,Inv X pins σ H s2→Heap.MadeExcOf s2.heap h' e (.ref C) [v]→X.xe (.ref e) {s2 with heap:=h'}) :
  wpAny (model X.prog X.w) X.A (exec (.Raise (some (.Call (.Name x np) [.Constant (.str msg) j p] [] cpos)) none pos) X.env) Q X.xe s:=by
 obtain⟨bm,N,nm,qn,bs,hdct,sn,sub,ab,col,dd,k0,k1,k2,k3,k5,mN,hni,all⟩:=CJ hx
 refine wpAny_Raise_call_subT (C:=C) (nm:=nm) (q:=qn) (N:=N) (bs:=bs) (bm:=bm) (hdct:=hdct) (sn:=sn) (sub:=sub) (ab:=ab) (col:=col) (dd:=dd) (k0:=k0) (k1:=k1) (k2:=k2) (k3:=k3) (k5:=k5)
  PySem.F.excBase_ValueError (mN:=mN) ((all s.heap I.kIn).2.2.hasType PySem.F.excBase_ValueError.hasBase) (I.ok.hd hc) rfl hni ?_
 refine thn (yv (pos:=np) (v:=.ref C) hg hm rfl hd pins s σ H (fun v H1=>v=.ref C∧H1=H) I ⟨rfl,rfl⟩) fun u s1 ⟨v,H1,I1,r1,ev,eh⟩=>?_
 subst ev eh
 refine⟨r1,?_⟩
 refine Calls.evalArgs_plain (Calls.spliced_cons (thn (yy (X:=X) (x:=msg) (j:=j) (pos:=p) pins s1 σ H1 (fun v H2=>H2=H1) I1 rfl) fun u2 s2 ⟨v2,H2,I2,r2,eh2⟩=>Calls.spliced_nil ?_))
 subst eh2
 obtain⟨c1,c2,c3⟩:=all s2.heap I2.kIn
 exact⟨rfl,by rw[sizeLine_eq];simp,c1,c2,c3,fun h' e me=>h s2 h' e u2 I2 me⟩
structure Chg (S:List Addr)(N:Addr→Prop)(h h':Heap):Prop where
 keep:∀ b o,h.get? b=some o→¬ N b→b∉S→h'.get? b=some o
 slot:∀ b o,h.get? b=some o→b∈S→¬ N b→∃ sl,h'.get? b=some {o with slots:=sl}
theorem Chg.trans {S:List Addr}{N:Addr→Prop}{h1 h2 h3:Heap}(x:Chg S N h1 h2)(y:Chg S N h2 h3):Chg S N h1 h3 :=
 ⟨fun b o e n hb=>y.keep b o (x.keep b o e n hb) n hb,fun b o e hb n=>by
  obtain⟨_,e1⟩:=x.slot b o e hb n
  obtain⟨sl,e2⟩:=y.slot b _ e1 hb n
  exact⟨sl,e2⟩⟩
theorem Chg.there {S:List Addr}{N:Addr→Prop}{h1 h2:Heap}(x:Chg S N h1 h2){b:Addr}{o:Obj}(e:h1.get? b=some o)(n:¬ N b):∃ sl,h2.get? b=some {o with slots:=sl}:=by
 by_cases hb:b∈S
 ·exact x.slot b o e hb n
 ·exact⟨o.slots,x.keep b o e n hb⟩
def Flt (N:Addr→Prop)(ea C:Addr)(fl:Value)(h:Heap):Prop:=N ea∧∃ oe vs T oT ts,h.get? ea=some oe∧(oe.cls=.ref C∧oe.dict=none)∧oe.data=.fields vs∧vs[1]?=some (.ref T)∧vs[2]?=some .none∧T≠ea∧N T∧h.get? T=some oT∧oT.data=.fields ts∧ts[3]?=some fl
theorem Cp (f:Array Value→Array Value):∀ o:Obj,(Obj.mapFields f o).dict=o.dict
 | ⟨c,d,dt,sl⟩=>by cases dt<;>rfl
theorem zT {M:Model}{A:Around}{E':Value→Shared→Prop}{base:Heap}{env:Env}{outer:List Env}{N:Addr→Prop}{L ea C:Addr}{oe:Obj}{vs:Array Value}{hd:Value}{hn:Bool}{Q:Unit→Shared→Prop}
  (fr:A.frames=some (env::outer)) (fl:s.heap.FunFrames base (env::outer)) (ef:env.frame=some L)(hN:∀ b,s.heap.get? b=none→N b)(ne:N ea)(he:s.heap.get? ea=some oe)(hc:oe.cls=.ref C∧oe.dict=none)(hv:oe.data=.fields vs)(h1:1<vs.size)(h2:vs[2]?=some .none)
  (q:∀ h',Flt N ea C (rawInt L) h'→Chg (frs (env::outer)) N s.heap h'→Q () {s with heap:=h'}) :
  wpAny M A (do let a ← frameOf env;let pl ← entryPlaceOf L hn;let b ← EntryCells.newEntry hd a .none (rawInt L) .none pl;setField (.ref ea) 1 b) Q E' s:=by
 refine wpAny_bind (wpAny_frameOf_fun fr fl ef fun k so=>?_)
 refine wpAny_bind (wpAny_entryPlaceOf fun pl hpl=>?_)
 unfold EntryCells.newEntry newFields
 refine wpAny_bind (wpAny_newObj_type ?_ (hpl.sizeOk5 _ _ _ _ _))
 have nf:ea∉frs (env::outer):=fun z=>by
  obtain⟨_,o,e1,e2⟩:=fl.mem z
  rw[he] at e1
  cases e1
  exact e2 _ hv
 have k1:k.get? ea=some oe:=(so.2.1 ea nf).trans he
 have nT:k.objs.size≠ea:=Nat.ne_of_gt (Heap.lt_size k1)
 generalize hob:({cls:=.type "traceback",dict:=none,data:=.fields ([hd,.ref L,.none,rawInt L,.none]++(if pl.isEmpty then List.replicate 6 Value.none else pl)).toArray}:Obj)=ob
 refine wpAny_setField (o:=oe) (Heap.get?_push_of_some _ k1) hv h1 (q _ ?_ ?_)
 ·have d3:=Obj.data_mapFields hv (·.setIfInBounds 1 (Value.ref k.objs.size))
  refine⟨ne,_,_,k.objs.size,ob,([hd,.ref L,.none,rawInt L,.none]++(if pl.isEmpty then List.replicate 6 Value.none else pl)).toArray,Heap.get?_update_self _ (Heap.get?_push_of_some _ k1) (Obj.isFreed_of_fields d3),⟨(Obj.cls_mapFields _ _).trans hc.1,(Cp _ _).trans hc.2⟩,d3,by simp [h1],?_,nT,hN _ ?_,?_,by rw[← hob],?_⟩
  ·rw[Array.getElem?_setIfInBounds_ne (by decide)];exact h2
  ·rw[show k.objs.size=s.heap.objs.size from so.1];exact Heap.get?_none_of_le (Nat.le_refl _)
  ·rw[Heap.get?_update_other _ _ (Ne.symm nT),← hob];exact Heap.get?_push_size _ rfl
  ·first|(simp;done)|(rcases hpl with rfl|⟨_,_,_,_,_,_,_,rfl⟩<;>simp)
 ·refine⟨fun b o e n hb=>?_,fun b o e hb n=>?_⟩
  ·rw[Heap.get?_update_other _ _ (fun z:ea=b=>n (z▸ne))]
   exact Heap.get?_push_of_some _ ((so.2.1 b hb).trans e)
  ·obtain⟨sl,e1⟩:=so.2.2 b o e
   refine⟨sl,?_⟩
   rw[Heap.get?_update_other _ _ (fun z:ea=b=>n (z▸ne))]
   exact Heap.get?_push_of_some _ e1
theorem nV {M:Model}{A:Around}{E':Value→Shared→Prop}{S:List Addr}{N:Addr→Prop}{ea C:Addr}{fl:Value}{Q:Unit→Shared→Prop}(f:Flt N ea C fl s.heap)(q:∀ h',Flt N ea C .none h'→Chg S N s.heap h'→Q () {s with heap:=h'}) :
  wpAny M A (setFlight (.ref ea) none) Q E' s:=by
 obtain⟨ne,oe,vs,T,oT,ts,e1,e2,e3,e4,e5,e6,e7,e8,e9,e10⟩:=f
 have sz:3<ts.size:=(Array.getElem?_eq_some_iff.mp e10).1
 unfold setFlight
 refine wpAny_bind (wpAny_field e1 e3 e4 ?_)
 rw[if_pos (show(Value.ref T != Value.none)=true by simp)]
 have d:=Obj.data_mapFields e9 (·.setIfInBounds 3 ((none:Option Addr).elim Value.none fun f=>rawInt f))
 refine wpAny_setField e8 e9 sz (q _ ⟨ne,oe,vs,T,_,_,?_,e2,e3,e4,e5,e6,e7,Heap.get?_update_self _ e8 (Obj.isFreed_of_fields d),d,by simp [sz]⟩ ⟨fun b o e n _=>?_,fun b o e _ n=>⟨o.slots,?_⟩⟩)
 ·rw[Heap.get?_update_other _ _ e6];exact e1
 ·rw[Heap.get?_update_other _ _ (fun z:T=b=>n (z▸e7))];exact e
 ·rw[Heap.get?_update_other _ _ (fun z:T=b=>n (z▸e7))];exact e
theorem zS {M:Model}{A:Around}{E':Value→Shared→Prop}{base:Heap}{env:Env}{outer:List Env}{N:Addr→Prop}{L ea C:Addr}{Q:Unit→Shared→Prop}
  (fr:A.frames=some (env::outer)) (fl:s.heap.FunFrames base (env::outer)) (ef:env.frame=some L)(hN:∀ b,s.heap.get? b=none→N b)(f:Flt N ea C .none s.heap)
  (q:∀ h',Flt N ea C (rawInt L) h'→Chg (frs (env::outer)) N s.heap h'→Q () {s with heap:=h'}):wpAny M A (noteFrame (.ref ea) env) Q E' s:=by
 obtain⟨ne,oe,vs,T,oT,ts,e1,e2,e3,e4,e5,e6,e7,e8,e9,e10⟩:=f
 have sz:3<ts.size:=(Array.getElem?_eq_some_iff.mp e10).1
 unfold noteFrame
 simp only[ef]
 refine wpAny_bind (wpAny_field e1 e3 e4 ?_)
 rw[if_pos (show(Value.ref T != Value.none)=true by simp)]
 refine wpAny_bind (wpAny_field e8 e9 e10 ?_)
 rw[if_neg (show ¬((Value.none==rawInt L)=true) by simp [rawInt])]
 refine wpAny_bind (wpAny_setField e8 e9 sz ?_)
 have oth:∀ b,b≠T→(s.heap.update T (Obj.mapFields (·.setIfInBounds 3 Value.none))).get? b=s.heap.get? b:=fun b hb=>Heap.get?_update_other _ _ (Ne.symm hb)
 refine zT (base:=base) fr (fl.of_keeps fun b o e n=>⟨o,(oth b fun z=>?_).trans e,rfl⟩) ef (fun b e=>?_) ne ((oth ea (Ne.symm e6)).trans e1) e2 e3 (Array.getElem?_eq_some_iff.mp e4).1 e5 fun h' f' c'=>q h' f' ⟨fun b o e n hb=>c'.keep b o ((oth b fun z=>n (z▸e7)).trans e) n hb,fun b o e hb n=>c'.slot b o ((oth b fun z=>n (z▸e7)).trans e) hb n⟩
 ·rw[z,e8] at e;cases e;exact n _ e9
 ·by_cases z:b=T
  ·rw[z];exact e7
  ·exact hN b (by rw[← oth b z];exact e)
def CX1 (P:Program)(w:World):CXT:=fun outer H s E e s'=>∃(ea C:Addr)(H':Hp),e=.ref ea∧s'.os=s.os∧PyProof.Rows.AllBare s'.gens∧Un (frs outer) [] H H' s.heap s'.heap∧HOk P w H' s'.heap ∧
 Flt (fun b=>s.heap.get? b=none∧H' b=none) ea C .none s'.heap∧E (.ref ea) (some C) H'
theorem n9 {P:Program}{w:World}{H:Hp}{h:Heap}{a:Addr}:∀{o:HO},bE P w H h a o→∃ u,h.get? a=some u
 | .lst _,⟨_,_,_,_,e⟩=>⟨_,e⟩
 | .tup _,⟨_,_,_,_,e,_⟩=>⟨_,e⟩
 | .dK _,⟨_,_,_,_,_,_,_,e,_⟩=>⟨_,e⟩
 | .dT _,⟨_,_,_,_,_,_,_,e,_⟩=>⟨_,e⟩
 | .set _ _,⟨_,_,_,_,e,_⟩=>⟨_,e⟩
 | .ins _ _ _,⟨_,_,_,e,_⟩=>⟨_,e⟩
 | .own _,⟨_,e⟩=>⟨_,e⟩
 | .xd _,⟨_,⟨_,_,_,e,_⟩,_⟩=>⟨_,e⟩
 | .met _ _,x=>⟨_,(show h.get? a=some _ from x)⟩
 | .rng _ _,⟨_,_,_,e⟩=>⟨_,e⟩
 | .frz _ _,⟨e,_⟩=>⟨_,e⟩
 | .tbl _,x=>⟨_,(show h.get? a=some _ from x)⟩
 | .ext _,⟨_,⟨_,e⟩,_⟩=>⟨_,e⟩
theorem Ly {h':Heap}{e C:Addr}{vs:List Value}{E:XK}{M:Model}{E':Value→Shared→Prop}(I:Inv X pins σ H s)(hst:X.stack=X.env::X.outer)(hf:X.env.frame=some X.env.locals)(hex:X.ex=[])(hx:Heap.MadeExcOf s.heap h' e (.ref C) vs) (hE:E (.ref e) (some C) H) :
  wpAny M X.A (leaving X.env (.ref e)) (fun _ s''=>CX1 X.prog X.w X.outer X.H₀ X.s₀ E (.ref e) s'') E' {s with heap:=h'}:=by
 have nex:∀ b,b∉X.ex:=fun b=>by rw[hex];simp
 have frm:X.A.frames=some (X.env::X.outer):=by rw[I.ok.frames,hst]
 have stk:=I.stack
 rw[hst] at stk
 have nw:∀ b,s.heap.get? b=none→X.s₀.heap.get? b=none∧H b=none:=fun b hb=>by
  constructor
  ·cases q:X.s₀.heap.get? b with
   | none=>rfl
   | some u =>
     obtain⟨v,hv⟩:=I.base.there b u q (nex b)
     rw[hb] at hv;cases hv
  ·cases q:H b with
   | none=>rfl
   | some u =>
     obtain⟨v,hv⟩:=n9 (I.hok b u q)
     rw[hb] at hv;cases hv
 obtain⟨t,et,_⟩:=hx.there
 unfold leaving noteFrame
 simp only[hf]
 refine wpAny_bind (wpAny_bind (wpAny_field et rfl (x:=.none) rfl ?_))
 rw[if_neg (by decide)]
 refine zT (base:=X.base) (N:=fun b=>X.s₀.heap.get? b=none∧H b=none) (C:=C) frm (stk.of_keeps fun b o q _=>⟨o,hx.keeps b o q,rfl⟩) hf (fun b q=>nw b ?_) (nw e hx.new) et ⟨rfl,rfl⟩ rfl (by simp) rfl fun h1 f1 c1=>?_
 ·cases z:s.heap.get? b with
  | none=>rfl
  | some u=>rw[show h'.get? b=some u from hx.keeps b u z] at q;cases q
 refine nV (S:=frs (X.env::X.outer)) f1 fun h2 f2 c2=>?_
 have c3:Chg (frs (X.env::X.outer)) (fun b=>X.s₀.heap.get? b=none∧H b=none) h' h2:=c1.trans c2
 have old:∀ b o,X.s₀.heap.get? b=some o→¬(X.s₀.heap.get? b=none∧H b=none):=fun b o q z=>by rw[q] at z;cases z.1
 have trk:∀ b,H b≠none→b∉frs (X.env::X.outer):=fun b hb hm=>hb (I.nJ b (by rw[hst];exact hm))
 have hsub:∀ b o,X.s₀.heap.get? b=some o→b∉X.fs→b∉frs (X.env::X.outer):=fun b o q hb hm=>by
  obtain⟨env,he,hfr⟩:=List.mem_filterMap.mp hm
  rcases List.mem_cons.mp he with rfl|he
  ·rw[hf] at hfr
   have hlt:=Heap.lt_size q
   rw[← Option.some.inj hfr] at hlt
   exact absurd (Nat.lt_of_lt_of_le hlt I.ok.above) (Nat.lt_irrefl _)
  ·exact hb (List.mem_filterMap.mpr ⟨env,he,hfr⟩)
 refine⟨e,C,H,rfl,I.os,I.bare,⟨fun b o q n hb _=>?_,fun b o q n hb _=>?_,fun b o q n _=>I.base.free b o q n (nex b),fun b o q _=>?_,I.base.tups,I.base.frzs,I.base.tbls⟩,?_,f2,hE⟩
 ·exact c3.keep b o (hx.keeps b o (I.base.keep b o q n hb (nex b))) (old b o q) (hsub b o q hb)
 ·obtain⟨sl,e1⟩:=I.base.slot b o q n hb (nex b)
  obtain⟨sl',e2⟩:=c3.there (hx.keeps b _ e1) (old b o q)
  exact⟨sl',e2⟩
 ·obtain⟨o',e1⟩:=I.base.there b o q (nex b)
  obtain⟨sl,e2⟩:=c3.there (hx.keeps b _ e1) (old b o q)
  exact⟨_,e2⟩
 ·intro a u ha
  refine(I.hok a u ha).stay (fun b v hb q=>?_) (fun _ q=>q) (fun _ _ q=>q)
  have hn:H b≠none:=by
   rcases hb with rfl|hb
   ·rw[ha];simp
   ·rw[hb];simp
  exact c3.keep b v (hx.keeps b v q) (fun z=>hn z.2) (trk b hn)
theorem mL {s':Shared}{H':Hp}{h5:Heap}(I:Inv X pins σ H s)(os:s'.os=s.os)(bare:PyProof.Rows.AllBare s'.gens)(un:Un (frs X.stack) [] H H' s.heap s'.heap) (hok:HOk X.prog X.w H' s'.heap)
  (c:Chg (frs X.stack) (fun b=>s.heap.get? b=none∧H' b=none) s'.heap h5):Inv X pins σ H' {s' with heap:=h5}:=by
 have noE:∀ b:Addr,b∉([]:List Addr):=fun b=>by simp
 have fr0:∀ b∈frs X.stack,∃ o,s.heap.get? b=some o∧∀ vs,o.data≠.fields vs:=fun b hb=>(I.stack.mem hb).2
 have old:∀ b o,s.heap.get? b=some o→¬(s.heap.get? b=none∧H' b=none):=fun b o q z=>by rw[q] at z;cases z.1
 have trk:∀ b,H' b≠none→b∉frs X.stack:=fun b hb hm=>by
  obtain⟨o,ho,_⟩:=fr0 b hm
  exact hb (un.free b o ho (I.nJ b hm) (noE b))
 refine I.call' os ⟨fun b o q n hb _=>?_,fun b o q n hb _=>?_,un.free,fun b o q _=>?_,un.tups,un.frzs,un.tbls⟩ ?_ bare (fun b z=>absurd z (noE b))
 ·exact c.keep b o (un.keep b o q n hb (noE b)) (old b o q) hb
 ·obtain⟨sl,e1⟩:=un.slot b o q n hb (noE b)
  obtain⟨sl',e2⟩:=c.there e1 (old b o q)
  exact⟨sl',e2⟩
 ·obtain⟨o',e1⟩:=un.there b o q (noE b)
  obtain⟨sl,e2⟩:=c.there e1 (old b o q)
  exact⟨_,e2⟩
 ·intro a u ha
  refine(hok a u ha).stay (fun b v hb q=>?_) (fun _ q=>q) (fun _ _ q=>q)
  have hn:H' b≠none:=by
   rcases hb with rfl|hb
   ·rw[ha];simp
   ·rw[hb];simp
  exact c.keep b v q (fun z=>hn z.2) (trk b hn)
abbrev xT (X:Cx)(ea:Addr)(E:Value→Shared→Prop):Cx:={X with A:=X.A.mark (some (.ref ea)),calm:=false,xe:=E}
theorem FL {ea:Addr}{E:Value→Shared→Prop}(I:Inv X pins σ H s):Inv (xT X ea E) pins σ H s :=
 ⟨⟨I.ok.mod,I.ok.kind,I.ok.glob,I.ok.blt,I.ok.above,I.ok.inj,I.ok.has,I.ok.cab,(fun z=>nomatch z),I.ok.frames,I.ok.stk,I.ok.exf,I.ok.bs,I.ok.bsz,I.ok.noex,I.ok.exfs,I.ok.funs,I.ok.frf⟩,I.os,I.bare,I.base,I.loc,I.cell,I.free,I.bK,I.pin,I.hok,I.len⟩
abbrev cX (X:Cx)(ea:Addr)(oe:Obj)(E:Value→Shared→Prop):Cx:={X with A:=X.A.mark (some (.ref ea)),calm:=false,xe:=E,H₀:=upd X.H₀ ea (.frz oe (.own ea))}
theorem Kl {ea:Addr}{oe:Obj}{E:Value→Shared→Prop}(I:Inv X pins σ H s)(n0:X.s₀.heap.get? ea=none)(he:H ea=some (.frz oe (.own ea))):Inv (cX X ea oe E) pins σ H s:=by
 have ne:∀ b o,X.s₀.heap.get? b=some o→b≠ea:=fun b o q z=>by rw[z,n0] at q;cases q
 have up:∀ b,b≠ea→(cX X ea oe E).H₀ b=X.H₀ b:=fun b z=>ak z
 have us:(cX X ea oe E).H₀ ea=some (.frz oe (.own ea)):=bR
 refine⟨⟨I.ok.mod,I.ok.kind,I.ok.glob,I.ok.blt,I.ok.above,I.ok.inj,I.ok.has,I.ok.cab,(fun z=>nomatch z),I.ok.frames,I.ok.stk,I.ok.exf,fun b o q=>⟨(I.ok.bs b o q).1,?_⟩,I.ok.bsz,I.ok.noex,I.ok.exfs,I.ok.funs,fun b hb=>?_⟩,I.os,I.bare,⟨fun b o q n=>I.base.keep b o q ((up b (ne b o q)).symm.trans n),fun b o q n=>I.base.slot b o q ((up b (ne b o q)).symm.trans n),fun b o q n=>I.base.free b o q ((up b (ne b o q)).symm.trans n),I.base.there,fun b xs q=>?_,fun b o u q=>?_,fun b ps q=>?_⟩,I.loc,I.cell,I.free,I.bK,I.pin,I.hok,I.len⟩
 ·exact(up b (ne b o (I.ok.bs b o q).1)).trans (I.ok.bs b o q).2
 ·obtain⟨_,o,q,_⟩:=I.ok.funs.mem hb
  exact(up b (ne b o q)).trans (I.ok.frf b hb)
 ·by_cases z:b=ea
  ·rw[z,us] at q;cases q
  ·exact I.base.tups b xs ((up b z).symm.trans q)
 ·by_cases z:b=ea
  ·rw[z,us] at q;cases q;rw[z];exact he
  ·exact I.base.frzs b o u ((up b z).symm.trans q)
 ·by_cases z:b=ea
  ·rw[z,us] at q;cases q
  ·exact I.base.tbls b ps ((up b z).symm.trans q)
theorem nS {ea:Addr}{oe:Obj}{E:Value→Shared→Prop}{HC:List (Addr×Obj)}{σ0:L2.St}{H0:Hp}{s0:Shared}(I0:Inv X HC σ0 H0 s0)(n0:X.s₀.heap.get? ea=none)(h0:H0 ea=none)(I:Inv (cX X ea oe E) pins σ H s):Inv X pins σ H s:=by
 have ne:∀ b o,X.s₀.heap.get? b=some o→b≠ea:=fun b o q z=>by rw[z,n0] at q;cases q
 have up:∀ b,b≠ea→(cX X ea oe E).H₀ b=X.H₀ b:=fun b z=>ak z
 refine⟨I0.ok,I.os,I.bare,⟨fun b o q n=>I.base.keep b o q (by rw[up b (ne b o q)];exact n),fun b o q n=>I.base.slot b o q (by rw[up b (ne b o q)];exact n),fun b o q n=>I.base.free b o q (by rw[up b (ne b o q)];exact n),I.base.there,fun b xs q=>I.base.tups b xs ((up b ?_).trans q),fun b o u q=>I.base.frzs b o u ((up b ?_).trans q),fun b ps q=>I.base.tbls b ps ((up b ?_).trans q)⟩,I.loc,I.cell,I.free,I.bK,I.pin,I.hok,I.len⟩
 ·rintro rfl;rw[I0.base.tups _ _ q] at h0;cases h0
 ·rintro rfl;rw[I0.base.frzs _ _ _ q] at h0;cases h0
 ·rintro rfl;obtain⟨m,e⟩:=I0.base.tbls _ _ q;rw[e] at h0;cases h0
def c6 (X:Cx)(pins:List (Addr×Obj)) (kx:Addr→L2.St→Hp→Prop):Prop :=
 ∀(σ:L2.St)(H:Hp)(s:Shared)(C:Addr)(e:Value)(s':Shared),Inv X pins σ H s→CX1 X.prog X.w X.stack H s (fun _ c H'=>c=some C∧kx C σ H') e s'→X.xe e s'
inductive OutX where
 | ok (o:Out)|xc (ρ:Rho) (c:Str)
abbrev FX:=Rho→Option OutX
def FinX (z:Z)(kx:Addr→L2.St→Hp→Prop)(Hq:Hp)(D:Ends):OutX→Prop
 | .ok o=>Fin z Hq D o
 | .xc ρ' c=>∀ σ' Hq' H',Rn z σ' ρ' Hq' H'→Same Hq Hq'→kx (clsAt z.K c) σ' H'
def tX (z:Z)(F:FX)(kx:Addr→L2.St→Hp→Prop):TS:=fun D σ H=>∃ ρ Hq o,Rn z σ ρ Hq H∧F ρ=some o∧FinX z kx Hq D o
def XV (X:Cx)(pins:List (Addr×Obj)) (kx:Addr→L2.St→Hp→Prop)(z:Z)(st:Stmt)(F:FX):Prop:=∀ s σ H D,Inv X pins σ H s→tX z F kx D σ H→wpAny (model X.prog X.w) X.A (exec st X.env) (SP X pins D) X.xe s
def XVs (X:Cx)(pins:List (Addr×Obj)) (kx:Addr→L2.St→Hp→Prop)(z:Z)(st:List Stmt)(F:FX):Prop:=∀ s σ H D,Inv X pins σ H s→tX z F kx D σ H→wpAny (model X.prog X.w) X.A (execs st X.env) (SP X pins D) X.xe s
theorem x_one {z:Z}{kx:Addr→L2.St→Hp→Prop}{st:Stmt}{F:FX}(h:XV X pins kx z st F):XVs X pins kx z [st] F:=by
 intro s σ H D I q
 refine wpAny_execs_cons (thn (h s σ H D I q) fun f s1 q=>?_)
 cases f with
 | next=>exact wpAny_execs_nil q
 | ret v=>exact q
 | brk=>exact q
 | cont=>exact q
def xIf (ft:FT)(F G:FX):FX:=fun ρ=>match ft ρ with|some true=>F ρ|some false=>G ρ|none=>none
theorem x_if {z:Z}{kx:Addr→L2.St→Hp→Prop}{c:Expr}{a b:List Stmt}{ft:FT}{F G:FX}{pos:Pos}(hc:ET X z c ft)(ha:XVs X pins kx z a F)(hb:XVs X pins kx z b G):XV X pins kx z (.If c a b pos) (xIf ft F G):=by
 intro s σ H D I ⟨ρ,Hq,o,r,ef,k⟩
 have kf:∀ Hq1,Same Hq Hq1→FinX z kx Hq1 D o:=fun Hq1 sm=>by
  cases o with
  | ok o=>exact Fin.from k sm
  | xc ρ' C=>exact fun σ' Hq' H' r' sm'=>k σ' Hq' H' r' (sm.trans sm')
 unfold xIf at ef
 split at ef
 ·rename_i q
  refine wpAny_If (thn (hc pins s σ H (fun b H1=>b=true∧∃ Hq1,Ex Hq H Hq1 H1) I ⟨ρ,Hq,true,r,q,fun Hq1 H1 x1=>⟨rfl,Hq1,x1⟩⟩) fun d s1 ⟨H1,I1,ed,Hq1,x1⟩=>?_)
  subst ed
  exact ha s1 σ H1 D I1 ⟨ρ,Hq1,o,r.ext x1,ef,kf Hq1 x1.q⟩
 ·rename_i q
  refine wpAny_If (thn (hc pins s σ H (fun b H1=>b=false∧∃ Hq1,Ex Hq H Hq1 H1) I ⟨ρ,Hq,false,r,q,fun Hq1 H1 x1=>⟨rfl,Hq1,x1⟩⟩) fun d s1 ⟨H1,I1,ed,Hq1,x1⟩=>?_)
  subst ed
  exact hb s1 σ H1 D I1 ⟨ρ,Hq1,o,r.ext x1,ef,kf Hq1 x1.q⟩
 ·cases ef
theorem nc {M:Model}{A:Around}{E:Value→Shared→Prop}{i:Nat}{x:Str}{pos:Pos}{Q:Unit→Shared→Prop}(I:Inv X pins σ H s)(hN:X.N.Nodup)(hi:X.N[i]?=some x)(hk:X.env.scope.names.lookup x=some .local)
  (h:∀ s',Inv X pins (σ.set i none) H s'→Q () s'):wpAny M A (do bindName X.env x .none;unbindBehindTheSuite X.env x pos) Q E s:=by
 obtain⟨m,hn,hl⟩:=id I.loc
 have hcls:(X.env.scope.kind==.class||(X.env.scope.kind==.module&&X.env.locals != X.env.globals))=false:=by rw[I.ok.kind];rfl
 have hiσ:i<σ.length:=by rw[I.len];exact(List.getElem?_eq_some_iff.mp hi).1
 have cne:=I.cne
 refine wpAny_nameGoes_keeps hk hn hcls fun h' v hn' hs=>?_
 obtain⟨oL,_,_,hoL,_⟩:=id hn
 refine h _ ⟨I.ok,I.os,I.bare,⟨fun b o e n hb hx=>?_,fun b o e n hb hx=>?_,I.base.free,fun b o e hx=>?_,I.base.tups,I.base.frzs,I.base.tbls⟩,⟨_,hn',fun j y v' e1 e2 e3=>?_⟩,fun y c e=>?_,I.free,I.bK,fun p hp=>?_,fun b ob e=>?_,by rw[List.length_set];exact I.len⟩
 ·exact(hs.2 b (Nat.ne_of_lt (Nat.lt_of_lt_of_le (Heap.lt_size e) I.ok.above))).trans (I.base.keep b o e n hb hx)
 ·obtain⟨sl,e1⟩:=I.base.slot b o e n hb hx
  exact⟨sl,(hs.2 b (Nat.ne_of_lt (Nat.lt_of_lt_of_le (Heap.lt_size e) I.ok.above))).trans e1⟩
 ·obtain⟨o',e1⟩:=I.base.there b o e hx
  exact⟨o',(hs.2 b (Nat.ne_of_lt (Nat.lt_of_lt_of_le (Heap.lt_size e) I.ok.above))).trans e1⟩
 ·by_cases hj:j=i
  ·subst hj
   rw[List.getElem?_set_self hiσ] at e2
   cases e2
  ·rw[List.getElem?_set_ne (Ne.symm hj)] at e2
   obtain⟨u',r',q⟩:=hl j y v' e1 e2 e3
   refine⟨u',r',?_⟩
   rcases q with⟨k,e⟩|⟨k,c,e,z⟩
   ·refine .inl ⟨k,?_⟩
    have:y≠x:=fun e=>hj (sG hN e1 (e▸hi))
    simp [this,e]
   ·exact .inr ⟨k,c,e,z.sameBut hs (cne y c e)⟩
 ·obtain⟨w',z⟩:=I.cell y c e
  exact⟨w',z.sameBut hs (cne y c e)⟩
 ·obtain⟨e,n,ne,nf,d⟩:=I.pin p hp
  exact⟨(hs.2 p.1 ne).trans e,n,ne,nf,d⟩
 ·refine(I.hok b ob e).stay (fun c w' hc q=>(hs.2 c ?_).trans q) (fun _ q=>q) fun _ _ q=>q
  rintro rfl
  rcases hc with rfl|hc
  ·rw[I.free] at e;cases e
  ·rw[I.free] at hc;cases hc
end
end TL
namespace TL
open PySem L2 SR
theorem CC:entryFor table "proto.unchain"=some Builtin.«proto.unchain»:=entryFor_of_fast (by kernel_rfl)
theorem Gb {prog:Program}{w:World}{A:Around}{E:Value→Shared→Prop}{s:Shared}{it l ea:Addr}{i:Nat}{oe:Obj}{vs:Array Value}{items:Array Value}{Q:Option Value→Shared→Prop}(hh:A.handled=some (.ref ea)) (he:s.heap.get? ea=some oe)(hv:oe.data=.fields vs)(h2:vs[2]?=some .none)(hn:ea≠it)
  (hit:s.heap.IsListIter it l i)(hl:s.heap.IsList l items)(hx:items[i]?=none)(hQ:∀ h',Heap.ExtBut it s.heap h'→Q none {s with heap:=h'}):wpAny (model prog w) A (pyNext (.ref it)) Q E s:=by
 obtain⟨o,ho,hc,hd⟩:=id hit
 obtain⟨ol,hol,_,nl,hdl⟩:=hl
 unfold pyNext
 refine wpAny_bind (wpAny_attempt (wpAny_callSpecial?_slot (name:=Str.ofString "__next__") hit.typeIs slot_listiter_next (wpAny_call_entry slot_listiter_next hit.typeIs entry_listiter_next ?_ (args_listiter_next _))))
 refine wpAny_bind (m:=field (.ref it) 0) (wpAny_field ho hd (x:=.ref l) rfl ?_)
 show wpAny _ _ (if (Value.ref l==Value.none)=true then _ else _) _ _ s
 rw[if_neg (by simp)]
 refine wpAny_bind (m:=field (.ref it) 1) (wpAny_field ho hd (x:=.int i 0) rfl ?_)
 refine wpAny_bind (m:=seqItems? (.ref l)) (wpAny_seqItems hol hdl ?_)
 simp only[Int.toNat_natCast,hx]
 refine wpAny_bind (wpAny_rule (wpAny_bind (wpAny_setField ho hd (by simp) ?_)))
 refine wpAny_bind (m:=newExc (.type "StopIteration") []) ?_
 simp only[newExc,newTuple]
 refine wpAny_bind (wpAny_newObj_type ?_ (by size_fits))
 refine wpAny_bind (m:=firstArgMember _ _) (wpAny_of_eq (a:=Value.none) (by first|rfl|(simp only[firstArgMember];rfl)) ?_)
 refine wpAny_newObj_type ?_ (by size_fits)
 simp only[raiseNew]
 refine wpAny_bind (wpAny_handled ?_)
 rw[show A.in1.handled=some (.ref ea) from hh]
 dsimp only
 generalize hg1:s.heap.update it (Obj.mapFields (·.setIfInBounds 0 Value.none))=g1
 have x1:Heap.ExtBut it s.heap g1:=by rw[← hg1];exact(Heap.SameBut.update ..).extBut
 generalize hob:(Data.fields (#[Value.ref g1.objs.size,Value.none,Value.none,Value.none,Value.bool false,Value.none]++ownMembersOf (Value.type "StopIteration") []))=dt
 generalize hg2:g1.push {cls:=Value.type "tuple",data:=Data.seq #[]}=g2
 have x2:Heap.ExtBut it s.heap (g2.push {cls:=Value.type "StopIteration",data:=dt}):=by rw[← hg2];exact(x1.push _).push _
 have e1:g2.get? ea=some oe:=by rw[← hg2];exact(x1.push _) ea oe hn he
 have e3:(g2.push {cls:=Value.type "StopIteration",data:=dt}).get? ea=some oe:=Heap.get?_push_of_some _ e1
 have ne:ea≠g2.objs.size:=Nat.ne_of_lt (Heap.lt_size e1)
 rw[if_pos (show(Value.ref ea != Value.ref g2.objs.size)=true by simp [ne])]
 refine wpAny_bind (wpAny_holding (wpAny_runValue (codeAny_builtin CC ?_)))
 unfold Builtin.«proto.unchain»
 dsimp only
 refine wpAny_bind (wpAny_field e3 hv h2 ?_)
 rw[if_pos (by rfl)]
 refine wpAny_pure ?_
 dsimp only
 have dtf:∃ ws,dt=.fields ws∧2<ws.size:=⟨_,hob.symm,by simp;omega⟩
 obtain⟨ws,rfl,hw⟩:=dtf
 have d3:=Obj.data_mapFields (o:={cls:=Value.type "StopIteration",data:=.fields ws}) (vs:=ws) rfl (·.setIfInBounds 2 (Value.ref ea))
 refine wpAny_bind (m:=setField (.ref g2.objs.size) 2 (.ref ea)) (wpAny_setField (Heap.get?_push_size _ rfl) rfl hw (wpAny_throw ?_))
 refine wpAny_bind (wpAny_isInstance (T:="StopIteration") (b:=true) ⟨_,Heap.get?_update_self _ (Heap.get?_push_size _ rfl) (Obj.isFreed_of_fields d3),Obj.cls_mapFields _ _⟩ isSubtype_stop ?_)
 refine wpAny_pure (hQ _ fun b o hb e=>?_)
 have lt:b<g2.objs.size:=by
  rw[← hg2]
  exact Heap.lt_size ((x1.push _) b o hb e)
 rw[Heap.get?_update_other _ _ (Nat.ne_of_gt lt)]
 exact x2 b o hb e
def Sx (X:Cx):Prop:=∃ ea oe u vs,X.A.handled=some (.ref ea)∧X.H₀ ea=some (.frz oe u)∧oe.data=.fields vs∧vs[2]?=some .none
theorem Lq {prog:Program}{w:World}{A:Around}{ea:Addr}{oe:Obj}{vs:Array Value}(hh:A.handled=some (.ref ea)) (hv:oe.data=.fields vs)(h2:vs[2]?=some .none)(I ax:Addr)(hne:ax≠I)(hn:ea≠I)(items:Array Value) :
  Walks prog w A I [I,ax,ea] [I] items.size (fun i v=>items[i]?=some v) (fun i h=>h.IsListIter I ax i∧h.IsList ax items∧h.get? ea=some oe):=by
 refine⟨fun b hb=>?_,fun i h h' st hk=>⟨st.1.at fun o e=>hk I (by simp) o e,st.2.1.at fun o e=>hk ax (by simp) o e,hk ea (by simp) oe st.2.2⟩,fun i s Q E hi st hQ=>?_,fun s Q E st hQ=>?_,fun i s Q E st hQ=>wpAny_pyIter_listiter st.1 hQ⟩
 ·rw[List.mem_singleton.mp hb];simp
 ·refine wpAny_pyNext_list_item st.1 st.2.1 (x:=items[i]) (by simp [hi]) fun h' it' sb=>?_
  exact hQ _ h' s.toks (by simp [hi]) ⟨it',st.2.1.extBut sb.extBut hne,sb.extBut ea oe hn st.2.2⟩ fun b o hb e=>sb.extBut b o (fun z=>hb (by simp [z])) e
 ·exact Gb hh st.2.2 hv h2 hn st.1 st.2.1 (by simp) fun h' he=>hQ h' s.toks fun b o hb e=>he b o (fun z=>hb (by simp [z])) e
section
variable {X:Cx}{pins:List (Addr×Obj)}{σ:L2.St}{H:Hp}{s:Shared}
theorem vm (hx:Sx X):Bi1 X (.builtin "any") tAny:=by
 intro pins s σ H xs us Q I r h
 obtain⟨Hq,t,w,x,rfl,sb,r1,e,k⟩:=h
 obtain⟨ea,oe,u0,ws,hh,h0,hv,h2⟩:=hx
 cases t with
 | lst ts =>
   simp only[tAny] at e
   split at e
   ·rename_i hb
    cases e
    obtain⟨a,vs,rfl,q1,q2⟩:=r1.lst sb
    obtain⟨u,rfl,ru⟩:=vals1 r
    cases ru
    obtain⟨its,rv,p,hz⟩:=I.list q1
    obtain⟨bs,rfl,rfl⟩:=oZ rv q2 hb
    have hea:s.heap.get? ea=some oe:=(I.hok ea _ (I.base.frzs ea oe u0 h0)).1
    refine call_any_walk (wpAny_pyIter_list p.isList ?_)
    have hax:a<s.heap.objs.size:=let ⟨o,ho,_⟩:=p.isList;Heap.lt_size ho
    refine⟨s.heap.objs.size,_,[s.heap.objs.size],(bs.map Value.bool).toArray.size,(fun i v=>(bs.map Value.bool).toArray[i]?=some v),_,fun i=>bs.getD i true,rfl,
     Lq (A:=X.A.in1) (ea:=ea) (oe:=oe) hh hv h2 s.heap.objs.size a (Nat.ne_of_lt hax) (Nat.ne_of_lt (Heap.lt_size hea)) (bs.map Value.bool).toArray,⟨⟨_,Heap.get?_push_size _ rfl,rfl,rfl⟩,p.isList.push _,Heap.get?_push_of_some _ hea⟩,uz bs,fun h' tk kp=>?_⟩
    have ev:(List.range (bs.map Value.bool).toArray.size).any (fun i=>bs.getD i true)=(bs.map T.bl).any fun t=>match t with|.bl b=>b|_=>false:=by
     rw[List.size_toArray,List.length_map,range_any,List.any_map]
     rfl
    rw[ev]
    exact⟨.bl _,H,I.kept (t':=tk) fun b o e=>kp b o (by simp;exact Nat.ne_of_lt (Heap.lt_size e)) (Heap.get?_push_of_some _ e),rfl,k _ Hq H (.refl sb) bD⟩
   ·cases e
 | _=>simp [tAny] at e
end
def subB (c d:Str):Bool:=c==d||d==("MarkError":Str)
def exB1 (K:PySem.W.Frag) (c:Str):Bool:=(PySem.W.nsIn K mainGlobals c==some (some (.ref (clsAt K c))))&&excB K (clsAt K c)&&(PySem.W.findIn K (.ref (clsAt K c)) "__getattribute__"==some (some (.builtin "BaseException.__getattribute__"))&&PySem.W.findIn K (.ref (clsAt K c)) "__getattr__"==some none&&PySem.W.subIn K (.ref (clsAt K c)) (.type "BaseException")==some true)&&(PySem.W.clsIn K (clsAt K c)).isSome &&
 (PySem.W.findIn K (.ref (clsAt K c)) "__class__"==some (some (.builtin "object.__class__")))&&(PySem.W.specialIn K (.builtin "object.__class__") "__get__"==some (some (.builtin "getset_descriptor.__get__")))&&(PySem.W.takesIn K (.builtin "object.__class__")==some true) &&
 (PySem.W.mroIn K (clsAt K c) (.type "object")==some true)&&(PySem.W.kitOne K (.ref (clsAt K c)) (.type "ValueError")==some true)
def exB2 (K:PySem.W.Frag) (c d:Str):Bool:=(PySem.W.exmOne K (.ref (clsAt K c)) (.ref (clsAt K d))==some (subB c d))&&(PySem.W.kitOne K (.ref (clsAt K c)) (.ref (clsAt K d))==some (subB c d))
def ersB (cs:List Str)(K:PySem.W.Frag):Bool:=cs.all fun c=>exB1 K c&&cs.all fun d=>exB2 K c d
structure Er (cs:List Str)(K:PySem.W.Frag)(mg:Str→Option Value):Prop where
 mg:∀ c∈cs,mg c=some (.ref (clsAt K c))
 ex:∀ c∈cs,excB K (clsAt K c)=true
 v:∀ c∈cs,PySem.W.kitOne K (.ref (clsAt K c)) (.type "ValueError")=some true
 m:∀ c∈cs,∀ d∈cs,PySem.W.exmOne K (.ref (clsAt K c)) (.ref (clsAt K d))=some (subB c d)
 k:∀ c∈cs,∀ d∈cs,PySem.W.kitOne K (.ref (clsAt K c)) (.ref (clsAt K d))=some (subB c d)
 i:∀ c∈cs,∀(x:Addr)(ox:Obj),PySem.W.KitX K (.ref x) (.ref (clsAt K c)) (fun h=>PySem.W.InstAt h x ox (clsAt K c) none)
theorem CK {prog:Program}{w:World}{A:Around}{E:Value→Shared→Prop}{Q:Option Value→Shared→Prop}{s:Shared}{K:PySem.W.Frag}{x D:Addr}{ox:Obj}(X:K.In s.heap)(I:PySem.W.InstAt s.heap x ox D none)(hga:PySem.W.findIn K (.ref D) "__getattribute__"=some (some (.builtin "BaseException.__getattribute__"))) (hgh:PySem.W.findIn K (.ref D) "__getattr__"=some none)
  (hbe:PySem.W.subIn K (.ref D) (.type "BaseException")=some true) (hf:PySem.W.findObj K D none "__class__"=some (.bind (.builtin "getset_descriptor.__get__") (.builtin "object.__class__"))) (hm:PySem.W.mroIn K D (.type "object")=some true)
  (h:Q (some (.ref D)) {s with toks:=s.toks+1}):wpAny (model prog w) A (getAttr? (.ref x) "__class__") Q E s:=by
 have hb:=PySem.F.attr_ValueError.ga.bind (.ref x)
 have hpl:=PySem.F.attr_ValueError.ga.plain
 obtain⟨hh,g,d,t,os⟩:=s
 have L0:=I.type (M:=model prog w)
 have L1:=PySem.W.looks_findIn (M:=model prog w) X hga
 have L2:=PySem.W.looks_findIn (M:=model prog w) X hgh
 have L3:=PySem.W.looks_subIn (M:=model prog w) X hbe
 have L4:=PySem.W.looks_find (M:=model prog w) X I hf
 unfold getAttr? getAttrBy? getAttrBy
 refine wpAny_bind (wpAny_mkText (wpAny_bind (wpAny_attempt (wpAny_holding (wpAny_bind (L0.at (wpAny_bind (L1.at ?_))))))))
 dsimp only
 rw[if_neg (by show ¬(Value.builtin "BaseException.__getattribute__"==Value.builtin "object.__getattribute__")=true;decide +kernel)]
 unfold getAttrByItsOwn hookBefore
 refine wpAny_bind ?_
 rw[if_pos (show onTheHeap (Value.ref D)=true from rfl)]
 refine L2.at ?_
 refine wpAny_bind (wpAny_attempt (wpAny_holding ?_))
 unfold callGetattribute
 rw[if_neg (by simp)]
 unfold boundAndCalled
 rw[hb]
 refine wpAny_bind (wpAny_pure ?_)
 dsimp only
 have hk:builtinKind "BaseException.__getattribute__"=some .slot:=by decide +kernel
 have hsplit:splitId "BaseException.__getattribute__"=some ("BaseException","__getattribute__"):=by decide +kernel
 refine wpAny_call (codeAny_call_builtin hpl F.entry_bexc_ga ?_)
 have ha:=F.args_bexc_ga (.ref x) (.str "__class__" t)
 simp only[checkBuiltinCall,hk,hsplit,List.cons_append,List.nil_append]
 refine wpAny_bind ?_
 unfold isInstance
 refine wpAny_bind (L0.at (L3.at ?_))
 simp only[Bool.not_true,Bool.false_eq_true,if_false]
 repeat (any_goals (first|assumption|wp_step))
 refine wpAny_loadPart I.at_ (wpAny_pure ?_)
 rw[I.cls]
 refine wpAny_bind (L4.at ?_)
 dsimp only
 show wpAny _ _ (holding [.builtin "object.__class__"] (call (.builtin "getset_descriptor.__get__") [.builtin "object.__class__",.ref x,.ref D]) >>= ret) _ _ _
 refine wpAny_bind (wpAny_holding (wpAny_call (PySem.W.class_get (s:=⟨hh,g,d,t+1,os⟩) (ox:=ox) (od:=none) X I hm ?_)))
 refine wpAny_pure ?_
 dsimp only
 refine PySem.W.handed_on rfl ?_
 exact wpAny_pure h
theorem Fc {K:PySem.W.Frag}{x D:Addr}{ox:Obj}(hg:PySem.W.findIn K (.ref D) "__getattribute__"=some (some (.builtin "BaseException.__getattribute__"))∧PySem.W.findIn K (.ref D) "__getattr__"=some none∧PySem.W.subIn K (.ref D) (.type "BaseException")=some true) (hc:(PySem.W.clsIn K D).isSome=true) (ha:PySem.W.findIn K (.ref D) "__class__"=some (some (.builtin "object.__class__")))
  (hn:PySem.W.specialIn K (.builtin "object.__class__") "__get__"=some (some (.builtin "getset_descriptor.__get__"))) (ht:PySem.W.takesIn K (.builtin "object.__class__")=some true) (hm:PySem.W.mroIn K D (.type "object")=some true) :
  PySem.W.KitX K (.ref x) (.ref D) (fun h=>PySem.W.InstAt h x ox D none):=by
 obtain⟨cd,hcd⟩:=Option.isSome_iff_exists.mp hc
 have hf:PySem.W.findObj K D none "__class__"=some (.bind (.builtin "getset_descriptor.__get__") (.builtin "object.__class__")):=by
  unfold PySem.W.findObj
  rw[hcd,Option.bind_some,ha,Option.bind_some]
  simp [hn,ht]
 have hlk:∃ c' d' cd' sl',K.lookup D=some ⟨c',d',.cls cd',sl'⟩:=by
  unfold PySem.W.clsIn at hcd
  split at hcd
  ·rename_i c' d' cd' sl' ho;exact⟨c',d',cd',sl',ho⟩
  ·cases hcd
 obtain⟨c',d',cd',sl',ho⟩:=hlk
 refine⟨fun _ _ _ I=>I.type,fun M h X _=>?_,fun h tp dd its n sl X htp=>?_,fun{prog w A E Q s} X I k=>?_⟩
 ·intro A' Q' E' s' k q
  unfold isType loadHead
  exact wpAny_bind (wpAny_loadPart (k _ _ (X _ _ ho)) (wpAny_pure q))
 ·refine Bool.eq_false_iff.mpr fun q=>?_
  cases beq_iff_eq.mp q
  cases (X _ _ ho).symm.trans htp
 ·exact CK X I hg.1 hg.2.1 hg.2.2 hf hm k
theorem CF {cs:List Str}{K:PySem.W.Frag}{h:Heap}{mg:Str→Option Value}(X:K.In h)(G:h.Ns mainGlobals mg)(e:ersB cs K=true):Er cs K mg:=by
 have e1:∀ c∈cs,exB1 K c=true:=fun c hc=>(Bool.and_eq_true_iff.mp (List.all_eq_true.mp e c hc)).1
 have e2:∀ c∈cs,∀ d∈cs,exB2 K c d=true:=fun c hc d hd=>List.all_eq_true.mp (Bool.and_eq_true_iff.mp (List.all_eq_true.mp e c hc)).2 d hd
 have f:∀ c∈cs,PySem.W.nsIn K mainGlobals c=some (some (.ref (clsAt K c)))∧excB K (clsAt K c)=true∧(PySem.W.findIn K (.ref (clsAt K c)) "__getattribute__"=some (some (.builtin "BaseException.__getattribute__"))∧PySem.W.findIn K (.ref (clsAt K c)) "__getattr__"=some none∧PySem.W.subIn K (.ref (clsAt K c)) (.type "BaseException")=some true)∧(PySem.W.clsIn K (clsAt K c)).isSome=true ∧
   PySem.W.findIn K (.ref (clsAt K c)) "__class__"=some (some (.builtin "object.__class__"))∧PySem.W.specialIn K (.builtin "object.__class__") "__get__"=some (some (.builtin "getset_descriptor.__get__"))∧PySem.W.takesIn K (.builtin "object.__class__")=some true ∧
   PySem.W.mroIn K (clsAt K c) (.type "object")=some true∧PySem.W.kitOne K (.ref (clsAt K c)) (.type "ValueError")=some true:=fun c hc=>by
  have:=e1 c hc
  unfold exB1 at this
  simp only[Bool.and_eq_true,beq_iff_eq] at this
  obtain⟨⟨⟨⟨⟨⟨⟨⟨h1,h2⟩,⟨h3,h3'⟩,h3''⟩,h4⟩,h5⟩,h6⟩,h7⟩,h8⟩,h9⟩:=this
  exact⟨h1,h2,⟨h3,h3',h3''⟩,h4,h5,h6,h7,h8,h9⟩
 refine⟨fun c hc=>PySem.W.mg_of X G (f c hc).1,fun c hc=>(f c hc).2.1,fun c hc=>(f c hc).2.2.2.2.2.2.2.2,fun c hc d hd=>?_,fun c hc d hd=>?_,fun c hc x ox=>?_⟩
 ·have:=e2 c hc d hd
  unfold exB2 at this
  simp only[Bool.and_eq_true,beq_iff_eq] at this
  exact this.1
 ·have:=e2 c hc d hd
  unfold exB2 at this
  simp only[Bool.and_eq_true,beq_iff_eq] at this
  exact this.2
 ·obtain⟨_,_,h3,h4,h5,h6,h7,h8,_⟩:=f c hc
  exact Fc h3 h4 h5 h6 h7 h8
section
variable {X:Cx}{pins:List (Addr×Obj)}{σ:L2.St}{H:Hp}{s:Shared}{z:Z}
def fM (X:Cx)(pins:List (Addr×Obj)) (σ:L2.St)(H':Hp)(s':Shared)(h:Heap)(ea C:Addr):Prop:=∃ s0 H0,Inv X pins σ H0 s0∧s'.os=s0.os∧PyProof.Rows.AllBare s'.gens∧Un (frs X.stack) [] H0 H' s0.heap s'.heap∧HOk X.prog X.w H' s'.heap ∧
 Chg (frs X.stack) (fun b=>s0.heap.get? b=none∧H' b=none) s'.heap h∧Flt (fun b=>s0.heap.get? b=none∧H' b=none) ea C .none h
theorem fM.inv {s':Shared}{h:Heap}{ea C:Addr}(L:fM X pins σ H s' h ea C):Inv X pins σ H {s' with heap:=h}:=by
 obtain⟨s0,H0,I,os,bare,un,hok,c,_⟩:=L
 exact mL I os bare un hok c
theorem fM.land {M:Model}{A:Around}{E':Value→Shared→Prop}{s':Shared}{h:Heap}{ea C:Addr}{Q:Unit→Shared→Prop}(L:fM X pins σ H s' h ea C)(q:∀ h',fM X pins σ H s' h' ea C→Q () {s' with heap:=h'}):wpAny M A (setFlight (.ref ea) none) Q E' {s' with heap:=h}:=by
 obtain⟨s0,H0,I,os,bare,un,hok,c,f⟩:=L
 exact nV (s:={s' with heap:=h}) (S:=frs X.stack) f fun h' f' c'=>q h' ⟨s0,H0,I,os,bare,un,hok,c.trans c',f'⟩
theorem Iu {ρ:Rho}{Hq H:Hp}(r:Rn z σ ρ Hq H) (i:Nat){p:Addr}{oe:Obj}{u:HO}{c:Str}(hp:H p=none)(h1:oe.cls=.ref (clsAt z.K c)) (h2:oe.dict=none)(h3:∃ vs,oe.data=.fields vs):Rn z (σ.set i (some (.ref p))) (ρ.set i (some (.xc c))) Hq (upd H p (.frz oe u)):=by
 have hl:=r.len
 have hq:Hq p=none:=r.sub.free hp
 have hz:z.H p=none:=r.ex.all.free hp
 have other:∀(j:Nat)(u:Sl),u≠.xc c→(ρ.set i (some (.xc c)))[j]?=some (some u)→i≠j∧ρ[j]?=some (some u):=fun j u hu e=>by
  by_cases hj:i=j
  ·subst hj
   by_cases hi:i<ρ.length
   ·rw[List.getElem?_set_self hi] at e;cases e;exact absurd rfl hu
   ·rw[List.getElem?_eq_none (by rw[List.length_set];omega)] at e;cases e
  ·rw[List.getElem?_set_ne hj] at e;exact⟨hj,e⟩
 refine⟨⟨fun b u e=>?_,r.ex.q,fun b u e=>?_,r.ex.out⟩,by rw[List.length_set,List.length_set];exact hl,fun j u e=>?_,fun j u e=>?_,fun j k us ws a hjk e1 e2 e3=>?_,fun j C e=>?_,r.o.go (kW (fun _ q=>by cases q;exact id)) (fun _ _ _ _ h n=>⟨by rw[ak (aE h hp)];exact h,n⟩) (.refl _)⟩
 ·rw[ak (aE e hz)];exact r.ex.all b u e
 ·rw[ak (aE e hq)];exact r.sub b u e
 ·obtain⟨hj,e⟩:=other j _ (by simp) e
  rw[List.getElem?_set_ne hj]
  exact r.pu j u e
 ·obtain⟨hj,e⟩:=other j _ (by simp) e
  rw[List.getElem?_set_ne hj]
  obtain⟨a,ws,h1,h2,h3,h4,h5⟩:=r.ow j u e
  exact⟨a,ws,h1,h2,h3,by rw[ak (aE h4 hp)];exact h4,h5⟩
 ·obtain⟨hj,e1⟩:=other j _ (by simp) e1
  obtain⟨hk,e2⟩:=other k _ (by simp) e2
  rw[List.getElem?_set_ne hj] at e3
  rw[List.getElem?_set_ne hk]
  exact r.ne j k us ws a hjk e1 e2 e3
 ·by_cases hj:i=j
  ·subst hj
   by_cases hi:i<ρ.length
   ·rw[List.getElem?_set_self hi] at e
    cases e
    exact⟨p,oe,u,List.getElem?_set_self (by omega),hq,bR,h1,h2,h3⟩
   ·rw[List.getElem?_eq_none (by rw[List.length_set];omega)] at e;cases e
  ·rw[List.getElem?_set_ne hj] at e ⊢
   obtain⟨a,oe',u',g1,g2,g3,g4⟩:=r.xc j C e
   exact⟨a,oe',u',g1,g2,by rw[ak (aE g3 hp)];exact g3,g4⟩
theorem yS {ρ:Rho}{Hq H:Hp}(r:Rn z σ ρ Hq H) (i:Nat):Rn z (σ.set i none) (ρ.set i none) Hq H:=by
 have hl:=r.len
 have other:∀(j:Nat)(u:Sl),(ρ.set i none)[j]?=some (some u)→i≠j∧ρ[j]?=some (some u):=fun j u e=>by
  by_cases hj:i=j
  ·subst hj
   by_cases hi:i<ρ.length
   ·rw[List.getElem?_set_self hi] at e;cases e
   ·rw[List.getElem?_eq_none (by rw[List.length_set];omega)] at e;cases e
  ·rw[List.getElem?_set_ne hj] at e;exact⟨hj,e⟩
 refine⟨r.ex,by rw[List.length_set,List.length_set];exact hl,fun j u e=>?_,fun j u e=>?_,fun j k us ws a hjk e1 e2 e3=>?_,fun j C e=>?_,r.o.go (kW (fun _ q=>nomatch q)) (fun _ _ _ _ h n=>⟨h,n⟩) (.refl _)⟩
 ·obtain⟨hj,e⟩:=other j _ e
  rw[List.getElem?_set_ne hj]
  exact r.pu j u e
 ·obtain⟨hj,e⟩:=other j _ e
  rw[List.getElem?_set_ne hj]
  exact r.ow j u e
 ·obtain⟨hj,e1⟩:=other j _ e1
  obtain⟨hk,e2⟩:=other k _ e2
  rw[List.getElem?_set_ne hj] at e3
  rw[List.getElem?_set_ne hk]
  exact r.ne j k us ws a hjk e1 e2 e3
 ·obtain⟨hj,e⟩:=other j _ e
  rw[List.getElem?_set_ne hj]
  exact r.xc j C e
def HJ (X:Cx)(z:Z)(hs:List ExceptHandler)(F:Str→FS):Prop:=∀ pins σ H D (s':Shared)(h:Heap) ea c ρ Hq o,fM X pins σ H s' h ea (clsAt z.K c)→Rn z σ ρ Hq H→F c ρ=some o→Fin z Hq D o →
 wpAny (model X.prog X.w) X.A (handleBy (.ref ea) X.env hs) (SP X pins D) X.xe {s' with heap:=h}
def fIsx (cs:List Str) (i:Nat) (d:Str):FE:=fun ρ=>match ρ[i]? with
 | some (some (.xc c))=>if cs.contains c=true then some (.bl (subB c d)) else none
 | _=>none
def fIsv (cs:List Str) (i:Nat):FE:=fun ρ=>match ρ[i]? with
 | some (some (.xc c))=>if cs.contains c=true then some (.bl true) else none
 | _=>none
def rIsx (X:Cx)(cs:List Str)(t:V)(f:Str→Bool):List V→Hp→VK→Prop:=fun xs H Q=>∃ a c oe u vs,xs=[.ref a,t]∧H a=some (.frz oe u)∧oe.cls=.ref (clsAt X.K c)∧oe.dict=none∧oe.data=.fields vs∧c∈cs∧Q (.bl (f c)) H
theorem xq {cs:List Str}(er:Er cs X.K X.mg){t:V}{tv:Value}{f:Str→Bool}(ht:∀ u,RelV t u→u=tv)(hk:∀ c∈cs,PySem.W.kitOne X.K (.ref (clsAt X.K c)) tv=some (f c)):dQ X (.builtin "isinstance") (rIsx X cs t f):=by
 intro pins s σ H xs us Q I r ⟨a,c,oe,u,vs,e,h3,h4,h5,h6,hc,k⟩
 subst e
 obtain⟨u1,u2,rfl,ru,rw'⟩:=vals2 r
 cases ru
 cases ht _ rw'
 have hg:s.heap.get? a=some oe:=(I.hok a _ h3).1
 exact PySem.W.kia_one (er.i c hc a oe) I.kIn ⟨hg,h4,by unfold PySem.W.notCls;rw[h6],by rw[h5];trivial⟩ (hk c hc) (fun z=>nomatch z) fun tk=>⟨.bl _,H,I.tok _,rfl,k⟩
theorem xr {cs:List Str}{ρ:Rho}{Hq:Hp}{i:Nat}{c:Str}{t:V}{f:Str→Bool}{Q:VK}(hK:z.K=X.K)(r:Rn z σ ρ Hq H)(e:ρ[i]?=some (some (.xc c))) (hc:c∈cs)(k:∀ v Hq' H',Ex Hq H Hq' H'→Rep z.K Hq' (.bl (f c)) v→Q v H') :
  ∃ v,σ[i]?=some (some v)∧rIsx X cs t f [v,t] H Q:=by
 obtain⟨a,oe,u,h1,h2,h3,h4,h5,vs,h6⟩:=r.xc i c e
 exact⟨_,h1,a,c,oe,u,vs,rfl,h3,hK▸h4,h5,h6,hc,k _ Hq H (.refl r.sub) bD⟩
theorem ev_isx {cs:List Str}{n d:Str}{p p1 p2 pos:Pos}(er:Er cs X.K X.mg)(hK:z.K=X.K) (i:Nat)(hm:X.mg "isinstance"=none)(hd:d∈cs:=by decide)(hg:Gl X "isinstance":=by rfl)(hg2:Gl X d:=by rfl)(hi:X.N[i]?=some n:=by rfl)(hv:Vis X.env.scope n:=by first|exact Or.inl rfl|exact Or.inr (Or.inl rfl)|exact Or.inr (Or.inr rfl))
  (hdb:(n==("__debug__":Str))=false:=by decide) (hcd:(n==("__classdict__":Str))=false:=by decide) (hdb2:(d==("__debug__":Str))=false:=by decide):EV X z (.Call (.Name "isinstance" p) [.Name n p1,.Name d p2] [] pos) (fIsx cs i d):=by
 have hb:=xq (t:=.ref (clsAt X.K d)) (tv:=.ref (clsAt X.K d)) (f:=fun c=>subB c d) er (fun u h=>by cases h;rfl) (fun c hc=>er.k c hc d hd)
 refine PE.imp (kM hb hg hm (by rfl) (bx (bO hi hv hdb hcd) (bx (yv (v:=.ref (clsAt X.K d)) hg2 (er.mg d hd) rfl hdb2) cE (by rfl)) (by rfl)) (by decide) (by decide) (by rfl) (by rfl)) fun σ H Q ⟨ρ,Hq,w,r,e,k⟩=>?_
 unfold fIsx at e
 split at e
 ·rename_i c hx
  split at e
  ·rename_i hc
   cases e
   obtain⟨v,h1,h2⟩:=xr (X:=X) (t:=.ref (clsAt X.K d)) (f:=fun c=>subB c d) hK r hx (by simpa using hc) k
   exact⟨v,h1,h2⟩
  ·cases e
 ·cases e
theorem ev_isv {cs:List Str}{n:Str}{p p1 p2 pos:Pos}(er:Er cs X.K X.mg)(hK:z.K=X.K) (i:Nat)(hm:X.mg "isinstance"=none)(hm2:X.mg "ValueError"=none)(hg:Gl X "isinstance":=by rfl)(hg2:Gl X "ValueError":=by rfl)(hi:X.N[i]?=some n:=by rfl)(hv:Vis X.env.scope n:=by first|exact Or.inl rfl|exact Or.inr (Or.inl rfl)|exact Or.inr (Or.inr rfl))
  (hdb:(n==("__debug__":Str))=false:=by decide) (hcd:(n==("__classdict__":Str))=false:=by decide):EV X z (.Call (.Name "isinstance" p) [.Name n p1,.Name "ValueError" p2] [] pos) (fIsv cs i):=by
 have hb:=xq (t:=.ty "ValueError") (tv:=.type "ValueError") (f:=fun _=>true) er (fun u h=>by cases h;rfl) (fun c hc=>er.v c hc)
 refine PE.imp (kM hb hg hm (by rfl) (bx (bO hi hv hdb hcd) (bx (yr (v:=.ty "ValueError") hg2 hm2 rfl rfl (by decide) (by decide)) cE (by rfl)) (by rfl)) (by decide) (by decide) (by rfl) (by rfl)) fun σ H Q ⟨ρ,Hq,w,r,e,k⟩=>?_
 unfold fIsv at e
 split at e
 ·rename_i c hx
  split at e
  ·rename_i hc
   cases e
   obtain⟨v,h1,h2⟩:=xr (X:=X) (t:=.ty "ValueError") (f:=fun _=>true) hK r hx (by simpa using hc) k
   exact⟨v,h1,h2⟩
  ·cases e
 ·cases e
end
end TL
namespace TL
open PySem L2 SR
section
variable {X:Cx}{z:Z}{a b:Expr}{f g:FE}{p2 p3:Pos}
end
section
variable {X:Cx}{pins:List (Addr×Obj)}{z:Z}{kx:Addr→L2.St→Hp→Prop}
def xNil:FX:=fun ρ=>some (.ok (.nx ρ))
def fK (c:Str):FX:=fun ρ=>some (.xc ρ c)
def xSt (F:FS):FX:=fun ρ=>(F ρ).map .ok
def xNo:FX:=fun _=>none
def sNo:FS:=fun _=>none
def RL (X:Cx)(kx:Addr→L2.St→Hp→Prop):Prop:=∀ pins σ H s h' e C v,Inv X pins σ H s→Heap.MadeExcOf s.heap h' e (.ref C) [v]→kx C σ H→X.xe (.ref e) {s with heap:=h'}
theorem x_raise {cs:List Str}{c msg:Str}{np cpos pos p:Pos}{j:Nat}(er:Er cs X.K X.mg)(hK:z.K=X.K)(hL:RL X kx)(hd:c∈cs:=by decide)(hc:X.calm=true:=by rfl)(hg:Gl X c:=by rfl)(hdb:(c==("__debug__":Str))=false:=by decide) :
  XV X pins kx z (.Raise (some (.Call (.Name c np) [.Constant (.str msg) j p] [] cpos)) none pos) (fK c):=by
 intro s σ H D I ⟨ρ,Hq,o,r,ef,k⟩
 cases ef
 exact wp_raise I hc hg (er.mg c hd) (er.ex c hd) hdb fun s2 h' e v I2 me=>hL pins σ H s2 h' e _ v I2 me (hK▸k σ Hq H r (.refl _))
theorem x_st {st:Stmt}{F:FS}(h:SV X z st F):XV X pins kx z st (xSt F):=by
 intro s σ H D I ⟨ρ,Hq,o,r,ef,k⟩
 obtain⟨o',e1,e2⟩:=Option.map_eq_some_iff.mp ef
 subst e2
 exact h pins s σ H D I ⟨ρ,Hq,o',r,e1,k⟩
theorem x_never {st:List Stmt}:XVs X pins kx z st xNo:=fun _ _ _ _ _ ⟨_,_,_,_,e,_⟩=>nomatch e
theorem s_no {st:Stmt}:SV X z st sNo:=fun _ _ _ _ _ _ ⟨_,_,_,_,e,_⟩=>nomatch e
theorem x_nil:XVs X pins kx z [] xNil:=by
 intro s σ H D I ⟨ρ,Hq,o,r,ef,k⟩
 cases ef
 exact wpAny_execs_nil ⟨σ,H,I,k σ Hq H r (.refl _)⟩
def xSeq (F G:FX):FX:=fun ρ=>match F ρ with
 | some (.ok (.nx ρ'))=>G ρ'
 | some (.ok (.rt t))=>some (.ok (.rt t))
 | some (.ok (.bk ρ'))=>some (.ok (.bk ρ'))
 | some (.ok (.ct ρ'))=>some (.ok (.ct ρ'))
 | some (.xc ρ' c)=>some (.xc ρ' c)
 | none=>none
theorem FinX.from {Hq Hq1:Hp}{D:Ends}{o:OutX}(k:FinX z kx Hq D o)(sm:Same Hq Hq1):FinX z kx Hq1 D o:=by
 cases o with
 | ok o=>exact Fin.from k sm
 | xc ρ' C=>exact fun σ' Hq' H' r' sm'=>k σ' Hq' H' r' (sm.trans sm')
theorem x_cons {st:Stmt}{rest:List Stmt}{F G:FX}(h:XV X pins kx z st F)(hr:XVs X pins kx z rest G):XVs X pins kx z (st::rest) (xSeq F G):=by
 intro s σ H D I ⟨ρ,Hq,o,r,ef,k⟩
 unfold xSeq at ef
 split at ef
 ·rename_i ρ' e1
  refine wpAny_execs_cons (thn (h s σ H {D with nx:=fun σ' H'=>∃ Hq',Rn z σ' ρ' Hq' H'∧Same Hq Hq'} I ⟨ρ,Hq,_,r,e1,fun σ' Hq' H' r' sm=>⟨Hq',r',sm⟩⟩) fun f s1 q=>?_)
  cases f with
  | next =>
    obtain⟨σ',H',I1,Hq',r',sm⟩:=q
    exact hr s1 σ' H' D I1 ⟨ρ',Hq',o,r',ef,k.from sm⟩
  | ret v=>exact q
  | brk=>exact q
  | cont=>exact q
 all_goals first
  | (rename_i e1
     cases ef
     refine wpAny_execs_cons (thn (h s σ H {D with nx:=fun _ _=>False} I ⟨ρ,Hq,_,r,e1,k⟩) fun f s1 q=>?_)
     cases f with
     | next=>obtain⟨_,_,_,q⟩:=q;exact q.elim
     | ret v=>exact q
     | brk=>exact q
     | cont=>exact q)
  | cases ef
end
section
variable {P:Program}{w:World}{K:PySem.W.Frag}{mg:Str→Option Value}{base:Heap}
end
end TL
namespace TL
open PySem L2
theorem Flt.mono {N N':Addr→Prop}(h:∀ b,N b→N' b){ea C:Addr}{fl:Value}{hp:Heap}(f:Flt N ea C fl hp):Flt N' ea C fl hp:=by
 obtain⟨ne,oe,vs,T,oT,ts,e1,e2,e3,e4,e5,e6,e7,e8⟩:=f
 exact⟨h _ ne,oe,vs,T,oT,ts,e1,e2,e3,e4,e5,e6,h _ e7,e8⟩
theorem Chg.refl {S:List Addr}{N:Addr→Prop}{h:Heap}:Chg S N h h:=⟨fun _ _ e _ _=>e,fun _ o e _ _=>⟨o.slots,e⟩⟩
section
variable {X:Cx}{pins:List (Addr×Obj)}{σ:L2.St}{H:Hp}{s:Shared}
theorem Lz {E E2:XK}{M:Model}{E':Value→Shared→Prop}{e:Value}{s':Shared}(I:Inv X pins σ H s)(hst:X.stack=X.env::X.outer)(hf:X.env.frame=some X.env.locals)(hex:X.ex=[])
  (hc:CX1 X.prog X.w X.stack H s E2 e s')(hE:∀ ea C H',E2 (.ref ea) (some C) H'→E (.ref ea) (some C) H') :
  wpAny M X.A (leaving X.env e) (fun _ s''=>CX1 X.prog X.w X.outer X.H₀ X.s₀ E e s'') E' s':=by
 obtain⟨ea,C,H',rfl,os,bare,un,hok,f,q⟩:=hc
 have frm:X.A.frames=some (X.env::X.outer):=by rw[I.ok.frames,hst]
 have J0:Inv X pins σ H' {s' with heap:=s'.heap}:=mL I os bare un hok .refl
 have stk:=J0.stack
 rw[hst] at stk
 have nex:∀ b,b∉X.ex:=fun b=>by rw[hex];simp
 unfold leaving
 refine wpAny_bind (zS (base:=X.base) (N:=fun b=>s.heap.get? b=none∧H' b=none) (C:=C) frm stk hf (fun b hb=>?_) f fun h1 f1 c1=>?_)
 ·constructor
  ·cases z:s.heap.get? b with
   | none=>rfl
   | some u =>
     obtain⟨v,hv⟩:=un.there b u z (by simp)
     rw[hb] at hv;cases hv
  ·cases z:H' b with
   | none=>rfl
   | some u =>
     obtain⟨v,hv⟩:=n9 (hok b u z)
     rw[hb] at hv;cases hv
 refine nV (S:=frs (X.env::X.outer)) f1 fun h2 f2 c2=>?_
 have J:=mL (h5:=h2) I os bare un hok (by rw[hst];exact c1.trans c2)
 have jb:=J.base
 rw[hex] at jb
 refine⟨ea,C,H',rfl,J.os,J.bare,jb,J.hok,f2.mono fun b hb=>⟨?_,hb.2⟩,hE ea C H' q⟩
 cases z:X.s₀.heap.get? b with
 | none=>rfl
 | some u =>
   obtain⟨v,hv⟩:=I.base.there b u z (nex b)
   rw[hb.1] at hv;cases hv
end
theorem Fe {P:Program}{w:World}{K:PySem.W.Frag}{mg:Str→Option Value}{base:Heap}{N:List Str}{x:Str}{sc:Scope}{f:Addr}{cdv:Value}{A:Around}{outer:List Env}{s:Shared}{H:Hp}{E:XK}{pins:List (Addr×Obj)}{kx:Addr→L2.St→Hp→Prop}
  (hk:∀ C σ' H',kx C σ' H'→∀ ea,E (.ref ea) (some C) H'):c6 (cxOf (CX1 P w) P w K mg base N x sc f cdv A outer s H E) pins kx:=by
 intro σ1 H1 s1 C e s' I hc
 refine Lz I rfl rfl rfl hc fun ea C' H' q=>?_
 obtain⟨q1,q2⟩:=q
 cases q1
 exact hk _ _ _ q2 ea
section
variable {z:Z}{σ:L2.St}{ρ:Rho}{Hq H:Hp}
def objF (i:Nat) (c:Str)(ρ:Rho):Option (List (Str×T)):=match ρ[i]? with
 | some (some (.ob _ d fl))=>if d=c then some fl else none
 | some (some (.ro d fl))=>if d=c then some fl else none
 | _=>none
theorem kL {i:Nat}{c:Str}{fl:List (Str×T)}(r:Rn z σ ρ Hq H)(h:objF i c ρ=some fl):∃ a dx fs,σ[i]?=some (some (.ref a))∧H a=some (.ins (clsAt z.K c) dx fs)∧FldR z.K Hq fl fs:=by
 unfold objF at h
 split at h
 ·rename_i a d fl' e
  split at h
  ·rename_i hd
   cases h
   subst hd
   obtain⟨h1,h2,h3,dx,fs,h4,h5⟩:=r.o.ob i a d fl e
   exact⟨a,dx,fs,h1,h4,h5⟩
  ·cases h
 ·rename_i d fl' e
  split at h
  ·rename_i hd
   cases h
   subst hd
   obtain⟨a,dx,fs,h1,h2,h3⟩:=r.o.ro i d fl e
   exact⟨a,dx,fs,h1,r.ex.all _ _ h2,h3.mono r.ex.q⟩
  ·cases h
 ·cases h
theorem FldR.look {K:PySem.W.Frag}{f:Str}{t:T}:∀{fl:List (Str×T)}{fs:List (Str×V)},FldR K H fl fs→fl.lookup f=some t→∃ v,fs.lookup f=some v∧Rep K H t v
 | _,_,.nil,h=>by cases h
 | (g,t')::fl,(g',v')::fs,.cons ⟨h1,h2⟩ r,h=>by
   simp only at h1 h2
   subst h1
   rw[List.lookup_cons] at h ⊢
   cases hg:f==g with
   | true=>rw[hg] at h;cases h;exact⟨v',by simp [hg],h2⟩
   | false =>
     rw[hg] at h
     obtain⟨v,h3,h4⟩:=FldR.look (show FldR K H fl fs from r) h
     exact⟨v,by simp [hg,h3],h4⟩
theorem FldR.no {K:PySem.W.Frag}{f:Str}:∀{fl:List (Str×T)}{fs:List (Str×V)},FldR K H fl fs→fl.lookup f=none→fs.lookup f=none
 | _,_,.nil,h=>rfl
 | (g,t')::fl,(g',v')::fs,.cons ⟨h1,h2⟩ r,h=>by
   simp only at h1 h2
   subst h1
   rw[List.lookup_cons] at h ⊢
   cases hg:f==g with
   | true=>rw[hg] at h;cases h
   | false =>
     rw[hg] at h
     simpa [hg] using FldR.no (show FldR K H fl fs from r) h
def putT (f:Str)(t:T):List (Str×T)→List (Str×T)
 | []=>[(f,t)]
 | (g,x)::r=>if g=f then (g,t)::r else (g,x)::putT f t r
theorem FldR.put {K:PySem.W.Frag}{f:Str}{t:T}{v:V}(h:Rep K H t v):∀{fl:List (Str×T)}{fs:List (Str×V)},FldR K H fl fs→FldR K H (putT f t fl) (putF f v fs)
 | _,_,.nil=>.cons ⟨rfl,h⟩ .nil
 | (g,t')::fl,(g',v')::fs,.cons ⟨h1,h2⟩ r=>by
   simp only at h1 h2
   subst h1
   unfold putT putF
   by_cases hg:g=f
   ·rw[if_pos hg,if_pos hg];exact .cons ⟨rfl,h⟩ r
   ·rw[if_neg hg,if_neg hg];exact .cons ⟨rfl,h2⟩ (FldR.put h (show FldR K H fl fs from r))
theorem FldR.len {K:PySem.W.Frag}:∀{fl:List (Str×T)}{fs:List (Str×V)},FldR K H fl fs→fl.length=fs.length
 | _,_,.nil=>rfl
 | _::fl,_::fs,.cons _ r=>by rw[List.length_cons,List.length_cons,FldR.len (show FldR K H fl fs from r)]
def del (H:Hp)(a:Addr):Hp:=fun b=>if b=a then none else H b
theorem qk {H:Hp}{a:Addr}:del H a a=none:=if_pos rfl
theorem iT {H:Hp}{a b:Addr}(h:b≠a):del H a b=H b:=if_neg h
theorem wB {H:Hp}{a:Addr}:Same (del H a) H:=fun b o e=>by
 by_cases h:b=a
 ·subst h;rw[qk] at e;cases e
 ·rwa [iT h] at e
theorem Rn.mutO {i:Nat}{a:Addr}{c:Str}{fl fl':List (Str×T)}{dx:Addr}{fs':List (Str×V)}{Hq' H':Hp}(r:Rn z σ ρ Hq H)(e0:ρ[i]?=some (some (.ob a c fl))) (x:Ex Hq (del H a) Hq' H') (hq:Hq' a=none)(hH:H' a=some (.ins (clsAt z.K c) dx fs')) (hf:FldR z.K Hq' fl' fs') :
  Rn z σ (ρ.set i (some (.ob a c fl'))) Hq' H':=by
 obtain⟨g1,g2,g3,dx0,fs0,g4,g5⟩:=r.o.ob i a c fl e0
 have hi:i<ρ.length:=(List.getElem?_eq_some_iff.mp e0).1
 have other:∀(j:Nat)(sl:Sl),j≠i→(ρ.set i (some (.ob a c fl')))[j]?=some (some sl)→ρ[j]?=some (some sl):=fun j sl hj e=>by rwa [List.getElem?_set_ne (Ne.symm hj)] at e
 have kK:∀(j:Nat)(sl:Sl),¬ sl.isO→(ρ.set i (some (.ob a c fl')))[j]?=some (some sl)→ρ[j]?=some (some sl):=fun j sl hs e=>by
  by_cases hj:j=i
  ·subst hj;rw[List.getElem?_set_self hi] at e;cases e;exact absurd trivial hs
  ·exact other j sl hj e
 have keep:∀ b o,H b=some o→b≠a→H' b=some o:=fun b o e h=>x.all b o (by rw[iT h];exact e)
 have out:∀ b o,H b=some o→b≠a→Hq b=none→Hq' b=none:=fun b o e h n=>x.out b (by rw[iT h,e];simp) n
 have nins:∀ b o,H b=some o→(∀ C d f,o≠.ins C d f)→b≠a:=fun b o e h q=>by subst q;rw[g4] at e;exact h _ _ _ (Option.some.inj e).symm
 refine⟨⟨fun b u e=>?_,r.ex.q.trans x.q,x.sub,fun b e n=>?_⟩,by rw[List.length_set];exact r.len,fun j t e=>?_,fun j ts e=>?_,fun j k us ws b hjk e1 e2 e3=>?_,fun j C e=>?_,fun j b d gl e=>?_,fun j k b b' d d' gl gl' hjk e1 e2=>?_,fun j d gl e=>?_⟩
 ·exact keep b u (r.ex.all b u e) (aE e g3)
 ·cases q:z.H b with
  | none=>exact absurd q e
  | some u=>exact out b u (r.ex.all b u q) (aE q g3) (r.ex.out b e n)
 ·obtain⟨v,h1,h2⟩:=r.pu j t (kK j _ id e)
  exact⟨v,h1,h2.mono x.q⟩
 ·obtain⟨b,vs,h1,h2,h3,h4,h5⟩:=r.ow j ts (kK j _ id e)
  have hb:=nins b _ h4 (fun _ _ _ q=>nomatch q)
  exact⟨b,vs,h1,out b _ h4 hb h2,h3,keep b _ h4 hb,h5.mono x.q⟩
 ·exact r.ne j k us ws b hjk (kK j _ id e1) (kK k _ id e2) e3
 ·obtain⟨b,oe,u,h1,h2,h3,h4⟩:=r.xc j C (kK j _ id e)
  have hb:=nins b _ h3 (fun _ _ _ q=>nomatch q)
  exact⟨b,oe,u,h1,out b _ h3 hb h2,keep b _ h3 hb,h4⟩
 ·by_cases hj:j=i
  ·subst hj
   rw[List.getElem?_set_self hi] at e
   cases e
   exact⟨g1,hq,g3,dx,fs',hH,hf⟩
  ·have e:=other j _ hj e
   obtain⟨h1,h2,h3,dx1,fs1,h4,h5⟩:=r.o.ob j b d gl e
   have hb:b≠a:=r.o.on j i b a d c gl fl hj e e0
   exact⟨h1,out b _ h4 hb h2,h3,dx1,fs1,keep b _ h4 hb,h5.mono x.q⟩
 ·have w:∀(j:Nat)(b:Addr) (d:Str)(gl:List (Str×T)),(ρ.set i (some (.ob a c fl')))[j]?=some (some (.ob b d gl))→∃ gl',ρ[j]?=some (some (.ob b d gl')):=fun j b d gl e=>by
   by_cases hj:j=i
   ·subst hj;rw[List.getElem?_set_self hi] at e;cases e;exact⟨fl,e0⟩
   ·exact⟨gl,other j _ hj e⟩
  obtain⟨_,e1⟩:=w j b d gl e1
  obtain⟨_,e2⟩:=w k b' d' gl' e2
  exact r.o.on j k b b' d d' _ _ hjk e1 e2
 ·have hj:j≠i:=fun q=>by subst q;rw[List.getElem?_set_self hi] at e;cases e
  exact r.o.ro j d gl (other j _ hj e)
theorem Rn.setB (r:Rn z σ ρ Hq H) (i:Nat){x:Addr}{c:Str}{fl:List (Str×T)}{dx:Addr}{fs:List (Str×V)}(hz:z.H x=none)(hq:Hq x=none)(hH:H x=some (.ins (clsAt z.K c) dx fs)) (hf:FldR z.K Hq fl fs)
  (hn:∀(j:Nat)(b:Addr) (d:Str)(gl:List (Str×T)),ρ[j]?=some (some (.ob b d gl))→b≠x):Rn z (σ.set i (some (.ref x))) (ρ.set i (some (.ob x c fl))) Hq H:=by
 have hl:=r.len
 have at_:∀(j:Nat)(sl:Sl),(ρ.set i (some (.ob x c fl)))[j]?=some (some sl)→(j=i∧i<ρ.length∧sl=.ob x c fl)∨(j≠i∧ρ[j]?=some (some sl)):=fun j sl e=>by
  by_cases hj:j=i
  ·subst hj
   by_cases hi:j<ρ.length
   ·rw[List.getElem?_set_self hi] at e;cases e;exact .inl ⟨rfl,hi,rfl⟩
   ·rw[List.getElem?_eq_none (by rw[List.length_set];omega)] at e;cases e
  ·rw[List.getElem?_set_ne (Ne.symm hj)] at e;exact .inr ⟨hj,e⟩
 refine⟨r.ex,by rw[List.length_set,List.length_set];exact hl,fun j t e=>?_,fun j ts e=>?_,fun j k us ws b hjk e1 e2 e3=>?_,fun j C e=>?_,fun j b d gl e=>?_,fun j k b b' d d' gl gl' hjk e1 e2=>?_,fun j d gl e=>?_⟩
 ·rcases at_ j _ e with⟨_,_,q⟩|⟨hj,e⟩
  ·cases q
  ·rw[List.getElem?_set_ne (Ne.symm hj)];exact r.pu j t e
 ·rcases at_ j _ e with⟨_,_,q⟩|⟨hj,e⟩
  ·cases q
  ·rw[List.getElem?_set_ne (Ne.symm hj)];exact r.ow j ts e
 ·rcases at_ j _ e1 with⟨_,_,q⟩|⟨hj,e1⟩
  ·cases q
  rcases at_ k _ e2 with⟨_,_,q⟩|⟨hk,e2⟩
  ·cases q
  rw[List.getElem?_set_ne (Ne.symm hj)] at e3
  rw[List.getElem?_set_ne (Ne.symm hk)]
  exact r.ne j k us ws b hjk e1 e2 e3
 ·rcases at_ j _ e with⟨_,_,q⟩|⟨hj,e⟩
  ·cases q
  ·rw[List.getElem?_set_ne (Ne.symm hj)];exact r.xc j C e
 ·rcases at_ j _ e with⟨rfl,hi,q⟩|⟨hj,e⟩
  ·cases q;exact⟨List.getElem?_set_self (by omega),hq,hz,dx,fs,hH,hf⟩
  ·rw[List.getElem?_set_ne (Ne.symm hj)];exact r.o.ob j b d gl e
 ·rcases at_ j _ e1 with⟨rfl,_,q⟩|⟨hj,e1⟩
  ·cases q
   rcases at_ k _ e2 with⟨rfl,_,q⟩|⟨hk,e2⟩
   ·exact absurd rfl hjk
   ·exact(hn k b' d' gl' e2).symm
  ·rcases at_ k _ e2 with⟨_,_,q⟩|⟨hk,e2⟩
   ·cases q;exact hn j b d gl e1
   ·exact r.o.on j k b b' d d' gl gl' hjk e1 e2
 ·rcases at_ j _ e with⟨_,_,q⟩|⟨hj,e⟩
  ·cases q
  ·rw[List.getElem?_set_ne (Ne.symm hj)];exact r.o.ro j d gl e
theorem K0 {N:List Str}{ts:List T}:∀(i:Nat)(sl:Sl),(∀ t,sl≠.pu t)→(ts.map (fun t=>some (Sl.pu t))++List.replicate (N.length - ts.length) none)[i]?≠some (some sl):=fun i sl ho e=>by
 by_cases hi:i<ts.length
 ·rw[List.getElem?_append_left (by rw[List.length_map];exact hi),List.getElem?_map,List.getElem?_eq_getElem hi] at e
  cases e;exact ho _ rfl
 ·rw[List.getElem?_append_right (by rw[List.length_map];omega),List.getElem?_replicate] at e
  split at e<;>cases e
theorem nI {n0:Str}{N:List Str}{ts:List T}{vs:List V}{a:Addr}{sl:Sl}(ex:Ex z.Hq z.H Hq H)(h:RepL z.K Hq ts vs)(ho:Ro z [some (.ref a)] [some sl] Hq H) (hs:sl.isO) :
  Rn z (start (n0::N) (.ref a::vs)) (some sl::(ts.map (fun t=>some (.pu t))++List.replicate (N.length - ts.length) none)) Hq H:=by
 have tl:=tV ex.sub (N:=N) h
 have es:start (n0::N) (.ref a::vs)=some (.ref a)::start N vs:=by
  unfold L2.start
  rw[List.map_cons,List.length_cons,List.length_cons,Nat.add_sub_add_right];rfl
 rw[es]
 have at_:∀(i:Nat)(x:Sl),(∀ t,x≠.pu t)→(some sl::(ts.map (fun t=>some (Sl.pu t))++List.replicate (N.length - ts.length) none))[i]?=some (some x)→i=0∧sl=x:=fun i x hx e=>by
  cases i with
  | zero=>exact⟨rfl,Option.some.inj (Option.some.inj e)⟩
  | succ j=>exact absurd e (K0 (N:=N) j x hx)
 refine⟨ex,by rw[List.length_cons,List.length_cons,tl.len],fun i t e=>?_,fun i us e=>?_,fun i j us ws b hij e1 e2=>?_,fun i C e=>?_,fun i b d gl e=>?_,fun i j b b' d d' gl gl' hij e1 e2=>?_,fun i d gl e=>?_⟩
 ·cases i with
  | zero=>have:=Option.some.inj (Option.some.inj e);subst this;exact absurd hs id
  | succ j=>exact tl.pu j t e
 ·obtain⟨_,q⟩:=at_ i (.ow us) (fun _ q=>nomatch q) e;subst q;exact absurd hs id
 ·obtain⟨_,q⟩:=at_ i (.ow us) (fun _ q=>nomatch q) e1;subst q;exact absurd hs id
 ·obtain⟨_,q⟩:=at_ i (.xc C) (fun _ q=>nomatch q) e;subst q;exact absurd hs id
 ·obtain⟨rfl,q⟩:=at_ i (.ob b d gl) (fun _ q=>nomatch q) e
  subst q
  exact ho.ob 0 b d gl rfl
 ·obtain⟨h1,_⟩:=at_ i (.ob b d gl) (fun _ q=>nomatch q) e1
  obtain⟨h2,_⟩:=at_ j (.ob b' d' gl') (fun _ q=>nomatch q) e2
  exact absurd (h1.trans h2.symm) hij
 ·obtain⟨rfl,q⟩:=at_ i (.ro d gl) (fun _ q=>nomatch q) e
  subst q
  exact ho.ro 0 d gl rfl
end
end TL
namespace TL
open PySem L2
section
variable {X:Cx}{z:Z}{f g:FE}{fa:FA}{pos:Pos}
def fFld (i:Nat) (c f:Str):FE:=fun ρ=>(objF i c ρ).bind fun fl=>fl.lookup f
theorem ev_fld (i:Nat){c f x:Str}{p1:Pos}(hK:z.K=X.K)(cl:Cls X.K (clsAt X.K c)) (n:aL X.K (clsAt X.K c) f) (hN:X.N[i]?=some x:=by rfl)(hv:Vis X.env.scope x:=by first|exact Or.inl rfl|exact Or.inr (Or.inl rfl)|exact Or.inr (Or.inr rfl)) (hd:(x==("__debug__":Str))=false:=by decide)
  (hcd:(x==("__classdict__":Str))=false:=by decide) (hb:attributeBase (.Name x p1) f X.env (eval (.Name x p1) X.env)=eval (.Name x p1) X.env:=by rfl):EV X z (.Attribute (.Name x p1) f pos) (fFld i c f) :=
 PE.imp (G8 (bO hN hv hd hcd) hb) fun σ H Q ⟨ρ,Hq,t,r,e,k⟩=>by
  unfold fFld at e
  obtain⟨fl,e1,e2⟩:=Option.bind_eq_some_iff.mp e
  obtain⟨a,dx,fs,h1,h2,h3⟩:=kL r e1
  obtain⟨v,h4,h5⟩:=h3.look e2
  exact⟨.ref a,h1,a,clsAt X.K c,dx,fs,v,rfl,hK▸h2,cl,n,h4,k v Hq H (.refl r.sub) h5⟩
def dG (i:Nat) (c f:Str)(g:FE):FS:=fun ρ=>match ρ[i]? with
 | some (some (.ob a d fl))=>if d=c∧fl.length<1000 then (g ρ).map fun t=>.nx (ρ.set i (some (.ob a d (putT f t fl)))) else none
 | _=>none
theorem s_fld (i:Nat){c f x:Str}{p1 p2:Pos}{e:Expr}(hK:z.K=X.K)(cl:Cls X.K (clsAt X.K c)) (n:aL X.K (clsAt X.K c) f) (hg:EV X z e g)(hN:X.N[i]?=some x:=by rfl)(hv:Vis X.env.scope x:=by first|exact Or.inl rfl|exact Or.inr (Or.inl rfl)|exact Or.inr (Or.inr rfl)) (hd:(x==("__debug__":Str))=false:=by decide)
  (hcd:(x==("__classdict__":Str))=false:=by decide) (hs:swapsWith e (some (.Attribute (.Name x p1) f p2)) pos.line X.env=pure false:=by rfl):SV X z (.Assign [.Attribute (.Name x p1) f p2] e pos) (dG i c f g) :=
 PS.imp (HQ (bO hN hv hd hcd) hg hs) fun D σ H ⟨ρ,Hq,o,r,e,k⟩=>by
  unfold dG at e
  split at e
  ·rename_i a d fl e0
   split at e
   ·rename_i hc
    obtain⟨hc,hl⟩:=hc
    subst hc
    obtain⟨t,e1,rfl⟩:=Option.map_eq_some_iff.mp e
    refine⟨ρ,Hq,t,r,e1,fun v Hq1 H1 x1 r1=>?_⟩
    have r2:=r.ext x1
    obtain⟨h1,h2,h3,dx,fs,h4,h5⟩:=r2.o.ob i a d fl e0
    refine⟨.ref a,h1,a,clsAt X.K d,dx,fs,rfl,hK▸h4,cl,n,by rw[← h5.len];exact hl,?_⟩
    rw[← hK]
    refine k σ Hq1 _ (r2.mutO e0 (dx:=dx) ⟨fun b o q=>?_,.refl _,fun b o q=>?_,fun _ _ n=>n⟩ h2 bR (h5.put r1)) x1.q
    ·have:b≠a:=fun z=>by subst z;rw[qk] at q;cases q
     rw[iT this] at q
     rw[ak this];exact q
    ·rw[ak (aE q h2)];exact x1.sub b o q
   ·cases e
  ·cases e
end
def spM (K:PySem.W.Frag) (c:Str) (n:Nat)(F:List (Str×T)→List T→Option T):Sp:=fun vs H Q _=>∃ Hq a dx fs vs' fl ts t,vs=.ref a::vs'∧ts.length=n∧Same Hq H∧H a=some (.ins (clsAt K c) dx fs)∧FldR K Hq fl fs∧RepL K Hq ts vs'∧F fl ts=some t∧∀ v Hq' H',Ex Hq H Hq' H'→Rep K Hq' t v→Q v H'
def SrcM (K:PySem.W.Frag) (c m qual:Str)(st:Stmt)(ps:List Str):Prop:=∃ a fd,Fun K m qual st a fd∧Binds K fd ps []∧Cls K (clsAt K c)∧Meth K (clsAt K c) m a
def HasM (P:Program)(w:World)(K:PySem.W.Frag)(mg:Str→Option Value)(base:Heap) (c m:Str) (k:Nat)(F:List (Str×T)→List T→Option T):Prop :=
 ∃ a fd ps,FnOk P w K mg base CX0 k a fd ps (spM K c 0 F)∧Cls K (clsAt K c)∧Meth K (clsAt K c) m a∧Binds K fd ps []
def aH (i:Nat) (c m:Str)(F:List (Str×T)→List T→Option T):FE:=fun ρ=>(objF i c ρ).bind fun fl=>if (fl.lookup m).isNone=true then F fl [] else none
section
variable {X:Cx}{z:Z}{pos:Pos}
theorem ev_meth (i:Nat){c m x:Str}{k:Nat}{F:List (Str×T)→List T→Option T}{p1 p2:Pos}{pl:Sem Bool}(hK:z.K=X.K)(h:HasM X.prog X.w X.K X.mg X.base c m k F)(hr:Room k X.A)(hN:X.N[i]?=some x:=by rfl)
  (hv:Vis X.env.scope x:=by first|exact Or.inl rfl|exact Or.inr (Or.inl rfl)|exact Or.inr (Or.inr rfl)) (hd:(x==("__debug__":Str))=false:=by decide) (hcd:(x==("__classdict__":Str))=false:=by decide)
  (ht:eval (.Call (.Attribute (.Name x p1) m p2) [] [] pos) X.env=(do
   let ov ← eval (.Name x p1) X.env
   standAt p2.atName
   let (f,first) ← holding [ov] (getMethod ov m pl)
   callWith pos f first (backTo pos (starEach [] X.env)) (backToKw pos (keywordEach [] X.env))):=by rfl):EV X z (.Call (.Attribute (.Name x p1) m p2) [] [] pos) (aH i c m F):=by
 obtain⟨a0,fd,ps,G,cl,hm,hb⟩:=h
 refine PE.imp (yx (E:=E0) (dvs:=[]) (pl:=pl) (bO hN hv hd hcd) cl hm G hr hb .nil gk ht) fun σ H Q ⟨ρ,Hq,t,r,e,k⟩=>?_
 unfold aH at e
 obtain⟨fl,e1,e2⟩:=Option.bind_eq_some_iff.mp e
 split at e2
 ·rename_i hn
  obtain⟨a,dx,fs,h1,h2,h3⟩:=kL r e1
  refine⟨.ref a,h1,a,dx,fs,rfl,hK▸h2,h3.no (by simpa using hn),?_⟩
  show spM X.K c 0 F ([.ref a]++[]) H Q E0
  rw[List.append_nil]
  rw[hK] at h2 h3
  exact⟨Hq,a,dx,fs,[],fl,[],t,rfl,rfl,r.sub,h2,h3,.nil,e2,fun v Hq' H' x p=>k v Hq' H' x (hK▸p)⟩
 ·cases e2
end
section
variable {P:Program}{w:World}{K:PySem.W.Frag}{mg:Str→Option Value}{base:Heap}
def runM (n:Nat) (c:Str)(F:FS)(fl:List (Str×T)) (ts:List T):Option T:=match F (some (.ro c fl)::(ts.map (fun t=>some (.pu t))++List.replicate (n - ts.length) none)) with
 | some (.rt t)=>some t
 | some (.nx _)=>some .non
 | _=>none
theorem yT {Hq H:Hp}{a dx:Addr}{fs:List (Str×V)}{fl:List (Str×T)}{c:Str}(h1:H a=some (.ins (clsAt K c) dx fs)) (h2:FldR K Hq fl fs):Ro ⟨K,Hq,H⟩ [some (.ref a)] [some (.ro c fl)] Hq H:=by
 refine⟨fun i b d gl e=>?_,fun i j b b' d d' gl gl' hij e1 e2=>?_,fun i d gl e=>?_⟩
 ·cases i with
  | zero=>cases e
  | succ j=>cases e
 ·cases i with
  | zero=>cases e1
  | succ j=>cases e1
 ·cases i with
  | zero=>cases e;exact⟨a,dx,fs,rfl,h1,h2⟩
  | succ j=>cases e
theorem Di {m qual c:Str}{st:Stmt}{n0:Str}{N ps:List Str}{f:Addr}{fd:FuncData}{k n l:Nat}{F:FS}(hn:N.length=n)(hl:ps.length=l)(G:Fun K m qual st f fd)(S:av (n0::N) (n0::ps) (af st))
  (hbody:∀(cdv:Value)(A:Around)(outer:List Env)(s:Shared)(H:Hp)(E:XK)(z:Z),Room k (A.deeper (PyProof.Rows.envOfC qual (af st) s.heap.objs.size f cdv))→z.K=K →
   SVs (cxOf CX0 P w K mg base (n0::N) qual (af st) f cdv A outer s H E).nox z (aj st) F):FnOk P w K mg base CX0 (k+1) f fd (n0::ps) (spM K c l (runM n c F)):=by
 subst hn hl
 refine G.ok S (fun vs H Q E h=>?_) fun cdv A outer s H vs Q E hr h=>?_
 ·obtain⟨Hq,a,dx,fs,vs',fl,ts,t,rfl,hl,_,_,_,r,_⟩:=h
  rw[List.length_cons,List.length_cons,← r.length,hl]
 ·obtain⟨Hq,a,dx,fs,vs',fl,ts,t,rfl,hl,sb,h1,h2,r,e,k⟩:=h
  have r0:=nI (z:=⟨K,Hq,H⟩) (n0:=n0) (N:=N) (.refl sb) r (yT h1 h2) trivial
  refine⟨_,hbody cdv A outer s H E ⟨K,Hq,H⟩ hr rfl,?_⟩
  unfold runM at e
  split at e
  ·rename_i t' e1
   cases e
   exact⟨_,Hq,_,r0,e1,fun v Hq' H' x p=>k v Hq' H' x p⟩
  ·rename_i ρ' e1
   cases e
   exact⟨_,Hq,_,r0,e1,fun σ' Hq' H' r' _=>k .non Hq' H' r'.ex kQ⟩
  ·cases e
theorem DA {m qual c:Str}{st:Stmt}{n0:Str}{N:List Str}{k n:Nat}{F:FS}(hn:N.length=n)(G:SrcM K c m qual st [n0])(S:av (n0::N) [n0] (af st))
  (hbody:∀(f:Addr)(cdv:Value)(A:Around)(outer:List Env)(s:Shared)(H:Hp)(E:XK)(z:Z),Room k (A.deeper (PyProof.Rows.envOfC qual (af st) s.heap.objs.size f cdv))→z.K=K →
   SVs (cxOf CX0 P w K mg base (n0::N) qual (af st) f cdv A outer s H E).nox z (aj st) F):HasM P w K mg base c m (k+1) (runM n c F):=by
 obtain⟨a0,fd,fn,b,cl,hm⟩:=G
 exact⟨a0,fd,[n0],Di hn rfl fn S (hbody a0),cl,hm,b⟩
theorem fE {h:Heap}{c m qual:Str}{C f:Addr}{st:Stmt}{ps:List Str}{oc:Value}{od an:Option Addr}{osl:Array (Option Value)}{kV doc pm cdv ct:Value}(cl:Cls K (clsAt K c)) (ec:clsAt K c=C)
  (l:K.lookup f=some ⟨oc,od,.func (PySem.W.fnOf m qual (bf st) (aj st) (af st) .none kV doc pm an cdv ct),osl⟩) (co:PySem.W.codeIn K cdv qual=true)(k:PySem.W.keepIn K (.ref f)=true)
  (t:PySem.W.findIn K (.ref C) m=some (some (.ref f))) (i:PySem.W.isFn K (.ref f)=true)
  (hb:∀(kV doc pm:Value)(an:Option Addr)(cdv ct:Value)(us:List Value),us.length=ps.length→bindArgs (PySem.W.fnOf m qual (bf st) (aj st) (af st) .none kV doc pm an cdv ct) ⟨us,[]⟩=pure (ps.zip us)):SrcM K c m qual st ps :=
 ⟨f,_,kH (st:=st) l co k,(kH (st:=st) l co k).binds hb,cl,⟨by rw[ec];exact t,i,k⟩⟩
theorem BW {c:Str}{C:Addr}(a:PySem.W.nsIn K mainGlobals c=some (some (.ref C))):clsAt K c=C:=by unfold clsAt;rw[a]
end
def spMM (K:PySem.W.Frag) (c:Str) (n:Nat)(F:Addr→List (Str×T)→List T→Option (List (Str×T))):Sp:=fun vs H Q _=>∃ Hq a dx fs vs' fl ts fl',vs=.ref a::vs'∧ts.length=n∧Same Hq H∧Hq a=none∧H a=some (.ins (clsAt K c) dx fs)∧FldR K Hq fl fs∧RepL K Hq ts vs'∧F a fl ts=some fl' ∧
 ∀ Hq' H' dx' fs',Ex Hq (del H a) Hq' H'→Hq' a=none→H' a=some (.ins (clsAt K c) dx' fs')→FldR K Hq' fl' fs'→Q .non H'
def b8 (P:Program)(w:World)(K:PySem.W.Frag)(mg:Str→Option Value)(base:Heap) (c m:Str) (k n:Nat)(F:Addr→List (Str×T)→List T→Option (List (Str×T))):Prop :=
 ∃ a fd ps,ps.length=n+1∧FnOk P w K mg base CX0 k a fd ps (spMM K c n F)∧Cls K (clsAt K c)∧Meth K (clsAt K c) m a∧Binds K fd ps []
section
variable {X:Cx}{z:Z}{pos:Pos}
theorem xZ {i:Nat}{c:Str}{n:Nat}{F:Addr→List (Str×T)→List T→Option (List (Str×T))}{σ:L2.St}{ρ:Rho}{Hq H:Hp}{a:Addr}{fl fl':List (Str×T)}{ts:List T}{vs:List V}{Q:VK}(hK:z.K=X.K)(r:Rn z σ ρ Hq H)(e0:ρ[i]?=some (some (.ob a c fl))) (hn:ts.length=n)(rl:RepL z.K Hq ts vs)(e:F a fl ts=some fl')
  (k:∀ Hq' H',Rn z σ (ρ.set i (some (.ob a c fl'))) Hq' H'→Same Hq Hq'→Q .non H'):spMM X.K c n F (.ref a::vs) H Q E0:=by
 obtain⟨h1,h2,h3,dx,fs,h4,h5⟩:=r.o.ob i a c fl e0
 rw[hK] at h4 h5 rl
 exact⟨Hq,a,dx,fs,vs,fl,ts,fl',rfl,hn,r.sub,h2,h4,h5,rl,e,fun Hq' H' dx' fs' x q1 q2 q3=>k Hq' H' (r.mutO e0 x q1 (hK▸q2) (hK▸q3)) x.q⟩
open Classical in
noncomputable def gq (i:Nat) (c:Str) (n:Nat)(F:Addr→List (Str×T)→List T→Option (List (Str×T))) (fa:FA)(G:FS):FS:=fun ρ=>match fa ρ with
 | some ts=>if ts.length=n∧∀ a,((F a [] ts).bind fun fl=>G (ρ.set i (some (.ob a c fl))))=((F 0 [] ts).bind fun fl=>G (ρ.set i (some (.ob 0 c fl)))) then (F 0 [] ts).bind fun fl=>G (ρ.set i (some (.ob 0 c fl))) else none
 | none=>none
theorem vv {i:Nat}{c:Str}{n:Nat}{F:Addr→List (Str×T)→List T→Option (List (Str×T))}{fa:FA}{G:FS}{ρ:Rho}{ts:List T}{fl:List (Str×T)}{o:Out}(h1:fa ρ=some ts)(h2:ts.length=n)(h3:∀ a,F a [] ts=some fl)(h4:∀ a,G (ρ.set i (some (.ob a c fl)))=some o):gq i c n F fa G ρ=some o:=by
 unfold gq
 rw[h1]
 simp only[h3,Option.bind_some,h4,h2,and_self,implies_true,if_true]
theorem ss_make (i:Nat){c x:Str}{k n:Nat}{F:Addr→List (Str×T)→List T→Option (List (Str×T))}{fa:FA}{G:FS}{p1 p2 p3:Pos}{e0:Expr}{es:List Expr}{rest:List Stmt}(hK:z.K=X.K)(hN:X.N.Nodup)(h:b8 X.prog X.w X.K X.mg X.base c "__init__" k n F)(mk:PySem.W.makesIn X.K (clsAt X.K c)=true) (kp:PySem.W.keepIn X.K (.ref (clsAt X.K c))=true) (hr:Room (k+1) X.A) (hm:X.mg c=some (.ref (clsAt X.K c)))
  (ha:EA X z (e0::es) fa) (hG:SVs X z rest G)(hg:Gl X c:=by rfl)(hi:X.N[i]?=some x:=by rfl)(hx:Loc X.env.scope x:=by first|exact Or.inl rfl|exact Or.inr rfl)
  (hdb:(c==("__debug__":Str))=false:=by decide) (he:starEach (e0::es) X.env=(false,eval e0 X.env)::starEach es X.env:=by rfl) (hpl:(backTo p2 (starEach es X.env)).any (·.1)=false:=by rfl)
  (hs:swapsWith (.Call (.Name c p1) (e0::es) [] p2) (some (.Name x p3)) pos.line X.env=pure false:=by rfl) (hf:X.fn x=true∨X.env.scope.names.lookup x=some .local:=by first|exact .inl rfl|exact .inr rfl) :
  SVs X z (.Assign [.Name x p3] (.Call (.Name c p1) (e0::es) [] p2) pos::rest) (gq i c n F fa G):=by
 obtain⟨f0,fd,ps,_,hF,cl,w9,hb⟩:=h
 have M:Mk X.K (clsAt X.K c) f0:=⟨mk,w9.at_,w9.fn,kp⟩
 exact PSs.imp (yI (sS hN hi hx (Hh (E:=E0) (dvs:=[]) M hF hr hg hm hb .nil gk ha hdb he hpl) hs hf) hG) fun D σ H ⟨ρ,Hq,o,r,e,k⟩=>by
  unfold gq at e
  split at e
  ·rename_i ts ef
   split at e
   ·rename_i hc
    obtain⟨hn,hall⟩:=hc
    refine⟨ρ,Hq,ts,r,ef,fun vs Hq1 H1 x1 r1 x dx hx0 hdx hne=>?_⟩
    have hx1:=hall x
    rw[e] at hx1
    obtain⟨fl,e1,e2⟩:=Option.bind_eq_some_iff.mp hx1
    show spMM X.K c n F (.ref x::(vs++[])) (upd (upd H1 dx (.own x)) x (.ins (clsAt X.K c) dx [])) _ E0
    rw[List.append_nil]
    have r2:=r.ext x1
    have hq1:Hq1 x=none:=x1.sub.free hx0
    have keep:∀ b o,H1 b=some o→upd (upd H1 dx (.own x)) x (.ins (clsAt X.K c) dx []) b=some o:=fun b o q=>by
     rw[ak (aE q hx0),ak (aE q hdx)];exact q
    refine⟨Hq1,x,dx,[],vs,[],ts,fl,rfl,hn,fun b o q=>keep b o (x1.sub b o q),hq1,bR,.nil,hK▸r1,e1,fun Hq' H' dx' fs' y q1 q2 q3=>⟨rfl,?_⟩⟩
    have y2:Ex Hq1 H1 Hq' H':=⟨fun b o q=>y.all b o (by rw[iT (aE q hx0)];exact keep b o q),y.q,y.sub,fun b q n=>y.out b (by
     cases w:H1 b with
     | none=>exact absurd w q
     | some o=>rw[iT (aE w hx0),keep b o w];simp) n⟩
    have r3:=(r2.ext y2).setB i (x:=x) (c:=c) (fl:=fl) (r2.ex.all.free hx0) q1 (hK▸q2) (hK▸q3) fun j b d gl ej=>by
     obtain⟨_,_,_,_,_,q,_⟩:=r2.o.ob j b d gl ej
     exact aE q hx0
    exact⟨_,Hq',o,r3,e2,k.from (x1.q.trans y.q)⟩
   ·cases e
  ·cases e
end
section
variable {P:Program}{w:World}{K:PySem.W.Frag}{mg:Str→Option Value}{base:Heap}
def eK (n:Nat) (c:Str)(F:FS)(a:Addr)(fl:List (Str×T)) (ts:List T):Option (List (Str×T)):=match F (some (.ob a c fl)::(ts.map (fun t=>some (.pu t))++List.replicate (n - ts.length) none)) with
 | some (.nx ρ)=>(match (ρ[0]?:Option (Option Sl)) with|some (some (.ob b d fl'))=>if b=a∧d=c then some fl' else none|_=>none)
 | _=>none
theorem yh {Hq H:Hp}{a dx:Addr}{fs:List (Str×V)}{fl:List (Str×T)}{c:Str}(h0:Hq a=none)(h1:H a=some (.ins (clsAt K c) dx fs)) (h2:FldR K Hq fl fs):Ro ⟨K,Hq,del H a⟩ [some (.ref a)] [some (.ob a c fl)] Hq H:=by
 refine⟨fun i b d gl e=>?_,fun i j b b' d d' gl gl' hij e1 e2=>?_,fun i d gl e=>?_⟩
 ·cases i with
  | zero=>cases e;exact⟨rfl,h0,qk,dx,fs,h1,h2⟩
  | succ j=>cases e
 ·cases i with
  | zero =>
    cases j with
    | zero=>exact absurd rfl hij
    | succ j=>cases e2
  | succ j=>cases e1
 ·cases i with
  | zero=>cases e
  | succ j=>cases e
theorem Dh {m qual c:Str}{st:Stmt}{n0:Str}{N ps:List Str}{f:Addr}{fd:FuncData}{k n l:Nat}{F:FS}(hn:N.length=n)(hl:ps.length=l)(G:Fun K m qual st f fd)(S:av (n0::N) (n0::ps) (af st))
  (hbody:∀(cdv:Value)(A:Around)(outer:List Env)(s:Shared)(H:Hp)(E:XK)(z:Z),Room k (A.deeper (PyProof.Rows.envOfC qual (af st) s.heap.objs.size f cdv))→z.K=K →
   SVs (cxOf CX0 P w K mg base (n0::N) qual (af st) f cdv A outer s H E).nox z (aj st) F):FnOk P w K mg base CX0 (k+1) f fd (n0::ps) (spMM K c l (eK n c F)):=by
 subst hn hl
 refine G.ok S (fun vs H Q E h=>?_) fun cdv A outer s H vs Q E hr h=>?_
 ·obtain⟨Hq,a,dx,fs,vs',fl,ts,fl',rfl,hl,_,_,_,_,r,_⟩:=h
  rw[List.length_cons,List.length_cons,← r.length,hl]
 ·obtain⟨Hq,a,dx,fs,vs',fl,ts,fl',rfl,hl,sb,h0,h1,h2,r,e,k⟩:=h
  have ex0:Ex Hq (del H a) Hq H:=⟨wB,.refl _,sb,fun _ _ n=>n⟩
  have r0:=nI (z:=⟨K,Hq,del H a⟩) (n0:=n0) (N:=N) ex0 r (yh h0 h1 h2) trivial
  refine⟨_,hbody cdv A outer s H E ⟨K,Hq,del H a⟩ hr rfl,?_⟩
  unfold eK at e
  split at e
  ·rename_i ρ' e1
   split at e
   ·rename_i b d gl e2
    split at e
    ·rename_i hc
     obtain⟨hc1,hc2⟩:=hc
     subst hc1 hc2
     cases e
     refine⟨_,Hq,_,r0,e1,fun σ' Hq' H' r' _=>?_⟩
     obtain⟨_,q1,_,dx',fs',q2,q3⟩:=r'.o.ob 0 b d fl' e2
     exact k Hq' H' dx' fs' r'.ex q1 q2 q3
    ·cases e
   ·cases e
  ·cases e
theorem Dy {m qual c:Str}{st:Stmt}{n0:Str}{N ps:List Str}{k n l:Nat}{F:FS}(hn:N.length=n)(hl:ps.length=l)(G:SrcM K c m qual st (n0::ps)) (S:av (n0::N) (n0::ps) (af st))
  (hbody:∀(f:Addr)(cdv:Value)(A:Around)(outer:List Env)(s:Shared)(H:Hp)(E:XK)(z:Z),Room k (A.deeper (PyProof.Rows.envOfC qual (af st) s.heap.objs.size f cdv))→z.K=K →
   SVs (cxOf CX0 P w K mg base (n0::N) qual (af st) f cdv A outer s H E).nox z (aj st) F):b8 P w K mg base c m (k+1) l (eK n c F):=by
 obtain⟨a0,fd,fn,b,cl,hm⟩:=G
 exact⟨a0,fd,n0::ps,by rw[List.length_cons,hl],Dh hn hl fn S (hbody a0),cl,hm,b⟩
end
end TL
namespace TL
open PySem L2
def tIsN:T→Option T
 | .non=>some (.bl true)
 | _=>some (.bl false)
def jm:T→Option T
 | .non=>some (.bl false)
 | _=>some (.bl true)
theorem s9 {K:PySem.W.Frag}{Hq:Hp}{t:T}{v:V}(r:Rep K Hq t v):tIsN t=some (.bl (decide (v=.non)))∧jm t=some (.bl (!decide (v=.non))):=by
 cases t with
 | non=>rw[r.n];exact⟨rfl,rfl⟩
 | bl b=>rw[r.b];exact⟨rfl,rfl⟩
 | int b=>rw[r.i];exact⟨rfl,rfl⟩
 | str b=>rw[r.s];exact⟨rfl,rfl⟩
 | tup ts=>unfold Rep at r;obtain⟨a,vs,rfl,_⟩:=r;exact⟨rfl,rfl⟩
 | lst ts=>unfold Rep at r;obtain⟨a,vs,rfl,_⟩:=r;exact⟨rfl,rfl⟩
section
variable {X:Cx}{z:Z}{e:Expr}{f:FE}{pos:Pos}
theorem et_isN {j p}(h:EV X z e f)(hm:behindInMarks .Is (.Constant .none j p)=false:=by rfl):ET X z (.Compare e [.Is] [.Constant .none j p] pos) (fB (f1 tIsN f)) :=
 PT.imp (nk yp h ng hm) fun σ H Q ⟨ρ,Hq,b,r,e,k⟩=>by
  obtain⟨u,e1,e2⟩:=kF (kG e)
  refine⟨ρ,Hq,u,r,e1,fun v Hq1 H1 x1 r1=>⟨rfl,?_⟩⟩
  rw[(s9 r1).1] at e2
  cases e2
  exact⟨_,rfl,k Hq1 H1 x1⟩
theorem et_notN {j p}(h:EV X z e f)(hm:behindInMarks .IsNot (.Constant .none j p)=false:=by rfl):ET X z (.Compare e [.IsNot] [.Constant .none j p] pos) (fB (f1 jm f)) :=
 PT.imp (nk G1 h ng hm) fun σ H Q ⟨ρ,Hq,b,r,e,k⟩=>by
  obtain⟨u,e1,e2⟩:=kF (kG e)
  refine⟨ρ,Hq,u,r,e1,fun v Hq1 H1 x1 r1=>⟨rfl,?_⟩⟩
  rw[(s9 r1).2] at e2
  cases e2
  exact⟨_,rfl,k Hq1 H1 x1⟩
end
def XR (X:Cx)(pins:List (Addr×Obj)) (kx:Addr→L2.St→Hp→Prop)(z:Z)(e:Expr)(G:Rho→Option Str):Prop :=
 ∀(s:Shared)(σ:L2.St)(H:Hp)(ρ:Rho)(Hq:Hp) (c:Str)(Q:Value→Shared→Prop),Inv X pins σ H s→Rn z σ ρ Hq H→G ρ=some c→(∀ Hq' H',Rn z σ ρ Hq' H'→Same Hq Hq'→kx (clsAt z.K c) σ H')→wpAny (model X.prog X.w) X.A (eval e X.env) Q X.xe s
section
variable {X:Cx}{pins:List (Addr×Obj)}{z:Z}{kx:Addr→L2.St→Hp→Prop}{pos:Pos}
theorem xr_tup {e:Expr}{G:Rho→Option Str} {x1}(h:XR X pins kx z e G)(hs:starEach [e] X.env=(false,eval e X.env)::starEach [] X.env:=by rfl):XR X pins kx z (.Tuple [e] x1 pos) G:=by
 intro s σ H ρ Hq d Q I r eg hk
 refine wpAny_Tuple_spliced ?_
 rw[hs]
 show wpAny _ _ (spliced ((false,eval e X.env)::backTo pos (starEach [] X.env))) _ _ s
 exact Calls.spliced_cons (h s σ H ρ Hq d _ I r eg hk)
theorem xr_op {a b:Expr}{op:Operator}{f:FE}{G:Rho→Option Str}(ha:EV X z a f)(h:XR X pins kx z b G):XR X pins kx z (.BinOp a op b pos) (fun ρ=>(f ρ).bind fun _=>G ρ):=by
 intro s σ H ρ Hq d Q I r eg hk
 obtain⟨t,e1,e2⟩:=Option.bind_eq_some_iff.mp eg
 refine wpAny_BinOp (thn (ha pins s σ H (fun _ H1=>∃ Hq1,Ex Hq H Hq1 H1) I ⟨ρ,Hq,t,r,e1,fun v Hq1 H1 x1 _=>⟨Hq1,x1⟩⟩) fun v s1 ⟨y,H1,I1,_,Hq1,x1⟩=>?_)
 exact h s1 σ H1 ρ Hq1 d _ I1 (r.ext x1) e2 fun Hq' H' r' sm=>hk Hq' H' r' (x1.q.trans sm)
def xE (G:Rho→Option Str):FX:=fun ρ=>(G ρ).map fun c=>.xc ρ c
theorem x_fldE {e o:Expr}{f:Str}{p:Pos}{G:Rho→Option Str}(h:XR X pins kx z e G)(hs:swapsWith e (some (.Attribute o f p)) pos.line X.env=pure false:=by rfl):XV X pins kx z (.Assign [.Attribute o f p] e pos) (xE G):=by
 intro s σ H D I ⟨ρ,Hq,o',r,ef,k⟩
 obtain⟨c,e1,rfl⟩:=Option.map_eq_some_iff.mp ef
 exact plainObj_wpAny_Assign_Attribute (h s σ H ρ Hq c _ I r e1 fun Hq' H' r' sm=>k σ Hq' H' r' sm) hs
theorem x_setE {e:Expr}{x:Str}{p:Pos}{G:Rho→Option Str}(h:XR X pins kx z e G)(hs:swapsWith e (some (.Name x p)) pos.line X.env=pure false:=by rfl):XV X pins kx z (.Assign [.Name x p] e pos) (xE G):=by
 intro s σ H D I ⟨ρ,Hq,o',r,ef,k⟩
 obtain⟨c,e1,rfl⟩:=Option.map_eq_some_iff.mp ef
 exact wpAny_Assign_Name (h s σ H ρ Hq c _ I r e1 fun Hq' H' r' sm=>k σ Hq' H' r' sm) hs
def xOr (G:FX)(F:FS):FX:=fun ρ=>match G ρ with|some o=>some o|none=>(F ρ).map .ok
theorem x_or {st:Stmt}{G:FX}{F:FS}(h1:XV X pins kx z st G)(h2:SV X z st F):XV X pins kx z st (xOr G F):=by
 intro s σ H D I ⟨ρ,Hq,o,r,ef,k⟩
 unfold xOr at ef
 split at ef
 ·rename_i o' e1
  cases ef
  exact h1 s σ H D I ⟨ρ,Hq,_,r,e1,k⟩
 ·obtain⟨o',e1,e2⟩:=Option.map_eq_some_iff.mp ef
  subst e2
  exact h2 pins s σ H D I ⟨ρ,Hq,o',r,e1,k⟩
end
section
variable {P:Program}{w:World}{K:PySem.W.Frag}{mg:Str→Option Value}{base:Heap}
end
section
variable {X:Cx}{z:Z}
end
end TL
namespace TL
open PySem L2
section
variable {ρ ρ':Rho}{i n:Nat}{c f m:Str}{fl fl':List (Str×T)}{t:T}{ts:List T}{a:Addr}{F:FS}{r:Rho}
theorem j9 (h:F (some (.ro c fl)::(ts.map (fun t=>some (.pu t))++List.replicate (n - ts.length) none))=some (.rt t)):runM n c F fl ts=some t:=by unfold runM;rw[h]
theorem oS (h:F (some (.ob a c fl)::(ts.map (fun t=>some (.pu t))++List.replicate (n - ts.length) none))=some (.nx (some (.ob a c fl')::r))):eK n c F a fl ts=some fl':=by
 unfold eK
 rw[h]
 simp
theorem bu (h:ρ[i]?=some (some (.ro c fl))):objF i c ρ=some fl:=by unfold objF;rw[h];simp
theorem br (h:ρ[i]?=some (some (.ob a c fl))):objF i c ρ=some fl:=by unfold objF;rw[h];simp
theorem bJ (h1:objF i c ρ=some fl)(h2:fl.lookup f=some t):fFld i c f ρ=some t:=by unfold fFld;rw[h1];exact h2
theorem b9 {M:List (Str×T)→List T→Option T}(h1:objF i c ρ=some fl)(h2:(fl.lookup m).isNone=true) (h3:M fl []=some t):aH i c m M ρ=some t:=by
 unfold aH;rw[h1,Option.bind_some,if_pos h2];exact h3
theorem kg {g:FE}(h1:ρ[i]?=some (some (.ob a c fl))) (h2:fl.length<1000)(h3:g ρ=some t)(h4:ρ.set i (some (.ob a c (putT f t fl)))=ρ'):dG i c f g ρ=some (.nx ρ'):=by
 unfold dG
 rw[h1]
 dsimp only
 rw[if_pos ⟨rfl,h2⟩,h3,← h4];rfl
theorem fh {F G:FX}{o:Option OutX}(h1:F ρ=some (.ok (.nx ρ'))) (h2:G ρ'=o):xSeq F G ρ=o:=by unfold xSeq;rw[h1];exact h2
theorem kq {F G:FX}{c:Str}(h1:F ρ=some (.xc ρ' c)):xSeq F G ρ=some (.xc ρ' c):=by unfold xSeq;rw[h1]
theorem vG {F:FS}{o:Out}(h1:F ρ=some o):xSt F ρ=some (.ok o):=by unfold xSt;rw[h1];rfl
theorem l5 {ft:FT}{F G:FX}{o:Option OutX}(h1:ft ρ=some true)(h2:F ρ=o):xIf ft F G ρ=o:=by unfold xIf;rw[h1];exact h2
theorem ko {ft:FT}{F G:FX}{o:Option OutX}(h1:ft ρ=some false)(h2:G ρ=o):xIf ft F G ρ=o:=by unfold xIf;rw[h1];exact h2
theorem BE {G:FX}{F:FS}{o:OutX}(h1:G ρ=some o):xOr G F ρ=some o:=by unfold xOr;rw[h1]
theorem BD {G:FX}{F:FS}{o:Out}(h1:G ρ=none)(h2:F ρ=some o):xOr G F ρ=some (.ok o):=by unfold xOr;rw[h1,h2];rfl
theorem b_xE {G:Rho→Option Str}{c:Str}(h1:G ρ=some c):xE G ρ=some (.xc ρ c):=by unfold xE;rw[h1];rfl
end
end TL
namespace TL
open PySem L2 SR
def yX (m:Nat):Nat→Nat→Nat→List Nat
 | 0,_,_=>[]
 | n+1,i,p=>(List.range (SetTable.runEnd m i+1 - i)).map (i+·)++yX m n (SetTable.leap m i p).1 (SetTable.leap m i p).2
def yU (m:Nat)(r:List Nat):List Nat:=yX m (SetTable.turns m) (SetTable.bits (tupH r) % (m+1)) (SetTable.bits (tupH r))
def masks:List Nat:=[7,31,127]
end TL
namespace TL
open PySem L2 SR
def Rise (l:List Nat):Prop:=l.Pairwise (·<·)
def tbl (m fi mv:Nat)(ld:Bool)(l:List Nat):SetTable:={mask:=m,place:=l.toArray,dummies:=#[],finger:=fi,led:=ld,moves:=mv,plain:=true}
structure Lay (m:Nat)(L:List (Nat×List Nat)):Prop where
 srt:Rise (L.map (·.1))
 le:∀ x∈L,x.1≤m
 nd:(L.map (·.2)).Nodup
 s6:∀ x∈L,x.2∈aO
 rch:∀ x∈L,∃ pre post,yU m x.2=pre++x.1::post∧∀ y∈pre,y∈L.map (·.1)
section
variable {m fi mv:Nat}{ld:Bool}{L:List (Nat×List Nat)}{ha:Nat→Int}
end
end TL
namespace TL
open PySem L2 SR
structure Ow (m:Nat)(ow:Array (Option Nat)) (rs:List (List Nat)):Prop where
 sz:ow.size=m+1
 lt:∀ j i,ow.getD j none=some i→i<rs.length
 on:∀ i,i<rs.length→∃ j,ow.getD j none=some i
 inj:∀ j j' i,ow.getD j none=some i→ow.getD j' none=some i→j=j'
 rch:∀ j i r,ow.getD j none=some i→rs[i]?=some r→∃ pre post,yU m r=pre++j::post∧∀ y∈pre,∃ k,ow.getD y none=some k
end TL
namespace L2
open PySem PySem.Spec PyProof.Rows
structure LF (h:Heap)(S:Addr)(o:Obj)(es:Array (Int×Value)) (ep m mv:Nat)(l:Bool)(ms:List Nat):Prop where
 ho:h.get? S=some o
 ex:o.ExactSet
 hd:o.data=.set es ep (tabOf m mv l ms)
 sz:es.size=ms.length
 ri:ms.Pairwise (·<·)
 fi:ms.length≤m∧m≤127
section
variable {prog:Program}{w:World}{A:Around}{E:Value→Shared→Prop}{s:Shared}{S I:Addr}{o:Obj}{es:Array (Int×Value)}{ep m mv:Nat}{ms:List Nat}
end
section
variable {prog:Program}{w:World}{A:Around}{E:Value→Shared→Prop}{s:Shared}{S I:Addr}{o:Obj}{es:Array (Int×Value)}{ep m mv:Nat}{ms:List Nat}
end
end L2
namespace TL
open PySem L2 SR PySem.Spec PyProof.Rows
abbrev tkd (prog:Program)(w:World):=tupleKind (intKind prog w)
def ERow (Gd:Addr→List Nat→Prop)(e:Int×Value)(r:List Nat):Prop:=e.1=tupH r∧∃ b,e.2=.ref b∧Gd b r
def AM (Gd:Addr→List Nat→Prop)(es:List (Int×Value)) (rs:List (List Nat)):Prop:=es.length=rs.length∧∀(i:Nat)(e:Int×Value)(r:List Nat),es[i]?=some e→rs[i]?=some r→ERow Gd e r
structure LG (prog:Program)(w:World)(Gd:Addr→List Nat→Prop)(h:Heap)(a:Addr)(l:Bool)(L:List (Nat×List Nat)) (o:Obj)(es:Array (Int×Value)) (ep m mv:Nat):Prop where
 ho:h.get? a=some o
 ex:o.ExactSet
 hd:o.data=.set es ep (tabOf m mv l (L.map (·.1)))
 er:AM Gd es.toList (L.map (·.2))
 sub:∀ b r,Gd b r→(tkd prog w).is h (aB r) b
 ly:Lay m L
 ms:m∈masks
 fu:L.length * 5<m * 3
section
variable {prog:Program}{w:World}{A:Around}{E:Value→Shared→Prop}{s:Shared}{a:Addr}{l:Bool}{L:List (Nat×List Nat)}{o:Obj}{es:Array (Int×Value)}{ep m mv:Nat}{Gd:Addr→List Nat→Prop}
end
end TL
namespace TL
open PySem L2 SR PySem.Spec PyProof.Rows
section
variable {prog:Program}{w:World}{A:Around}{R:Result→Shared→Prop}{I:Addr}{fp wr:List Addr}{G:Array GenState→Array GenState→Prop}{n:Nat}{P:Nat→Value→Prop}{St:Nat→Shared→Prop}
end
end TL
namespace TL
open PySem L2 SR PySem.Spec PyProof.Rows
end TL
namespace TL
open PySem L2 SR PySem.Spec PyProof.Rows
end TL
namespace TL
open PySem L2 SR PySem.W PyProof.Rows
def gp' (p:Array Nat) (k:Nat):Nat:=p.getD k 0
section
variable (K:Nat→Nat)
def bef (x y:Nat):Prop:=K x<K y∨(K x=K y∧x<y)
structure Pf (p:Array Nat) (n m:Nat):Prop where
 sz:p.size=n
 le:m≤n
 lt:∀ k,k<m→gp' p k<m
 inj:∀ a c,a<m→c<m→gp' p a=gp' p c→a=c
 id:∀ k,m≤k→k<n→gp' p k=k
variable {K}{p:Array Nat}{n m:Nat}
structure Dq (K:Nat→Nat)(p:Array Nat) (m q:Nat):Prop where
 le:q+1≤m
 d1:∀ a c,a<c→c<m - (q+1)→bef K (gp' p c) (gp' p a)
 d2:∀ a c,a<m - (q+1)→m - (q+1)≤c→c<m→K (gp' p c)<K (gp' p a)
 d3:∀ a c,m - (q+1)≤a→a<c→c<m→K (gp' p a)=K (gp' p c)∧gp' p a<gp' p c
end
end TL
namespace TL
open PySem PyProof.Rows PySem.W L2 SeqAt SR
section
variable {prog:Program}{w:World}{A:Around}{E:Value→Shared→Prop}{s:Shared}
end
end TL
namespace TL
open PySem PyProof.Rows PySem.W L2 SeqAt SR
section
variable {prog:Program}{w:World}{A:Around}{E:Value→Shared→Prop}{s:Shared}
end
end TL
namespace TL
open PySem PyProof.Rows PySem.W L2 SeqAt SR
section
variable {prog:Program}{w:World}{A:Around}{E:Value→Shared→Prop}{s:Shared}
end
end TL
namespace TL
open PySem PyProof.Rows PySem.W L2 SeqAt SR
section
variable {prog:Program}{w:World}{A:Around}{E:Value→Shared→Prop}{s:Shared}
end
section
variable {X:Cx}{z:Z}{e:Expr}{f:FE}{p p2 pos pos2:Pos}
end
end TL
namespace TL
open PySem PyProof.Rows PySem.W L2 SeqAt SR
section
variable {prog:Program}{w:World}{A:Around}{E:Value→Shared→Prop}{s:Shared}
end
end TL
namespace TL
open PySem PyProof.Rows PySem.W L2 SeqAt SR
section
variable {X:Cx}{z:Z}{e:Expr}{f:FE}{p p2 pos kp:Pos}
end
end TL
namespace TL
open PySem L2
section
variable {X:Cx}
def tRep:T→T→Option T
 | .str x,.int k=>if k=1 then some (.str x) else if k=0 then some (.str Str.empty) else none
 | _,_=>none
theorem yg:Op2 X (binaryOp .Mult) tRep:=by
 intro pins s σ Hq H t u w x y v v' Q I rx ry sb r1 r2 e k
 cases t with
 | str a =>
   cases u with
   | int j =>
     cases r1.str;cases r2.int
     obtain⟨tk,rfl⟩:=rx
     obtain⟨tk',rfl⟩:=ry
     simp only[tRep] at e
     split at e
     ·rename_i hj
      subst hj
      cases e
      refine P.mul_str (by decide) (fun _ h=>by simp at h) (fun _ h=>by simp at h) ?_
      rw[if_neg (by decide),if_pos (by simp)]
      exact⟨.str a,H,I,⟨_,rfl⟩,k _ Hq H (.refl sb) nu⟩
     ·split at e
      ·rename_i hj
       subst hj
       cases e
       exact P.mul_str_none (by decide) (by decide) ⟨.str _,H,I.tok _,⟨_,rfl⟩,k _ Hq H (.refl sb) nu⟩
      ·cases e
   | _=>simp [tRep] at e
 | _=>simp [tRep] at e
def gr:T→Option T
 | .bl b=>some (.int (if b then 1 else 0))
 | _=>none
theorem l0:Bi1 X (.type "int") gr:=by
 intro pins s σ H xs us Q I r h
 obtain⟨Hq,t,w,x,rfl,sb,r1,e,k⟩:=h
 cases t with
 | bl b =>
   simp only[gr,Option.some.injEq] at e;subst e
   cases r1.bl
   obtain⟨u,rfl,hu⟩:=vals1 r
   cases hu
   exact PySem.call_int_bool ⟨.int _,H,I.tok _,⟨_,rfl⟩,k _ Hq H (.refl sb) cj⟩
 | _=>simp [gr] at e
end
end TL
namespace TL
open PySem L2
mutual
def nol:T→Bool
 | .lst _=>false
 | .tup ts=>nolL ts
 | _=>true
def nolL:List T→Bool
 | []=>true
 | t::ts=>nol t&&nolL ts
end
def delL (H:Hp)(as:List Addr):Hp:=fun b=>if b∈as then none else H b
def frzL (Hq H:Hp)(as:List Addr):Hp:=fun b=>if b∈as then H b else Hq b
theorem J1 {K:PySem.W.Frag}{H:Hp}{as:List Addr}(hl:∀ b∈as,∃ vs,H b=some (.lst vs)) {a:Addr}{xs:List V}(h:SqT K H a xs):SqT K (delL H as) a xs:=by
 have key:∀ o,H a=some o→(∀ vs,o≠.lst vs)→delL H as a=some o:=fun o e ho=>by
  unfold delL
  rw[if_neg]
  ·exact e
  ·intro z
   obtain⟨vs,q⟩:=hl a z
   rw[e] at q
   exact ho vs (Option.some.inj q)
 rcases h with(h|⟨o,h⟩)|h
 ·exact .inl (.inl (key _ h (fun _ q=>nomatch q)))
 ·exact .inl (.inr ⟨o,key _ h (fun _ q=>nomatch q)⟩)
 ·exact .inr h
mutual
theorem yR {K:PySem.W.Frag}{H:Hp}{as:List Addr}(hl:∀ b∈as,∃ vs,H b=some (.lst vs)):∀{t:T}{v:V},nol t=true→Rep K H t v→Rep K (delL H as) t v
 | .non,v,_,h=>by unfold Rep at h ⊢;exact h
 | .bl b,v,_,h=>by unfold Rep at h ⊢;exact h
 | .int b,v,_,h=>by unfold Rep at h ⊢;exact h
 | .str b,v,_,h=>by unfold Rep at h ⊢;exact h
 | .tup ts,v,hn,h=>by
   unfold nol at hn
   unfold Rep at h ⊢
   obtain⟨a,vs,h1,h2,h3⟩:=h
   exact⟨a,vs,h1,J1 hl h2,yP hl hn h3⟩
 | .lst ts,v,hn,h=>by simp [nol] at hn
theorem yP {K:PySem.W.Frag}{H:Hp}{as:List Addr}(hl:∀ b∈as,∃ vs,H b=some (.lst vs)):∀{ts:List T}{vs:List V},nolL ts=true→RepL K H ts vs→RepL K (delL H as) ts vs
 | [],vs,_,h=>by unfold RepL at h ⊢;exact h
 | t::ts,vs,hn,h=>by
   unfold nolL at hn
   rw[Bool.and_eq_true] at hn
   unfold RepL at h ⊢
   obtain⟨v,r,h1,h2,h3⟩:=h
   exact⟨v,r,h1,yR hl hn.1 h2,yP hl hn.2 h3⟩
end
inductive RepA (K:PySem.W.Frag)(Hq H:Hp):List T→List V→List Addr→Prop
 | nil:RepA K Hq H [] [] []
 | pu {t:T}{v:V}{ts:List T}{vs:List V}{as:List Addr}:Rep K Hq t v→RepA K Hq H ts vs as→RepA K Hq H (t::ts) (v::vs) as
 | ow {a:Addr}{us:List T}{ws:List V}{ts:List T}{vs:List V}{as:List Addr}:Hq a=none→H a=some (.lst ws)→RepL K Hq us ws→RepA K Hq H ts vs as→RepA K Hq H (.lst us::ts) (.ref a::vs) (a::as)
theorem RepA.own {K:PySem.W.Frag}{Hq H:Hp}:∀{ts:List T}{vs:List V}{as:List Addr},RepA K Hq H ts vs as→∀ b∈as,Hq b=none∧∃ ws,H b=some (.lst ws)
 | _,_,_,.nil,b,hb=>nomatch hb
 | _,_,_,.pu _ r,b,hb=>RepA.own r b hb
 | _,_,_,.ow h1 h2 _ r,b,hb=>by
   rcases List.mem_cons.mp hb with rfl|hb
   ·exact⟨h1,_,h2⟩
   ·exact RepA.own r b hb
theorem RepA.rep {K:PySem.W.Frag}{Hq H:Hp}{bs:List Addr}(hb:∀ b∈bs,Hq b=none):∀{ts:List T}{vs:List V}{as:List Addr},RepA K Hq H ts vs as→(∀ a∈as,a∈bs)→RepL K (frzL Hq H bs) ts vs
 | _,_,_,.nil,_=>.nil
 | _,_,_,.pu h r,hs=>.cons (h.mono fun b o e=>by unfold frzL;rw[if_neg (fun z=>by rw[hb b z] at e;cases e)];exact e) (RepA.rep hb r hs)
 | _,_,_,.ow (a:=a) (us:=us) (ws:=ws) h1 h2 h3 r,hs=>by
   refine .cons ?_ (RepA.rep hb r fun x hx=>hs x (List.mem_cons_of_mem _ hx))
   unfold Rep
   refine⟨a,ws,rfl,SqL.of (by unfold frzL;rw[if_pos (hs a List.mem_cons_self)];exact h2),h3.mono fun b o e=>?_⟩
   unfold frzL
   rw[if_neg (fun z=>by rw[hb b z] at e;cases e)]
   exact e
def tAo (z:Z)(f:FA):TA:=fun σ H Q=>∃ ρ Hq ts,Rn z σ ρ Hq H∧f ρ=some ts∧∀ vs Hq' H',Ex Hq H Hq' H'→(∃ as,RepA z.K Hq' H' ts vs as)→Q vs H'
abbrev EAo (X:Cx)(z:Z)(es:List Expr)(f:FA):Prop:=PA X es (tAo z f)
section
variable {X:Cx}{z:Z}{e:Expr}{es:List Expr}{f:FE}{fa:FA}{pos:Pos}
theorem eao_nil:EAo X z [] fNil:=PA.imp cE fun σ H Q ⟨ρ,Hq,ts,r,e,k⟩=>by
 cases e;exact k [] Hq H (.refl r.sub) ⟨[],.nil⟩
theorem eao_cons (h:EV X z e f)(hr:EAo X z es fa)(hs:starEach (e::es) X.env=(false,eval e X.env)::starEach es X.env:=by rfl):EAo X z (e::es) (aa f fa) :=
 PA.imp (bx h hr hs) fun σ H Q ⟨ρ,Hq,ts,r,e,k⟩=>by
  obtain⟨t,us,e1,e2,rfl⟩:=qw e
  exact⟨ρ,Hq,t,r,e1,fun v Hq1 H1 x1 r1=>⟨ρ,Hq1,us,r.ext x1,e2,fun vs Hq2 H2 x2 ⟨as,r2⟩=>k _ Hq2 H2 (x1.trans x2) ⟨as,.pu (r1.mono x2.q) r2⟩⟩⟩
theorem eao_own (i:Nat){x:Str}{p:Pos}(hr:EAo X z es fa)(hN:X.N[i]?=some x:=by rfl)(hv:Vis X.env.scope x:=by first|exact Or.inl rfl|exact Or.inr (Or.inl rfl)|exact Or.inr (Or.inr rfl)) (hd:(x==("__debug__":Str))=false:=by decide)
  (hcd:(x==("__classdict__":Str))=false:=by decide) (hs:starEach (.Name x p::es) X.env=(false,eval (.Name x p) X.env)::starEach es X.env:=by rfl):EAo X z (.Name x p::es) (aa (go i) fa) :=
 PA.imp (bx (bO hN hv hd hcd) hr hs) fun σ H Q ⟨ρ,Hq,ts,r,e,k⟩=>by
  obtain⟨t,us,e1,e2,rfl⟩:=qw e
  unfold go at e1
  split at e1
  ·rename_i ws h
   cases e1
   obtain⟨a,vs,h1,h2,h3,h4,h5⟩:=r.ow i ws h
   exact⟨_,h1,ρ,Hq,us,r,e2,fun vs' Hq2 H2 x2 ⟨as,r2⟩=>k _ Hq2 H2 x2 ⟨a::as,.ow (x2.out a (by rw[h4];simp) h2) (x2.all _ _ h4) (h5.mono x2.q) r2⟩⟩
  ·cases e1
def cT (n:Nat)(F:List T→Option T)(fa:FA):FE:=fun ρ=>match fa ρ with
 | some ts=>if ts.length=n then (F ts).bind fun t=>if nol t=true then some t else none else none
 | none=>none
theorem ev_hasR {k n:Nat}{x:Str}{p:Pos}{F:List T→Option T}(hK:z.K=X.K)(h:Has X.prog X.w X.K X.mg X.base x k n F)(hr:Room k X.A)(ha:EAo X z (e::es) fa) (hg:Gl X x:=by rfl)
  (hd:(x==("__debug__":Str))=false:=by decide) (hs:starEach (e::es) X.env=(false,eval e X.env)::starEach es X.env:=by rfl) (hpl:(backTo pos (starEach es X.env)).any (·.1)=false:=by rfl) :
  EV X z (.Call (.Name x p) (e::es) [] pos) (cT n F fa):=by
 obtain⟨a0,fd,ps,hl,G,hm,hk,hb⟩:=h
 refine PE.imp (sM (E:=E0) (dvs:=[]) G hr hg hm hk hb .nil gk ha hd hs hpl) fun σ H Q ⟨ρ,Hq,t,r,e,k⟩=>?_
 unfold cT at e
 split at e
 ·rename_i ts e1
  split at e
  ·rename_i hn
   obtain⟨t',e2,e3⟩:=Option.bind_eq_some_iff.mp e
   split at e3
   ·rename_i hnl
    cases e3
    refine⟨ρ,Hq,ts,r,e1,fun vs Hq1 H1 x1 ⟨as,r1⟩=>?_⟩
    show spT X.K n F (vs++[]) H1 Q E0
    rw[List.append_nil]
    rw[hK] at r1
    have ho:=r1.own
    have hq0:∀ b∈as,Hq1 b=none:=fun b hb=>(ho b hb).1
    refine⟨frzL Hq1 H1 as,ts,t,hn,fun b o q=>?_,r1.rep hq0 (fun _ h=>h),e2,fun v Hq2 H2 x2 r2=>?_⟩
    ·unfold frzL at q
     split at q
     ·exact q
     ·exact x1.sub b o q
    ·have hl2:∀ b∈as,∃ vs,Hq2 b=some (.lst vs):=fun b hb=>by
      obtain⟨_,ws,q⟩:=ho b hb
      exact⟨ws,x2.q b _ (by unfold frzL;rw[if_pos hb];exact q)⟩
     have ex:Ex Hq1 H1 (delL Hq2 as) H2:=by
      refine⟨x2.all,fun b o q=>?_,fun b o q=>?_,fun b q n=>?_⟩
      ·have hb:b∉as:=fun z=>by rw[hq0 b z] at q;cases q
       unfold delL
       rw[if_neg hb]
       exact x2.q b o (by unfold frzL;rw[if_neg hb];exact q)
      ·unfold delL at q
       split at q
       ·cases q
       ·exact x2.sub b o q
      ·unfold delL
       split
       ·rfl
       ·rename_i hb
        exact x2.out b q (by unfold frzL;rw[if_neg hb];exact n)
     exact k v (delL Hq2 as) H2 (x1.trans ex) (hK▸yR hl2 hnl r2)
   ·cases e3
  ·cases e
 ·cases e
end
end TL
namespace TL
open PySem L2
abbrev FM:=Rho→Option (T×Rho)
abbrev FMT:=Rho→Option (Bool×Rho)
def tM (z:Z)(f:FM):TE:=fun σ H Q=>∃ ρ Hq t ρ',Rn z σ ρ Hq H∧f ρ=some (t,ρ')∧∀ v Hq' H',Rn z σ ρ' Hq' H'→Same Hq Hq'→Rep z.K Hq' t v→Q v H'
def tMT (z:Z)(f:FMT):TT:=fun σ H Q=>∃ ρ Hq b ρ',Rn z σ ρ Hq H∧f ρ=some (b,ρ')∧∀ Hq' H',Rn z σ ρ' Hq' H'→Same Hq Hq'→Q b H'
abbrev EM (X:Cx)(z:Z)(e:Expr)(f:FM):Prop:=PE X e (tM z f)
abbrev EMT (X:Cx)(z:Z)(e:Expr)(f:FMT):Prop:=PT X e (tMT z f)
abbrev EMW (X:Cx)(z:Z)(e:Expr)(f:FMT):Prop:=PW X e (tMT z f)
def m1 (fn:T→Option T)(f:FM):FM:=fun ρ=>(f ρ).bind fun p=>(fn p.1).map fun u=>(u,p.2)
def mIx (f:FE)(g:FM):FM:=fun ρ=>(f ρ).bind fun t=>(g ρ).bind fun p=>(tIx t p.1).map fun w=>(w,p.2)
def dz (i:Nat) (c m:Str) (n:Nat)(F:Addr→List (Str×T)→List T→Option (List (Str×T))) (fa:FA):FM:=fun ρ=>match ρ[i]? with
 | some (some (.ob a d fl))=>if d=c∧(fl.lookup m).isNone=true then (match fa ρ with
   | some ts=>if ts.length=n then (F a fl ts).map fun fl'=>(.non,ρ.set i (some (.ob a d fl'))) else none
   | none=>none) else none
 | _=>none
def dB (fn:T→T→Option T)(f:FM)(g:FE):FMT:=fun ρ=>(f ρ).bind fun p=>(g p.2).bind fun u=>match fn p.1 u with|some (.bl b)=>some (b,p.2)|_=>none
def mtOr (f:FMT)(g:FT):FMT:=fun ρ=>(f ρ).bind fun p=>if p.1=true then some (true,p.2) else (g p.2).map fun c=>(c,p.2)
section
variable {X:Cx}{z:Z}{e a b:Expr}{f:FE}{g:FM}{fa:FA}{pos:Pos}
theorem em_isN {j p}(h:EM X z e g)(hm:behindInMarks .Is (.Constant .none j p)=false:=by rfl):EM X z (.Compare e [.Is] [.Constant .none j p] pos) (m1 tIsN g) :=
 PE.imp (yu yp h ng hm) fun σ H Q ⟨ρ,Hq,t,ρ',r,e,k⟩=>by
  obtain⟨⟨u,ρ1⟩,e1,e2⟩:=Option.bind_eq_some_iff.mp e
  obtain⟨w,e3,e4⟩:=Option.map_eq_some_iff.mp e2
  cases e4
  refine⟨ρ,Hq,u,_,r,e1,fun v Hq1 H1 r1 sm rp=>⟨rfl,?_⟩⟩
  simp only at e3
  rw[(s9 rp).1] at e3
  cases e3
  exact k _ Hq1 H1 r1 sm bD
theorem em_y1 (hK:z.K=X.K){fn:T→Option T}{x:Str}{id:String}{p:Pos}(hb:Bi1 X (.type id) fn) (hg:Gl X x)(hm:X.mg x=none)(hv:bootBuiltins x=some (.type id)) (he:EM X z e g)(hn:x≠"__name__":=by decide)(hdb:(x==("__debug__":Str))=false:=by decide)
  (hs:starEach [e] X.env=[(false,eval e X.env)]:=by rfl):EM X z (.Call (.Name x p) [e] [] pos) (m1 fn g) :=
 PE.imp (yt hb hg hm hv (bx he cE hs) hn hdb hs rfl) fun σ H Q ⟨ρ,Hq,t,ρ',r,e,k⟩=>by
  obtain⟨⟨u,ρ1⟩,e1,e2⟩:=Option.bind_eq_some_iff.mp e
  obtain⟨w,e3,e4⟩:=Option.map_eq_some_iff.mp e2
  cases e4
  refine⟨ρ,Hq,u,_,r,e1,fun v Hq1 H1 r1 sm rp=>?_⟩
  rw[hK] at rp
  exact⟨Hq1,u,t,v,rfl,r1.sub,.inl rp,e3,fun q Hq' H' x q2=>k q Hq' H' (r1.ext x) (sm.trans x.q) (hK▸q2)⟩
theorem em_ix (hK:z.K=X.K)(ha:EV X z a f)(hb:EM X z b g)(hs:jO b):EM X z (.Subscript a b pos) (mIx f g):=PE.imp (yw xw ha hb hs) fun σ H Q ⟨ρ,Hq,w,ρ',r,e,k⟩=>by
 obtain⟨t,e1,e2⟩:=Option.bind_eq_some_iff.mp e
 obtain⟨⟨u,ρ1⟩,e3,e4⟩:=Option.bind_eq_some_iff.mp e2
 obtain⟨w',e5,e6⟩:=Option.map_eq_some_iff.mp e4
 cases e6
 refine⟨ρ,Hq,t,r,e1,fun v Hq1 H1 x1 r1=>⟨ρ,Hq1,u,_,r.ext x1,e3,fun v2 Hq2 H2 r2 sm rp=>?_⟩⟩
 have rt:RepR z.K Hq2 H2 t v:=.inl (r1.mono sm)
 cases t with
 | tup ts =>
   cases u with
   | int i =>
     obtain⟨p,vs,rfl,q1,q2⟩:=rt.tup r2.sub
     obtain⟨y,h1,h2⟩:=nq q2 e5
     exact .inr (.inl ⟨p,vs,i,y,rfl,rp.i,hK▸q1,h1,k y Hq2 H2 r2 (x1.q.trans sm) h2⟩)
   | _=>simp [tIx] at e5
 | lst ts =>
   cases u with
   | int i =>
     obtain⟨p,vs,rfl,q1,q2⟩:=rt.lst r2.sub
     obtain⟨y,h1,h2⟩:=nq q2 e5
     exact .inl ⟨p,vs,i,y,rfl,rp.i,hK▸q1,h1,k y Hq2 H2 r2 (x1.q.trans sm) h2⟩
   | _=>simp [tIx] at e5
 | _=>simp [tIx] at e5
theorem em_meth0 (i:Nat){c m x:Str}{k:Nat}{F:Addr→List (Str×T)→List T→Option (List (Str×T))}{p1 p2:Pos}{pl:Sem Bool}(hK:z.K=X.K)(h:b8 X.prog X.w X.K X.mg X.base c m k 0 F)(hr:Room k X.A)(hN:X.N[i]?=some x:=by rfl)
  (hv:Vis X.env.scope x:=by first|exact Or.inl rfl|exact Or.inr (Or.inl rfl)|exact Or.inr (Or.inr rfl)) (hd:(x==("__debug__":Str))=false:=by decide) (hcd:(x==("__classdict__":Str))=false:=by decide)
  (ht:eval (.Call (.Attribute (.Name x p1) m p2) [] [] pos) X.env=(do
   let ov ← eval (.Name x p1) X.env
   standAt p2.atName
   let (f,first) ← holding [ov] (getMethod ov m pl)
   callWith pos f first (backTo pos (starEach [] X.env)) (backToKw pos (keywordEach [] X.env))):=by rfl):EM X z (.Call (.Attribute (.Name x p1) m p2) [] [] pos) (dz i c m 0 F fNil):=by
 obtain⟨a0,fd,ps,hl,G,cl,hm,hb⟩:=h
 refine PE.imp (yx (E:=E0) (dvs:=[]) (pl:=pl) (bO hN hv hd hcd) cl hm G hr hb .nil gk ht) fun σ H Q ⟨ρ,Hq,t,ρ',r,e,k⟩=>?_
 unfold dz at e
 split at e
 ·rename_i a d fl e0
  split at e
  ·rename_i hc
   obtain⟨hc,hnl⟩:=hc
   subst hc
   simp only[fNil,List.length_nil,if_true] at e
   obtain⟨fl',e1,e2⟩:=Option.map_eq_some_iff.mp e
   cases e2
   obtain⟨h1,h2,h3,dx,fs,h4,h5⟩:=r.o.ob i a d fl e0
   refine⟨.ref a,h1,a,dx,fs,rfl,hK▸h4,h5.no (by simpa using hnl),?_⟩
   show spMM X.K d 0 F [.ref a] H Q E0
   exact xZ hK r e0 rfl .nil e1 fun Hq' H' r' sm=>k .non Hq' H' r' sm kQ
  ·cases e
 ·cases e
theorem em_meth1 (i:Nat){c m x:Str}{k n:Nat}{F:Addr→List (Str×T)→List T→Option (List (Str×T))}{p1 p2:Pos}{e0:Expr}{es:List Expr}{pl:Sem Bool}(hK:z.K=X.K)(h:b8 X.prog X.w X.K X.mg X.base c m k n F)(hr:Room k X.A)(ha:EA X z (e0::es) fa) (hN:X.N[i]?=some x:=by rfl)
  (hv:Vis X.env.scope x:=by first|exact Or.inl rfl|exact Or.inr (Or.inl rfl)|exact Or.inr (Or.inr rfl)) (hd:(x==("__debug__":Str))=false:=by decide) (hcd:(x==("__classdict__":Str))=false:=by decide)
  (hst:starEach (e0::es) X.env=(false,eval e0 X.env)::starEach es X.env:=by rfl) (hpl:(backTo pos (starEach es X.env)).any (·.1)=false:=by rfl)
  (ht:eval (.Call (.Attribute (.Name x p1) m p2) (e0::es) [] pos) X.env=(do
   let ov ← eval (.Name x p1) X.env
   standAt p2.atName
   let (f,first) ← holding [ov] (getMethod ov m pl)
   callWith pos f first (backTo pos (starEach (e0::es) X.env)) (backToKw pos (keywordEach [] X.env))):=by rfl):EM X z (.Call (.Attribute (.Name x p1) m p2) (e0::es) [] pos) (dz i c m n F fa):=by
 obtain⟨a0,fd,ps,hl,G,cl,hm,hb⟩:=h
 refine PE.imp (Hi (E:=E0) (dvs:=[]) (pl:=pl) (bO hN hv hd hcd) cl hm G hr hb .nil gk ha hst hpl ht) fun σ H Q ⟨ρ,Hq,t,ρ',r,e,k⟩=>?_
 unfold dz at e
 split at e
 ·rename_i a d fl e0
  split at e
  ·rename_i hc
   obtain⟨hc,hnl⟩:=hc
   subst hc
   split at e
   ·rename_i ts ef
    split at e
    ·rename_i hn
     obtain⟨fl',e1,e2⟩:=Option.map_eq_some_iff.mp e
     cases e2
     obtain⟨h1,h2,h3,dx,fs,h4,h5⟩:=r.o.ob i a d fl e0
     refine⟨.ref a,h1,a,dx,fs,rfl,hK▸h4,h5.no (by simpa using hnl),ρ,Hq,ts,r,ef,fun vs Hq1 H1 x1 r1=>?_⟩
     show spMM X.K d n F (.ref a::(vs++[])) H1 Q E0
     rw[List.append_nil]
     exact xZ hK (r.ext x1) e0 hn r1 e1 fun Hq' H' r' sm=>k .non Hq' H' r' (x1.q.trans sm) kQ
    ·cases e
   ·cases e
  ·cases e
 ·cases e
theorem emt_cmp (hK:z.K=X.K){fn:T→T→Option T}{op:CmpOp}(ho:Op2 X (compareOp op) fn) (ha:EM X z a g)(hb:EV X z b f)(hm:behindInMarks op b=false):EMT X z (.Compare a [op] [b] pos) (dB fn g f) :=
 PT.imp (nk ho.r ha hb hm) fun σ H Q ⟨ρ,Hq,b,ρ',r,e,k⟩=>by
  obtain⟨⟨t,ρ1⟩,e1,e2⟩:=Option.bind_eq_some_iff.mp e
  obtain⟨u,e3,e4⟩:=Option.bind_eq_some_iff.mp e2
  simp only at e3 e4
  split at e4
  ·rename_i c e5
   cases e4
   refine⟨ρ,Hq,t,ρ',r,e1,fun v Hq1 H1 r1 sm rp=>⟨ρ',Hq1,u,r1,e3,fun v2 Hq2 H2 x2 r2=>?_⟩⟩
   rw[hK] at rp r2
   exact⟨Hq2,t,u,.bl b,x2.sub,.inl (rp.mono x2.q),.inl r2,e5,fun q Hq3 H3 x3 r3=>⟨b,r3.b,k Hq3 H3 ((r1.ext x2).ext x3) ((sm.trans x2.q).trans x3.q)⟩⟩
  ·cases e4
theorem emw_or {rest:List Expr}{ft:FMT}{gt:FT}(h:EMT X z a ft)(hb:EW X z (.BoolOp .Or (b::rest) pos) gt):EMW X z (.BoolOp .Or (a::b::rest) pos) (mtOr ft gt):=PW.imp (pw_or h hb) fun σ H Q ⟨ρ,Hq,b,ρ',r,e,k⟩=>by
 obtain⟨⟨c,ρ1⟩,e1,e2⟩:=Option.bind_eq_some_iff.mp e
 simp only at e2
 refine⟨ρ,Hq,c,ρ1,r,e1,fun Hq1 H1 r1 sm=>?_⟩
 cases c with
 | true =>
   rw[if_pos rfl] at e2
   cases e2
   exact iteT (k Hq1 H1 r1 sm)
 | false =>
   rw[if_neg Bool.false_ne_true] at e2
   obtain⟨d,e3,e4⟩:=Option.map_eq_some_iff.mp e2
   cases e4
   exact iteF ⟨ρ',Hq1,b,r1,e3,fun Hq2 H2 x2=>k Hq2 H2 (r1.ext x2) (sm.trans x2.q)⟩
theorem emt_w {ft:FMT}(h:EMW X z e ft):EMT X z e ft:=h.pt
def sIfM (ft:FMT)(F G:FS):FS:=fun ρ=>match ft ρ with|some (true,ρ')=>F ρ'|some (false,ρ')=>G ρ'|none=>none
theorem s_ifM {c:Expr}{a b:List Stmt}{ft:FMT}{F G:FS}(hc:EMT X z c ft)(ha:SVs X z a F)(hb:SVs X z b G):SV X z (.If c a b pos) (sIfM ft F G):=PS.imp (yH hc ha hb) fun D σ H ⟨ρ,Hq,o,r,e,k⟩=>by
 unfold sIfM at e
 split at e
 ·rename_i ρ' q
  exact⟨ρ,Hq,true,ρ',r,q,fun Hq1 H1 r1 sm=>iteT ⟨ρ',Hq1,o,r1,e,k.from sm⟩⟩
 ·rename_i ρ' q
  exact⟨ρ,Hq,false,ρ',r,q,fun Hq1 H1 r1 sm=>iteF ⟨ρ',Hq1,o,r1,e,k.from sm⟩⟩
 ·cases e
end
end TL
namespace TL
open PySem L2
section
variable {X:Cx}{pins:List (Addr×Obj)}{z:Z}{kx:Addr→L2.St→Hp→Prop}{e a b:Expr}{f:FE}{G:Rho→Option Str}{pos:Pos}
theorem xr_isN {op:CmpOp} {j p}(h:XR X pins kx z e G)(hm:behindInMarks op (.Constant .none j p)=false:=by rfl):XR X pins kx z (.Compare e [op] [.Constant .none j p] pos) G:=by
 intro s σ H ρ Hq d Q I r eg hk
 exact wpAny_Compare1 (h s σ H ρ Hq d _ I r eg hk) hm
theorem xr_y1 {x:Str}{id:String}{p:Pos}(hg:Gl X x)(hm:X.mg x=none)(hv:bootBuiltins x=some (.type id)) (h:XR X pins kx z e G)(hn:x≠"__name__":=by decide)(hdb:(x==("__debug__":Str))=false:=by decide)
  (hs:starEach [e] X.env=(false,eval e X.env)::starEach [] X.env:=by rfl) (hpl:(backTo pos (starEach [] X.env)).any (·.1)=false:=by rfl):XR X pins kx z (.Call (.Name x p) [e] [] pos) G:=by
 intro s σ H ρ Hq d Q I r eg hk
 refine wpAny_Call_Name_kw (cI I hg hm hv ?_ hn hdb)
 refine PyProof.Rows.callWith_type1 ?_ hs hpl
 rw[hs]
 show wpAny _ _ (spliced ((false,eval e X.env)::backTo pos (starEach [] X.env))) _ _ s
 exact Calls.spliced_cons (h s σ H ρ Hq d _ I r eg hk)
theorem xr_ix (ha:EV X z a f)(h:XR X pins kx z b G):XR X pins kx z (.Subscript a b pos) (fun ρ=>(f ρ).bind fun _=>G ρ):=by
 intro s σ H ρ Hq d Q I r eg hk
 obtain⟨t,e1,e2⟩:=Option.bind_eq_some_iff.mp eg
 refine PyProof.Rows.Subscript_ (thn (ha pins s σ H (fun _ H1=>∃ Hq1,Ex Hq H Hq1 H1) I ⟨ρ,Hq,t,r,e1,fun v Hq1 H1 x1 _=>⟨Hq1,x1⟩⟩) fun v s1 ⟨y,H1,I1,_,Hq1,x1⟩=>?_)
 exact h s1 σ H1 ρ Hq1 d _ I1 (r.ext x1) e2 fun Hq' H' r' sm=>hk Hq' H' r' (x1.q.trans sm)
end
def spMY (K:PySem.W.Frag) (c:Str) (n:Nat)(G:List (Str×T)→List T→Option Str):Sp:=fun vs H _ E=>∃ Hq a dx fs vs' fl ts d,vs=.ref a::vs'∧ts.length=n∧Same Hq H∧H a=some (.ins (clsAt K c) dx fs)∧FldR K Hq fl fs∧RepL K Hq ts vs'∧G fl ts=some d∧∀ ea H',Same H H'→E (.ref ea) (some (clsAt K d)) H'
def bT (P:Program)(w:World)(K:PySem.W.Frag)(mg:Str→Option Value)(base:Heap) (c m:Str) (k n:Nat)(G:List (Str×T)→List T→Option Str):Prop :=
 ∃ a fd ps,ps.length=n+1∧FnOk P w K mg base (CX1 P w) k a fd ps (spMY K c n G)∧Cls K (clsAt K c)∧Meth K (clsAt K c) m a∧Binds K fd ps []
def gMY (i:Nat) (c m:Str) (n:Nat)(G:List (Str×T)→List T→Option Str) (fa:FA):Rho→Option Str:=fun ρ=>(objF i c ρ).bind fun fl=>if (fl.lookup m).isNone=true then (fa ρ).bind fun ts=>if ts.length=n then G fl ts else none else none
theorem wX {i:Nat}{c m:Str}{n:Nat}{G:List (Str×T)→List T→Option Str}{d:Str}{fa:FA}{ρ:Rho}(h:gMY i c m n G fa ρ=some d):∃ fl ts,objF i c ρ=some fl∧fl.lookup m=none∧fa ρ=some ts∧ts.length=n∧G fl ts=some d:=by
 unfold gMY at h
 obtain⟨fl,e1,e2⟩:=Option.bind_eq_some_iff.mp h
 split at e2
 ·rename_i hn
  obtain⟨ts,e3,e4⟩:=Option.bind_eq_some_iff.mp e2
  split at e4
  ·rename_i hc
   exact⟨fl,ts,e1,by simpa using hn,e3,hc,e4⟩
  ·cases e4
 ·cases e2
section
variable {X:Cx}{pins:List (Addr×Obj)}{z:Z}{kx:Addr→L2.St→Hp→Prop}{pos:Pos}
theorem vN {c x:Str}{k n:Nat}{G:List (Str×T)→List T→Option Str}{f0 a:Addr}{fd:FuncData}{ps:List Str}{s:Shared}{σ:L2.St}{ρ:Rho}{Hq H:Hp}{fl:List (Str×T)}{ts:List T}{vs:List V}{us:List Value}{i:Nat}{Q:Value→Shared→Prop}
  (hK:z.K=X.K)(F:FnOk X.prog X.w X.K X.mg X.base (CX1 X.prog X.w) k f0 fd ps (spMY X.K c n G)) (hr:Room k X.A)(hb:Binds X.K fd ps [])(hl:ps.length=n+1)(hL:c6 X pins kx)(I:Inv X pins σ H s)(r:Rn z σ ρ Hq H)(e0:objF i c ρ=some fl)
  (hσ:σ[i]?=some (some (.ref a))) (rv:Vals vs us)(rl:RepL z.K Hq ts vs)(hn:ts.length=n)(hg:G fl ts=some x)(hk:∀ Hq' H',Rn z σ ρ Hq' H'→Same Hq Hq'→kx (clsAt X.K x) σ H'):wpAny (model X.prog X.w) X.A (call (.ref f0) (.ref a::us)) Q X.xe s:=by
 obtain⟨a',dx,fs,h1,h2,h3⟩:=kL r e0
 rw[hσ] at h1
 cases h1
 rw[hK] at h2 h3 rl
 have sp:spMY X.K c n G (.ref a::vs) H (fun _ _=>False) (fun _ c' H'=>c'=some (clsAt X.K x)∧kx (clsAt X.K x) σ H'):=⟨Hq,a,dx,fs,vs,fl,ts,x,rfl,hn,r.sub,h2,h3,rl,hg,fun ea H' sm=>⟨rfl,hk Hq H' (r.ext ⟨sm,.refl _,r.sub.trans sm,fun _ _ n=>n⟩) (.refl _)⟩⟩
 have hlu:(Value.ref a::us).length=ps.length:=by rw[List.length_cons,← rv.length,← rl.length,hn,hl]
 have bt:=hb s (.ref a::us) I.kIn (by rw[List.append_nil];exact hlu)
 rw[List.append_nil] at bt
 refine wpAny_call (codeAny_mono (F.run X.A X.stack s H ⟨.ref a::us,[]⟩ (.ref a::us) (.ref a::vs) (fun _ _=>False) _ hr I.env0 bt (.cons rfl rv) sp) fun q s' hq=>?_)
 cases q with
 | error e=>exact hL σ H s (clsAt X.K x) e s' I hq
 | ok fl =>
   cases fl with
   | ret u =>
     obtain⟨v,H',_,_,_,_,_,z⟩:=hq
     exact z.elim
   | next=>exact False.elim hq
   | brk=>exact False.elim hq
   | cont=>exact False.elim hq
theorem xr_metY0 (i:Nat){c m x:Str}{k:Nat}{G:List (Str×T)→List T→Option Str}{p1 p2:Pos}{pl:Sem Bool}(hL:c6 X pins kx)(hK:z.K=X.K)(h:bT X.prog X.w X.K X.mg X.base c m k 0 G)(hr:Room k X.A)(hN:X.N[i]?=some x:=by rfl)
  (hv:Vis X.env.scope x:=by first|exact Or.inl rfl|exact Or.inr (Or.inl rfl)|exact Or.inr (Or.inr rfl)) (hd:(x==("__debug__":Str))=false:=by decide) (hcd:(x==("__classdict__":Str))=false:=by decide)
  (ht:eval (.Call (.Attribute (.Name x p1) m p2) [] [] pos) X.env=(do
   let ov ← eval (.Name x p1) X.env
   standAt p2.atName
   let (f,first) ← holding [ov] (getMethod ov m pl)
   callWith pos f first (backTo pos (starEach [] X.env)) (backToKw pos (keywordEach [] X.env))):=by rfl):XR X pins kx z (.Call (.Attribute (.Name x p1) m p2) [] [] pos) (gMY i c m 0 G fNil):=by
 intro s σ H ρ Hq d Q I r e hk
 obtain⟨fl,ts,e1,hn,e3,hl,hg⟩:=wX e
 obtain⟨a0,fd,ps,hps,F,cl,hm,hb⟩:=h
 obtain⟨a,dx,fs,h1,h2,h3⟩:=kL r e1
 refine PySem.W.methodCall_KW (pl:=pl) (thn (bO hN hv hd hcd pins s σ H (fun v H1=>v=.ref a∧H1=H) I ⟨.ref a,h1,rfl,rfl⟩) fun u s1 ⟨x,H1,I1,rx,ex,eH⟩=>?_) ht
 subst ex
 rw[eH] at I1
 obtain rfl:u=Value.ref a:=rx
 refine mO I1 (hK▸h2) cl hm (h3.no hn) ?_
 cases e3
 exact PySem.W.callWith_K0 (first:=[.ref a]) I1.kIn hm.kp (vN (us:=[]) (vs:=[]) hK F hr hb hps hL I1 r e1 h1 .nil .nil rfl hg (fun Hq' H' r' sm=>hK▸hk Hq' H' r' sm))
theorem xr_metY1 (i:Nat){c m x:Str}{k n:Nat}{G:List (Str×T)→List T→Option Str}{fa:FA}{p1 p2:Pos}{e0:Expr}{es:List Expr}{pl:Sem Bool}(hL:c6 X pins kx)(hK:z.K=X.K)(h:bT X.prog X.w X.K X.mg X.base c m k n G)(hr:Room k X.A)(ha:EA X z (e0::es) fa) (hN:X.N[i]?=some x:=by rfl)
  (hv:Vis X.env.scope x:=by first|exact Or.inl rfl|exact Or.inr (Or.inl rfl)|exact Or.inr (Or.inr rfl)) (hd:(x==("__debug__":Str))=false:=by decide) (hcd:(x==("__classdict__":Str))=false:=by decide)
  (hst:starEach (e0::es) X.env=(false,eval e0 X.env)::starEach es X.env:=by rfl) (hpl:(backTo pos (starEach es X.env)).any (·.1)=false:=by rfl)
  (ht:eval (.Call (.Attribute (.Name x p1) m p2) (e0::es) [] pos) X.env=(do
   let ov ← eval (.Name x p1) X.env
   standAt p2.atName
   let (f,first) ← holding [ov] (getMethod ov m pl)
   callWith pos f first (backTo pos (starEach (e0::es) X.env)) (backToKw pos (keywordEach [] X.env))):=by rfl):XR X pins kx z (.Call (.Attribute (.Name x p1) m p2) (e0::es) [] pos) (gMY i c m n G fa):=by
 intro s σ H ρ Hq d Q I r e hk
 obtain⟨fl,ts,e1,hn,e3,hl,hg⟩:=wX e
 obtain⟨a0,fd,ps,hps,F,cl,hm,hb⟩:=h
 obtain⟨a,dx,fs,h1,h2,h3⟩:=kL r e1
 refine PySem.W.methodCall_KW (pl:=pl) (thn (bO hN hv hd hcd pins s σ H (fun v H1=>v=.ref a∧H1=H) I ⟨.ref a,h1,rfl,rfl⟩) fun u s1 ⟨x,H1,I1,rx,ex,eH⟩=>?_) ht
 subst ex
 rw[eH] at I1
 obtain rfl:u=Value.ref a:=rx
 refine mO I1 (hK▸h2) cl hm (h3.no hn) ?_
 refine PySem.W.callWith_K (first:=[.ref a]) (h₀:=X.base) I.ok.mod.kin hm.kp (thn (ha pos pins s1 σ H (fun vs H1=>∃ Hq1,Ex Hq H Hq1 H1∧RepL z.K Hq1 ts vs) I1 ⟨ρ,Hq,ts,r,e3,fun vs Hq1 H1 x1 r1=>⟨Hq1,x1,r1⟩⟩) fun us s2 ⟨vs,H2,I2,rv,Hq2,x2,r2⟩=>⟨I2.kIn,?_⟩) hst hpl
 exact vN hK F hr hb hps hL I2 (r.ext x2) e1 h1 rv r2 hl hg (fun Hq' H' r' sm=>hK▸hk Hq' H' r' (x2.q.trans sm))
end
section
variable {P:Program}{w:World}{K:PySem.W.Frag}{mg:Str→Option Value}{base:Heap}
def bH (n:Nat) (c:Str)(F:FX)(fl:List (Str×T)) (ts:List T):Option Str:=match F (some (.ro c fl)::(ts.map (fun t=>some (.pu t))++List.replicate (n - ts.length) none)) with
 | some (.xc _ d)=>some d
 | _=>none
theorem Dz {m qual c:Str}{st:Stmt}{n0:Str}{N ps:List Str}{k n l:Nat}{F:FX}(hn:N.length=n)(hl:ps.length=l)(G:SrcM K c m qual st (n0::ps)) (S:av (n0::N) (n0::ps) (af st))
  (hbody:∀(f:Addr)(cdv:Value)(A:Around)(outer:List Env)(s:Shared)(H:Hp)(E:XK)(z:Z),Room k (A.deeper (PyProof.Rows.envOfC qual (af st) s.heap.objs.size f cdv))→z.K=K →
   ∀ pins kx,RL (cxOf (CX1 P w) P w K mg base (n0::N) qual (af st) f cdv A outer s H E) kx→c6 (cxOf (CX1 P w) P w K mg base (n0::N) qual (af st) f cdv A outer s H E) pins kx →
   XVs (cxOf (CX1 P w) P w K mg base (n0::N) qual (af st) f cdv A outer s H E) pins kx z (aj st) F):bT P w K mg base c m (k+1) l (bH n c F):=by
 subst hn hl
 obtain⟨a0,fd,fn,b,cl,hm⟩:=G
 obtain⟨oc,od,kV,doc,pm,an,cdv,ct,osl,rfl,lk,hcd⟩:=fn.ex
 have body:FnOk P w K mg base (CX1 P w) (k+1) a0 (PySem.W.fnOf m qual (bf st) (aj st) (af st) .none kV doc pm an cdv ct) (n0::ps) (spMY K c ps.length (bH N.length c F)):=by
  refine wU lk hcd S (fun vs H Q E ⟨Hq,a,dx,fs,vs',fl,ts,d,e,hl,_,_,_,r,_⟩=>by rw[e,List.length_cons,List.length_cons,← r.length,hl]) fun A outer s H vs Q E hr ⟨Hq,a,dx,fs,vs',fl,ts,d,e,hl,sb,h1,h2,r,g,hE⟩=>?_
  subst e
  unfold bH at g
  split at g
  ·rename_i ρ' d' e1
   cases g
   have r0:=nI (z:=⟨K,Hq,H⟩) (n0:=n0) (N:=N) (.refl sb) r (yT h1 h2) trivial
   refine⟨tX ⟨K,Hq,H⟩ F (fun C σ' H'=>C=clsAt K d∧Same H H'),fun pins s' σ' H' D I t=>hbody a0 cdv A outer s H E ⟨K,Hq,H⟩ hr rfl pins _ ?_ (Fe fun C σ' H' (q:C=clsAt K d∧Same H H') ea=>q.1▸hE ea H' q.2) s' σ' H' D I t,_,Hq,_,r0,e1,fun σ' Hq' H' r' sm=>⟨rfl,r'.ex.all⟩⟩
   intro pins σ1 H1 s1 h' e C v I me ⟨ec,sm⟩
   subst ec
   exact Ly I rfl rfl rfl me (hE e H1 sm)
  ·cases g
 exact⟨a0,_,n0::ps,rfl,body,cl,hm,b⟩
end
inductive OutW where
 | nx (ρ:Rho)|rt (ρ:Rho)(t:T)|xc (ρ:Rho) (c:Str)
abbrev FW:=Rho→Option OutW
def FinW (z:Z)(kx:Addr→L2.St→Hp→Prop)(Hq:Hp)(D:Ends):OutW→Prop
 | .nx ρ=>∀ σ Hq' H',Rn z σ ρ Hq' H'→Same Hq Hq'→D.nx σ H'
 | .rt ρ t=>∀ v σ Hq' H',Rn z σ ρ Hq' H'→Same Hq Hq'→Rep z.K Hq' t v→D.rt v H'
 | .xc ρ c=>∀ σ Hq' H',Rn z σ ρ Hq' H'→Same Hq Hq'→kx (clsAt z.K c) σ H'
theorem FinW.from {z:Z}{kx:Addr→L2.St→Hp→Prop}{Hq Hq1:Hp}{D:Ends}{o:OutW}(k:FinW z kx Hq D o)(sm:Same Hq Hq1):FinW z kx Hq1 D o:=by
 cases o with
 | nx ρ=>exact fun σ Hq' H' r s=>k σ Hq' H' r (sm.trans s)
 | rt ρ t=>exact fun v σ Hq' H' r s p=>k v σ Hq' H' r (sm.trans s) p
 | xc ρ c=>exact fun σ Hq' H' r s=>k σ Hq' H' r (sm.trans s)
def tW (z:Z)(F:FW)(kx:Addr→L2.St→Hp→Prop):TS:=fun D σ H=>∃ ρ Hq o,Rn z σ ρ Hq H∧F ρ=some o∧FinW z kx Hq D o
def WV (X:Cx)(pins:List (Addr×Obj)) (kx:Addr→L2.St→Hp→Prop)(z:Z)(st:Stmt)(F:FW):Prop:=∀ s σ H D,Inv X pins σ H s→tW z F kx D σ H→wpAny (model X.prog X.w) X.A (exec st X.env) (SP X pins D) X.xe s
def WVs (X:Cx)(pins:List (Addr×Obj)) (kx:Addr→L2.St→Hp→Prop)(z:Z)(st:List Stmt)(F:FW):Prop:=∀ s σ H D,Inv X pins σ H s→tW z F kx D σ H→wpAny (model X.prog X.w) X.A (execs st X.env) (SP X pins D) X.xe s
section
variable {X:Cx}{pins:List (Addr×Obj)}{z:Z}{kx:Addr→L2.St→Hp→Prop}{pos:Pos}
def wRet (G:Rho→Option Str)(f:FM):FW:=fun ρ=>match G ρ with|some c=>some (.xc ρ c)|none=>(f ρ).map fun p=>.rt p.2 p.1
theorem w_ret {e:Expr}{G:Rho→Option Str}{f:FM}(h1:XR X pins kx z e G)(h2:EM X z e f):WV X pins kx z (.Return (some e) pos) (wRet G f):=by
 intro s σ H D I ⟨ρ,Hq,o,r,ef,k⟩
 unfold wRet at ef
 split at ef
 ·rename_i c e1
  cases ef
  exact wpAny_Return_some (h1 s σ H ρ Hq c _ I r e1 fun Hq' H' r' sm=>k σ Hq' H' r' sm)
 ·obtain⟨⟨t,ρ'⟩,e1,rfl⟩:=Option.map_eq_some_iff.mp ef
  exact nj h2 pins s σ H D I ⟨ρ,Hq,t,ρ',r,e1,fun v Hq' H' r' sm rp=>k v σ Hq' H' r' sm rp⟩
def jr (f:FE):FW:=fun ρ=>(f ρ).map fun t=>.rt ρ t
theorem w_retV {e:Expr}{f:FE}(h:EV X z e f):WV X pins kx z (.Return (some e) pos) (jr f):=by
 intro s σ H D I ⟨ρ,Hq,o,r,ef,k⟩
 obtain⟨t,e1,rfl⟩:=Option.map_eq_some_iff.mp ef
 exact nj h pins s σ H D I ⟨ρ,Hq,t,r,e1,fun v Hq' H' x rp=>k v σ Hq' H' (r.ext x) x.q rp⟩
def wSt (F:FS):FW:=fun ρ=>match F ρ with|some (.nx ρ')=>some (.nx ρ')|_=>none
theorem w_st {st:Stmt}{F:FS}(h:SV X z st F):WV X pins kx z st (wSt F):=by
 intro s σ H D I ⟨ρ,Hq,o,r,ef,k⟩
 unfold wSt at ef
 split at ef
 ·rename_i ρ' e1
  cases ef
  exact h pins s σ H D I ⟨ρ,Hq,_,r,e1,k⟩
 ·cases ef
def wNil:FW:=fun ρ=>some (.nx ρ)
theorem w_nil:WVs X pins kx z [] wNil:=by
 intro s σ H D I ⟨ρ,Hq,o,r,ef,k⟩
 cases ef
 exact wpAny_execs_nil ⟨σ,H,I,k σ Hq H r (.refl _)⟩
theorem w_one {st:Stmt}{F:FW}(h:WV X pins kx z st F):WVs X pins kx z [st] F:=by
 intro s σ H D I q
 refine wpAny_execs_cons (thn (h s σ H D I q) fun f s1 q=>?_)
 cases f with
 | next=>exact wpAny_execs_nil q
 | ret v=>exact q
 | brk=>exact q
 | cont=>exact q
def wSeq (F G:FW):FW:=fun ρ=>match F ρ with
 | some (.nx ρ')=>G ρ'
 | some (.rt ρ' t)=>some (.rt ρ' t)
 | some (.xc ρ' c)=>some (.xc ρ' c)
 | none=>none
theorem w_cons {st:Stmt}{rest:List Stmt}{F G:FW}(h:WV X pins kx z st F)(hr:WVs X pins kx z rest G):WVs X pins kx z (st::rest) (wSeq F G):=by
 intro s σ H D I ⟨ρ,Hq,o,r,ef,k⟩
 unfold wSeq at ef
 split at ef
 ·rename_i ρ' e1
  refine wpAny_execs_cons (thn (h s σ H {D with nx:=fun σ' H'=>∃ Hq',Rn z σ' ρ' Hq' H'∧Same Hq Hq'} I ⟨ρ,Hq,_,r,e1,fun σ' Hq' H' r' sm=>⟨Hq',r',sm⟩⟩) fun f s1 q=>?_)
  cases f with
  | next =>
    obtain⟨σ',H',I1,Hq',r',sm⟩:=q
    exact hr s1 σ' H' D I1 ⟨ρ',Hq',o,r',ef,k.from sm⟩
  | ret v=>exact q
  | brk=>exact q
  | cont=>exact q
 ·rename_i ρ' t e1
  cases ef
  refine wpAny_execs_cons (thn (h s σ H {D with nx:=fun _ _=>False} I ⟨ρ,Hq,_,r,e1,k⟩) fun f s1 q=>?_)
  cases f with
  | next=>obtain⟨_,_,_,q⟩:=q;exact q.elim
  | ret v=>exact q
  | brk=>exact q
  | cont=>exact q
 ·rename_i ρ' t e1
  cases ef
  refine wpAny_execs_cons (thn (h s σ H {D with nx:=fun _ _=>False} I ⟨ρ,Hq,_,r,e1,k⟩) fun f s1 q=>?_)
  cases f with
  | next=>obtain⟨_,_,_,q⟩:=q;exact q.elim
  | ret v=>exact q
  | brk=>exact q
  | cont=>exact q
 ·cases ef
def wIf (ft:FT)(F G:FW):FW:=fun ρ=>match ft ρ with|some true=>F ρ|some false=>G ρ|none=>none
theorem w_if {c:Expr}{a b:List Stmt}{ft:FT}{F G:FW}(hc:ET X z c ft)(ha:WVs X pins kx z a F)(hb:WVs X pins kx z b G):WV X pins kx z (.If c a b pos) (wIf ft F G):=by
 intro s σ H D I ⟨ρ,Hq,o,r,ef,k⟩
 unfold wIf at ef
 split at ef
 ·rename_i q
  refine wpAny_If (thn (hc pins s σ H (fun b H1=>b=true∧∃ Hq1,Ex Hq H Hq1 H1) I ⟨ρ,Hq,true,r,q,fun Hq1 H1 x1=>⟨rfl,Hq1,x1⟩⟩) fun d s1 ⟨H1,I1,ed,Hq1,x1⟩=>?_)
  subst ed
  exact ha s1 σ H1 D I1 ⟨ρ,Hq1,o,r.ext x1,ef,k.from x1.q⟩
 ·rename_i q
  refine wpAny_If (thn (hc pins s σ H (fun b H1=>b=false∧∃ Hq1,Ex Hq H Hq1 H1) I ⟨ρ,Hq,false,r,q,fun Hq1 H1 x1=>⟨rfl,Hq1,x1⟩⟩) fun d s1 ⟨H1,I1,ed,Hq1,x1⟩=>?_)
  subst ed
  exact hb s1 σ H1 D I1 ⟨ρ,Hq1,o,r.ext x1,ef,k.from x1.q⟩
 ·cases ef
abbrev kNo:Addr→L2.St→Hp→Prop:=fun _ _ _=>False
def HW (X:Cx)(z:Z)(hs:List ExceptHandler)(F:Str→FW):Prop:=∀ pins σ H D (s':Shared)(h:Heap) ea c ρ Hq o,fM X pins σ H s' h ea (clsAt z.K c)→Rn z σ ρ Hq H→F c ρ=some o→FinW z kNo Hq D o →
 wpAny (model X.prog X.w) X.A (handleBy (.ref ea) X.env hs) (SP X pins D) X.xe {s' with heap:=h}
theorem hw_nil:HW X z [] (fun _ _=>none):=fun _ _ _ _ _ _ _ _ _ _ _ _ _ e _=>nomatch e
def Ds (i:Nat):OutW→OutW
 | .nx ρ=>.nx (ρ.set i none)
 | .rt ρ t=>.rt (ρ.set i none) t
 | .xc ρ c=>.xc ρ c
def hAsW (cs:List Str) (d:Str) (i:Nat)(Fs:FW)(Fr:Str→FW):Str→FW:=fun c ρ=>if cs.contains c=true then (if subB c d=true then (Fs (ρ.set i (some (.xc c)))).map (Ds i) else Fr c ρ) else none
theorem hw_as {cs:List Str}{d n:Str}{b0:Stmt}{body:List Stmt}{rest:List ExceptHandler}{Fs:FW}{Fr:Str→FW}{p pos:Pos}(er:Er cs X.K X.mg)(hK:z.K=X.K) (i:Nat)(hN:X.N.Nodup)(hsu:∀ ea oe E,Sx (cX X ea oe E)→∀ pins,WVs (cX X ea oe E) pins kNo z (b0::body) Fs) (hr:HW X z rest Fr)
  (hex:X.ex=[]:=by rfl)(hd:d∈cs:=by decide)(hi:X.N[i]?=some n:=by rfl)(hl:X.env.scope.names.lookup n=some .local:=by rfl)(hg:Gl X d:=by rfl)(hdb:(d==("__debug__":Str))=false:=by decide):HW X z (.ExceptHandler (some (.Name d p)) (some n) (b0::body) pos::rest) (hAsW cs d i Fs Fr):=by
 intro pins σ H D s' h ea c ρ Hq o L r ef k
 unfold hAsW at ef
 split at ef
 rotate_left
 ·cases ef
 rename_i hcs
 have hc:c∈cs:=by simpa using hcs
 have I:=L.inv
 have hfl:∃ oe,h.get? ea=some oe∧oe.cls=.ref (clsAt X.K c):=by
  obtain⟨_,_,_,_,_,_,_,_,_,oe,vs,T,oT,ts,e1,e2,_⟩:=L
  exact⟨oe,e1,hK▸e2.1⟩
 obtain⟨oe,he,hcl⟩:=hfl
 refine wpAny_handleBy_cons ?_ (by unfold byPass;exact nofun)
 refine codeAny_handlers_test (mY (X:=xT X ea fun _ _=>False) (FL I) hg (er.mg d hd) ?_ hdb)
 obtain⟨hp,g,dr,tk,os⟩:=s'
 refine(PySem.W.exm_one (K:=X.K) (I.kIn) ((PySem.W.Looks.ld (part:=none) he).andThen (hcl▸.now)) (er.m c hc d hd)).at ?_
 cases hb:subB c d with
 | false =>
   rw[hb,if_neg Bool.false_ne_true] at ef
   exact hr pins σ H D ⟨hp,g,dr,tk,os⟩ h ea c ρ Hq o L r ef k
 | true =>
   rw[hb,if_pos rfl] at ef
   obtain⟨o',eo,rfl⟩:=Option.map_eq_some_iff.mp ef
   show codeAny _ _ (.handlers (.ref ea) [.ExceptHandler none (some n) (b0::body) pos] X.env) _ _
   refine codeAny_handlers_suite_as (L.land (s':=⟨hp,g,dr,tk,os⟩) fun h2 L2=>?_)
   have I2:=L2.inv
   obtain⟨s0,H0,I0,_,_,_,_,_,⟨ns,nh⟩,oe2,vs,T,oT,ts,e1,e2,e3,e4,e5,_⟩:=L2
   have noex:∀ b,b∉X.ex:=fun b=>by rw[hex];simp
   have n0:X.s₀.heap.get? ea=none:=by
    cases q:X.s₀.heap.get? ea with
    | none=>rfl
    | some u =>
      obtain⟨v,hv⟩:=I0.base.there ea u q (noex ea)
      rw[ns] at hv;cases hv
   have ne0:∀ b u,s0.heap.get? b=some u→b≠ea:=fun b u q z=>by rw[z,ns] at q;cases q
   have I3:Inv X pins σ (upd H ea (.frz oe2 (.own ea))) {(⟨hp,g,dr,tk,os⟩:Shared) with heap:=h2}:=by
    refine⟨I2.ok,I2.os,I2.bare,⟨I2.base.keep,I2.base.slot,fun b o q n hx=>?_,I2.base.there,fun b xs q=>?_,fun b o u q=>?_,fun b ps q=>?_⟩,I2.loc,I2.cell,?_,fun x cc e=>?_,fun p hp'=>?_,HOk.track I2.hok nh ⟨e1,⟨_,e1⟩⟩,I2.len⟩
    ·have hb':b≠ea:=fun z=>by rw[z,n0] at q;cases q
     rw[ak hb'];exact I2.base.free b o q n hx
    ·have:=I2.base.tups b xs q
     rw[ak (aE this nh)];exact this
    ·have:=I2.base.frzs b o u q
     rw[ak (aE this nh)];exact this
    ·obtain⟨m,this⟩:=I2.base.tbls b ps q
     exact⟨m,by rw[ak (aE this nh)];exact this⟩
    ·obtain⟨m,⟨oL,_,_,hL,_⟩,_⟩:=I0.loc
     rw[ak (ne0 _ _ hL)];exact I2.free
    ·obtain⟨v,oc,hoc,_⟩:=I0.cell x cc e
     rw[ak (ne0 _ _ hoc)];exact I2.bK x cc e
    ·obtain⟨p1,p2,p3⟩:=I2.pin p hp'
     exact⟨p1,by rw[ak (ne0 _ _ (I0.pin p hp').1)];exact p2,p3⟩
   refine nK (X:=cX X ea oe2 fun _ _=>False) (v:=.ref ea) (Kl I3 n0 bR) hN hi (.inl hl) rfl (fun s5 I5=>?_) (.inr hl)
   have sx:∀ E,Sx (cX X ea oe2 E):=fun E=>⟨ea,oe2,.own ea,vs,rfl,bR,e3,e5⟩
   refine thn (hsu ea oe2 _ (sx _) pins s5 (σ.set i (some (.ref ea))) (upd H ea (.frz oe2 (.own ea))) ⟨fun σ H=>D.nx (σ.set i none) H,D.rt,fun σ H=>D.bk (σ.set i none) H,fun σ H=>D.ct (σ.set i none) H⟩ (I5.wish _) ⟨ρ.set i (some (.xc c)),Hq,o',Iu r i nh e2.1 e2.2 ⟨vs,e3⟩,eo,?_⟩) fun f s6 q6=>?_
   ·cases o' with
    | nx ρ'=>exact fun σ' Hq' H' r' sm=>k _ Hq' H' (yS r' i) sm
    | rt ρ' t=>exact fun v σ' Hq' H' r' sm rp=>k v _ Hq' H' (yS r' i) sm rp
    | xc ρ' c'=>exact k
   ·show wpAny _ _ (do bindName X.env n .none;unbindBehindTheSuite X.env n pos) _ _ _
    cases f with
    | next=>obtain⟨σ',H',I6,q⟩:=q6;exact nc (nS I2 n0 nh I6) hN hi hl fun s7 I7=>⟨_,H',I7,q⟩
    | brk=>obtain⟨σ',H',I6,q⟩:=q6;exact nc (nS I2 n0 nh I6) hN hi hl fun s7 I7=>⟨_,H',I7,q⟩
    | cont=>obtain⟨σ',H',I6,q⟩:=q6;exact nc (nS I2 n0 nh I6) hN hi hl fun s7 I7=>⟨_,H',I7,q⟩
    | ret u=>obtain⟨v,σ',H',I6,rv,q⟩:=q6;exact nc (nS I2 n0 nh I6) hN hi hl fun s7 I7=>⟨v,_,H',I7,rv,q⟩
def wTry (Fb:FW)(Fh:Str→FW):FW:=fun ρ=>match Fb ρ with
 | some (.xc ρ' c)=>Fh c ρ'
 | some o=>some o
 | none=>none
theorem w_try {body:List Stmt}{h0:ExceptHandler}{hs:List ExceptHandler}{Fb:FW}{Fh:Str→FW}{pos:Pos}(hb:∀ E pins kx,c6 (X.wish E) pins kx→WVs (X.wish E) pins kx z body Fb) (hh:HW X z (h0::hs) Fh)
  (hst:X.stack=X.env::X.outer:=by rfl)(hf:X.env.frame=some X.env.locals:=by rfl):PS X (.Try body (h0::hs) [] [] pos) (tW z (wTry Fb Fh) kNo):=by
 intro pins s σ H D I ⟨ρ,Hq,o,r,ef,k⟩
 have body':=hb (fun e s₁=>wpAny (model X.prog X.w) X.A (noteFrame e X.env) (fun _ s₂=>wpAny (model X.prog X.w) X.A (setFlight e none) (fun _ s₃=>wpAny (model X.prog X.w) X.A (handleBy e X.env (h0::hs)) (SP X pins D) X.xe s₃) X.xe s₂) X.xe s₁) pins
  (fun C σ' H'=>∃ ρ' Hq' c o,C=clsAt z.K c∧Rn z σ' ρ' Hq' H'∧Fh c ρ'=some o∧FinW z kNo Hq' D o) ?_ s σ H D (I.wish _) ?_
 ·refine wpAny_Try_except (thn body' fun f s1 q=>?_)
  have q:=SP.dN q
  cases f with
  | next=>exact wpAny_execs_nil q
  | ret v=>exact q
  | brk=>exact q
  | cont=>exact q
 ·intro σ1 H1 s1 C e s' I1 ⟨ea,C',H',ee,os,bare,un,hok,fl,eC,ρ',Hq',c,o',ec,r',eh,fin⟩
  cases eC
  subst ee
  subst ec
  have I1:=I1.dN
  have noE:∀ b:Addr,b∉([]:List Addr):=fun b=>by simp
  have I2:Inv X pins σ1 H' s':=mL (h5:=s'.heap) I1 os bare un hok .refl
  have stk:=I2.stack
  rw[hst] at stk
  refine zS (base:=X.base) (L:=X.env.locals) (by rw[I2.ok.frames,hst]) stk hf (fun b q=>?_) fl fun h2 f2 c2=>?_
  ·constructor
   ·cases q1:s1.heap.get? b with
    | none=>rfl
    | some u =>
      obtain⟨v,hv⟩:=un.there b u q1 (noE b)
      rw[q] at hv;cases hv
   ·cases q1:H' b with
    | none=>rfl
    | some u =>
      obtain⟨v,hv⟩:=n9 (hok b u q1)
      rw[q] at hv;cases hv
  ·refine nV (s:={s' with heap:=h2}) (S:=frs X.stack) f2 fun h3 f3 c3=>?_
   exact hh pins σ1 H' D s' h3 ea c ρ' Hq' o' ⟨s1,H1,I1,os,bare,un,hok,(by rw[hst];exact c2:Chg (frs X.stack) _ s'.heap h2).trans c3,f3⟩ r' eh fin
 ·unfold wTry at ef
  split at ef
  ·rename_i ρ' c e1
   exact⟨ρ,Hq,.xc ρ' c,r,e1,fun σ' Hq' H' r' sm=>⟨ρ',Hq',c,o,rfl,r',ef,k.from sm⟩⟩
  ·rename_i o1 hne e1
   cases ef
   refine⟨ρ,Hq,o,r,e1,?_⟩
   cases o with
   | nx ρ'=>exact k
   | rt ρ' t=>exact k
   | xc ρ' c=>exact absurd rfl (hne ρ' c)
  ·cases ef
end
def spD (K:PySem.W.Frag) (c:Str) (n:Nat)(F:Addr→List (Str×T)→List T→Option (T×List (Str×T))):Sp:=fun vs H Q _=>∃ Hq a dx fs vs' fl ts t fl',vs=.ref a::vs'∧ts.length=n∧Same Hq H∧Hq a=none∧H a=some (.ins (clsAt K c) dx fs)∧FldR K Hq fl fs∧RepL K Hq ts vs'∧F a fl ts=some (t,fl') ∧
 ∀ v Hq' H' dx' fs',Ex Hq (del H a) Hq' H'→Hq' a=none→H' a=some (.ins (clsAt K c) dx' fs')→FldR K Hq' fl' fs'→Rep K Hq' t v→Q v H'
def HasD (P:Program)(w:World)(K:PySem.W.Frag)(mg:Str→Option Value)(base:Heap) (x c:Str) (k n:Nat)(F:Addr→List (Str×T)→List T→Option (T×List (Str×T))):Prop :=
 ∃ a fd ps,ps.length=n+1∧FnOk P w K mg base CX0 k a fd ps (spD K c n F)∧mg x=some (.ref a)∧PySem.W.keepIn K (.ref a)=true∧Binds K fd ps []
def runD (n:Nat) (c:Str)(F:FW)(a:Addr)(fl:List (Str×T)) (ts:List T):Option (T×List (Str×T)):=match F (some (.ob a c fl)::(ts.map (fun t=>some (.pu t))++List.replicate (n - ts.length) none)) with
 | some (.rt ρ t)=>(match (ρ[0]?:Option (Option Sl)) with|some (some (.ob b d fl'))=>if b=a∧d=c then some (t,fl') else none|_=>none)
 | _=>none
section
variable {P:Program}{w:World}{K:PySem.W.Frag}{mg:Str→Option Value}{base:Heap}
theorem Dv {x c:Str}{st st0:Stmt}{n0:Str}{N ps:List Str}{k n l:Nat}{F:FW}(hn:N.length=n)(hl:ps.length=l)(G:Src K mg x st (n0::ps)) (S:av (n0::N) (n0::ps) (af st)) (hst:aj st=[st0])
  (hbody:∀(f:Addr)(cdv:Value)(A:Around)(outer:List Env)(s:Shared)(H:Hp)(E:XK)(z:Z),Room k (A.deeper (PyProof.Rows.envOfC x (af st) s.heap.objs.size f cdv))→z.K=K →
   PS (cxOf CX0 P w K mg base (n0::N) x (af st) f cdv A outer s H E).nox st0 (tW z F kNo)):HasD P w K mg base x c (k+1) l (runD n c F):=by
 subst hn hl
 obtain⟨a0,fd,fn,b,hm⟩:=G
 refine⟨a0,fd,n0::ps,by rw[List.length_cons],fn.ok S (fun vs H Q E h=>?_) fun cdv A outer s H vs Q E hr h=>?_,hm,fn.kp,b⟩
 ·obtain⟨Hq,a,dx,fs,vs',fl,ts,t,fl',rfl,hl,_,_,_,_,r,_⟩:=h
  rw[List.length_cons,List.length_cons,← r.length,hl]
 ·obtain⟨Hq,a,dx,fs,vs',fl,ts,t,fl',rfl,hl,sb,h0,h1,h2,r,e,k⟩:=h
  have ex0:Ex Hq (del H a) Hq H:=⟨wB,.refl _,sb,fun _ _ n=>n⟩
  have r0:=nI (z:=⟨K,Hq,del H a⟩) (n0:=n0) (N:=N) ex0 r (yh h0 h1 h2) trivial
  rw[hst]
  refine⟨_,yJ (hbody a0 cdv A outer s H E ⟨K,Hq,del H a⟩ hr rfl),?_⟩
  unfold runD at e
  split at e
  ·rename_i ρ' t' e1
   split at e
   ·rename_i b d gl e2
    split at e
    ·rename_i hc
     obtain⟨hc1,hc2⟩:=hc
     subst hc1 hc2
     cases e
     refine⟨_,Hq,_,r0,e1,fun v σ' Hq' H' r' _ rp=>?_⟩
     obtain⟨_,q1,_,dx',fs',q2,q3⟩:=r'.o.ob 0 b d fl' e2
     exact k v Hq' H' dx' fs' r'.ex q1 q2 q3 rp
    ·cases e
   ·cases e
  ·cases e
end
def cV (i:Nat) (c:Str) (n:Nat)(F:Addr→List (Str×T)→List T→Option (T×List (Str×T))) (fa:FA):FM:=fun ρ=>match ρ[i]? with
 | some (some (.ob a d fl))=>if d=c then (match fa ρ with
   | some ts=>if ts.length=n then (F a fl ts).map fun p=>(p.1,ρ.set i (some (.ob a d p.2))) else none
   | none=>none) else none
 | _=>none
section
variable {X:Cx}{z:Z}{fa:FA}{pos:Pos}
theorem em_hasD (i:Nat){c x y:Str}{k n:Nat}{F:Addr→List (Str×T)→List T→Option (T×List (Str×T))}{p1 p2:Pos}{es:List Expr}(hK:z.K=X.K)(h:HasD X.prog X.w X.K X.mg X.base y c k n F)(hr:Room k X.A)(ha:EA X z es fa)(hg:Gl X y:=by rfl)(hN:X.N[i]?=some x:=by rfl)
  (hv:Vis X.env.scope x:=by first|exact Or.inl rfl|exact Or.inr (Or.inl rfl)|exact Or.inr (Or.inr rfl)) (hd:(x==("__debug__":Str))=false:=by decide) (hcd:(x==("__classdict__":Str))=false:=by decide) (hdy:(y==("__debug__":Str))=false:=by decide)
  (hs:starEach (.Name x p1::es) X.env=(false,eval (.Name x p1) X.env)::starEach es X.env:=by rfl) (hpl:(backTo pos (starEach es X.env)).any (·.1)=false:=by rfl):EM X z (.Call (.Name y p2) (.Name x p1::es) [] pos) (cV i c n F fa):=by
 obtain⟨a0,fd,ps,hl,G,hm,hk,hb⟩:=h
 refine PE.imp (sM (E:=E0) (dvs:=[]) G hr hg hm hk hb .nil gk (bx (bO hN hv hd hcd) ha hs) hdy hs hpl) fun σ H Q ⟨ρ,Hq,t,ρ',r,e,k⟩=>?_
 unfold cV at e
 split at e
 ·rename_i a d fl e0
  split at e
  ·rename_i hc
   subst hc
   split at e
   ·rename_i ts ef
    split at e
    ·rename_i hn
     obtain⟨⟨t1,fl'⟩,e1,e2⟩:=Option.map_eq_some_iff.mp e
     cases e2
     obtain⟨g1,g2,g3,dx,fs,g4,g5⟩:=r.o.ob i a d fl e0
     refine⟨.ref a,g1,ρ,Hq,ts,r,ef,fun vs Hq1 H1 x1 r1=>?_⟩
     show spD X.K d n F ((.ref a::vs)++[]) H1 Q E0
     rw[List.append_nil]
     have r2:=r.ext x1
     obtain⟨h1,h2,h3,dx,fs,h4,h5⟩:=r2.o.ob i a d fl e0
     rw[hK] at h4 h5 r1
     exact⟨Hq1,a,dx,fs,vs,fl,ts,_,fl',rfl,hn,x1.sub,h2,h4,h5,r1,e1,fun v Hq' H' dx' fs' x q1 q2 q3 q4=>k v Hq' H' (r2.mutO e0 x q1 (hK▸q2) (hK▸q3)) (x1.q.trans x.q) (hK▸q4)⟩
    ·cases e
   ·cases e
  ·cases e
 ·cases e
end
end TL
namespace TL
open PySem L2
section
variable {ρ ρ':Rho}{i n:Nat}{c m:Str}{fl fl':List (Str×T)}{t u w:T}{ts:List T}{a:Addr}{r:Rho}{f:FE}{g:FM}{fa:FA}
theorem Bs {F:FW}(h:F (some (.ob a c fl)::(ts.map (fun t=>some (.pu t))++List.replicate (n - ts.length) none))=some (.rt (some (.ob a c fl')::r) t)):runD n c F a fl ts=some (t,fl'):=by
 unfold runD
 rw[h]
 simp
theorem iO {F:FX}{x:Str}(h:F (some (.ro c fl)::(ts.map (fun t=>some (.pu t))++List.replicate (n - ts.length) none))=some (.xc ρ' x)):bH n c F fl ts=some x:=by
 unfold bH
 rw[h]
theorem j8 {G:List (Str×T)→List T→Option Str}{x:Str}(h1:objF i c ρ=some fl)(h2:(fl.lookup m).isNone=true) (h3:fa ρ=some ts)(h4:ts.length=n)(h5:G fl ts=some x):gMY i c m n G fa ρ=some x:=by
 unfold gMY
 rw[h1,Option.bind_some,if_pos h2,h3,Option.bind_some,if_pos h4];exact h5
theorem lZ {G:List (Str×T)→List T→Option Str}(h1:objF i c ρ=some fl)(h2:(fl.lookup m).isNone=true) (h3:fa ρ=some ts)(h4:ts.length=n)(h5:G fl ts=none):gMY i c m n G fa ρ=none:=by
 unfold gMY
 rw[h1,Option.bind_some,if_pos h2,h3,Option.bind_some,if_pos h4];exact h5
theorem oO {F:List T→Option T}(h1:fa ρ=some ts)(h2:ts.length=n)(h3:F ts=some t)(h4:nol t=true):cT n F fa ρ=some t:=by
 unfold cT
 rw[h1]
 dsimp only
 rw[if_pos h2,h3,Option.bind_some,if_pos h4]
theorem b_m1 {fn:T→Option T}(h1:g ρ=some (t,ρ')) (h2:fn t=some u):m1 fn g ρ=some (u,ρ'):=by
 unfold m1;rw[h1,Option.bind_some,h2];rfl
theorem vq (h1:f ρ=some t)(h2:g ρ=some (u,ρ')) (h3:tIx t u=some w):mIx f g ρ=some (w,ρ'):=by
 unfold mIx;rw[h1,Option.bind_some,h2,Option.bind_some,h3];rfl
theorem vt {M:Addr→List (Str×T)→List T→Option (List (Str×T))}(h1:ρ[i]?=some (some (.ob a c fl))) (h2:(fl.lookup m).isNone=true) (h3:fa ρ=some ts)(h4:ts.length=n)(h5:M a fl ts=some fl')(h6:ρ.set i (some (.ob a c fl'))=ρ'):dz i c m n M fa ρ=some (.non,ρ'):=by
 unfold dz
 rw[h1]
 dsimp only
 rw[if_pos ⟨rfl,h2⟩,h3]
 dsimp only
 rw[if_pos h4,h5,← h6];rfl
theorem Bk {M:Addr→List (Str×T)→List T→Option (T×List (Str×T))}(h1:ρ[i]?=some (some (.ob a c fl))) (h3:fa ρ=some ts)(h4:ts.length=n)(h5:M a fl ts=some (t,fl')) (h6:ρ.set i (some (.ob a c fl'))=ρ'):cV i c n M fa ρ=some (t,ρ'):=by
 unfold cV
 rw[h1]
 dsimp only
 rw[if_pos rfl,h3]
 dsimp only
 rw[if_pos h4,h5,← h6];rfl
theorem Bl {fn:T→T→Option T}{b:Bool}(h1:g ρ=some (t,ρ')) (h2:f ρ'=some u)(h3:fn t u=some (.bl b)):dB fn g f ρ=some (b,ρ'):=by
 unfold dB
 rw[h1,Option.bind_some,h2,Option.bind_some,h3]
theorem Bm {ft:FMT}{gt:FT}{b d:Bool}(h1:ft ρ=some (b,ρ')) (h2:b=false→gt ρ'=some d):mtOr ft gt ρ=some (b||d,ρ'):=by
 unfold mtOr
 rw[h1,Option.bind_some]
 cases b with
 | true=>rfl
 | false=>rw[h2 rfl];rfl
theorem Bt {ft:FMT}{F G R:FS}{b:Bool}{o:Out}(h1:ft ρ=some (b,ρ')) (h2:b=false)(h3:sSeq G R ρ'=some o):sSeq (sIfM ft F G) R ρ=some o:=by
 subst h2
 unfold sSeq sIfM at *
 rw[h1];exact h3
theorem oW {G:Rho→Option Str}{x:Str}(h:G ρ=some x):wRet G g ρ=some (.xc ρ x):=by unfold wRet;rw[h]
theorem vB {G:Rho→Option Str}(h1:G ρ=none)(h2:g ρ=some (t,ρ')):wRet G g ρ=some (.rt ρ' t):=by unfold wRet;rw[h1,h2];rfl
theorem vC (h:f ρ=some t):jr f ρ=some (.rt ρ t):=by unfold jr;rw[h];rfl
theorem vD {F:FS}(h:F ρ=some (.nx ρ')):wSt F ρ=some (.nx ρ'):=by unfold wSt;rw[h]
theorem kj {F G:FW}{o:Option OutW}(h1:F ρ=some (.nx ρ')) (h2:G ρ'=o):wSeq F G ρ=o:=by unfold wSeq;rw[h1];exact h2
theorem BB {F G:FW}(h1:F ρ=some (.rt ρ' t)):wSeq F G ρ=some (.rt ρ' t):=by unfold wSeq;rw[h1]
theorem BC {F G:FW}{x:Str}(h1:F ρ=some (.xc ρ' x)):wSeq F G ρ=some (.xc ρ' x):=by unfold wSeq;rw[h1]
theorem vA {ft:FT}{F G:FW}{o:Option OutW}(h1:ft ρ=some true)(h2:F ρ=o):wIf ft F G ρ=o:=by unfold wIf;rw[h1];exact h2
theorem oV {ft:FT}{F G:FW}{o:Option OutW}(h1:ft ρ=some false)(h2:G ρ=o):wIf ft F G ρ=o:=by unfold wIf;rw[h1];exact h2
theorem vE {Fb:FW}{Fh:Str→FW}(h1:Fb ρ=some (.rt ρ' t)):wTry Fb Fh ρ=some (.rt ρ' t):=by unfold wTry;rw[h1]
theorem oX {Fb:FW}{Fh:Str→FW}{x:Str}{o:Option OutW}(h1:Fb ρ=some (.xc ρ' x)) (h2:Fh x ρ'=o):wTry Fb Fh ρ=o:=by unfold wTry;rw[h1];exact h2
theorem vo {cs:List Str}{d x:Str}{Fs:FW}{Fr:Str→FW}(h1:cs.contains x=true)(h2:subB x d=true)(h3:Fs (ρ.set i (some (.xc x)))=some (.rt ρ' t)):hAsW cs d i Fs Fr x ρ=some (.rt (ρ'.set i none) t):=by
 unfold hAsW;rw[if_pos h1,if_pos h2,h3];rfl
theorem Bh {cs:List Str}{d x:Str}{Fs:FW}{Fr:Str→FW}{o:Option OutW}(h1:cs.contains x=true)(h2:subB x d=false)(h3:Fr x ρ=o):hAsW cs d i Fs Fr x ρ=o:=by
 unfold hAsW;rw[if_pos h1,if_neg (by rw[h2];exact Bool.false_ne_true)];exact h3
end
end TL
set_option autoImplicit true
set_option relaxedAutoImplicit true
namespace TL.W
open PySem L2 TL
structure eZ (X:Cx)(z:Z)(e:Expr)(f:FZ):Prop where
 p:EZ X z e f
structure eV (X:Cx)(z:Z)(e:Expr)(f:FE):Prop where
 p:EV X z e f
structure eR (X:Cx)(z:Z)(e:Expr)(f:FE):Prop where
 p:ER X z e f
structure eF (X:Cx)(z:Z)(e:Expr)(f:FA):Prop where
 p:EF X z e f
structure eA (X:Cx)(z:Z)(e:List Expr)(f:FA):Prop where
 p:EA X z e f
structure eT (X:Cx)(z:Z)(e:Expr)(f:FT):Prop where
 p:ET X z e f
structure eW (X:Cx)(z:Z)(e:Expr)(f:FT):Prop where
 p:EW X z e f
structure sV (X:Cx)(z:Z)(e:Stmt)(f:FS):Prop where
 p:SV X z e f
structure sVs (X:Cx)(z:Z)(e:List Stmt)(f:FS):Prop where
 p:SVs X z e f
structure xV (X:Cx)(pins:List (Addr×Obj)) (kx:Addr→L2.St→Hp→Prop)(z:Z)(e:Stmt)(f:FX):Prop where
 p:XV X pins kx z e f
structure xVs (X:Cx)(pins:List (Addr×Obj)) (kx:Addr→L2.St→Hp→Prop)(z:Z)(e:List Stmt)(f:FX):Prop where
 p:XVs X pins kx z e f
structure hJ (X:Cx)(z:Z)(e:List ExceptHandler)(f:Str→FS):Prop where
 p:HJ X z e f
structure xR (X:Cx)(pins:List (Addr×Obj)) (kx:Addr→L2.St→Hp→Prop)(z:Z)(e:Expr)(G:Rho→Option Str):Prop where
 p:XR X pins kx z e G
structure eAo (X:Cx)(z:Z)(e:List Expr)(f:FA):Prop where
 p:EAo X z e f
structure eM (X:Cx)(z:Z)(e:Expr)(f:FM):Prop where
 p:EM X z e f
structure eMT (X:Cx)(z:Z)(e:Expr)(f:FMT):Prop where
 p:EMT X z e f
structure eMW (X:Cx)(z:Z)(e:Expr)(f:FMT):Prop where
 p:EMW X z e f
structure hW (X:Cx)(z:Z)(e:List ExceptHandler)(f:Str→FW):Prop where
 p:HW X z e f
structure wV (X:Cx)(pins:List (Addr×Obj)) (kx:Addr→L2.St→Hp→Prop)(z:Z)(e:Stmt)(f:FW):Prop where
 p:WV X pins kx z e f
structure wVs (X:Cx)(pins:List (Addr×Obj)) (kx:Addr→L2.St→Hp→Prop)(z:Z)(e:List Stmt)(f:FW):Prop where
 p:WVs X pins kx z e f
structure sW (X:Cx)(z:Z)(e:Stmt)(f:FW):Prop where
 p:PS X e (tW z f kNo)
structure J (t:Prop):Prop where
 p:t
theorem er_of (h:eV X z e f):eR X z e f:=⟨TL.er_of h.p⟩
theorem ev_new {f:FA}(h:eF X z e f):eV X z e (fNew f):=⟨TL.ev_new h.p⟩
theorem ev_var (i:Nat){x:Str}{pos:Pos}(hN:X.N[i]?=some x:=by rfl)(hv:Vis X.env.scope x:=by first|exact Or.inl rfl|exact Or.inr (Or.inl rfl)|exact Or.inr (Or.inr rfl)) (hd:(x==("__debug__":Str))=false:=by decide) (hcd:(x==("__classdict__":Str))=false:=by decide):eV X z (.Name x pos) (gv i):=⟨TL.ev_var i hN hv hd hcd⟩
theorem er_own (i:Nat){x:Str}{pos:Pos}(hN:X.N[i]?=some x:=by rfl)(hv:Vis X.env.scope x:=by first|exact Or.inl rfl|exact Or.inr (Or.inl rfl)|exact Or.inr (Or.inr rfl)) (hd:(x==("__debug__":Str))=false:=by decide) (hcd:(x==("__classdict__":Str))=false:=by decide):eR X z (.Name x pos) (go i):=⟨TL.er_own i hN hv hd hcd⟩
theorem ev_int {i:Int} {j pos}:eV X z (.Constant (.int i) j pos) (kc (.int i)):=⟨TL.ev_int⟩
theorem ev_bl {b j pos}:eV X z (.Constant (.bool b) j pos) (kc (.bl b)):=⟨TL.ev_bl⟩
theorem ev_non {j pos}:eV X z (.Constant .none j pos) (kc .non):=⟨TL.ev_non⟩
theorem ev_str {x j pos}:eV X z (.Constant (.str x) j pos) (kc (.str x)):=⟨TL.ev_str⟩
theorem ea_nil  : eA X z [] fNil:=⟨TL.ea_nil⟩
theorem ea_cons (h:eV X z e f)(hr:eA X z es fa)(hs:starEach (e::es) X.env=(false,eval e X.env)::starEach es X.env:=by rfl):eA X z (e::es) (aa f fa):=⟨TL.ea_cons h.p hr.p hs⟩
theorem ev_tup {x1 pos}(h:eA X z es fa):eV X z (.Tuple es x1 pos) (fTup fa):=⟨TL.ev_tup h.p⟩
theorem ef_lst {pos}(h:eA X z es fa):eF X z (.List es pos) (fLst fa):=⟨TL.ef_lst h.p⟩
theorem ev_op (hK:z.K=X.K){op:Operator}(ho:Op2 X (binaryOp op) fn) (ha:eR X z a f)(hb:eR X z b g):eV X z (.BinOp a op b pos) (f2 fn f g):=⟨TL.ev_op hK ho ha.p hb.p⟩
theorem ev_cmp (hK:z.K=X.K){op:CmpOp}(ho:Op2 X (compareOp op) fn) (ha:eR X z a f)(hb:eR X z b g)(hm:behindInMarks op b=false):eV X z (.Compare a [op] [b] pos) (f2 fn f g):=⟨TL.ev_cmp hK ho ha.p hb.p hm⟩
theorem et_val (h:eV X z e f)(he:∀ whole,isTrue e X.env whole=(do let v ← whole;standAt e.pos;holding [v] (truthy v)):=by intro _;rfl):eT X z e (fB f):=⟨TL.et_val h.p he⟩
theorem et_cmp (hK:z.K=X.K){fn:T→T→Option T}{op:CmpOp}(ho:Op2 X (compareOp op) fn) (ha:eR X z a f)(hb:eR X z b g)(hm:behindInMarks op b=false):eT X z (.Compare a [op] [b] pos) (fB (f2 fn f g)):=⟨TL.et_cmp hK ho ha.p hb.p hm⟩
theorem et_not (h:eT X z a ft):eT X z (.UnaryOp .Not a pos) (fNot ft):=⟨TL.et_not h.p⟩
theorem ew_and1 (h:eT X z a ft):eW X z (.BoolOp .And [a] pos) ft:=⟨TL.ew_and1 h.p⟩
theorem ew_or1 (h:eT X z a ft):eW X z (.BoolOp .Or [a] pos) ft:=⟨TL.ew_or1 h.p⟩
theorem ew_and (h:eT X z a ft)(hb:eW X z (.BoolOp .And (b::rst) pos) gt):eW X z (.BoolOp .And (a::b::rst) pos) (fAnd ft gt):=⟨TL.ew_and h.p hb.p⟩
theorem ew_or (h:eT X z a ft)(hb:eW X z (.BoolOp .Or (b::rst) pos) gt):eW X z (.BoolOp .Or (a::b::rst) pos) (fOr ft gt):=⟨TL.ew_or h.p hb.p⟩
theorem et_w (h:eW X z e ft):eT X z e ft:=⟨TL.et_w h.p⟩
theorem ev_one {op}(h:eV X z a f):eV X z (.BoolOp op [a] pos) f:=⟨TL.ev_one h.p⟩
theorem ev_and (h:eV X z a f)(hb:eV X z (.BoolOp .And (b::rst) pos) g):eV X z (.BoolOp .And (a::b::rst) pos) (bB f g):=⟨TL.ev_and h.p hb.p⟩
theorem ev_not (h:eV X z a f):eV X z (.UnaryOp .Not a pos) (eB f):=⟨TL.ev_not h.p⟩
theorem ev_ifExp {c:Expr}(hc:eT X z c ft)(ha:eV X z a f)(hb:eV X z b g):eV X z (.IfExp c a b pos) (fIf ft f g):=⟨TL.ev_ifExp hc.p ha.p hb.p⟩
theorem et_chain (hK:z.K=X.K){op op':CmpOp}(ho:Op2 X (compareOp op) fn) (ho':Op2 X (compareOp op') fn') (ha:eR X z a f)(hb:eR X z b g)(hc:eR X z c h)(hm:lastMarks [op,op'] [b,c]=false:=by with_unfolding_all rfl):eT X z (.Compare a [op,op'] [b,c] pos) (fB (fm fn fn' f g h)):=⟨TL.et_chain hK ho ho' ha.p hb.p hc.p hm⟩
theorem ev_neg (h:eV X z a f):eV X z (.UnaryOp .USub a pos) (f1 tNeg f):=⟨TL.ev_neg h.p⟩
theorem ev_ix (hK:z.K=X.K)(ha:eR X z a f)(hb:eV X z b g)(hs:jO b):eV X z (.Subscript a b pos) (f2 tIx f g):=⟨TL.ev_ix hK ha.p hb.p hs⟩
theorem ev_b1 (hK:z.K=X.K){fn:T→Option T}{x:Str}{id:String}(hb:Bi1 X (.builtin id) fn) (hg:Gl X x)(hm:X.mg x=none)(hv:bootBuiltins x=some (.builtin id)) (he:eR X z e f)(hn:x≠"__name__":=by decide)(hdb:(x==("__debug__":Str))=false:=by decide) (hs:starEach [e] X.env=[(false,eval e X.env)]:=by rfl):eV X z (.Call (.Name x p) [e] [] pos) (f1 fn f):=⟨TL.ev_b1 hK hb hg hm hv he.p hn hdb hs⟩
theorem ev_y1 (hK:z.K=X.K){fn:T→Option T}{x:Str}{id:String}(hb:Bi1 X (.type id) fn) (hg:Gl X x)(hm:X.mg x=none)(hv:bootBuiltins x=some (.type id)) (he:eR X z e f)(hn:x≠"__name__":=by decide)(hdb:(x==("__debug__":Str))=false:=by decide) (hs:starEach [e] X.env=[(false,eval e X.env)]:=by rfl):eV X z (.Call (.Name x p) [e] [] pos) (f1 fn f):=⟨TL.ev_y1 hK hb hg hm hv he.p hn hdb hs⟩
theorem ev_isi (hK:z.K=X.K){c:Str}{cn:String}(kt:Kit X.K cn)(hg:Gl X "isinstance")(hm:X.mg "isinstance"=none)(hg2:Gl X c)(hm2:X.mg c=none)(hv2:bootBuiltins c=some (.type cn)) (he:eR X z e f)(hn:c≠"__name__":=by decide)(hdb:(c==("__debug__":Str))=false:=by decide) (hs:starEach [e,.Name c p'] X.env=[(false,eval e X.env),(false,eval (.Name c p') X.env)]:=by rfl) (hs2:starEach [.Name c p'] X.env=[(false,eval (.Name c p') X.env)]:=by rfl):eV X z (.Call (.Name "isinstance" p) [e,.Name c p'] [] pos) (f1 (tIs cn) f):=⟨TL.ev_isi hK kt hg hm hg2 hm2 hv2 he.p hn hdb hs hs2⟩
theorem ev_min (hc:X.calm=true){a b:Expr}(hg:Gl X "min")(hm:X.mg "min"=none)(ha:eV X z a f)(hb:eV X z b g)(hs:starEach [a,b] X.env=[(false,eval a X.env),(false,eval b X.env)]:=by rfl) (hs2:starEach [b] X.env=[(false,eval b X.env)]:=by rfl):eV X z (.Call (.Name "min" p) [a,b] [] pos) (f2 tMin f g):=⟨TL.ev_min hc hg hm ha.p hb.p hs hs2⟩
theorem ir_seq (hK:z.K=X.K)(h:eR X z e f):J (PI X tg e (iR z (fIt f))):=⟨TL.ir_seq hK h.p⟩
theorem ip_seq (hK:z.K=X.K)(h:eV X z e f):J (PI X tg e (iP z (fIt f))):=⟨TL.ip_seq hK h.p⟩
theorem ip_range (hg:Gl X "range")(hm:X.mg "range"=none)(h:eV X z e f)(hs:starEach [e] X.env=[(false,eval e X.env)]:=by rfl):J (PI X tg (.Call (.Name "range" p) [e] [] pos) (iP z (fRng f))):=⟨TL.ip_range hg hm h.p hs⟩
theorem ip_range2 {a:Expr}(hg:Gl X "range")(hm:X.mg "range"=none)(ha:eV X z a f)(h:eV X z e g)(hs:starEach [a,e] X.env=[(false,eval a X.env),(false,eval e X.env)]:=by rfl) (hs2:starEach [e] X.env=[(false,eval e X.env)]:=by rfl):J (PI X tg (.Call (.Name "range" p) [a,e] [] pos) (iP z (gc f g))):=⟨TL.ip_range2 hg hm ha.p h.p hs hs2⟩
theorem ir_of {f:FA}(h:J (PI X tg e (iP z f))):J (PI X tg e (iR z f)):=⟨TL.ir_of h.p⟩
theorem eg_name (i:Nat){x:Str}(hN:X.N.Nodup)(hi:X.N[i]?=some x:=by rfl)(hx:Loc X.env.scope x:=by first|exact Or.inl rfl|exact Or.inr rfl)(hf:X.fn x=true∨X.env.scope.names.lookup x=some .local:=by first|exact .inl rfl|exact .inr rfl):J (PG X (.Name x pos) (tG z [i] (gNm i))):=⟨TL.eg_name i hN hi hx hf⟩
theorem eg_tup2 (hK:z.K=X.K)(hc:X.calm=true) (i j:Nat){x y:Str}{px py:Pos}{kd:Nat}(hN:X.N.Nodup)(hi:X.N[i]?=some x:=by rfl)(hj:X.N[j]?=some y:=by rfl)(hx:Loc X.env.scope x:=by first|exact Or.inl rfl|exact Or.inr rfl)(hy:Loc X.env.scope y:=by first|exact Or.inl rfl|exact Or.inr rfl)(hf:X.fn x=true∨X.env.scope.names.lookup x=some .local:=by first|exact .inl rfl|exact .inr rfl)(hf2:X.fn y=true∨X.env.scope.names.lookup y=some .local:=by first|exact .inl rfl|exact .inr rfl):J (PG X (.Tuple [.Name x px,.Name y py] kd pos) (tG z [i,j] (gTp2 i j))):=⟨TL.eg_tup2 hK hc i j hN hi hj hx hy hf hf2⟩
theorem ss_nil  : sVs X z [] sNil:=⟨TL.ss_nil⟩
theorem ss_cons (h1:sV X z st F)(h2:sVs X z rst G):sVs X z (st::rst) (sSeq F G):=⟨TL.ss_cons h1.p h2.p⟩
theorem ss_one (h1:sV X z st F):sVs X z [st] F:=⟨TL.ss_one h1.p⟩
theorem s_ret (h:eV X z e f):sV X z (.Return (some e) pos) (sRet f):=⟨TL.s_ret h.p⟩
theorem s_retO (i:Nat){x:Str}{p:Pos}(hN:X.N[i]?=some x:=by rfl)(hv:Vis X.env.scope x:=by first|exact Or.inl rfl|exact Or.inr (Or.inl rfl)|exact Or.inr (Or.inr rfl)) (hd:(x==("__debug__":Str))=false:=by decide) (hcd:(x==("__classdict__":Str))=false:=by decide):sV X z (.Return (some (.Name x p)) pos) (jg i):=⟨TL.s_retO i hN hv hd hcd⟩
theorem s_set (i:Nat){x:Str}{pos':Pos}(hN:X.N.Nodup)(h:eV X z e f)(hi:X.N[i]?=some x:=by rfl)(hx:Loc X.env.scope x:=by first|exact Or.inl rfl|exact Or.inr rfl)(hs:swapsWith e (some (.Name x pos')) pos.line X.env=pure false:=by rfl) (hf:X.fn x=true∨X.env.scope.names.lookup x=some .local:=by first|exact .inl rfl|exact .inr rfl):sV X z (.Assign [.Name x pos'] e pos) (sSet i f):=⟨TL.s_set i hN h.p hi hx hs hf⟩
theorem s_own (i:Nat){x:Str}{pos':Pos}(hN:X.N.Nodup)(h:eF X z e fa)(hi:X.N[i]?=some x:=by rfl)(hx:Loc X.env.scope x:=by first|exact Or.inl rfl|exact Or.inr rfl)(hs:swapsWith e (some (.Name x pos')) pos.line X.env=pure false:=by rfl) (hf:X.fn x=true∨X.env.scope.names.lookup x=some .local:=by first|exact .inl rfl|exact .inr rfl):sV X z (.Assign [.Name x pos'] e pos) (sOwn i fa):=⟨TL.s_own i hN h.p hi hx hs hf⟩
theorem s_app (i:Nat){x:Str}{p1 p2 p3:Pos}(hb:PE X (.Call (.Attribute (.Name x p1) "append" p2) [e] [] p3) (tBM X.K "list" sU (tVar i) (nN (tT z f) tNil))):sV X z (.Expr (.Call (.Attribute (.Name x p1) "append" p2) [e] [] p3) pos) (sApp i f):=⟨TL.s_app i hb⟩
theorem s_if {c:Expr}{a b:List Stmt}{ft:FT}(hc:eT X z c ft)(ha:sVs X z a F)(hb:sVs X z b G):sV X z (.If c a b pos) (sIf ft F G):=⟨TL.s_if hc.p ha.p hb.p⟩
theorem s_for {iter tg:Expr}{body:List Stmt}{g:FG}{tc:List Nat}(hp:PassesOwn (model X.prog X.w) X.A X.env X.xe) (hc:X.calm=true)(hi:J (PI X tg iter (iP z fa))) (hg:J (PG X tg (tG z tc g))) (hb:sVs X z body F)(hs:∀ x,foldedSetIterable iter X.env x=pure x:=by intro _;rfl):sV X z (.For tg iter body [] pos) (sFor fa g F):=⟨TL.s_for hp hc hi.p hg.p hb.p hs⟩
theorem s_while (n:Nat){c:Expr}{body:List Stmt}{ft:FT}(hp:PassesOwn (model X.prog X.w) X.A X.env X.xe) (hc:eT X z c ft)(hb:sVs X z body F):sV X z (.While c body [] pos) (kT n ft F):=⟨TL.s_while n hp hc.p hb.p⟩
theorem ev_has {X:Cx}{z:Z}{k n:Nat}{x:Str}{p pos:Pos}{e:Expr}{es:List Expr}{fa:FA}{F:List T→Option T}(hK:z.K=X.K)(h:Has X.prog X.w X.K X.mg X.base x k n F)(hr:Room k X.A)(ha:eA X z (e::es) fa) (hg:Gl X x:=by rfl)(hd:(x==("__debug__":Str))=false:=by decide) (hs:starEach (e::es) X.env=(false,eval e X.env)::starEach es X.env:=by rfl) (hpl:(backTo pos (starEach es X.env)).any (·.1)=false:=by rfl):eV X z (.Call (.Name x p) (e::es) [] pos) (aq n F fa):=⟨TL.ev_has hK h hr ha.p hg hd hs hpl⟩
theorem ef_comp' {X:Cx}{z:Z}{elt iter tg:Expr}{ifs:List Expr}{scope:Scope}{pos:Pos}{fi:FA}{g:FG}{c:FT}{fe:FE}(N:List Str)(sc:Scope)(N':List Str)(ix:List (Option Nat)) (tc:List Nat)(ok:ez N sc scope N' ix tc=true)(hK:z.K=X.K)(hi:J (PI X tg iter (iR z fi))) (hg:∀ C s H fp z',z'.K=X.K→J (PG (au X scope N' C s H fp) tg (tG z' tc g))) (ht:∀ C s H fp z',z'.K=X.K→J (PIfs (au X scope N' C s H fp) ifs (tB2 z' c))) (he:∀ C s H fp z',z'.K=X.K→eV (au X scope N' C s H fp) z' elt fe) (hN:X.N=N:=by rfl)(hsc:X.env.scope=sc:=by rfl)(hc:X.calm=true:=by rfl)(hs:∀ x,foldedSetIterable iter X.env x=pure x:=by intro _;rfl):eF X z (.ListComp elt [⟨tg,iter,ifs,0⟩] scope pos) (aF ix fi g c fe):=⟨TL.ef_comp' N sc N' ix tc ok hK hi.p (fun C s H fp z' hz=>(hg C s H fp z' hz).p) (fun C s H fp z' hz=>(ht C s H fp z' hz).p) (fun C s H fp z' hz=>(he C s H fp z' hz).p) hN hsc hc hs⟩
theorem et_ifs1 {X:Cx}{z:Z}{c:Expr}{f:FT}(h:eT X z c f):J (PIfs X [c] (tB2 z f)):=⟨TL.et_ifs1 h.p⟩
theorem et_ifs0 {X:Cx}{z:Z}:J (PIfs X [] (tB2 z fYes)):=⟨TL.et_ifs0⟩
theorem ez_set (hK:z.K=X.K)(hc:X.calm=true)(hg:Gl X "set")(hm:X.mg "set"=none)(h:eR X z e f)(hs:starEach [e] X.env=[(false,eval e X.env)]:=by rfl):eZ X z (.Call (.Name "set" p) [e] [] pos) (gf f):=⟨TL.ez_set hK hc hg hm h.p hs⟩
theorem ez_or (ha:eZ X z a fa)(hb:eZ X z b fb):eZ X z (.BinOp a .BitOr b pos) (iX fa fb):=⟨TL.ez_or ha.p hb.p⟩
theorem ef_sorted (hc:X.calm=true)(hg:Gl X "sorted")(hm:X.mg "sorted"=none)(h:eZ X z e fz)(hs:starEach [e] X.env=[(false,eval e X.env)]:=by rfl):eF X z (.Call (.Name "sorted" p) [e] [] pos) (iY fz):=⟨TL.ef_sorted hc hg hm h.p hs⟩
theorem ef_lrange {e':Expr}{p2 pos2:Pos}(hc:X.calm=true)(hg:Gl X "list")(hm:X.mg "list"=none)(hg2:Gl X "range")(hm2:X.mg "range"=none)(h:eV X z e' f)(hs:starEach [e'] X.env=[(false,eval e' X.env)]:=by rfl):eF X z (.Call (.Name "list" p) [.Call (.Name "range" p2) [e'] [] pos2] [] pos) (iW f):=⟨TL.ef_lrange hc hg hm hg2 hm2 h.p hs⟩
theorem ir_enum (hK:z.K=X.K)(hg:Gl X "enumerate")(hm:X.mg "enumerate"=none)(h:eR X z e f)(hs:starEach [e] X.env=[(false,eval e X.env)]:=by rfl):J (PI X (.Tuple elts kd ps) (.Call (.Name "enumerate" p) [e] [] pos) (iR z (iV f))):=⟨TL.ir_enum hK hg hm h.p hs⟩
theorem s_setC {X:Cx}{z:Z}{elt iter tg:Expr}{ifs:List Expr}{scope:Scope}{pos:Pos}{fi:FA}{g:FG}{c:FT}{fe:FE}{x:Str}{pos' pos2:Pos} (i:Nat)(hnd:X.N.Nodup)(N:List Str)(sc:Scope)(N':List Str)(ix:List (Option Nat)) (tc:List Nat)(ok:ez N sc scope N' ix tc=true)(hK:z.K=X.K)(hi:J (PI X tg iter (iR z fi))) (hg:∀ C s H fp z',z'.K=X.K→J (PG (au X scope N' C s H fp) tg (tG z' tc g))) (ht:∀ C s H fp z',z'.K=X.K→J (PIfs (au X scope N' C s H fp) ifs (tB2 z' c))) (he:∀ C s H fp z',z'.K=X.K→eV (au X scope N' C s H fp) z' elt fe) (hN:X.N=N:=by rfl)(hsc:X.env.scope=sc:=by rfl)(hc:X.calm=true:=by rfl)(hs:∀ x,foldedSetIterable iter X.env x=pure x:=by intro _;rfl)(hxi:X.N[i]?=some x:=by rfl)(hx:Loc X.env.scope x:=by first|exact Or.inl rfl|exact Or.inr rfl)(hsw:swapsWith (.ListComp elt [⟨tg,iter,ifs,0⟩] scope pos) (some (.Name x pos')) pos2.line X.env=pure true:=by rfl) (hf:X.fn x=true∨X.env.scope.names.lookup x=some .local:=by first|exact .inl rfl|exact .inr rfl):sV X z (.Assign [.Name x pos'] (.ListComp elt [⟨tg,iter,ifs,0⟩] scope pos) pos2) (sSet i (fNew (aF ix fi g c fe))):=⟨TL.s_setC i hnd N sc N' ix tc ok hK hi.p (fun C s H fp z' hz=>(hg C s H fp z' hz).p) (fun C s H fp z' hz=>(ht C s H fp z' hz).p) (fun C s H fp z' hz=>(he C s H fp z' hz).p) hN hsc hc hs hxi hx hsw hf⟩
theorem ef_compN {X:Cx}{z:Z}{elt iter tg:Expr}{ifs:List Expr}{scope:Scope}{pos:Pos}{fi:FA}{g:FG}{c:FT}{fe:FE}(N':List Str)(ix:List (Option Nat)) (tc:List Nat)(ok:ez X.N X.env.scope scope N' ix tc=true)(hK:z.K=X.K)(hi:J (PI X tg iter (iR z fi))) (hg:∀ C s H fp z',z'.K=X.K→J (PG (au X scope N' C s H fp) tg (tG z' tc g))) (ht:∀ C s H fp z',z'.K=X.K→J (PIfs (au X scope N' C s H fp) ifs (tB2 z' c))) (he:∀ C s H fp z',z'.K=X.K→eV (au X scope N' C s H fp) z' elt fe) (hc:X.calm=true:=by rfl)(hs:∀ x,foldedSetIterable iter X.env x=pure x:=by intro _;rfl):eF X z (.ListComp elt [⟨tg,iter,ifs,0⟩] scope pos) (aF ix fi g c fe):=⟨TL.ef_compN N' ix tc ok hK hi.p (fun C s H fp z' hz=>(hg C s H fp z' hz).p) (fun C s H fp z' hz=>(ht C s H fp z' hz).p) (fun C s H fp z' hz=>(he C s H fp z' hz).p) hc hs⟩
theorem et_tru (hK:z.K=X.K)(h:eR X z e f)(he:∀ whole,isTrue e X.env whole=(do let v ← whole;standAt e.pos;holding [v] (truthy v)):=by intro _;rfl):eT X z e (fTru f):=⟨TL.et_tru hK h.p he⟩
theorem s_extend (hK:z.K=X.K) (i:Nat){x:Str}(h:eR X z e f)(hN:X.N[i]?=some x:=by rfl)(hv:Vis X.env.scope x:=by first|exact Or.inl rfl|exact Or.inr (Or.inl rfl)|exact Or.inr (Or.inr rfl)) (hd:(x==("__debug__":Str))=false:=by decide) (hcd:(x==("__classdict__":Str))=false:=by decide) (hbase:attributeBase (.Name x p1) "extend" X.env (eval (.Name x p1) X.env)=eval (.Name x p1) X.env:=by rfl) (hline:(p2.endLine==p3.line)=true:=by rfl) (hs:starEach [e] X.env=[(false,eval e X.env)]:=by rfl):sV X z (.Expr (.Call (.Attribute (.Name x p1) "extend" p2) [e] [] p3) pos) (sExt i f):=⟨TL.s_extend hK i h.p hN hv hd hcd hbase hline hs⟩
theorem ef_sortP (hK:z.K=X.K)(hu:X.A.units+64<cLine)(hg:Gl X "sorted")(hm:X.mg "sorted"=none)(h:eR X z e f)(hs:starEach [e] X.env=[(false,eval e X.env)]:=by rfl):eF X z (.Call (.Name "sorted" p) [e] [] pos) (gg f):=⟨TL.ef_sortP hK hu hg hm h.p hs⟩
theorem ev_isx {cs:List Str}{n d:Str}{p p1 p2 pos:Pos}(er:Er cs X.K X.mg)(hK:z.K=X.K) (i:Nat)(hm:X.mg "isinstance"=none)(hd:d∈cs:=by decide)(hg:Gl X "isinstance":=by rfl)(hg2:Gl X d:=by rfl)(hi:X.N[i]?=some n:=by rfl)(hv:Vis X.env.scope n:=by first|exact Or.inl rfl|exact Or.inr (Or.inl rfl)|exact Or.inr (Or.inr rfl)) (hdb:(n==("__debug__":Str))=false:=by decide) (hcd:(n==("__classdict__":Str))=false:=by decide) (hdb2:(d==("__debug__":Str))=false:=by decide):eV X z (.Call (.Name "isinstance" p) [.Name n p1,.Name d p2] [] pos) (fIsx cs i d):=⟨TL.ev_isx er hK i hm hd hg hg2 hi hv hdb hcd hdb2⟩
theorem ev_isv {cs:List Str}{n:Str}{p p1 p2 pos:Pos}(er:Er cs X.K X.mg)(hK:z.K=X.K) (i:Nat)(hm:X.mg "isinstance"=none)(hm2:X.mg "ValueError"=none)(hg:Gl X "isinstance":=by rfl)(hg2:Gl X "ValueError":=by rfl)(hi:X.N[i]?=some n:=by rfl)(hv:Vis X.env.scope n:=by first|exact Or.inl rfl|exact Or.inr (Or.inl rfl)|exact Or.inr (Or.inr rfl)) (hdb:(n==("__debug__":Str))=false:=by decide) (hcd:(n==("__classdict__":Str))=false:=by decide):eV X z (.Call (.Name "isinstance" p) [.Name n p1,.Name "ValueError" p2] [] pos) (fIsv cs i):=⟨TL.ev_isv er hK i hm hm2 hg hg2 hi hv hdb hcd⟩
theorem s_no {st:Stmt}:sV X z st sNo:=⟨TL.s_no⟩
theorem x_raise {cs:List Str}{c msg:Str}{np cpos pos p:Pos}{j:Nat}(er:Er cs X.K X.mg)(hK:z.K=X.K)(hL:RL X kx)(hd:c∈cs:=by decide)(hc:X.calm=true:=by rfl)(hg:Gl X c:=by rfl)(hdb:(c==("__debug__":Str))=false:=by decide):xV X pins kx z (.Raise (some (.Call (.Name c np) [.Constant (.str msg) j p] [] cpos)) none pos) (fK c):=⟨TL.x_raise er hK hL hd hc hg hdb⟩
theorem x_if {z:Z}{kx:Addr→L2.St→Hp→Prop}{c:Expr}{a b:List Stmt}{ft:FT}{F G:FX}{pos:Pos}(hc:eT X z c ft)(ha:xVs X pins kx z a F)(hb:xVs X pins kx z b G):xV X pins kx z (.If c a b pos) (xIf ft F G):=⟨TL.x_if hc.p ha.p hb.p⟩
theorem x_one {z:Z}{kx:Addr→L2.St→Hp→Prop}{st:Stmt}{F:FX}(h:xV X pins kx z st F):xVs X pins kx z [st] F:=⟨TL.x_one h.p⟩
theorem x_cons {st:Stmt}{rst:List Stmt}{F G:FX}(h:xV X pins kx z st F)(hr:xVs X pins kx z rst G):xVs X pins kx z (st::rst) (xSeq F G):=⟨TL.x_cons h.p hr.p⟩
theorem x_nil  : xVs X pins kx z [] xNil:=⟨TL.x_nil⟩
theorem x_st {st:Stmt}{F:FS}(h:sV X z st F):xV X pins kx z st (xSt F):=⟨TL.x_st h.p⟩
theorem x_never {st:List Stmt}:xVs X pins kx z st xNo:=⟨TL.x_never⟩
theorem ev_fld (i:Nat){c f x:Str}{p1:Pos}(hK:z.K=X.K)(cl:Cls X.K (clsAt X.K c)) (n:aL X.K (clsAt X.K c) f) (hN:X.N[i]?=some x:=by rfl)(hv:Vis X.env.scope x:=by first|exact Or.inl rfl|exact Or.inr (Or.inl rfl)|exact Or.inr (Or.inr rfl)) (hd:(x==("__debug__":Str))=false:=by decide) (hcd:(x==("__classdict__":Str))=false:=by decide) (hb:attributeBase (.Name x p1) f X.env (eval (.Name x p1) X.env)=eval (.Name x p1) X.env:=by rfl):eV X z (.Attribute (.Name x p1) f pos) (fFld i c f):=⟨TL.ev_fld i hK cl n hN hv hd hcd hb⟩
theorem s_fld (i:Nat){c f x:Str}{p1 p2:Pos}{e:Expr}(hK:z.K=X.K)(cl:Cls X.K (clsAt X.K c)) (n:aL X.K (clsAt X.K c) f) (hg:eV X z e g)(hN:X.N[i]?=some x:=by rfl)(hv:Vis X.env.scope x:=by first|exact Or.inl rfl|exact Or.inr (Or.inl rfl)|exact Or.inr (Or.inr rfl)) (hd:(x==("__debug__":Str))=false:=by decide) (hcd:(x==("__classdict__":Str))=false:=by decide) (hs:swapsWith e (some (.Attribute (.Name x p1) f p2)) pos.line X.env=pure false:=by rfl):sV X z (.Assign [.Attribute (.Name x p1) f p2] e pos) (dG i c f g):=⟨TL.s_fld i hK cl n hg.p hN hv hd hcd hs⟩
theorem ev_meth (i:Nat){c m x:Str}{k:Nat}{F:List (Str×T)→List T→Option T}{p1 p2:Pos}{pl:Sem Bool}(hK:z.K=X.K)(h:HasM X.prog X.w X.K X.mg X.base c m k F)(hr:Room k X.A)(hN:X.N[i]?=some x:=by rfl)(hv:Vis X.env.scope x:=by first|exact Or.inl rfl|exact Or.inr (Or.inl rfl)|exact Or.inr (Or.inr rfl)) (hd:(x==("__debug__":Str))=false:=by decide) (hcd:(x==("__classdict__":Str))=false:=by decide) (ht:eval (.Call (.Attribute (.Name x p1) m p2) [] [] pos) X.env=(do
   let ov ← eval (.Name x p1) X.env
   standAt p2.atName
   let (f,first) ← holding [ov] (getMethod ov m pl)
   callWith pos f first (backTo pos (starEach [] X.env)) (backToKw pos (keywordEach [] X.env))):=by rfl):eV X z (.Call (.Attribute (.Name x p1) m p2) [] [] pos) (aH i c m F):=⟨TL.ev_meth i hK h hr hN hv hd hcd ht⟩
theorem ss_make (i:Nat){c x:Str}{k n:Nat}{F:Addr→List (Str×T)→List T→Option (List (Str×T))}{fa:FA}{G:FS}{p1 p2 p3:Pos}{e0:Expr}{es:List Expr}{rst:List Stmt}(hK:z.K=X.K)(hN:X.N.Nodup)(h:b8 X.prog X.w X.K X.mg X.base c "__init__" k n F)(mk:PySem.W.makesIn X.K (clsAt X.K c)=true) (kp:PySem.W.keepIn X.K (.ref (clsAt X.K c))=true) (hr:Room (k+1) X.A) (hm:X.mg c=some (.ref (clsAt X.K c))) (ha:eA X z (e0::es) fa) (hG:sVs X z rst G)(hg:Gl X c:=by rfl)(hi:X.N[i]?=some x:=by rfl)(hx:Loc X.env.scope x:=by first|exact Or.inl rfl|exact Or.inr rfl)(hdb:(c==("__debug__":Str))=false:=by decide) (he:starEach (e0::es) X.env=(false,eval e0 X.env)::starEach es X.env:=by rfl) (hpl:(backTo p2 (starEach es X.env)).any (·.1)=false:=by rfl) (hs:swapsWith (.Call (.Name c p1) (e0::es) [] p2) (some (.Name x p3)) pos.line X.env=pure false:=by rfl) (hf:X.fn x=true∨X.env.scope.names.lookup x=some .local:=by first|exact .inl rfl|exact .inr rfl):sVs X z (.Assign [.Name x p3] (.Call (.Name c p1) (e0::es) [] p2) pos::rst) (gq i c n F fa G):=⟨TL.ss_make i hK hN h mk kp hr hm ha.p hG.p hg hi hx hdb he hpl hs hf⟩
theorem et_isN {j p}(h:eV X z e f)(hm:behindInMarks .Is (.Constant .none j p)=false:=by rfl):eT X z (.Compare e [.Is] [.Constant .none j p] pos) (fB (f1 tIsN f)):=⟨TL.et_isN h.p hm⟩
theorem et_notN {j p}(h:eV X z e f)(hm:behindInMarks .IsNot (.Constant .none j p)=false:=by rfl):eT X z (.Compare e [.IsNot] [.Constant .none j p] pos) (fB (f1 jm f)):=⟨TL.et_notN h.p hm⟩
theorem xr_tup {e:Expr}{G:Rho→Option Str} {x1}(h:xR X pins kx z e G)(hs:starEach [e] X.env=(false,eval e X.env)::starEach [] X.env:=by rfl):xR X pins kx z (.Tuple [e] x1 pos) G:=⟨TL.xr_tup h.p hs⟩
theorem xr_op {a b:Expr}{op:Operator}{f:FE}{G:Rho→Option Str}(ha:eV X z a f)(h:xR X pins kx z b G):xR X pins kx z (.BinOp a op b pos) (fun ρ=>(f ρ).bind fun _=>G ρ):=⟨TL.xr_op ha.p h.p⟩
theorem x_fldE {e o:Expr}{f:Str}{p:Pos}{G:Rho→Option Str}(h:xR X pins kx z e G)(hs:swapsWith e (some (.Attribute o f p)) pos.line X.env=pure false:=by rfl):xV X pins kx z (.Assign [.Attribute o f p] e pos) (xE G):=⟨TL.x_fldE h.p hs⟩
theorem x_setE {e:Expr}{x:Str}{p:Pos}{G:Rho→Option Str}(h:xR X pins kx z e G)(hs:swapsWith e (some (.Name x p)) pos.line X.env=pure false:=by rfl):xV X pins kx z (.Assign [.Name x p] e pos) (xE G):=⟨TL.x_setE h.p hs⟩
theorem x_or {st:Stmt}{G:FX}{F:FS}(h1:xV X pins kx z st G)(h2:sV X z st F):xV X pins kx z st (xOr G F):=⟨TL.x_or h1.p h2.p⟩
theorem eao_nil  : eAo X z [] fNil:=⟨TL.eao_nil⟩
theorem eao_cons (h:eV X z e f)(hr:eAo X z es fa)(hs:starEach (e::es) X.env=(false,eval e X.env)::starEach es X.env:=by rfl):eAo X z (e::es) (aa f fa):=⟨TL.eao_cons h.p hr.p hs⟩
theorem eao_own (i:Nat){x:Str}{p:Pos}(hr:eAo X z es fa)(hN:X.N[i]?=some x:=by rfl)(hv:Vis X.env.scope x:=by first|exact Or.inl rfl|exact Or.inr (Or.inl rfl)|exact Or.inr (Or.inr rfl)) (hd:(x==("__debug__":Str))=false:=by decide) (hcd:(x==("__classdict__":Str))=false:=by decide) (hs:starEach (.Name x p::es) X.env=(false,eval (.Name x p) X.env)::starEach es X.env:=by rfl):eAo X z (.Name x p::es) (aa (go i) fa):=⟨TL.eao_own i hr.p hN hv hd hcd hs⟩
theorem ev_hasR {k n:Nat}{x:Str}{p:Pos}{F:List T→Option T}(hK:z.K=X.K)(h:Has X.prog X.w X.K X.mg X.base x k n F)(hr:Room k X.A)(ha:eAo X z (e::es) fa) (hg:Gl X x:=by rfl)(hd:(x==("__debug__":Str))=false:=by decide) (hs:starEach (e::es) X.env=(false,eval e X.env)::starEach es X.env:=by rfl) (hpl:(backTo pos (starEach es X.env)).any (·.1)=false:=by rfl):eV X z (.Call (.Name x p) (e::es) [] pos) (cT n F fa):=⟨TL.ev_hasR hK h hr ha.p hg hd hs hpl⟩
theorem em_isN {j p}(h:eM X z e g)(hm:behindInMarks .Is (.Constant .none j p)=false:=by rfl):eM X z (.Compare e [.Is] [.Constant .none j p] pos) (m1 tIsN g):=⟨TL.em_isN h.p hm⟩
theorem em_y1 (hK:z.K=X.K){fn:T→Option T}{x:Str}{id:String}{p:Pos}(hb:Bi1 X (.type id) fn) (hg:Gl X x)(hm:X.mg x=none)(hv:bootBuiltins x=some (.type id)) (he:eM X z e g)(hn:x≠"__name__":=by decide)(hdb:(x==("__debug__":Str))=false:=by decide) (hs:starEach [e] X.env=[(false,eval e X.env)]:=by rfl):eM X z (.Call (.Name x p) [e] [] pos) (m1 fn g):=⟨TL.em_y1 hK hb hg hm hv he.p hn hdb hs⟩
theorem em_ix (hK:z.K=X.K)(ha:eV X z a f)(hb:eM X z b g)(hs:jO b):eM X z (.Subscript a b pos) (mIx f g):=⟨TL.em_ix hK ha.p hb.p hs⟩
theorem em_meth0 (i:Nat){c m x:Str}{k:Nat}{F:Addr→List (Str×T)→List T→Option (List (Str×T))}{p1 p2:Pos}{pl:Sem Bool}(hK:z.K=X.K)(h:b8 X.prog X.w X.K X.mg X.base c m k 0 F)(hr:Room k X.A)(hN:X.N[i]?=some x:=by rfl)(hv:Vis X.env.scope x:=by first|exact Or.inl rfl|exact Or.inr (Or.inl rfl)|exact Or.inr (Or.inr rfl)) (hd:(x==("__debug__":Str))=false:=by decide) (hcd:(x==("__classdict__":Str))=false:=by decide) (ht:eval (.Call (.Attribute (.Name x p1) m p2) [] [] pos) X.env=(do
   let ov ← eval (.Name x p1) X.env
   standAt p2.atName
   let (f,first) ← holding [ov] (getMethod ov m pl)
   callWith pos f first (backTo pos (starEach [] X.env)) (backToKw pos (keywordEach [] X.env))):=by rfl):eM X z (.Call (.Attribute (.Name x p1) m p2) [] [] pos) (dz i c m 0 F fNil):=⟨TL.em_meth0 i hK h hr hN hv hd hcd ht⟩
theorem em_meth1 (i:Nat){c m x:Str}{k n:Nat}{F:Addr→List (Str×T)→List T→Option (List (Str×T))}{p1 p2:Pos}{e0:Expr}{es:List Expr}{pl:Sem Bool}(hK:z.K=X.K)(h:b8 X.prog X.w X.K X.mg X.base c m k n F)(hr:Room k X.A)(ha:eA X z (e0::es) fa) (hN:X.N[i]?=some x:=by rfl)(hv:Vis X.env.scope x:=by first|exact Or.inl rfl|exact Or.inr (Or.inl rfl)|exact Or.inr (Or.inr rfl)) (hd:(x==("__debug__":Str))=false:=by decide) (hcd:(x==("__classdict__":Str))=false:=by decide) (hst:starEach (e0::es) X.env=(false,eval e0 X.env)::starEach es X.env:=by rfl) (hpl:(backTo pos (starEach es X.env)).any (·.1)=false:=by rfl) (ht:eval (.Call (.Attribute (.Name x p1) m p2) (e0::es) [] pos) X.env=(do
   let ov ← eval (.Name x p1) X.env
   standAt p2.atName
   let (f,first) ← holding [ov] (getMethod ov m pl)
   callWith pos f first (backTo pos (starEach (e0::es) X.env)) (backToKw pos (keywordEach [] X.env))):=by rfl):eM X z (.Call (.Attribute (.Name x p1) m p2) (e0::es) [] pos) (dz i c m n F fa):=⟨TL.em_meth1 i hK h hr ha.p hN hv hd hcd hst hpl ht⟩
theorem emt_cmp (hK:z.K=X.K){fn:T→T→Option T}{op:CmpOp}(ho:Op2 X (compareOp op) fn) (ha:eM X z a g)(hb:eV X z b f)(hm:behindInMarks op b=false):eMT X z (.Compare a [op] [b] pos) (dB fn g f):=⟨TL.emt_cmp hK ho ha.p hb.p hm⟩
theorem emw_or {rst:List Expr}{ft:FMT}{gt:FT}(h:eMT X z a ft)(hb:eW X z (.BoolOp .Or (b::rst) pos) gt):eMW X z (.BoolOp .Or (a::b::rst) pos) (mtOr ft gt):=⟨TL.emw_or h.p hb.p⟩
theorem emt_w {ft:FMT}(h:eMW X z e ft):eMT X z e ft:=⟨TL.emt_w h.p⟩
theorem s_ifM {c:Expr}{a b:List Stmt}{ft:FMT}{F G:FS}(hc:eMT X z c ft)(ha:sVs X z a F)(hb:sVs X z b G):sV X z (.If c a b pos) (sIfM ft F G):=⟨TL.s_ifM hc.p ha.p hb.p⟩
theorem xr_isN {op:CmpOp} {j p}(h:xR X pins kx z e G)(hm:behindInMarks op (.Constant .none j p)=false:=by rfl):xR X pins kx z (.Compare e [op] [.Constant .none j p] pos) G:=⟨TL.xr_isN h.p hm⟩
theorem xr_y1 {x:Str}{id:String}{p:Pos}(hg:Gl X x)(hm:X.mg x=none)(hv:bootBuiltins x=some (.type id)) (h:xR X pins kx z e G)(hn:x≠"__name__":=by decide)(hdb:(x==("__debug__":Str))=false:=by decide) (hs:starEach [e] X.env=(false,eval e X.env)::starEach [] X.env:=by rfl) (hpl:(backTo pos (starEach [] X.env)).any (·.1)=false:=by rfl):xR X pins kx z (.Call (.Name x p) [e] [] pos) G:=⟨TL.xr_y1 hg hm hv h.p hn hdb hs hpl⟩
theorem xr_ix (ha:eV X z a f)(h:xR X pins kx z b G):xR X pins kx z (.Subscript a b pos) (fun ρ=>(f ρ).bind fun _=>G ρ):=⟨TL.xr_ix ha.p h.p⟩
theorem xr_metY0 (i:Nat){c m x:Str}{k:Nat}{G:List (Str×T)→List T→Option Str}{p1 p2:Pos}{pl:Sem Bool}(hL:c6 X pins kx)(hK:z.K=X.K)(h:bT X.prog X.w X.K X.mg X.base c m k 0 G)(hr:Room k X.A)(hN:X.N[i]?=some x:=by rfl)(hv:Vis X.env.scope x:=by first|exact Or.inl rfl|exact Or.inr (Or.inl rfl)|exact Or.inr (Or.inr rfl)) (hd:(x==("__debug__":Str))=false:=by decide) (hcd:(x==("__classdict__":Str))=false:=by decide) (ht:eval (.Call (.Attribute (.Name x p1) m p2) [] [] pos) X.env=(do
   let ov ← eval (.Name x p1) X.env
   standAt p2.atName
   let (f,first) ← holding [ov] (getMethod ov m pl)
   callWith pos f first (backTo pos (starEach [] X.env)) (backToKw pos (keywordEach [] X.env))):=by rfl):xR X pins kx z (.Call (.Attribute (.Name x p1) m p2) [] [] pos) (gMY i c m 0 G fNil):=⟨TL.xr_metY0 i hL hK h hr hN hv hd hcd ht⟩
theorem xr_metY1 (i:Nat){c m x:Str}{k n:Nat}{G:List (Str×T)→List T→Option Str}{fa:FA}{p1 p2:Pos}{e0:Expr}{es:List Expr}{pl:Sem Bool}(hL:c6 X pins kx)(hK:z.K=X.K)(h:bT X.prog X.w X.K X.mg X.base c m k n G)(hr:Room k X.A)(ha:eA X z (e0::es) fa) (hN:X.N[i]?=some x:=by rfl)(hv:Vis X.env.scope x:=by first|exact Or.inl rfl|exact Or.inr (Or.inl rfl)|exact Or.inr (Or.inr rfl)) (hd:(x==("__debug__":Str))=false:=by decide) (hcd:(x==("__classdict__":Str))=false:=by decide) (hst:starEach (e0::es) X.env=(false,eval e0 X.env)::starEach es X.env:=by rfl) (hpl:(backTo pos (starEach es X.env)).any (·.1)=false:=by rfl) (ht:eval (.Call (.Attribute (.Name x p1) m p2) (e0::es) [] pos) X.env=(do
   let ov ← eval (.Name x p1) X.env
   standAt p2.atName
   let (f,first) ← holding [ov] (getMethod ov m pl)
   callWith pos f first (backTo pos (starEach (e0::es) X.env)) (backToKw pos (keywordEach [] X.env))):=by rfl):xR X pins kx z (.Call (.Attribute (.Name x p1) m p2) (e0::es) [] pos) (gMY i c m n G fa):=⟨TL.xr_metY1 i hL hK h hr ha.p hN hv hd hcd hst hpl ht⟩
theorem w_ret {e:Expr}{G:Rho→Option Str}{f:FM}(h1:xR X pins kx z e G)(h2:eM X z e f):wV X pins kx z (.Return (some e) pos) (wRet G f):=⟨TL.w_ret h1.p h2.p⟩
theorem w_retV {e:Expr}{f:FE}(h:eV X z e f):wV X pins kx z (.Return (some e) pos) (jr f):=⟨TL.w_retV h.p⟩
theorem w_st {st:Stmt}{F:FS}(h:sV X z st F):wV X pins kx z st (wSt F):=⟨TL.w_st h.p⟩
theorem w_nil  : wVs X pins kx z [] wNil:=⟨TL.w_nil⟩
theorem w_one {st:Stmt}{F:FW}(h:wV X pins kx z st F):wVs X pins kx z [st] F:=⟨TL.w_one h.p⟩
theorem w_cons {st:Stmt}{rst:List Stmt}{F G:FW}(h:wV X pins kx z st F)(hr:wVs X pins kx z rst G):wVs X pins kx z (st::rst) (wSeq F G):=⟨TL.w_cons h.p hr.p⟩
theorem w_if {c:Expr}{a b:List Stmt}{ft:FT}{F G:FW}(hc:eT X z c ft)(ha:wVs X pins kx z a F)(hb:wVs X pins kx z b G):wV X pins kx z (.If c a b pos) (wIf ft F G):=⟨TL.w_if hc.p ha.p hb.p⟩
theorem hw_nil  : hW X z [] (fun _ _=>none):=⟨TL.hw_nil⟩
theorem em_hasD (i:Nat){c x y:Str}{k n:Nat}{F:Addr→List (Str×T)→List T→Option (T×List (Str×T))}{p1 p2:Pos}{es:List Expr}(hK:z.K=X.K)(h:HasD X.prog X.w X.K X.mg X.base y c k n F)(hr:Room k X.A)(ha:eA X z es fa)(hg:Gl X y:=by rfl)(hN:X.N[i]?=some x:=by rfl)(hv:Vis X.env.scope x:=by first|exact Or.inl rfl|exact Or.inr (Or.inl rfl)|exact Or.inr (Or.inr rfl)) (hd:(x==("__debug__":Str))=false:=by decide) (hcd:(x==("__classdict__":Str))=false:=by decide) (hdy:(y==("__debug__":Str))=false:=by decide) (hs:starEach (.Name x p1::es) X.env=(false,eval (.Name x p1) X.env)::starEach es X.env:=by rfl) (hpl:(backTo pos (starEach es X.env)).any (·.1)=false:=by rfl):eM X z (.Call (.Name y p2) (.Name x p1::es) [] pos) (cV i c n F fa):=⟨TL.em_hasD i hK h hr ha.p hg hN hv hd hcd hdy hs hpl⟩
theorem bg {P:Program}{w:World}{K:PySem.W.Frag}{mg:Str→Option Value}{base:Heap}{x:Str}{st:Stmt}{N ps:List Str}{k n m:Nat}{F:FS}(hn:ps.length=n)(hm:N.length=m)(G:Src K mg x st ps)(S:av N ps (af st))
  (hbody:∀(f:Addr)(cdv:Value)(A:Around)(outer:List Env)(s:Shared)(H:Hp)(E:XK)(z:Z),Room k (A.deeper (PyProof.Rows.envOfC x (af st) s.heap.objs.size f cdv))→z.K=K →
   sVs (cxOf CX0 P w K mg base N x (af st) f cdv A outer s H E).nox z (aj st) F):Has P w K mg base x (k+1) n (run m F) :=
 D9 hn hm G S fun f cdv A outer s H E z hr hz=>(hbody f cdv A outer s H E z hr hz).p
theorem Dk {P:Program}{w:World}{K:PySem.W.Frag}{mg:Str→Option Value}{base:Heap}{x qual:Str}{st:Stmt}{f:Addr}{fd:FuncData}{N ps:List Str}{k n m:Nat}{F:FS}(hn:ps.length=n)(hm:N.length=m)(G:Fun K x qual st f fd)(S:av N ps (af st))
  (hbody:∀(cdv:Value)(A:Around)(outer:List Env)(s:Shared)(H:Hp)(E:XK)(z:Z),Room k (A.deeper (PyProof.Rows.envOfC qual (af st) s.heap.objs.size f cdv))→z.K=K →
   sVs (cxOf CX0 P w K mg base N qual (af st) f cdv A outer s H E).nox z (aj st) F):FnOk P w K mg base CX0 (k+1) f fd ps (spT K n (run m F)) :=
 Dj hn hm G S fun cdv A outer s H E z hr hz=>(hbody cdv A outer s H E z hr hz).p
theorem hw_as {cs:List Str}{d n:Str}{b0:Stmt}{body:List Stmt}{rst:List ExceptHandler}{Fs:FW}{Fr:Str→FW}{p pos:Pos}(er:Er cs X.K X.mg)(hK:z.K=X.K) (i:Nat)(hN:X.N.Nodup)(hsu:∀ ea oe E,Sx (cX X ea oe E)→∀ pins,wVs (cX X ea oe E) pins kNo z (b0::body) Fs) (hr:hW X z rst Fr)
  (hex:X.ex=[]:=by rfl)(hd:d∈cs:=by decide)(hi:X.N[i]?=some n:=by rfl)(hl:X.env.scope.names.lookup n=some .local:=by rfl)(hg:Gl X d:=by rfl)(hdb:(d==("__debug__":Str))=false:=by decide):hW X z (.ExceptHandler (some (.Name d p)) (some n) (b0::body) pos::rst) (hAsW cs d i Fs Fr) :=
 ⟨TL.hw_as er hK i hN (fun ea oe E sx pins=>(hsu ea oe E sx pins).p) hr.p hex hd hi hl hg hdb⟩
theorem w_try {body:List Stmt}{h0:ExceptHandler}{hs:List ExceptHandler}{Fb:FW}{Fh:Str→FW}{pos:Pos}(hb:∀ E pins kx,c6 (X.wish E) pins kx→wVs (X.wish E) pins kx z body Fb) (hh:hW X z (h0::hs) Fh)
  (hst:X.stack=X.env::X.outer:=by rfl)(hf:X.env.frame=some X.env.locals:=by rfl):sW X z (.Try body (h0::hs) [] [] pos) (wTry Fb Fh):=⟨TL.w_try (fun E pins kx hL=>(hb E pins kx hL).p) hh.p hst hf⟩
theorem Dw {P:Program}{w:World}{K:PySem.W.Frag}{mg:Str→Option Value}{base:Heap}{x c:Str}{st st0:Stmt}{n0:Str}{N ps:List Str}{k n l:Nat}{F:FW}(hn:N.length=n)(hl:ps.length=l)(G:Src K mg x st (n0::ps)) (S:av (n0::N) (n0::ps) (af st)) (hst:aj st=[st0])
  (hbody:∀(f:Addr)(cdv:Value)(A:Around)(outer:List Env)(s:Shared)(H:Hp)(E:XK)(z:Z),Room k (A.deeper (PyProof.Rows.envOfC x (af st) s.heap.objs.size f cdv))→z.K=K →
   sW (cxOf CX0 P w K mg base (n0::N) x (af st) f cdv A outer s H E).nox z st0 F):HasD P w K mg base x c (k+1) l (runD n c F) :=
 Dv hn hl G S hst fun f cdv A outer s H E z hr hz=>(hbody f cdv A outer s H E z hr hz).p
theorem qR {P:Program}{w:World}{K:PySem.W.Frag}{mg:Str→Option Value}{base:Heap}{m qual c:Str}{st:Stmt}{n0:Str}{N ps:List Str}{k n l:Nat}{F:FX}(hn:N.length=n)(hl:ps.length=l)(G:SrcM K c m qual st (n0::ps)) (S:av (n0::N) (n0::ps) (af st))
  (hbody:∀(f:Addr)(cdv:Value)(A:Around)(outer:List Env)(s:Shared)(H:Hp)(E:XK)(z:Z),Room k (A.deeper (PyProof.Rows.envOfC qual (af st) s.heap.objs.size f cdv))→z.K=K →
   ∀ pins kx,RL (cxOf (CX1 P w) P w K mg base (n0::N) qual (af st) f cdv A outer s H E) kx→c6 (cxOf (CX1 P w) P w K mg base (n0::N) qual (af st) f cdv A outer s H E) pins kx →
   xVs (cxOf (CX1 P w) P w K mg base (n0::N) qual (af st) f cdv A outer s H E) pins kx z (aj st) F):bT P w K mg base c m (k+1) l (bH n c F) :=
 Dz hn hl G S fun f cdv A outer s H E z hr hz pins kx h1 h2=>(hbody f cdv A outer s H E z hr hz pins kx h1 h2).p
theorem kI {P:Program}{w:World}{K:PySem.W.Frag}{mg:Str→Option Value}{base:Heap}{m qual c:Str}{st:Stmt}{n0:Str}{N:List Str}{k n:Nat}{F:FS}(hn:N.length=n)(G:SrcM K c m qual st [n0])(S:av (n0::N) [n0] (af st))
  (hbody:∀(f:Addr)(cdv:Value)(A:Around)(outer:List Env)(s:Shared)(H:Hp)(E:XK)(z:Z),Room k (A.deeper (PyProof.Rows.envOfC qual (af st) s.heap.objs.size f cdv))→z.K=K →
   sVs (cxOf CX0 P w K mg base (n0::N) qual (af st) f cdv A outer s H E).nox z (aj st) F):HasM P w K mg base c m (k+1) (runM n c F) :=
 DA hn G S fun f cdv A outer s H E z hr hz=>(hbody f cdv A outer s H E z hr hz).p
theorem qQ {P:Program}{w:World}{K:PySem.W.Frag}{mg:Str→Option Value}{base:Heap}{m qual c:Str}{st:Stmt}{n0:Str}{N ps:List Str}{k n l:Nat}{F:FS}(hn:N.length=n)(hl:ps.length=l)(G:SrcM K c m qual st (n0::ps)) (S:av (n0::N) (n0::ps) (af st))
  (hbody:∀(f:Addr)(cdv:Value)(A:Around)(outer:List Env)(s:Shared)(H:Hp)(E:XK)(z:Z),Room k (A.deeper (PyProof.Rows.envOfC qual (af st) s.heap.objs.size f cdv))→z.K=K →
   sVs (cxOf CX0 P w K mg base (n0::N) qual (af st) f cdv A outer s H E).nox z (aj st) F):b8 P w K mg base c m (k+1) l (eK n c F) :=
 Dy hn hl G S fun f cdv A outer s H E z hr hz=>(hbody f cdv A outer s H E z hr hz).p
end TL.W
namespace TL
open PySem L2
section
variable {ρ:Rho}{f g h:FE}{fa:FA}{ft gt:FT}{fn fn':T→T→Option T}{F G:FS}
@[simp] theorem CM {fn:T→Option T}:f1 fn f ρ=(f ρ).bind fn:=by unfold f1;cases f ρ<;>rfl
@[simp] theorem CN:f2 fn f g ρ=(f ρ).bind fun t=>(g ρ).bind fun u=>fn t u:=by
 unfold f2
 cases f ρ with
 | none=>rfl
 | some t=>cases g ρ<;>rfl
@[simp] theorem LV {t:T}:kc t ρ=some t:=rfl
@[simp] theorem LN {i:Nat}:gv i ρ=match ρ[i]? with|some (some (.pu t))=>some t|_=>none:=rfl
@[simp] theorem LM {i:Nat}:go i ρ=match ρ[i]? with|some (some (.ow ts))=>some (.lst ts)|_=>none:=rfl
@[simp] theorem LH:fNil ρ=some []:=rfl
@[simp] theorem CY:aa f fa ρ=(f ρ).bind fun t=>(fa ρ).bind fun ts=>some (t::ts):=by
 unfold aa
 cases f ρ with
 | none=>rfl
 | some t=>cases fa ρ<;>rfl
@[simp] theorem C9:fTup fa ρ=(fa ρ).bind fun ts=>if ts.length≤sizeLine then some (.tup ts) else none:=by
 unfold fTup
 cases fa ρ<;>rfl
@[simp] theorem C1:fLst fa ρ=(fa ρ).bind fun ts=>if ts.length≤sizeLine then some ts else none:=by
 unfold fLst
 cases fa ρ<;>rfl
@[simp] theorem C2:fNew fa ρ=(fa ρ).map T.lst:=rfl
@[simp] theorem CQ:fB f ρ=(f ρ).bind fun t=>match t with|.bl b=>some b|_=>none:=by
 unfold fB
 cases f ρ with
 | none=>rfl
 | some t=>cases t<;>rfl
@[simp] theorem C4:fNot ft ρ=(ft ρ).map (!·):=rfl
@[simp] theorem CP:fAnd ft gt ρ=(ft ρ).bind fun b=>if b=true then gt ρ else some false:=by
 unfold fAnd
 cases ft ρ with
 | none=>rfl
 | some b=>cases b<;>rfl
@[simp] theorem C6:fOr ft gt ρ=(ft ρ).bind fun b=>if b=true then some true else gt ρ:=by
 unfold fOr
 cases ft ρ with
 | none=>rfl
 | some b=>cases b<;>rfl
@[simp] theorem CO:bB f g ρ=match f ρ with|some (.bl true)=>g ρ|some (.bl false)=>some (.bl false)|_=>none:=rfl
@[simp] theorem C5:fOrV f g ρ=match f ρ with|some (.bl false)=>g ρ|some (.bl true)=>some (.bl true)|_=>none:=rfl
@[simp] theorem C3:eB f ρ=match f ρ with|some (.bl b)=>some (.bl (!b))|_=>none:=rfl
@[simp] theorem C0:fIf ft f g ρ=(ft ρ).bind fun b=>if b=true then f ρ else g ρ:=by
 unfold fIf
 cases ft ρ with
 | none=>rfl
 | some b=>cases b<;>rfl
@[simp] theorem CU:fm fn fn' f g h ρ=match f ρ with|some t=>(match g ρ with|some u=>(match fn t u with|some (.bl true)=>(match h ρ with|some w=>fn' u w|none=>none)|some (.bl false)=>some (.bl false)|_=>none)|none=>none)|none=>none:=rfl
@[simp] theorem CT {n:Nat}{M:List T→Option T}:aq n M fa ρ=(fa ρ).bind fun ts=>if ts.length=n then M ts else none:=by
 unfold aq
 cases fa ρ<;>rfl
@[simp] theorem LI:fYes ρ=some true:=rfl
@[simp] theorem LJ:foN ρ=some none:=rfl
@[simp] theorem Dl:foS f ρ=match f ρ with|some (.int i)=>some (some i)|_=>none:=rfl
@[simp] theorem CZ {lo hi:FO}:fCut f lo hi ρ=(f ρ).bind fun t=>(lo ρ).bind fun l=>(hi ρ).bind fun h=>tCut t l h:=by
 unfold fCut
 cases f ρ with
 | none=>rfl
 | some t =>
   cases lo ρ with
   | none=>rfl
   | some l=>cases hi ρ<;>rfl
@[simp] theorem LW:sNil ρ=some (.nx ρ):=rfl
@[simp] theorem kR:sSeq F G ρ=match F ρ with|some (.nx ρ')=>G ρ'|o=>o:=rfl
@[simp] theorem za:sRet f ρ=(f ρ).map .rt:=rfl
@[simp] theorem IG {i:Nat}:jg i ρ=match ρ[i]? with|some (some (.ow ts))=>some (.rt (.lst ts))|_=>none:=rfl
@[simp] theorem II {i:Nat}:sSet i f ρ=(f ρ).map fun t=>.nx (ρ.set i (some (.pu t))):=rfl
@[simp] theorem IF {i:Nat}:sOwn i fa ρ=(fa ρ).map fun ts=>.nx (ρ.set i (some (.ow ts))):=rfl
@[simp] theorem ID {i:Nat}:sApp i f ρ=match ρ[i]? with
 | some (some (.ow ts))=>(match f ρ with|some t=>if ts.length<sizeLine then some (.nx (ρ.set i (some (.ow (ts++[t]))))) else none|none=>none)
 | _=>none:=rfl
@[simp] theorem y9:sIf ft F G ρ=(ft ρ).bind fun b=>if b=true then F ρ else G ρ:=by
 unfold sIf
 cases ft ρ with
 | none=>rfl
 | some b=>cases b<;>rfl
@[simp] theorem yZ {fg:FG}:sFor fa fg F ρ=(fa ρ).bind fun ts=>aI fg F ts ρ:=by
 unfold sFor
 cases fa ρ<;>rfl
@[simp] theorem IE:yY f ρ=(f ρ).map fun _=>.nx ρ:=rfl
@[simp] theorem LK {i:Nat}{t:T}:gNm i t ρ=some (ρ.set i (some (.pu t))):=rfl
@[simp] theorem LL {i j:Nat}{a b:T}:gTp2 i j (.tup [a,b]) ρ=some ((ρ.set i (some (.pu a))).set j (some (.pu b))):=rfl
@[simp] theorem C8:fRng f ρ=(f ρ).bind fun t=>match t with|.int j=>if -(2 ^ 62)≤j∧j<2 ^ 62 then some (rangeT 0 j.toNat) else none|_=>none:=by
 unfold fRng
 cases f ρ with
 | none=>rfl
 | some t=>cases t<;>rfl
@[simp] theorem C7:gc f g ρ=(f ρ).bind fun t=>(g ρ).bind fun u=>match t,u with|.int i,.int j=>if -(2 ^ 62)≤i∧i<2 ^ 62 ∧ -(2 ^ 62)≤j∧j<2 ^ 62 then some (rangeT i (j - i).toNat) else none|_,_=>none:=by
 unfold gc
 cases f ρ with
 | none=>rfl
 | some t =>
   cases t<;>cases g ρ<;>first|rfl|(rename_i u;cases u<;>rfl)
@[simp] theorem wN:fIt f ρ=(f ρ).bind fun t=>match t with|.tup ts=>some ts|.lst ts=>some ts|_=>none:=by
 unfold fIt
 cases f ρ with
 | none=>rfl
 | some t=>cases t<;>rfl
@[simp] theorem CW {ix:List (Option Nat)}{fg:FG}:aF ix fa fg ft f ρ=(fa ρ).bind fun ts=>if ts.length≤sizeLine then aG fg ft f (subR ix ρ) ts else none:=by
 unfold aF
 cases fa ρ<;>rfl
@[simp] theorem LX {ix:List (Option Nat)}:subR ix ρ=ix.map fun o=>o.bind fun i=>match ρ[i]? with|some (some (.pu t))=>some (.pu t)|_=>none:=rfl
end
section
variable {i j:Int}
@[simp] theorem fG:tAdd (.int i) (.int j)=some (.int (i+j)):=rfl
@[simp] theorem KU:tSub (.int i) (.int j)=some (.int (i - j)):=rfl
@[simp] theorem zA:tNeg (.int i)=some (.int (-i)):=rfl
theorem zz (h:gj i j=true):tMul (.int i) (.int j)=some (.int (i * j)):=if_pos h
theorem F4 (h0 : -(2 ^ 64)<i) (h1:i<2 ^ 64):gj i j=true:=by simp [gj];omega
theorem F5 (h0 : -(2 ^ 64)<j) (h1:j<2 ^ 64):gj i j=true:=by simp [gj];omega
theorem KH (h0 : -18446744073709551616<i)(h1:i<18446744073709551616):tMul (.int i) (.int j)=some (.int (i * j)):=zz (F4 h0 h1)
theorem KI (h0 : -18446744073709551616<j)(h1:j<18446744073709551616):tMul (.int i) (.int j)=some (.int (i * j)):=zz (F5 h0 h1)
theorem fH (h:0<j):tMd (.int i) (.int j)=some (.int (i % j)):=if_pos h
theorem kZ (h:0<j)(h2:j<1073741824):tFd (.int i) (.int j)=some (.int (i / j)):=if_pos ⟨h,h2⟩
@[simp] theorem k8:tLtI (.int i) (.int j)=some (.bl (decide (i<j))):=rfl
@[simp] theorem k7:tLeI (.int i) (.int j)=some (.bl (decide (i≤j))):=rfl
@[simp] theorem zu:tGtI (.int i) (.int j)=some (.bl (decide (j<i))):=rfl
@[simp] theorem Kw:tGeI (.int i) (.int j)=some (.bl (decide (j≤i))):=rfl
theorem dg:dep (.int i)=0:=by simp [dep]
theorem Ck {b:Bool}:dep (.bl b)=0:=by simp [dep]
@[simp] theorem Kv {u:T}:tEqq (.int i) u=some (.bl (teq (.int i) u)):=if_pos (by rw[dg];decide)
@[simp] theorem Ku {b:Bool}{u:T}:tEqq (.bl b) u=some (.bl (teq (.bl b) u)):=if_pos (by rw[Ck];decide)
@[simp] theorem KL {u:T}:tNee (.int i) u=some (.bl (!teq (.int i) u)):=if_pos (by rw[dg];decide)
@[simp] theorem jo:teq (.int i) (.int j)=(i==j):=by simp [teq]
@[simp] theorem L6 {a b:Bool}:teq (.bl a) (.bl b)=(a==b):=by simp [teq]
@[simp] theorem uc {ts:List T}:tLen (.tup ts)=some (.int ts.length):=rfl
@[simp] theorem nO {ts:List T}:tLen (.lst ts)=some (.int ts.length):=rfl
@[simp] theorem KW {ts:List T}:aP (.tup ts)=some (.tup ts):=rfl
@[simp] theorem jn {ts:List T}:aP (.lst ts)=some (.tup ts):=rfl
@[simp] theorem KD {ts:List T}:zw (.tup ts)=some (.lst ts):=rfl
@[simp] theorem KC {ts:List T}:zw (.lst ts)=some (.lst ts):=rfl
@[simp] theorem zy:tMin (.int i) (.int j)=some (.int (if j<i then j else i)):=rfl
@[simp] theorem L5 {ts:List T}:tIx (.tup ts) (.int i)=atI ts i:=rfl
@[simp] theorem LZ {ts:List T}:tIx (.lst ts) (.int i)=atI ts i:=rfl
@[simp] theorem LY {c:String}{t:T}:tIs c t=some (.bl (isT c t)):=rfl
@[simp] theorem Kr {ts:List T}{l h:Option Int}:tCut (.tup ts) l h=some (.tup (cutT ts l h)):=rfl
@[simp] theorem Kq {ts:List T}{l h:Option Int}:tCut (.lst ts) l h=some (.lst (cutT ts l h)):=rfl
@[simp] theorem KQ {ts:List T}:tRev (.tup ts)=some (.tup ts.reverse):=rfl
end
theorem oM {α:Type}{xs:List α}{i:Int}{x:α}(h0:0≤i)(h:xs[i.toNat]?=some x):atI xs i=some x:=by
 have hl:i.toNat<xs.length:=(List.getElem?_eq_some_iff.mp h).1
 unfold atI ixN
 rw[if_pos h0,if_pos (by omega)]
 exact h
theorem ay {n:Nat}(h:n≤1000000):n≤sizeLine:=Nat.le_trans h (by decide)
theorem tK {n:Nat}(h:n<1000000):n<sizeLine:=Nat.lt_of_lt_of_le h (by decide)
end TL
namespace TL
open PySem L2
section
variable {ρ ρ' ρ1:Rho}{f g h:FE}{fa:FA}{ft gt:FT}{fn fn':T→T→Option T}{F G R:FS}{t u w:T}{ts us:List T}{a b c:Bool}{i n:Nat}{o:Out}
theorem b_gv (h:ρ[i]?=some (some (.pu t))):gv i ρ=some t:=by unfold gv;rw[h]
theorem b_go (h:ρ[i]?=some (some (.ow ts))):go i ρ=some (.lst ts):=by unfold go;rw[h]
theorem b_kc:kc t ρ=some t:=rfl
theorem b_f1 {fn:T→Option T}(h1:f ρ=some t)(h2:fn t=some u):f1 fn f ρ=some u:=by rw[CM,h1];exact h2
theorem b_f2 (h1:f ρ=some t)(h2:g ρ=some u)(h3:fn t u=some w):f2 fn f g ρ=some w:=by rw[CN,h1,Option.bind_some,h2];exact h3
theorem ai:fNil ρ=some []:=rfl
theorem ah (h1:f ρ=some t)(h2:fa ρ=some ts):aa f fa ρ=some (t::ts):=by rw[CY,h1,Option.bind_some,h2];rfl
theorem bF (h1:fa ρ=some ts)(h2:ts.length≤sizeLine):fTup fa ρ=some (.tup ts):=by rw[C9,h1,Option.bind_some,if_pos h2]
theorem cA (h1:fa ρ=some ts)(h2:ts.length≤sizeLine):fLst fa ρ=some ts:=by rw[C1,h1,Option.bind_some,if_pos h2]
theorem bA (h1:fa ρ=some ts):fNew fa ρ=some (.lst ts):=by rw[C2,h1];rfl
theorem b_B (h1:f ρ=some (.bl b)):fB f ρ=some b:=by rw[CQ,h1];rfl
theorem aW (h1:ft ρ=some b):fNot ft ρ=some (!b):=by rw[C4,h1];rfl
theorem f7 (h1:ft ρ=some a)(h2:a=true→gt ρ=some b):fAnd ft gt ρ=some (a&&b):=by
 rw[CP,h1,Option.bind_some]
 cases a with
 | true=>rw[if_pos rfl,h2 rfl];rfl
 | false=>rw[if_neg Bool.false_ne_true];rfl
theorem b_or (h1:ft ρ=some a)(h2:a=false→gt ρ=some b):fOr ft gt ρ=some (a||b):=by
 rw[C6,h1,Option.bind_some]
 cases a with
 | true=>rw[if_pos rfl];rfl
 | false=>rw[if_neg Bool.false_ne_true,h2 rfl];rfl
theorem cR (h1:f ρ=some (.bl a)) (h2:a=true→g ρ=some (.bl b)):bB f g ρ=some (.bl (a&&b)):=by
 rw[CO,h1]
 cases a with
 | true=>exact h2 rfl
 | false=>rfl
theorem Bo (h1:f ρ=some (.bl a)) (h2:a=false→g ρ=some (.bl b)):fOrV f g ρ=some (.bl (a||b)):=by
 rw[C5,h1]
 cases a with
 | true=>rfl
 | false=>exact h2 rfl
theorem iN (h1:f ρ=some (.bl a)):eB f ρ=some (.bl (!a)):=by rw[C3,h1]
theorem b_if (h1:ft ρ=some b)(h2:b=true→f ρ=some t)(h3:b=false→g ρ=some u):fIf ft f g ρ=some (if b=true then t else u):=by
 rw[C0,h1,Option.bind_some]
 cases b with
 | true=>exact h2 rfl
 | false=>exact h3 rfl
theorem j7 (h1:f ρ=some t)(h2:g ρ=some u)(h3:fn t u=some (.bl a)) (h4:a=true→h ρ=some w)(h5:a=true→fn' u w=some (.bl b)):fm fn fn' f g h ρ=some (.bl (a&&b)):=by
 rw[CU,h1]
 dsimp only
 rw[h2]
 dsimp only
 rw[h3]
 cases a with
 | true=>dsimp only;rw[h4 rfl];exact h5 rfl
 | false=>rfl
theorem aK {M:List T→Option T}(h1:fa ρ=some ts)(h2:ts.length=n)(h3:M ts=some t):aq n M fa ρ=some t:=by rw[CT,h1,Option.bind_some,if_pos h2];exact h3
theorem b_oN:foN ρ=some none:=rfl
theorem b_oS {i:Int}(h1:f ρ=some (.int i)):foS f ρ=some (some i):=by rw[Dl,h1]
theorem Bc {lo hi:FO}{l h:Option Int}(h1:f ρ=some t)(h2:lo ρ=some l)(h3:hi ρ=some h)(h4:tCut t l h=some u):fCut f lo hi ρ=some u:=by rw[CZ,h1,Option.bind_some,h2,Option.bind_some,h3];exact h4
theorem oR {j:Int}(h1:f ρ=some (.int j)) (h2 : -(2 ^ 62)≤j) (h3:j<2 ^ 62):fRng f ρ=some (rangeT 0 j.toNat):=by
 rw[C8,h1,Option.bind_some]
 exact if_pos ⟨h2,h3⟩
theorem Br {i j:Int}(h1:f ρ=some (.int i)) (h2:g ρ=some (.int j)) (h3 : -(2 ^ 62)≤i) (h4:i<2 ^ 62)(h5 : -(2 ^ 62)≤j) (h6:j<2 ^ 62):gc f g ρ=some (rangeT i (j - i).toNat):=by
 rw[C7,h1,Option.bind_some,h2,Option.bind_some]
 exact if_pos ⟨h3,h4,h5,h6⟩
theorem dc (h1:f ρ=some (.tup ts)):fIt f ρ=some ts:=by rw[wN,h1];rfl
theorem iM (h1:f ρ=some (.lst ts)):fIt f ρ=some ts:=by rw[wN,h1];rfl
theorem d7 {ix:List (Option Nat)}{fg:FG}(h1:fa ρ=some ts)(h2:ts.length≤sizeLine)(h3:subR ix ρ=ρ1)(h4:aG fg ft f ρ1 ts=some us):aF ix fa fg ft f ρ=some us:=by
 rw[CW,h1,Option.bind_some,if_pos h2,h3];exact h4
theorem BF:fYes ρ=some true:=rfl
theorem aA (h1:f ρ=some t)(h2:ρ.set i (some (.pu t))=ρ'):sSet i f ρ=some (.nx ρ'):=by rw[II,h1,← h2];rfl
theorem oQ (h1:fa ρ=some ts)(h2:ρ.set i (some (.ow ts))=ρ'):sOwn i fa ρ=some (.nx ρ'):=by rw[IF,h1,← h2];rfl
theorem oN (h1:ρ[i]?=some (some (.ow ts))) (h2:f ρ=some t)(h3:ts.length<sizeLine)(h4:ρ.set i (some (.ow (ts++[t])))=ρ'):sApp i f ρ=some (.nx ρ'):=by
 rw[ID,h1]
 dsimp only
 rw[h2]
 dsimp only
 rw[if_pos h3,h4]
theorem Bd (h1:f ρ=some t):yY f ρ=some (.nx ρ):=by rw[IE,h1];rfl
theorem kh:sNil ρ=some (.nx ρ):=rfl
theorem aZ (h1:f ρ=some t)(h2:t=u):sRet f ρ=some (.rt u):=by rw[za,h1,h2];rfl
theorem Bq (h1:ρ[i]?=some (some (.ow ts))) (h2:ts=us):jg i ρ=some (.rt (.lst us)):=by rw[IG,h1,h2]
theorem aC (h1:F ρ=some (.nx ρ')) (h2:G ρ'=some o):sSeq F G ρ=some o:=by rw[kR,h1];exact h2
theorem bN (h1:ft ρ=some b)(h2:b=true→F ρ=some o)(h3:b=false→G ρ=some o):sIf ft F G ρ=some o:=by
 rw[y9,h1,Option.bind_some]
 cases b with
 | true=>exact h2 rfl
 | false=>exact h3 rfl
theorem aQ (h1:ft ρ=some b)(h2:b=true→sSeq F R ρ=some o)(h3:b=false→sSeq G R ρ=some o):sSeq (sIf ft F G) R ρ=some o:=by
 have e:sSeq (sIf ft F G) R ρ=if b=true then sSeq F R ρ else sSeq G R ρ:=by
  simp only[kR,y9,h1,Option.bind_some]
  cases b<;>rfl
 rw[e]
 cases b with
 | true=>exact h2 rfl
 | false=>exact h3 rfl
theorem Bu {S:FS}(h:sSeq F (sSeq G S) ρ=some o):sSeq (sSeq F G) S ρ=some o:=by
 rw[← h]
 simp only[kR]
 cases F ρ with
 | none=>rfl
 | some q=>cases q<;>rfl
theorem ff (h:sRet f ρ=some o):sSeq (sRet f) R ρ=some o:=by
 rw[← h]
 simp only[kR,za]
 cases f ρ<;>rfl
theorem bw (h:R ρ=some o):sSeq sNil R ρ=some o:=h
theorem Bg {fg:FG}(h1:fa ρ=some ts)(h2:aI fg F ts ρ=some o):sFor fa fg F ρ=some o:=by rw[yZ,h1];exact h2
theorem aX {N:Nat}(h1:F (ts.map (fun t=>some (.pu t))++List.replicate (N - ts.length) none)=some (.rt t)):TL.run N F ts=some t:=by unfold TL.run;rw[h1]
end
def uy (G:FS):Out→Option Out
 | .nx ρ=>G ρ
 | o=>some o
theorem cS {fg:FG}{fa:FA}{F G:FS}{ρ:Rho}{ts:List T}{o1 o:Out}(h1:fa ρ=some ts)(h2:aI fg F ts ρ=some o1)(h3:uy G o1=some o):sSeq (sFor fa fg F) G ρ=some o:=by
 rw[kR,yZ,h1,Option.bind_some,h2,← h3]
 cases o1<;>rfl
theorem gb {G:FS}{ρ:Rho}{o:Out}(h:G ρ=some o):uy G (.nx ρ)=some o:=h
theorem ki {G:FS}{t u:T}(h:t=u):uy G (.rt t)=some (.rt u):=by rw[h];rfl
theorem vacB {p:Prop}{x:Option T}(h:p→False):p→x=some (.bl false):=fun q=>(h q).elim
theorem vacT {p:Prop}{x:Option Bool}(h:p→False):p→x=some false:=fun q=>(h q).elim
theorem vacE {p:Prop}{x:Option T}(h:p→False):p→x=some .non:=fun q=>(h q).elim
theorem vacO {p:Prop}{x:Option Out}{o:Out}(h:p→False):p→x=some o:=fun q=>(h q).elim
theorem aN {x y:Option Sl}{r:Rho}:(x::r).set 0 y=y::r:=rfl
theorem aV {x y:Option Sl}{r r':Rho}{i:Nat}(h:r.set i y=r'):(x::r).set (i+1) y=x::r':=by rw[← h];rfl
theorem aD {x:Option Sl}{r:Rho}:(x::r)[0]?=some x:=rfl
theorem w4 {x y:Option Sl}{r:Rho}{i:Nat}(h:r[i]?=some x):(y::r)[i+1]?=some x:=h
theorem Kc {r:Rho}:subR [] r=[]:=rfl
theorem J7 {ix:List (Option Nat)}{r r':Rho}(h:subR ix r=r'):subR (none::ix) r=none::r':=by rw[← h];rfl
theorem J8 {ix:List (Option Nat)}{r r':Rho}{i:Nat}{t:T}(h0:r[i]?=some (some (.pu t))) (h:subR ix r=r'):subR (some i::ix) r=some (.pu t)::r':=by
 rw[← h]
 show(match r[i]? with|some (some (.pu t))=>some (Sl.pu t)|_=>none)::_=_
 rw[h0]
 rfl
theorem Fw:([]:List T).length=0:=rfl
theorem Ft {t:T}{ts:List T}{n:Nat}(h:ts.length=n):(t::ts).length=n+1:=by rw[← h];rfl
theorem bq {i:Nat}{t:T}{ρ ρ':Rho}(h:ρ.set i (some (.pu t))=ρ'):gNm i t ρ=some ρ':=by rw[← h];rfl
theorem vn {i j:Nat}{a b:T}{ρ ρ1 ρ':Rho}(h1:ρ.set i (some (.pu a))=ρ1) (h2:ρ1.set j (some (.pu b))=ρ'):gTp2 i j (.tup [a,b]) ρ=some ρ':=by rw[← h2,← h1];rfl
@[simp] theorem yM {lo:Int}{n:Nat}:(rangeT lo n).length=n:=by unfold rangeT;simp
theorem ev_eq {α:Type}{x:Option α}{a b:α}(h:x=some a)(e:a=b):x=some b:=by rw[h,e]
theorem xM {g:FG}{b:FS}(R:Nat→Rho→Prop)(Q:T→Prop):∀(ts:List T) (k:Nat)(ρ:Rho),
  (∀(i:Nat)(t:T)(ρ:Rho),ts[i]?=some t→R (k+i) ρ→∃ ρ1,g t ρ=some ρ1∧((∃ ρ2,(b ρ1=some (.nx ρ2)∨b ρ1=some (.ct ρ2))∧R (k+i+1) ρ2)∨(∃ v,b ρ1=some (.rt v)∧Q v)))→R k ρ →
  (∃ ρ2,aI g b ts ρ=some (.nx ρ2)∧R (k+ts.length) ρ2)∨(∃ v,aI g b ts ρ=some (.rt v)∧Q v)
 | [],k,ρ,_,r=>.inl ⟨ρ,rfl,r⟩
 | t::ts,k,ρ,h,r=>by
   obtain⟨ρ1,h1,h2⟩:=h 0 t ρ rfl r
   unfold aI
   rw[h1]
   dsimp only
   rcases h2 with⟨ρ2,h2,h3⟩|⟨v,h2,h3⟩
   ·have ih:=xM (g:=g) (b:=b) R Q ts (k+1) ρ2 (fun i t ρ e r=>by
     have:=h (i+1) t ρ e (by rw[show k+(i+1)=k+1+i by omega];exact r)
     rw[show k+(i+1)=k+1+i by omega] at this
     exact this) h3
    rw[show k+(t::ts).length=k+1+ts.length by simp;omega]
    rcases h2 with h2|h2<;>(rw[h2];exact ih)
   ·rw[h2]
    exact .inr ⟨v,rfl,h3⟩
theorem Fy {g:FG}{b:FS}(R:Nat→Rho→Prop)(ts:List T)(ρ:Rho)
  (h:∀(i:Nat)(t:T)(ρ:Rho),ts[i]?=some t→R i ρ→∃ ρ1 ρ2,g t ρ=some ρ1∧b ρ1=some (.nx ρ2)∧R (i+1) ρ2) (r:R 0 ρ):∃ ρ2,aI g b ts ρ=some (.nx ρ2)∧R ts.length ρ2:=by
 have:=xM (g:=g) (b:=b) R (fun _=>False) ts 0 ρ (fun i t ρ e r=>by
  rw[Nat.zero_add] at r ⊢
  obtain⟨ρ1,ρ2,h1,h2,h3⟩:=h i t ρ e r
  exact⟨ρ1,h1,.inl ⟨ρ2,.inl h2,h3⟩⟩) r
 rw[Nat.zero_add] at this
 rcases this with h|⟨_,_,z⟩
 ·exact h
 ·exact z.elim
theorem xN {g:FG}{b:FS}(R:Nat→Rho→Prop) (n:Nat)(ρ:Rho)
  (h:∀(i:Nat)(ρ:Rho),i<n→R i ρ→∃ ρ1 ρ2,g (.int (i:Int)) ρ=some ρ1∧b ρ1=some (.nx ρ2)∧R (i+1) ρ2) (r:R 0 ρ):∃ ρ2,aI g b (rangeT 0 n) ρ=some (.nx ρ2)∧R n ρ2:=by
 have:=Fy (g:=g) (b:=b) R (rangeT 0 n) ρ (fun i t ρ e r=>by
  have hi:i<n:=by
   have:=(List.getElem?_eq_some_iff.mp e).1
   rw[yM] at this;exact this
  unfold rangeT at e
  rw[List.getElem?_map,List.getElem?_range hi] at e
  simp at e
  subst e
  exact h i ρ hi r) r
 rw[yM] at this
 exact this
@[simp] theorem LR {c:String}:isT c .non=false:=rfl
@[simp] theorem LO {c:String}{b:Bool}:isT c (.bl b)=(c=="bool"||c=="int"):=rfl
@[simp] theorem LP {c:String}{i:Int}:isT c (.int i)=(c=="int"):=rfl
@[simp] theorem LS {c:String}{x:Str}:isT c (.str x)=(c=="str"):=rfl
@[simp] theorem LU {c:String}{ts:List T}:isT c (.tup ts)=(c=="tuple"):=rfl
@[simp] theorem LQ {c:String}{ts:List T}:isT c (.lst ts)=(c=="list"):=rfl
theorem Kn {α:Type}{f:α→Bool}{xs:List α}:tAll (.lst (xs.map fun x=>T.bl (f x)))=some (.bl (xs.all f)):=by
 unfold tAll
 dsimp only
 rw[if_pos (by rw[List.all_map];simp [List.all_eq_true])]
 rw[List.all_map]
 rfl
theorem t9 {α:Type}{f:α→Bool}{xs:List α}:tAny (.lst (xs.map fun x=>T.bl (f x)))=some (.bl (xs.any f)):=by
 unfold tAny
 dsimp only
 rw[if_pos (by rw[List.all_map];simp [List.all_eq_true])]
 rw[List.any_map]
 rfl
theorem cY {t u:T}(h:dep t≤60):tEqq t u=some (.bl (teq t u)):=if_pos h
theorem cu {t u:T}(h:dep t≤60):tNee t u=some (.bl (!teq t u)):=if_pos h
theorem ua {t:T}{ts:List T}(h:∀ y∈ts,dep y≤60):tInn false t (.tup ts)=some (.bl (ts.any fun y=>teq y t)):=if_pos (List.all_eq_true.mpr fun y hy=>decide_eq_true (h y hy))
theorem KA {t:T}{ts:List T}(h:∀ y∈ts,dep y≤60):tInn false t (.lst ts)=some (.bl (ts.any fun y=>teq y t)):=if_pos (List.all_eq_true.mpr fun y hy=>decide_eq_true (h y hy))
theorem KO {t:T}{ts:List T}(h:∀ y∈ts,dep y≤60):tInn true t (.tup ts)=some (.bl (!ts.any fun y=>teq y t)):=if_pos (List.all_eq_true.mpr fun y hy=>decide_eq_true (h y hy))
theorem ud {t:T}{ts:List T}(h:∀ y∈ts,dep y≤60):tInn true t (.lst ts)=some (.bl (!ts.any fun y=>teq y t)):=if_pos (List.all_eq_true.mpr fun y hy=>decide_eq_true (h y hy))
theorem t8 {as bs:List T}(h:as.length+bs.length≤sizeLine):tAdd (.tup as) (.tup bs)=some (.tup (as++bs)):=if_pos h
theorem Km {as bs:List T}(h:as.length+bs.length≤sizeLine):tAdd (.lst as) (.lst bs)=some (.lst (as++bs)):=if_pos h
theorem KJ {as:List T}{k:Int}(h:0≤k∧k<1000000∧as.length * k.toNat≤sizeLine):tMul (.tup as) (.int k)=some (.tup (List.replicate k.toNat as).flatten):=if_pos h
theorem dM {ts:List T}{i:Int}{x:T}(h:atI ts i=some x):tIx (.tup ts) (.int i)=some x:=h
theorem zv {ts:List T}{i:Int}{x:T}(h:atI ts i=some x):tIx (.lst ts) (.int i)=some x:=h
theorem dJ {c:String}{t:T}:tIs c t=some (.bl (isT c t)):=rfl
theorem KS {i:Int}(h:i.natAbs.log2<1920):KR (.int i)=some (.str (toString i)):=if_pos h
end TL
namespace TL
open PySem L2
section
variable {f g:FE}{fz gz:FZ}{ρ:Rho}{t:T}{ts us:List T}{ms ns:List Nat}
def itOf:T→Option (List T)
 | .tup ts=>some ts
 | .lst ts=>some ts
 | _=>none
theorem EG:itOf (.tup ts)=some ts:=rfl
theorem EE:itOf (.lst ts)=some ts:=rfl
theorem b_it (h1:f ρ=some t)(h2:itOf t=some ts):fIt f ρ=some ts:=by
 cases t with
 | tup us=>cases h2;exact dc h1
 | lst us=>cases h2;exact iM h1
 | _=>cases h2
theorem Be (h1:f ρ=some t)(h2:itOf t=some ts)(h3:cg ts=us):iV f ρ=some us:=by
 subst h3
 unfold iV
 rw[h1]
 cases t with
 | tup us=>cases h2;rfl
 | lst us=>cases h2;rfl
 | _=>cases h2
theorem Bj {j:Int}(h1:f ρ=some (.int j)) (h2:0≤j)(h3:j≤1000000):iW f ρ=some (rangeT 0 j.toNat):=by
 unfold iW
 rw[h1]
 dsimp only
 rw[if_pos ⟨h2,by omega⟩]
 unfold rangeT;simp
theorem BA (h1:fz ρ=some ms):iY fz ρ=some (ms.map fun(i:Nat)=>T.int (i:Int)):=by unfold iY;rw[h1];rfl
theorem Bv (h1:f ρ=some (.tup ts)) (h2:cC ts=some ms):gf f ρ=some (aM [] ms):=by unfold gf;rw[h1];dsimp only;rw[h2];rfl
theorem Bw (h1:fz ρ=some ms)(h2:gz ρ=some ns):iX fz gz ρ=some (aM ms ns):=by unfold iX;rw[h1];dsimp only;rw[h2]
theorem Bf {i:Nat}{ρ':Rho}(h1:ρ[i]?=some (some (.ow ts))) (h2:f ρ=some (.lst us)) (h3:ts.length+us.length≤sizeLine)(h4:ρ.set i (some (.ow (ts++us)))=ρ'):sExt i f ρ=some (.nx ρ'):=by
 unfold sExt
 rw[h1]
 dsimp only
 rw[h2]
 dsimp only
 rw[if_pos h3,h4]
def nR:T→Option Bool
 | .tup ts=>some !ts.isEmpty
 | .lst ts=>some !ts.isEmpty
 | .bl b=>some b
 | _=>none
theorem K3:nR (.tup ts)=some !ts.isEmpty:=rfl
theorem zG:nR (.lst ts)=some !ts.isEmpty:=rfl
theorem cZ {b:Bool}:nR (.bl b)=some b:=rfl
theorem cG {b:Bool}(h1:f ρ=some t)(h2:nR t=some b):fTru f ρ=some b:=by
 unfold fTru
 rw[h1]
 cases t<;>first|exact h2|cases h2
theorem Kz {u:T}(h1:∀ y∈ts,dep y≤60)(h2:idxT ts u<ts.length):Ky (.lst ts) u=some (.int (idxT ts u:Int)):=if_pos ⟨List.all_eq_true.mpr fun y hy=>decide_eq_true (h1 y hy),h2⟩
theorem zL:∀ ks:List Nat,unR (ks.map fun(i:Nat)=>T.int (i:Int))=some ks
 | []=>rfl
 | k::ks=>by
   rw[List.map_cons]
   unfold unR
   rw[if_pos (by omega),zL ks]
   simp
theorem zJ:∀ ks:List (Nat×List Nat),unP (ks.map toP)=some ks
 | []=>rfl
 | (k,r)::ks=>by
   rw[List.map_cons]
   show unP (T.tup [.int (k:Int),.tup (r.map fun(i:Nat)=>T.int (i:Int))]::ks.map toP)=_
   unfold unP
   rw[if_pos (by omega),zL r,zJ ks]
   simp
theorem By {ks js:List (Nat×List Nat)}(h1:f ρ=some (.lst (ks.map toP))) (h2:tO ks=some js):gg f ρ=some (js.map toP):=by
 unfold gg
 rw[h1]
 dsimp only
 rw[zJ,Option.bind_some,h2]
 rfl
theorem Bp {lo hi st:FO}{l h:Option Int}{k:Int}(h1:f ρ=some (.lst ts)) (h2:lo ρ=some l)(h3:hi ρ=some h)(h4:st ρ=some (some k)) (h5:k≠0)(h6:(ni ts l h (some k)).length≤sizeLine):wO f lo hi st ρ=some (ni ts l h (some k)):=by
 unfold wO
 rw[h1];dsimp only
 rw[h2];dsimp only
 rw[h3];dsimp only
 rw[h4];dsimp only
 rw[if_pos ⟨h5,h6⟩]
theorem Bx {ks:List Nat}(h1:f ρ=some (.lst ts)) (h2:unR ts=some ks)(h3:ks.length<64):wQ f ρ=some ((srt ks).map fun(i:Nat)=>T.int (i:Int)):=by
 unfold wQ
 rw[h1];dsimp only
 rw[h2];dsimp only
 rw[if_pos h3]
theorem xO {c:FT}{b:FS}(R:Nat→Rho→Prop)(D:Rho→Prop)(h:∀ k ρ,R k ρ→(c ρ=some false∧D ρ)∨(c ρ=some true∧∃ ρ' k',b ρ=some (.nx ρ')∧k'<k∧R k' ρ')) :
  ∀(k n:Nat)(ρ:Rho),k<n→R k ρ→∃ ρ',dw c b n ρ=some (.nx ρ')∧D ρ':=by
 intro k
 induction k using Nat.strongRecOn with
 | _ k ih =>
   intro n ρ hn hr
   obtain⟨n,rfl⟩:∃ m,n=m+1:=⟨n - 1,by omega⟩
   unfold dw
   rcases h k ρ hr with⟨h1,h2⟩|⟨h1,ρ',k',h2,h3,h4⟩
   ·rw[h1];exact⟨ρ,rfl,h2⟩
   ·rw[h1]
    dsimp only
    rw[h2]
    exact ih k' h3 n ρ' (by omega) h4
theorem vz {n:Nat}{c:FT}{b:FS}{o:Out}(h:dw c b n ρ=some o):kT n c b ρ=some o:=h
theorem sC:∀{ms:List Nat},(∀ k∈ms,k<6)→cC (ms.map fun(i:Nat)=>T.int (i:Int))=some ms
 | [],_=>rfl
 | k::ms,h=>by
   rw[List.map_cons]
   unfold cC
   have:=h k List.mem_cons_self
   rw[if_pos (by omega),sC fun j hj=>h j (List.mem_cons_of_mem _ hj)]
   simp
end
end TL
namespace G
open PySem L2 TL
noncomputable section
abbrev CS:List Str:=["MarkError","NoThing","NoText","NoQuestion","NoAnswer","NoRoom"]
def gA:FS :=
    (sSeq (dG 0 "Asker" "many" (gv 1))
    (sSeq (dG 0 "Asker" "table" (fTup (aa (gv 1) (aa (fTup fNil) fNil))))
    (dG 0 "Asker" "rules" (fTup fNil))))
def ig:Addr→List (Str×T)→List T→Option (List (Str×T)):=eK 1 "Asker" gA
theorem zV {a:Addr}{fl fl':List (Str×T)}{r:Rho}{a0:T}(h:gA [some (.ob a "Asker" fl),some (.pu a0)]=some (.nx (some (.ob a "Asker" fl')::r))):ig a fl [a0]=some fl':=oS (F:=gA) h
def gJ:FS :=
    (sSeq (sIf (fB (f2 tLtI (gv 1) (f1 tLen (gv 0))))
     (sRet (f2 tIx (gv 0) (gv 1)))
     sNil)
    (sRet (kc (.int 0))))
def jH:List T→Option T:=run 2 gJ
theorem z7 {a0 a1 t:T}(h:gJ [some (.pu a0),some (.pu a1)]=some (.rt t)):jH [a0,a1]=some t:=aX (F:=gJ) h
def gQ:FS :=
    (sSeq (sSet 2 (f2 tMd (f2 tMul (f2 tAdd (f2 tAdd (aq 2 jH (aa (gv 0) (aa (gv 1) fNil))) (f2 tMul (kc (.int 7919)) (gv 1))) (kc (.int 1))) (kc (.int 48271))) (kc (.int 2147483647))))
    (sRet (f2 tMd (f2 tAdd (f2 tAdd (f2 tMul (gv 2) (gv 2)) (f2 tMul (kc (.int 7)) (gv 2))) (gv 1)) (kc (.int 2147483629)))))
def eX:List T→Option T:=run 3 gQ
theorem Ac {a0 a1 t:T}(h:gQ [some (.pu a0),some (.pu a1),none]=some (.rt t)):eX [a0,a1]=some t:=aX (F:=gQ) h
def lO:FE :=
    (f2 tAdd (gv 0) (fTup (aa (gv 1) fNil)))
def jv:FS :=
    (sSet 1 (f2 tAdd (gv 1) (fNew (aF [none,some 2] (fIt (gv 1)) (gNm 0) fYes lO))))
def jD:FE :=
    (fTup (aa (f1 tLen (gv 0)) (aa (gv 0) fNil)))
def gO:FS :=
    (sSeq (sSet 1 (fNew (fLst (aa (fTup fNil) fNil))))
    (sSeq (sFor (fRng (gv 0)) (gNm 2)
     jv)
    (sRet (fNew (aF [none,none] (fIt (fNew (gg (fNew (aF [none] (fIt (gv 1)) (gNm 0) fYes jD))))) (gTp2 0 1) fYes (gv 1))))))
def dW:List T→Option T:=run 3 gO
theorem Aa {a0 t:T}(h:gO [some (.pu a0),none,none]=some (.rt t)):dW [a0]=some t:=aX (F:=gO) h
def lB:FT :=
    (fB (f2 (tInn true) (gv 0) (gv 1)))
def lJ:FT :=
    (fB (f2 (tInn false) (gv 0) (gv 1)))
def ju:FS :=
    (sIf (fB (f2 tEqq (fNew (aF [none,some 3] (fIt (gv 1)) (gNm 0) lB (gv 0))) (fNew (fLst fNil))))
      (sSet 2 (fNew (aF [none,some 3] (fIt (gv 2)) (gNm 0) lJ (gv 0))))
      sNil)
def gK:FS :=
    (sSeq (sSet 2 (fNew (iW (f2 tIx (gv 0) (kc (.int 0))))))
    (sSeq (sFor (fIt (f2 tIx (gv 0) (kc (.int 1)))) (gNm 3)
     ju)
    (sRet (f1 aP (gv 2)))))
def iu:List T→Option T:=run 4 gK
theorem z8 {a0 a1 t:T}(h:gK [some (.pu a0),some (.pu a1),none,none]=some (.rt t)):iu [a0,a1]=some t:=aX (F:=gK) h
def lA:FT :=
    (fB (f2 (tInn true) (gv 0) (gv 1)))
def gI:FS :=
    (sRet (f2 tEqq (fNew (aF [none,some 1] (fIt (gv 0)) (gNm 0) lA (gv 0))) (fNew (fLst fNil))))
def bU:List T→Option T:=run 2 gI
theorem z6 {a0 a1 t:T}(h:gI [some (.pu a0),some (.pu a1)]=some (.rt t)):bU [a0,a1]=some t:=aX (F:=gI) h
def jw:FS :=
    (sIf (fAnd (fB (f2 tNee (gv 6) (gv 3))) (fAnd (fB (aq 2 bU (aa (gv 6) (aa (gv 3) fNil)))) (fNot (fB (aq 2 bU (aa (gv 7) (aa (gv 3) fNil)))))))
          (sSet 5 (kc (.bl false)))
          sNil)
def lD:FT :=
    (fB (f2 (tInn true) (gv 0) (gv 1)))
def dP:FS :=
    (sSeq (sSet 4 (aq 2 iu (aa (fTup (aa (gv 0) (aa (f1 aP (gv 1)) fNil))) (aa (gv 3) fNil))))
     (sSeq (sSet 5 (bB (f2 tNee (gv 4) (gv 3)) (f2 (tInn true) (gv 3) (fNew (aF [none,none] (fIt (gv 2)) (gTp2 0 1) fYes (gv 0))))))
     (sSeq (sFor (fIt (gv 2)) (gTp2 6 7)
      jw)
     (sIf (fTru (gv 5))
      (sRet (fTup (aa (gv 3) (aa (f1 aP (fNew (aF [none,some 3] (fIt (gv 4)) (gNm 0) lD (gv 0)))) fNil))))
      sNil))))
def gR:FS :=
    (sSeq (sFor (fIt (aq 1 dW (aa (gv 0) fNil))) (gNm 3)
     dP)
    (sRet (kc .non)))
def fO:List T→Option T:=run 8 gR
theorem Ad {a0 a1 a2 t:T}(h:gR [some (.pu a0),some (.pu a1),some (.pu a2),none,none,none,none,none]=some (.rt t)):fO [a0,a1,a2]=some t:=aX (F:=gR) h
def gM:FS :=
    (sSeq (sSet 2 (f2 tMd (f2 tMul (f2 tAdd (f2 tAdd (gv 0) (f2 tMul (kc (.int 104729)) (gv 1))) (kc (.int 17))) (kc (.int 69621))) (kc (.int 2147483647))))
    (sRet (f2 tMd (f2 tAdd (f2 tAdd (f2 tMul (gv 2) (gv 2)) (f2 tMul (kc (.int 3)) (gv 2))) (gv 1)) (kc (.int 2147483629)))))
def jI:List T→Option T:=run 3 gM
theorem z9 {a0 a1 t:T}(h:gM [some (.pu a0),some (.pu a1),none]=some (.rt t)):jI [a0,a1]=some t:=aX (F:=gM) h
def lC:FT :=
    (fB (f2 tEqq (f2 tMd (aq 2 jI (aa (gv 1) (aa (gv 0) fNil))) (gv 2)) (kc (.int 0))))
def gP:FS :=
    (sSeq (sSet 2 (f2 tAdd (kc (.int 2)) (f2 tMd (gv 0) (kc (.int 3)))))
    (sRet (f1 aP (fNew (aF [none,some 0,some 2] (fRng (gv 1)) (gNm 0) lC (gv 0))))))
def fN:List T→Option T:=run 3 gP
theorem Ab {a0 a1 t:T}(h:gP [some (.pu a0),some (.pu a1),none]=some (.rt t)):fN [a0,a1]=some t:=aX (F:=gP) h
def jB:FE :=
    (f2 tAdd (gv 1) (fTup (aa (gv 0) fNil)))
def jy:FS :=
    (sSeq (sSet 4 (fIf (fTru (gv 3)) (f2 tAdd (f2 tIx (gv 3) (f1 tNeg (kc (.int 1)))) (kc (.int 1))) (kc (.int 0))))
     (sExt 2 (fNew (aF [none,some 3] (gc (gv 4) (gv 1)) (gNm 0) fYes jB))))
def g7:FS :=
    (sSeq (sOwn 2 (fLst fNil))
    (sSeq (sFor (fIt (gv 0)) (gNm 3)
     jy)
    (jg 2)))
def jL:List T→Option T:=run 5 g7
theorem Al {a0 a1 t:T}(h:g7 [some (.pu a0),some (.pu a1),none,none,none]=some (.rt t)):jL [a0,a1]=some t:=aX (F:=g7) h
def lE:FT :=
    (fTru (gv 2))
def lu:FS :=
    (sSeq (sExt 1 (gv 2))
     (sSet 2 (aq 2 jL (aa (gv 2) (aa (gv 0) fNil)))))
def gS:FS :=
    (sSeq (sOwn 1 (fLst fNil))
    (sSeq (sSet 2 (fNew (fLst (aa (fTup fNil) fNil))))
    (sSeq (kT 100000 lE
     lu)
    (sRet (f1 aP (go 1))))))
def iw:List T→Option T:=run 3 gS
theorem Ae {a0 t:T}(h:gS [some (.pu a0),none,none]=some (.rt t)):iw [a0]=some t:=aX (F:=gS) h
def jC:FE :=
    (f2 tIx (f2 tIx (gv 1) (kc (.int 1))) (gv 0))
def lQ:FE :=
    (f2 (tInn false) (gv 1) (gv 0))
def lH:FT :=
    (fB (f1 tAll (fNew (aF [none,some 0] (fIt (gv 1)) (gNm 0) fYes lQ))))
def g9:FS :=
    (sSeq (sSet 2 (fNew (aF [none,some 0] (fIt (gv 1)) (gNm 0) fYes jC)))
    (sRet (f1 aP (fNew (aF [none,some 2] (fRng (f2 tIx (gv 0) (kc (.int 0)))) (gNm 0) lH (gv 0))))))
def jM:List T→Option T:=run 3 g9
theorem An {a0 a1 t:T}(h:g9 [some (.pu a0),some (.pu a1),none]=some (.rt t)):jM [a0,a1]=some t:=aX (F:=g9) h
def lP:FE :=
    (f2 (tInn false) (gv 0) (gv 1))
def gT:FS :=
    (sRet (f1 tAll (fNew (aF [none,some 1] (fIt (gv 0)) (gNm 0) fYes lP))))
def c9:List T→Option T:=run 2 gT
theorem Af {a0 a1 t:T}(h:gT [some (.pu a0),some (.pu a1)]=some (.rt t)):c9 [a0,a1]=some t:=aX (F:=gT) h
def lF:FT :=
    (fB (aq 2 c9 (aa (gv 2) (aa (gv 1) fNil))))
def gX:FS :=
    (sRet (f1 aP (fNew (aF [none,none,some 1] (iV (f2 tIx (gv 0) (kc (.int 1)))) (gTp2 0 1) lF (gv 0)))))
def jJ:List T→Option T:=run 2 gX
theorem Ai {a0 a1 t:T}(h:gX [some (.pu a0),some (.pu a1)]=some (.rt t)):jJ [a0,a1]=some t:=aX (F:=gX) h
def gU:FS :=
    (sRet (aq 2 jM (aa (gv 0) (aa (aq 2 jJ (aa (gv 0) (aa (gv 1) fNil))) fNil))))
def iz:List T→Option T:=run 2 gU
theorem Ag {a0 a1 t:T}(h:gU [some (.pu a0),some (.pu a1)]=some (.rt t)):iz [a0,a1]=some t:=aX (F:=gU) h
def gY:FS :=
    (sRet (f1 aP (fNew (iY (iX (gf (gv 0)) (gf (gv 1)))))))
def jK:List T→Option T:=run 2 gY
theorem Aj {a0 a1 t:T}(h:gY [some (.pu a0),some (.pu a1)]=some (.rt t)):jK [a0,a1]=some t:=aX (F:=gY) h
def jz:FS :=
    (sIf (fB (aq 2 c9 (aa (gv 2) (aa (gv 1) fNil))))
      (sSet 1 (aq 2 jK (aa (gv 1) (aa (gv 3) fNil))))
      sNil)
def g8:FS :=
    (sSeq (sFor (fIt (gv 0)) (gTp2 2 3)
     jz)
    (sRet (gv 1)))
def iD:List T→Option T:=run 4 g8
theorem Am {a0 a1 t:T}(h:g8 [some (.pu a0),some (.pu a1),none,none]=some (.rt t)):iD [a0,a1]=some t:=aX (F:=g8) h
def jA:FT :=
    (fB (f2 tNee (gv 2) (gv 1)))
def lz:FS :=
    (sSeq (sSet 1 (gv 2))
     (sSet 2 (aq 2 iD (aa (gv 0) (aa (gv 1) fNil)))))
def gW:FS :=
    (sSeq (sSet 2 (aq 2 iD (aa (gv 0) (aa (gv 1) fNil))))
    (sSeq (kT 100000 jA
     lz)
    (sRet (gv 1))))
def iA:List T→Option T:=run 3 gW
theorem Ah {a0 a1 t:T}(h:gW [some (.pu a0),some (.pu a1),none]=some (.rt t)):iA [a0,a1]=some t:=aX (F:=gW) h
def lI:FT :=
    (fB (f2 (tInn true) (gv 0) (gv 1)))
def ie:FS :=
    (sRet (f1 aP (fNew (aF [none,some 1] (fIt (gv 0)) (gNm 0) lI (gv 0)))))
def jN:List T→Option T:=run 2 ie
theorem Aq {a0 a1 t:T}(h:ie [some (.pu a0),some (.pu a1)]=some (.rt t)):jN [a0,a1]=some t:=aX (F:=ie) h
def dO:FS :=
    (sSeq (sSet 2 (aq 2 iz (aa (fFld 0 "Asker" "table") (aa (gv 1) fNil))))
     (sIf (fAnd (fB (f2 tNee (gv 2) (gv 1))) (fB (f2 tEqq (aq 2 iA (aa (fFld 0 "Asker" "rules") (aa (gv 1) fNil))) (gv 1))))
      (sRet (fTup (aa (gv 1) (aa (aq 2 jN (aa (gv 2) (aa (gv 1) fNil))) fNil))))
      sNil))
def gE:FS :=
    (sSeq (sFor (fIt (aq 1 iw (aa (fFld 0 "Asker" "many") fNil))) (gNm 1)
     dO)
    (sRet (kc .non)))
def cy:List (Str×T)→List T→Option T:=runM 2 "Asker" gE
theorem zZ {fl:List (Str×T)}{t:T}(h:gE [some (.ro "Asker" fl),none,none]=some (.rt t)):cy fl []=some t:=j9 (F:=gE) h
def gF:FS :=
    (sRet (fFld 0 "Asker" "rules"))
def c8:List (Str×T)→List T→Option T:=runM 0 "Asker" gF
theorem z0 {fl:List (Str×T)}{t:T}(h:gF [some (.ro "Asker" fl)]=some (.rt t)):c8 fl []=some t:=j9 (F:=gF) h
def gC:FS :=
    (sRet (fFld 0 "Asker" "table"))
def cM:List (Str×T)→List T→Option T:=runM 0 "Asker" gC
theorem zX {fl:List (Str×T)}{t:T}(h:gC [some (.ro "Asker" fl)]=some (.rt t)):cM fl []=some t:=j9 (F:=gC) h
def gB:FS :=
    (sRet (f2 tAdd (f1 tLen (f2 tIx (fFld 0 "Asker" "table") (kc (.int 1)))) (f1 tLen (fFld 0 "Asker" "rules"))))
def c7:List (Str×T)→List T→Option T:=runM 0 "Asker" gB
theorem zW {fl:List (Str×T)}{t:T}(h:gB [some (.ro "Asker" fl)]=some (.rt t)):c7 fl []=some t:=j9 (F:=gB) h
def eS:FT :=
    (fB (f1 (tIs "bool") (gv 0)))
def lM:FT :=
    (fAnd (fB (aq 2 bU (aa (f2 tIx (gv 0) (kc (.int 0))) (aa (gv 1) fNil)))) (fNot (fB (aq 2 bU (aa (f2 tIx (gv 0) (kc (.int 1))) (aa (gv 1) fNil))))))
def eU:FS :=
    (sSeq (sIf (fOr (fNot (fB (f1 (tIs "tuple") (gv 0)))) (fB (f2 (tInn true) (gv 0) (aq 1 dW (aa (gv 3) fNil)))))
     (sRet (kc (.bl false)))
     sNil)
    (sSeq (sIf (fB (f2 tNee (fNew (aF [none] (fIt (gv 0)) (gNm 0) eS (gv 0))) (fNew (fLst fNil))))
     (sRet (kc (.bl false)))
     sNil)
    (sSeq (sIf (fOr (fNot (fB (aq 2 bU (aa (f2 tIx (gv 1) (kc (.int 0))) (aa (gv 0) fNil))))) (fB (aq 2 bU (aa (f2 tIx (gv 1) (kc (.int 1))) (aa (gv 0) fNil)))))
     (sRet (kc (.bl false)))
     sNil)
    (sRet (f2 tEqq (fNew (aF [none,some 0] (fIt (gv 2)) (gNm 0) lM (gv 0))) (fNew (fLst fNil)))))))
def cN:List T→Option T:=run 4 eU
theorem nW {a0 a1 a2 a3 t:T}(h:eU [some (.pu a0),some (.pu a1),some (.pu a2),some (.pu a3)]=some (.rt t)):cN [a0,a1,a2,a3]=some t:=aX (F:=eU) h
def gG:FS :=
    (sSeq (sSet 1 (aH 0 "Asker" "question" cy))
    (sSeq (sIf (fB (f1 tIsN (gv 1)))
     sNo
     sNil)
    (sRet (gv 1))))
def cF:List (Str×T)→List T→Option T:=runM 1 "Asker" gG
theorem z4 {fl:List (Str×T)}{t:T}(h:gG [some (.ro "Asker" fl),none]=some (.rt t)):cF fl []=some t:=j9 (F:=gG) h
def cK:FX :=
    (xSeq (xSt (sSet 1 (aH 0 "Asker" "question" cy))) (xSeq (xIf (fB (f1 tIsN (gv 1))) (fK "NoQuestion") xNil) xNo))
def bS:List (Str×T)→List T→Option Str:=bH 1 "Asker" cK
def fL:FS :=
    (sRet (bB (f1 (tIs "int") (gv 0)) (eB (f1 (tIs "bool") (gv 0)))))
def iB:List T→Option T:=run 1 fL
theorem uQ {a0 t:T}(h:fL [some (.pu a0)]=some (.rt t)):iB [a0]=some t:=aX (F:=fL) h
def cJ:FS :=
    (sSeq (sIf (fOr (fNot (fB (aq 1 iB (aa (gv 3) fNil)))) (fNot (fB (fm tLeI tLtI (gv 2) (gv 3) (gv 1)))))
      (sRet (kc (.bl false)))
      sNil)
     (sSet 2 (f2 tAdd (gv 3) (kc (.int 1)))))
def dR:FS :=
    (sSeq (sIf (fNot (fB (f1 (tIs "tuple") (gv 0))))
     (sRet (kc (.bl false)))
     sNil)
    (sSeq (sSet 2 (kc (.int 0)))
    (sSeq (sFor (fIt (gv 0)) (gNm 3)
     cJ)
    (sRet (kc (.bl true))))))
def cz:List T→Option T:=run 4 dR
theorem lR {a0 a1 t:T}(h:dR [some (.pu a0),some (.pu a1),none,none]=some (.rt t)):cz [a0,a1]=some t:=aX (F:=dR) h
def ic:FS :=
    (sRet (bB (aq 2 c9 (aa (f2 tIx (gv 1) (kc (.int 0))) (aa (gv 0) fNil))) (eB (aq 2 c9 (aa (f2 tIx (gv 1) (kc (.int 1))) (aa (gv 0) fNil))))))
def cO:List T→Option T:=run 2 ic
theorem Ao {a0 a1 t:T}(h:ic [some (.pu a0),some (.pu a1)]=some (.rt t)):cO [a0,a1]=some t:=aX (F:=ic) h
def lN:FE :=
    (aq 2 cO (aa (gv 1) (aa (gv 0) fNil)))
def gy:FE :=
    (aq 2 cO (aa (gv 1) (aa (gv 0) fNil)))
def gD:FS :=
    (sSeq (sSet 2 (aH 0 "Asker" "to_be_answered" cF))
    (sSeq (sIf (fNot (fB (aq 2 cz (aa (gv 1) (aa (fFld 0 "Asker" "many") fNil)))))
     sNo
     sNil)
    (sSeq (sIf (fNot (fB (aq 2 cO (aa (gv 1) (aa (gv 2) fNil)))))
     sNo
     sNil)
    (sSeq (sIf (fB (f1 tAny (fNew (aF [none,some 1] (fIt (fFld 0 "Asker" "rules")) (gNm 0) fYes lN))))
     sNo
     sNil)
    (dG 0 "Asker" "table" (fTup (aa (fFld 0 "Asker" "many") (aa (f2 tAdd (f2 tIx (fFld 0 "Asker" "table") (kc (.int 1))) (fTup (aa (gv 1) fNil))) fNil))))))))
def ir:Addr→List (Str×T)→List T→Option (List (Str×T)):=eK 2 "Asker" gD
theorem zY {a:Addr}{fl fl':List (Str×T)}{r:Rho}{a0:T}(h:gD [some (.ob a "Asker" fl),some (.pu a0),none]=some (.nx (some (.ob a "Asker" fl')::r))):ir a fl [a0]=some fl':=oS (F:=gD) h
def bI:FX :=
    (xSeq (xOr (xE (gMY 0 "Asker" "to_be_answered" 0 bS fNil)) (sSet 2 (aH 0 "Asker" "to_be_answered" cF))) (xSeq (xIf (fNot (fB (aq 2 cz (aa (gv 1) (aa (fFld 0 "Asker" "many") fNil))))) (fK "NoAnswer") xNil) (xSeq (xIf (fNot (fB (aq 2 cO (aa (gv 1) (aa (gv 2) fNil))))) (fK "NoAnswer") xNil) (xSeq (xIf (fB (f1 tAny (fNew (aF [none,some 1] (fIt (fFld 0 "Asker" "rules")) (gNm 0) fYes gy)))) (fK "NoAnswer") xNil) xNo))))
def dU:List (Str×T)→List T→Option Str:=bH 2 "Asker" bI
def gH:FS :=
    (dG 0 "Asker" "rules" (f2 tAdd (fFld 0 "Asker" "rules") (fTup (aa (aH 0 "Asker" "to_be_answered" cF) fNil))))
def jG:Addr→List (Str×T)→List T→Option (List (Str×T)):=eK 0 "Asker" gH
theorem z5 {a:Addr}{fl fl':List (Str×T)}{r:Rho}(h:gH [some (.ob a "Asker" fl)]=some (.nx (some (.ob a "Asker" fl')::r))):jG a fl []=some fl':=oS (F:=gH) h
def cL:FX :=
    (xE (fun ρ=>((fFld 0 "Asker" "rules") ρ).bind fun _=>(gMY 0 "Asker" "to_be_answered" 0 bS fNil) ρ))
def jE:List (Str×T)→List T→Option Str:=bH 0 "Asker" cL
def gw:FW :=
    (wSeq (wSt (sSet 4 (fNew (fLst (aa (fIsx CS 3 "NoThing") (aa (fIsx CS 3 "NoText") (aa (fIsx CS 3 "NoRoom") fNil))))))) (jr (f2 tRep (kc (.str "answer")) (f1 gr (bB (fIsx CS 3 "MarkError") (bB (fIsv CS 3) (eB (f1 tAny (gv 4)))))))))
def gx:FW :=
    (wSeq (wSt (sSet 4 (fNew (fLst (aa (fIsx CS 3 "NoThing") (aa (fIsx CS 3 "NoText") (aa (fIsx CS 3 "NoAnswer") (aa (fIsx CS 3 "NoRoom") fNil)))))))) (jr (f2 tRep (kc (.str "question")) (f1 gr (bB (fIsx CS 3 "MarkError") (bB (fIsv CS 3) (eB (f1 tAny (gv 4)))))))))
def fY:FW :=
    (wSeq (wIf (fTru (gv 2)) (wRet (fun ρ=>((fNew (fLst (aa (kc (.str "told")) (aa (kc .non) fNil)))) ρ).bind fun _=>(gMY 0 "Asker" "yes" 0 jE fNil) ρ) (mIx (fNew (fLst (aa (kc (.str "told")) (aa (kc .non) fNil)))) (m1 gr (m1 tIsN (dz 0 "Asker" "yes" 0 jG fNil))))) wNil) (wRet (fun ρ=>((fNew (fLst (aa (kc (.str "told")) (aa (kc .non) fNil)))) ρ).bind fun _=>(gMY 0 "Asker" "no" 1 dU (aa (gv 1) fNil)) ρ) (mIx (fNew (fLst (aa (kc (.str "told")) (aa (kc .non) fNil)))) (m1 gr (m1 tIsN (dz 0 "Asker" "no" 1 ir (aa (gv 1) fNil)))))))
def c5:FW :=
    (wTry fY (hAsW CS "NoQuestion" 3 gx (hAsW CS "NoAnswer" 3 gw (fun _ _=>none))))
def bM:Addr→List (Str×T)→List T→Option (T×List (Str×T)):=runD 4 "Asker" c5
theorem jF {a:Addr}{fl fl':List (Str×T)}{r:Rho}{t:T}{a0 a1:T}(h:c5 [some (.ob a "Asker" fl),some (.pu a0),some (.pu a1),none,none]=some (.rt (some (.ob a "Asker" fl')::r) t)):bM a fl [a0,a1]=some (t,fl'):=Bs (F:=c5) h
def lG:FT :=
    (fOr (fB (f2 (tInn false) (gv 0) (f2 tIx (gv 1) (kc (.int 0))))) (fB (f2 (tInn false) (gv 0) (gv 2))))
def jx:FS :=
    (sSeq (sSet 7 (aq 2 eX (aa (gv 0) (aa (f2 tAdd (kc (.int 1)) (gv 6)) fNil))))
     (sSeq (sSet 8 (cT 3 fO (aa (gv 1) (aa (go 4) (aa (go 5) fNil)))))
     (sSeq (sIf (fB (f2 tNee (aH 2 "Asker" "question" cy) (gv 8)))
      (sRet (kc (.bl false)))
      sNil)
     (sSeq (sSet 9 (aq 2 fN (aa (f2 tFd (gv 7) (kc (.int 4))) (aa (gv 1) fNil))))
     (sSeq (sIf (fAnd (fB (f2 tGtI (f2 tMd (gv 7) (kc (.int 4))) (kc (.int 1)))) (fB (f1 jm (gv 8))))
      (sSet 9 (f1 aP (fNew (aF [none,some 8,some 9] (fRng (gv 1)) (gNm 0) lG (gv 0)))))
      sNil)
     (sSeq (sIf (fAnd (fB (f2 tEqq (f2 tMd (gv 7) (kc (.int 4))) (kc (.int 1)))) (fB (f2 tEqq (f2 tMd (f2 tFd (gv 7) (kc (.int 4))) (kc (.int 3))) (kc (.int 0)))))
      (sSet 9 (f2 tIx (fNew (fLst (aa (kc .non) (aa (fNew (fLst (aa (kc (.int 0)) fNil))) (aa (fTup (aa (gv 1) fNil)) (aa (fTup (aa (f1 tNeg (kc (.int 1))) fNil)) (aa (fTup (aa (kc (.int 0)) (aa (kc (.int 0)) fNil))) (aa (fTup (aa (kc (.bl true)) fNil)) (aa (kc (.str "0")) fNil))))))))) (f2 tMd (f2 tFd (gv 7) (kc (.int 12))) (kc (.int 7)))))
      sNil)
     (sSeq (sSet 10 (kc .non))
     (sSeq (sSet 11 (bB (f2 tEqq (f2 tMd (gv 7) (kc (.int 4))) (kc (.int 0))) (f2 tEqq (f2 tMd (f2 tFd (gv 7) (kc (.int 4))) (kc (.int 2))) (kc (.int 0)))))
     (sSeq (sIf (fB (f1 tIsN (gv 8)))
      (sSet 10 (kc (.str "question")))
      (sIf (fTru (gv 11))
       (sApp 5 (gv 8))
       (sIf (fB (cT 4 cN (aa (gv 9) (aa (gv 8) (aa (go 5) (aa (gv 1) fNil))))))
        (sApp 4 (gv 9))
        (sSet 10 (kc (.str "answer"))))))
     (sSeq (sIfM (mtOr (dB tNee (cV 2 "Asker" 2 bM (aa (gv 9) (aa (gv 11) fNil))) (gv 10)) (fB (f2 tNee (aH 2 "Asker" "known" cM) (fTup (aa (gv 1) (aa (f1 aP (go 4)) fNil))))))
      (sRet (kc (.bl false)))
      sNil)
     (sIf (fOr (fB (f2 tNee (aH 2 "Asker" "said" c8) (f1 aP (go 5)))) (fB (f2 tNee (aH 2 "Asker" "asked_so_far" c7) (f2 tAdd (f1 tLen (go 4)) (f1 tLen (go 5))))))
      (sRet (kc (.bl false)))
      sNil)))))))))))
def oz:FS :=
    (sRet (bB (f2 tEqq (aH 3 "Asker" "asked_so_far" c7) (kc (.int 0))) (f2 tEqq (aH 3 "Asker" "question" cy) (aq 3 fO (aa (gv 1) (aa (fNew (fLst fNil)) (aa (fNew (fLst fNil)) fNil)))))))
def ou:FS :=
    (sSeq (sIf (fOr (fB (f2 tNee (aH 3 "Asker" "said" c8) (fTup fNil))) (fB (f2 tNee (aH 3 "Asker" "known" cM) (fTup (aa (gv 1) (aa (fTup fNil) fNil))))))
     (sRet (kc (.bl false)))
     sNil)
    oz)
def lU:FS :=
    (sSeq (sFor (fRng (f2 tMin (kc (.int 30)) (f2 tAdd (kc (.int 2)) (f1 tLen (gv 0))))) (gNm 6)
     jx)
    ou)
def oq:FS :=
    (sSeq (sOwn 5 (fLst fNil))
    lU)
def om:FS :=
    (sSeq (sOwn 4 (fLst fNil))
    oq)
def oj:FS :=
    (gq 3 "Asker" 1 ig (aa (gv 1) fNil)
    om)
def oh:FS :=
    (gq 2 "Asker" 1 ig (aa (gv 1) fNil)
    oj)
def gZ:FS :=
    (sSeq (sSet 1 (f2 tAdd (kc (.int 1)) (f2 tMd (aq 2 eX (aa (gv 0) (aa (kc (.int 0)) fNil))) (kc (.int 5)))))
    oh)
def iC:List T→Option T:=run 12 gZ
theorem Ak {a0 t:T}(h:gZ [some (.pu a0),none,none,none,none,none,none,none,none,none,none,none]=some (.rt t)):iC [a0]=some t:=aX (F:=gZ) h
end
end G
namespace G
set_option maxHeartbeats 4000000
open PySem L2 TL
local macro_rules|`(tactic| walk_at "tl call")=>`(tactic| fail "no call")
local macro_rules|`(tactic| walk_at "tl op")=>`(tactic| first
 | with_reducible exact fG|with_reducible exact KU|with_reducible exact k8|with_reducible exact k7|with_reducible exact zu|with_reducible exact Kw|with_reducible exact Kv|with_reducible exact Ku|with_reducible exact KL|with_reducible exact uc|with_reducible exact nO|with_reducible exact jn|with_reducible exact KW|with_reducible exact KD|with_reducible exact KC|with_reducible exact zy|with_reducible exact dJ|with_reducible exact Kr|with_reducible exact Kq|with_reducible exact KQ|with_reducible exact zA|with_reducible exact Kn|with_reducible exact t9
 | with_reducible refine KH (by omega) (by omega)|with_reducible refine KI (by omega) (by omega)|with_reducible refine fH (by omega)|with_reducible refine kZ (by omega) (by omega)
 | with_reducible apply Kz|with_reducible apply dM|with_reducible apply zv|with_reducible apply cY|with_reducible apply cu|with_reducible apply ua|with_reducible apply KA|with_reducible apply KO|with_reducible apply ud|with_reducible apply t8|with_reducible apply Km|with_reducible apply KJ|with_reducible apply KS)
local macro_rules|`(tactic| walk_at "tl E")=>`(tactic| first
 | ((with_reducible apply b_gv);exact rfl)|((with_reducible apply b_go);exact rfl)|with_reducible exact b_kc|with_reducible apply b_f2|with_reducible apply b_f1|with_reducible apply aK|with_reducible apply bF|with_reducible apply bA|with_reducible apply cR|with_reducible apply Bo|with_reducible apply iN|with_reducible apply b_if|with_reducible apply j7|with_reducible apply Bc|with_reducible assumption|walk_at "tl op"|walk_at "tl call")
local macro_rules|`(tactic| walk_at "tl T")=>`(tactic| first|with_reducible exact BF|with_reducible exact K3|with_reducible exact zG|with_reducible exact cZ|with_reducible apply b_B|with_reducible apply aW|with_reducible apply f7|with_reducible apply b_or|with_reducible apply cG|with_reducible assumption)
local macro_rules|`(tactic| walk_at "tl A")=>`(tactic| first|with_reducible exact ai|with_reducible exact EG|with_reducible exact EE|with_reducible apply ah|with_reducible apply d7|with_reducible apply oR|with_reducible apply Br|with_reducible apply b_it|with_reducible apply Be|with_reducible apply Bj|with_reducible apply BA|with_reducible apply Bx|with_reducible apply Bp|with_reducible apply cA|with_reducible assumption)
local macro_rules|`(tactic| walk_at "tl S")=>`(tactic| first|with_reducible exact kh|with_reducible apply aA|with_reducible apply aZ|with_reducible apply aQ|with_reducible apply cS|with_reducible apply Bu|with_reducible apply ff|with_reducible apply bw|with_reducible apply aC|with_reducible apply bN|with_reducible apply Bg|with_reducible apply oQ|with_reducible apply Bd|with_reducible apply gb|with_reducible apply ki|with_reducible apply vz|((with_reducible apply oN);exact rfl)|((with_reducible apply Bf);exact rfl)|((with_reducible apply Bq);exact rfl)|with_reducible assumption|walk_at "tl loop")
local macro_rules|`(tactic| walk_at "tl loop")=>`(tactic| fail "no loop")
local macro_rules|`(tactic| walk_at "tl1")=>`(tactic| first
 | ((with_reducible show(_:Option T)=_);walk_at "tl E")
 | ((with_reducible show(_:Option Bool)=_);walk_at "tl T")
 | ((with_reducible show(_:Option Out)=_);walk_at "tl S")
 | ((with_reducible show(_:Option (List T))=_);walk_at "tl A")
 | ((with_reducible show(_:Option (List Nat))=_);first|with_reducible apply Bv|with_reducible apply Bw|with_reducible assumption)
 | ((repeat (with_reducible apply aV));with_reducible exact aN)
 | ((with_reducible show(_:Option (Option Int))=_);first|with_reducible exact b_oN|with_reducible apply b_oS)
 | with_reducible exact Kc|with_reducible apply J7|((with_reducible apply J8);exact rfl)
 | with_reducible exact Fw|with_reducible apply Ft
 | ((with_reducible show dep _≤60);with_reducible assumption)
 | with_reducible rfl|((with_reducible show T.bl _=T.bl _);rfl)
 | ((with_reducible show(_:Int)≤_);omega)|((with_reducible show(_:Int)<_);omega)
 | ((with_reducible show List.length _≤sizeLine);first|with_reducible assumption|(refine ay ?_;first|omega|(simp<;>omega)))|((with_reducible show List.length _<sizeLine);refine tK ?_;first|omega|(simp<;>omega))
 | ((with_reducible show _+_≤sizeLine);refine ay ?_;first|omega|(simp<;>omega))
 | ((with_reducible show(_=true)→_);first|((with_reducible first|refine vacB ?_|refine vacT ?_|refine vacE ?_|refine vacO ?_);(intro htl;simp at htl<;>omega))|intro htl)|((with_reducible show(_=false)→_);first|((with_reducible first|refine vacB ?_|refine vacT ?_|refine vacE ?_|refine vacO ?_);(intro htl;simp at htl<;>omega))|intro htl)
 | walk_at "tl call")
local macro_rules|`(tactic| walk_at "tl")=>`(tactic| ((repeat' walk_at "tl1");all_goals (try exact true)))
abbrev scr (ns:List Int):T:=.lst (ns.map T.int)
theorem BN (ns:List Int) (k:Int)(hk:0≤k):jH [scr ns,.int k]=some (.int (ns.getD k.toNat 0)):=by
 refine z7 ?_
 unfold gJ
 by_cases h:k.toNat<ns.length
 ·have h2:=oM (xs:=ns.map T.int) (i:=k) (x:=T.int (ns.getD k.toNat 0)) (by omega) (by simp [h])
  walk_at "tl"
 ·walk_at "tl"
  simp [h]
local macro_rules|`(tactic| walk_at "tl call")=>`(tactic| with_reducible refine BN _ _ (by omega))
def mx (ns:List Int) (k:Int):Int :=
 ((ns.getD k.toNat 0+7919 * k+1) * 48271 % 2147483647 * ((ns.getD k.toNat 0+7919 * k+1) * 48271 % 2147483647)+7 * ((ns.getD k.toNat 0+7919 * k+1) * 48271 % 2147483647)+k) % 2147483629
theorem sf (ns:List Int) (k:Int)(hk:0≤k):eX [scr ns,.int k]=some (.int (mx ns k)):=by
 refine Ac ?_
 unfold gQ
 walk_at "tl"
 rfl
theorem x8 (ns:List Int) (k:Int):0≤mx ns k:=Int.emod_nonneg _ (by decide)
theorem F6 (ns:List Int) (k:Int):mx ns k<2147483629:=Int.emod_lt_of_pos _ (by decide)
local macro_rules|`(tactic| walk_at "tl call")=>`(tactic| with_reducible refine sf _ _ (by omega))
def dr (n k:Int):Int :=
 ((n+104729 * k+17) * 69621 % 2147483647 * ((n+104729 * k+17) * 69621 % 2147483647)+3 * ((n+104729 * k+17) * 69621 % 2147483647)+k) % 2147483629
theorem Cv (n k:Int):jI [.int n,.int k]=some (.int (dr n k)):=by
 refine z9 ?_
 unfold gM
 walk_at "tl"
 rfl
local macro_rules|`(tactic| walk_at "tl call")=>`(tactic| with_reducible exact Cv _ _)
abbrev tN (i:Nat):T:=T.int (i:Int)
abbrev tupN (ms:List Nat):T:=.tup (ms.map tN)
theorem kP (n:Nat):rangeT 0 n=(List.range n).map tN:=by
 unfold rangeT;simp
theorem d9 {g:FG}{c:FT}{e:FE}{ρ:Rho}(p:Nat→Bool)(ms:List Nat)(h:∀ j,j∈ms→∃ ρ1,g (tN j) ρ=some ρ1∧c ρ1=some (p j)∧(p j=true→e ρ1=some (tN j))) :
  aG g c e ρ (ms.map tN)=some ((ms.filter p).map tN):=by
 induction ms with
 | nil=>rfl
 | cons a r ih =>
   have ih:=ih fun j hj=>h j (List.mem_cons_of_mem _ hj)
   obtain⟨ρ1,h1,h2,h3⟩:=h a List.mem_cons_self
   rw[List.map_cons]
   unfold aG
   rw[h1]
   dsimp only
   rw[h2]
   cases hp:p a with
   | false =>
     dsimp only
     rw[ih,List.filter_cons_of_neg (by rw[hp];exact Bool.false_ne_true)]
   | true =>
     dsimp only
     rw[h3 hp,ih,List.filter_cons_of_pos hp]
     rfl
def mk (n:Int) (m:Nat):List Nat:=(List.range m).filter fun j=>dr n (j:Int) % (2+n % 3)==0
theorem xU (n m:Int)(h0:0≤m)(hm:m≤1000):fN [.int n,.int m]=some (tupN (mk n m.toNat)):=by
 have key:aG (gNm 0) lC (gv 0) [none,some (Sl.pu (T.int n)),some (Sl.pu (T.int (2+n % 3)))] (rangeT 0 m.toNat)=some ((mk n m.toNat).map tN):=by
  rw[kP]
  refine d9 _ _ fun j hj=>⟨_,bq aN,?_,fun _=>rfl⟩
  unfold lC
  apply ev_eq
  walk_at "tl"
  simp
 refine Ab ?_
 unfold gP
 walk_at "tl"
local macro_rules|`(tactic| walk_at "tl call")=>`(tactic| with_reducible refine xU _ _ (by omega) (by omega))
structure Mks (m:Nat)(ms:List Nat):Prop where
 lt:∀ j∈ms,j<m
 up:ms.Pairwise (·<·)
theorem Mks.filter {m:Nat}(p:Nat→Bool):Mks m ((List.range m).filter p):=⟨fun j hj=>List.mem_range.mp (List.mem_filter.mp hj).1,(List.pairwise_lt_range).filter _⟩
theorem FY (n:Int) (m:Nat):Mks m (mk n m):=.filter _
theorem Mks.len {m:Nat}{ms:List Nat}(h:Mks m ms):ms.length≤m:=by
 have:=h.up
 have key:∀(l:List Nat) (k:Nat),l.Pairwise (·<·)→(∀ j∈l,k≤j∧j<m)→k≤m→l.length+k≤m:=by
  intro l
  induction l with
  | nil=>intro k _ _ h;simpa using h
  | cons a r ih =>
    intro k hp hb hk
    rw[List.pairwise_cons] at hp
    have ha:=hb a List.mem_cons_self
    have:=ih (a+1) hp.2 (fun j hj=>⟨hp.1 j hj,(hb j (List.mem_cons_of_mem _ hj)).2⟩) ha.2
    simp only[List.length_cons];omega
 simpa using key ms 0 h.up (fun j hj=>⟨Nat.zero_le _,h.lt j hj⟩) (Nat.zero_le _)
theorem eE (ms:List Nat) (j:Nat):((ms.map tN).any fun y=>teq y (tN j))=ms.contains j:=by
 rw[List.any_map]
 induction ms with
 | nil=>rfl
 | cons a r ih =>
   simp only[List.any_cons,Function.comp,jo,List.contains_cons] at ih ⊢
   rw[ih]
   congr 1
   rw[Bool.eq_iff_iff]
   simp
   omega
theorem qm (ms:List Nat):∀ y∈ms.map tN,dep y≤60:=by
 intro y hy
 obtain⟨j,_,rfl⟩:=List.mem_map.mp hy
 rw[dg];decide
local macro_rules|`(tactic| walk_at "tl call")=>`(tactic| with_reducible exact qm _)
def sub (a b:List Nat):Bool:=a.all fun j=>b.contains j
theorem bL {a b:List Nat}:sub a b=true↔∀ j∈a,j∈b:=by simp [sub]
theorem wg {g:FG}{c:FT}{e:FE}{ρ:Rho}{α:Type}(k:α→T)(p:α→Bool)(as:List α)(h:∀ a∈as,∃ ρ1,g (k a) ρ=some ρ1∧c ρ1=some true∧e ρ1=some (.bl (p a))) :
  aG g c e ρ (as.map k)=some (as.map fun a=>T.bl (p a)):=by
 induction as with
 | nil=>rfl
 | cons a r ih =>
   have ih:=ih fun j hj=>h j (List.mem_cons_of_mem _ hj)
   obtain⟨ρ1,h1,h2,h3⟩:=h a List.mem_cons_self
   rw[List.map_cons]
   unfold aG
   rw[h1]
   dsimp only
   rw[h2]
   dsimp only
   rw[h3,ih]
   rfl
theorem kD {g:FG}{c:FT}{e:FE}{ρ:Rho}{α:Type}(k k':α→T)(p:α→Bool)(as:List α)(h:∀ a∈as,∃ ρ1,g (k a) ρ=some ρ1∧c ρ1=some (p a)∧(p a=true→e ρ1=some (k' a))) :
  aG g c e ρ (as.map k)=some ((as.filter p).map k'):=by
 induction as with
 | nil=>rfl
 | cons a r ih =>
   have ih:=ih fun j hj=>h j (List.mem_cons_of_mem _ hj)
   obtain⟨ρ1,h1,h2,h3⟩:=h a List.mem_cons_self
   rw[List.map_cons]
   unfold aG
   rw[h1]
   dsimp only
   rw[h2]
   cases hp:p a with
   | false =>
     dsimp only
     rw[ih,List.filter_cons_of_neg (by rw[hp];exact Bool.false_ne_true)]
   | true =>
     dsimp only
     rw[h3 hp,ih,List.filter_cons_of_pos hp]
     rfl
theorem oB (a b:List Nat)(ha:a.length≤1000):c9 [tupN a,tupN b]=some (.bl (sub a b)):=by
 have key:aG (gNm 0) fYes lP [none,some (Sl.pu (tupN b))] (a.map tN)=some (a.map fun j=>T.bl (b.contains j)):=by
  refine wg tN _ _ fun j hj=>⟨_,bq aN,rfl,?_⟩
  unfold lP
  apply ev_eq
  walk_at "tl"
  rw[eE]
 refine Af ?_
 unfold gT
 walk_at "tl"
local macro_rules|`(tactic| walk_at "tl call")=>`(tactic| with_reducible refine oB _ _ (by first|assumption|omega))
abbrev tbl (m:Nat)(rows:List (List Nat)):T:=.tup [tN m,.tup (rows.map tupN)]
def row (rows:List (List Nat)) (i:Nat):List Nat:=rows.getD i []
theorem yW {rows:List (List Nat)}{i:Nat}(h:i<rows.length):rows[i]?=some (row rows i):=by simp [row,h]
theorem Iw {rows:List (List Nat)}{i:Nat}(h:i<rows.length):row rows i∈rows:=List.mem_of_getElem? (yW h)
theorem Iv {rows:List (List Nat)}{i:Nat}(h:i<rows.length):atI (rows.map tupN) (i:Int)=some (tupN (row rows i)) :=
 oM (by omega) (by rw[Int.toNat_natCast,List.getElem?_map,yW h];rfl)
def hav (rows:List (List Nat)) (ms:List Nat):List Nat:=(List.range rows.length).filter fun i=>sub ms (row rows i)
theorem w6 {rows:List (List Nat)}{ms:List Nat}{i:Nat}(h:i∈hav rows ms):i<rows.length:=List.mem_range.mp (List.mem_filter.mp h).1
theorem enum_rows (rows:List (List Nat)):cg (rows.map tupN)=(List.range rows.length).map fun i=>T.tup [tN i,tupN (row rows i)]:=by
 unfold cg
 rw[List.length_map]
 refine List.map_congr_left fun i hi=>?_
 have:=List.mem_range.mp hi
 simp [row,this]
theorem j5 {a b:T}:atI [a,b] (0:Int)=some a:=rfl
theorem iL {a b:T}:atI [a,b] (1:Int)=some b:=rfl
local macro_rules|`(tactic| walk_at "tl call")=>`(tactic| with_reducible exact j5)
local macro_rules|`(tactic| walk_at "tl call")=>`(tactic| with_reducible exact iL)
theorem Eh (m:Nat)(rows:List (List Nat)) (ms:List Nat)(hr:rows.length≤1000)(hm:ms.length≤1000):jJ [tbl m rows,tupN ms]=some (tupN (hav rows ms)):=by
 have key:aG (gTp2 0 1) lF (gv 0) [none,none,some (Sl.pu (tupN ms))] (cg (rows.map tupN))=some ((hav rows ms).map tN):=by
  rw[enum_rows]
  refine kD (fun i=>T.tup [tN i,tupN (row rows i)]) tN (fun i=>sub ms (row rows i)) (List.range rows.length) fun i hi=>?_
  refine⟨_,vn aN (aV aN),?_,fun _=>rfl⟩
  unfold lF
  walk_at "tl"
 have e:(cg (rows.map tupN)).length≤sizeLine:=by rw[enum_rows,List.length_map,List.length_range];exact ay (by omega)
 refine Ai ?_
 unfold gX
 walk_at "tl"
local macro_rules|`(tactic| walk_at "tl call")=>`(tactic| with_reducible refine Eh _ _ _ (by assumption) (by first|assumption|omega))
def shr (m:Nat)(rows:List (List Nat)) (ts:List Nat):List Nat:=(List.range m).filter fun j=>ts.all fun i=>(row rows i).contains j
theorem JL (m:Nat)(rows:List (List Nat)) (ts:List Nat)(hm:m≤1000)(ht:ts.length≤1000)(hi:∀ i∈ts,i<rows.length):jM [tbl m rows,tupN ts]=some (tupN (shr m rows ts)):=by
 have key1:aG (gNm 0) fYes jC [none,some (Sl.pu (tbl m rows))] (ts.map tN)=some (ts.map fun i=>tupN (row rows i)):=by
  have:=kD (g:=gNm 0) (c:=fYes) (e:=jC) (ρ:=[none,some (Sl.pu (tbl m rows))]) tN (fun i=>tupN (row rows i)) (fun _=>true) ts fun i h=>by
   refine⟨_,bq aN,rfl,fun _=>?_⟩
   have:=Iv (hi i h)
   unfold jC
   walk_at "tl"
  rw[List.filter_eq_self.mpr (fun _ _=>rfl)] at this
  exact this
 have key2:∀ j,aG (gNm 0) fYes lQ [none,some (Sl.pu (tN j))] (ts.map fun i=>tupN (row rows i))=some (ts.map fun i=>T.bl ((row rows i).contains j)):=fun j=>by
  refine wg (fun i=>tupN (row rows i)) _ _ fun i h=>⟨_,bq aN,rfl,?_⟩
  unfold lQ
  apply ev_eq
  walk_at "tl"
  rw[eE]
 have key3:aG (gNm 0) lH (gv 0) [none,some (Sl.pu (T.lst (ts.map fun i=>tupN (row rows i))))] (rangeT 0 (m:Int).toNat)=some ((shr m rows ts).map tN):=by
  rw[Int.toNat_natCast,kP]
  refine d9 _ _ fun j hj=>⟨_,bq aN,?_,fun _=>rfl⟩
  have key2:=key2 j
  unfold lH
  walk_at "tl"
 refine An ?_
 unfold g9
 walk_at "tl"
local macro_rules|`(tactic| walk_at "tl call")=>`(tactic| with_reducible refine JL _ _ _ (by assumption) (by first|assumption|omega) (by assumption))
def cls (m:Nat)(rows:List (List Nat)) (ms:List Nat):List Nat:=shr m rows (hav rows ms)
theorem Eg (rows:List (List Nat)) (ms:List Nat):(hav rows ms).length≤rows.length:=by
 unfold hav
 have:=List.length_filter_le (fun i=>sub ms (row rows i)) (List.range rows.length)
 simpa using this
theorem we (m:Nat)(rows:List (List Nat)) (ms:List Nat)(hm:m≤1000)(hr:rows.length≤1000)(hs:ms.length≤1000):iz [tbl m rows,tupN ms]=some (tupN (cls m rows ms)):=by
 have h1:=Eg rows ms
 have h2:∀ i∈hav rows ms,i<rows.length:=fun i hi=>w6 hi
 refine Ag ?_
 unfold gU
 walk_at "tl"
 rfl
local macro_rules|`(tactic| walk_at "tl call")=>`(tactic| with_reducible refine we _ _ _ (by assumption) (by assumption) (by first|assumption|omega))
theorem xX {m:Nat}{rows:List (List Nat)}{ms:List Nat}{j:Nat}:j∈cls m rows ms↔j<m∧∀ r∈rows,(∀ x∈ms,x∈r)→j∈r:=by
 unfold cls shr
 rw[List.mem_filter,List.mem_range,List.all_eq_true]
 refine and_congr_right fun _=>⟨fun h r hr hs=>?_,fun h i hi=>?_⟩
 ·obtain⟨i,hi,e⟩:=List.getElem_of_mem hr
  have e':row rows i=r:=by simp [row,hi,e]
  have:=h i (List.mem_filter.mpr ⟨List.mem_range.mpr hi,by rw[e'];exact bL.mpr hs⟩)
  rw[e'] at this
  simpa using this
 ·have hi':=List.mem_filter.mp hi
  have:=h (row rows i) (Iw (w6 hi)) (bL.mp hi'.2)
  simpa using this
theorem kC (m:Nat)(rows:List (List Nat)) (ms:List Nat):Mks m (cls m rows ms):=.filter _
theorem BV {m:Nat}{rows:List (List Nat)}{ms:List Nat}(h:Mks m ms):∀ j∈ms,j∈cls m rows ms:=fun j hj=>xX.mpr ⟨h.lt j hj,fun r _ hs=>hs j hj⟩
theorem Mks.ext {m:Nat}{a b:List Nat}(ha:Mks m a)(hb:Mks m b)(h:∀ x,x∈a↔x∈b):a=b:=eL ha.up hb.up h
theorem wC {ts:List T}{d:Nat}(h:∀ t∈ts,dep t≤d):depL ts≤d:=by
 induction ts with
 | nil=>simp [depL]
 | cons a r ih =>
   have h1:=h a List.mem_cons_self
   have h2:=ih fun t ht=>h t (List.mem_cons_of_mem _ ht)
   simp only[depL]
   omega
theorem iU {ts:List T}{d:Nat}(h:∀ t∈ts,dep t≤d):dep (.tup ts)≤d+1:=by
 have:=wC h
 simp only[dep];omega
theorem wD {ts:List T}{d:Nat}(h:∀ t∈ts,dep t≤d):dep (.lst ts)≤d+1:=by
 have:=wC h
 simp only[dep];omega
theorem mq (j:Nat):dep (tN j)≤0:=by rw[dg];exact Nat.le_refl _
theorem qp (ms:List Nat):dep (tupN ms)≤1:=iU fun t ht=>by
 obtain⟨j,_,rfl⟩:=List.mem_map.mp ht
 exact mq j
theorem Cm (ms:List Nat):dep (.lst (ms.map tN))≤1:=wD fun t ht=>by
 obtain⟨j,_,rfl⟩:=List.mem_map.mp ht
 exact mq j
theorem fj (ms:List Nat):dep (tupN ms)≤60:=Nat.le_trans (qp ms) (by decide)
theorem ql (ms:List Nat):dep (.lst (ms.map tN))≤60:=Nat.le_trans (Cm ms) (by decide)
local macro_rules|`(tactic| walk_at "tl call")=>`(tactic| with_reducible exact ql _)
local macro_rules|`(tactic| walk_at "tl call")=>`(tactic| with_reducible exact fj _)
theorem fJ (a b:List Nat):teq (tupN a) (tupN b)=decide (a=b):=by
 have:∀ a b:List Nat,teqL (a.map tN) (b.map tN)=decide (a=b):=by
  intro a
  induction a with
  | nil=>intro b;cases b<;>simp [teqL]
  | cons x r ih =>
    intro b
    cases b with
    | nil=>simp [teqL]
    | cons y s =>
      simp only[List.map_cons,teqL,jo,ih]
      rw[Bool.eq_iff_iff]
      simp
      omega
 rw[← this];rfl
theorem any_map {α:Type} [DecidableEq α] {k:α→T}(hk:∀ a b,teq (k a) (k b)=decide (a=b)) (xs:List α)(x:α):((xs.map k).any fun y=>teq y (k x))=decide (x∈xs):=by
 rw[List.any_map,Bool.eq_iff_iff,List.any_eq_true]
 simp only[Function.comp,hk,decide_eq_true_eq]
 exact⟨fun⟨y,h1,h2⟩=>h2▸h1,fun h=>⟨x,h,rfl⟩⟩
abbrev tP (p:Nat×Nat):T:=.tup [tN p.1,tN p.2]
theorem Co (p:Nat×Nat):dep (tP p)≤1:=iU fun t ht=>by
 simp only[List.mem_cons,List.not_mem_nil,or_false] at ht
 rcases ht with rfl|rfl<;>exact mq _
theorem Cn (ps:List (Nat×Nat)):∀ y∈ps.map tP,dep y≤60:=by
 intro y hy
 obtain⟨p,_,rfl⟩:=List.mem_map.mp hy
 exact Nat.le_trans (Co p) (by decide)
local macro_rules|`(tactic| walk_at "tl call")=>`(tactic| with_reducible exact Cn _)
theorem nQ (ms:List T):teq (.lst ms) (.lst [])=ms.isEmpty:=by
 cases ms<;>simp [teq,teqL]
theorem qq (a b:List Nat):((a.filter fun j=>!b.contains j).map tN).isEmpty=sub a b:=by
 rw[Bool.eq_iff_iff,bL]
 simp
theorem BZ {g:FG}{c:FT}{e:FE}{ρ:Rho}{α:Type}(k:α→T)(p:α→Bool)(as:List α)(h:∀ a∈as,∃ ρ1,g (k a) ρ=some ρ1∧c ρ1=some (p a)∧(p a=true→e ρ1=some (k a))) :
  aG g c e ρ (as.map k)=some ((as.filter p).map k):=kD k k p as h
theorem iS {g:FG}{e:FE}{ρ:Rho}{α:Type}(k k':α→T)(as:List α)(h:∀ a∈as,∃ ρ1,g (k a) ρ=some ρ1∧e ρ1=some (k' a)) :
  aG g fYes e ρ (as.map k)=some (as.map k'):=by
 have:=kD (g:=g) (c:=fYes) (e:=e) (ρ:=ρ) k k' (fun _=>true) as fun a ha=>let ⟨r,h1,h2⟩:=h a ha;⟨r,h1,rfl,fun _=>h2⟩
 rw[List.filter_eq_self.mpr (fun _ _=>rfl)] at this
 exact this
theorem fC {g:FG}{b:FS}{t:T}{ts:List T}{ρ ρ1 ρ2:Rho}{o:Option Out}(h1:g t ρ=some ρ1)(h2:b ρ1=some (.nx ρ2)) (h3:aI g b ts ρ2=o):aI g b (t::ts) ρ=o:=by
 unfold aI
 rw[h1]
 dsimp only
 rw[h2]
 exact h3
theorem A4 {α:Type} [DecidableEq α] {k:α→T}(hk:∀ a b,teq (k a) (k b)=decide (a=b)) {xs:List α}{x:α}(h:x∈xs):((xs.map k).any fun y=>teq y (k x))=true:=by
 rw[any_map hk];exact decide_eq_true h
theorem gh (a b:List Nat)(ha:a.length≤1000):bU [tupN a,tupN b]=some (.bl (sub a b)):=by
 have key:aG (gNm 0) lA (gv 0) [none,some (Sl.pu (tupN b))] (a.map tN)=some ((a.filter fun j=>!b.contains j).map tN):=by
  refine d9 _ _ fun j hj=>⟨_,bq aN,?_,fun _=>rfl⟩
  unfold lA
  apply ev_eq
  walk_at "tl"
  rw[eE]
 refine z6 ?_
 unfold gI
 walk_at "tl"
 rw[nQ,qq]
local macro_rules|`(tactic| walk_at "tl call")=>`(tactic| with_reducible refine gh _ _ (by first|assumption|omega))
theorem Fi (t:T)(ms fs:List Nat)(r:List Nat)(hs:ms.length≤1000)(hf:fs.length≤1000) :
  ju [some (.pu t),some (.pu (tupN ms)),some (.pu (.lst (fs.map tN))),some (.pu (tupN r))] =
   some (.nx [some (.pu t),some (.pu (tupN ms)),some (.pu (.lst ((if sub ms r=true then fs.filter fun j=>r.contains j else fs).map tN))),some (.pu (tupN r))]):=by
 have key:aG (gNm 0) lB (gv 0) [none,some (Sl.pu (tupN r))] (ms.map tN)=some ((ms.filter fun j=>!r.contains j).map tN):=by
  refine d9 _ _ fun j hj=>⟨_,bq aN,?_,fun _=>rfl⟩
  unfold lB
  apply ev_eq
  walk_at "tl"
  rw[eE]
 have key2:aG (gNm 0) lJ (gv 0) [none,some (Sl.pu (tupN r))] (fs.map tN)=some ((fs.filter fun j=>r.contains j).map tN):=by
  refine d9 _ _ fun j hj=>⟨_,bq aN,?_,fun _=>rfl⟩
  unfold lJ
  apply ev_eq
  walk_at "tl"
  rw[eE]
 unfold ju
 cases h:sub ms r with
 | true =>
   have e:teq (.lst ((ms.filter fun j=>!r.contains j).map tN)) (.lst [])=true:=by rw[nQ,qq,h]
   have e2:tEqq (.lst ((ms.filter fun j=>!r.contains j).map tN)) (.lst [])=some (.bl true):=by rw[cY (ql _),e]
   rw[if_pos rfl]
   walk_at "tl"
 | false =>
   have e:teq (.lst ((ms.filter fun j=>!r.contains j).map tN)) (.lst [])=false:=by rw[nQ,qq,h]
   have e2:tEqq (.lst ((ms.filter fun j=>!r.contains j).map tN)) (.lst [])=some (.bl false):=by rw[cY (ql _),e]
   rw[if_neg Bool.false_ne_true]
   walk_at "tl"
def lcl (ms:List Nat):List (List Nat)→List Nat→List Nat
 | [],fs=>fs
 | r::rs,fs=>lcl ms rs (if sub ms r=true then fs.filter fun j=>r.contains j else fs)
theorem xG (ms:List Nat):∀(rs:List (List Nat)) (fs:List Nat) (j:Nat),j∈lcl ms rs fs↔j∈fs∧∀ r∈rs,(∀ x∈ms,x∈r)→j∈r
 | [],fs,j=>by simp [lcl]
 | r::rs,fs,j=>by
   unfold lcl
   rw[xG ms rs]
   cases h:sub ms r with
   | true =>
     have h':=bL.mp h
     simp only[if_true,List.mem_filter,List.contains_iff_mem,List.mem_cons,forall_eq_or_imp]
     exact⟨fun⟨⟨a,b⟩,c⟩=>⟨a,fun _=>b,c⟩,fun⟨a,b,c⟩=>⟨⟨a,b h'⟩,c⟩⟩
   | false =>
     have h':¬ ∀ x∈ms,x∈r:=fun z=>by rw[bL.mpr z] at h;cases h
     simp only[Bool.false_eq_true,if_false,List.mem_cons,forall_eq_or_imp]
     exact⟨fun⟨a,c⟩=>⟨a,fun z=>absurd z h',c⟩,fun⟨a,_,c⟩=>⟨a,c⟩⟩
theorem xH (ms:List Nat):∀(rs:List (List Nat)) (fs:List Nat),fs.Pairwise (·<·)→(lcl ms rs fs).Pairwise (·<·)
 | [],fs,h=>h
 | r::rs,fs,h=>by
   unfold lcl
   refine xH ms rs _ ?_
   split
   ·exact h.filter _
   ·exact h
theorem Fq (m:Nat)(rows:List (List Nat)) (ms:List Nat):lcl ms rows (List.range m)=cls m rows ms:=by
 refine eL (xH _ _ _ List.pairwise_lt_range) (kC _ _ _).up fun j=>?_
 rw[xG,xX,List.mem_range]
theorem xD (t:T)(ms:List Nat)(hs:ms.length≤1000):∀(rs:List (List Nat)) (fs:List Nat)(o:Option Sl),fs.length≤1000→∃ o',aI (gNm 3) ju (rs.map tupN) [some (.pu t),some (.pu (tupN ms)),some (.pu (.lst (fs.map tN))),o]=some (.nx [some (.pu t),some (.pu (tupN ms)),some (.pu (.lst ((lcl ms rs fs).map tN))),o'])
 | [],fs,o,_=>⟨o,rfl⟩
 | r::rs,fs,o,hf=>by
   have hf':(if sub ms r=true then fs.filter fun j=>r.contains j else fs).length≤1000:=by
    split
    ·exact Nat.le_trans (List.length_filter_le _ _) hf
    ·exact hf
   obtain⟨o',ih⟩:=xD t ms hs rs _ (some (.pu (tupN r))) hf'
   refine⟨o',?_⟩
   rw[List.map_cons]
   have e:gNm 3 (tupN r) [some (.pu t),some (.pu (tupN ms)),some (.pu (.lst (fs.map tN))),o]=some [some (.pu t),some (.pu (tupN ms)),some (.pu (.lst (fs.map tN))),some (.pu (tupN r))]:=rfl
   unfold aI
   rw[e]
   dsimp only
   rw[Fi t ms fs r hs hf]
   exact ih
theorem xC (m:Nat)(rows:List (List Nat)) (ms:List Nat)(hm:m≤1000)(hs:ms.length≤1000):iu [tbl m rows,tupN ms]=some (tupN (cls m rows ms)):=by
 obtain⟨o',hl⟩:=xD (tbl m rows) ms hs rows (List.range m) none (by simpa using hm)
 have er:(List.range m).map tN=rangeT 0 (m:Int).toNat:=by rw[Int.toNat_natCast,kP]
 rw[Fq,er] at hl
 refine z8 ?_
 unfold gK
 walk_at "tl"
local macro_rules|`(tactic| walk_at "tl call")=>`(tactic| with_reducible refine xC _ _ _ (by assumption) (by first|assumption|omega))
def nxt (ms:List Nat):Nat:=match ms.getLast? with|some l=>l+1|none=>0
def ones (m:Nat)(ms:List Nat):List (List Nat):=(List.range (m - nxt ms)).map fun k=>ms++[nxt ms+k]
def more (m:Nat)(lv:List (List Nat)):List (List Nat):=lv.flatMap (ones m)
def lvs (m:Nat):Nat→List (List Nat)
 | 0=>[[]]
 | j+1=>more m (lvs m j)
def allM (m:Nat):List (List Nat):=(List.range (m+1)).flatMap (lvs m)
theorem FD:∀ m∈List.range 7,lvs m (m+1)=[]:=by decide +kernel
theorem FF:∀ m∈List.range 7,∀ j∈List.range (m+1),(lvs m j).isEmpty=false∧(lvs m j).length≤64∧(more m (lvs m j)).length≤64∧∀ ms∈lvs m j,ms.length≤6∧nxt ms≤6:=by decide +kernel
theorem uY:∀ m∈List.range 7,(allM m).length≤64:=by decide +kernel
theorem AS:∀ m∈List.range 7,∀ ms∈allM m,ms∈aO∧(ms.all fun j=>decide (j<m))=true:=by decide +kernel
theorem AR:∀ m∈List.range 7,∀ ms∈aO,(ms.all fun j=>decide (j<m))=true→ms∈allM m:=by decide +kernel
theorem Dg (m:Nat):∀ j,j≤m+1→((List.range j).flatMap (lvs m)).length≤(allM m).length:=by
 intro j hj
 unfold allM
 have:List.range (m+1)=List.range j++(List.range (m+1 - j)).map (j+·):=by
  rw[← List.range_add];congr 1;omega
 rw[this,List.flatMap_append,List.length_append]
 omega
theorem F0 {m:Nat}{ms:List Nat}(h:Mks m ms)(hm:m≤6):ms∈aO:=by
 have hl:∀ k∈ms,k<6:=fun k hk=>by have:=h.lt k hk;omega
 obtain⟨h1,h2⟩:=fy ms jl hl
 have:aM [] ms=ms:=eL (fF _ h1) h.up fun x=>by rw[h2];simp
 rw[this] at h1;exact h1
theorem gi {m:Nat}(hm:m≤6){ms:List Nat}:ms∈allM m↔Mks m ms:=by
 have hm7:m∈List.range 7:=List.mem_range.mpr (by omega)
 constructor
 ·intro h
  obtain⟨h1,h2⟩:=AS m hm7 ms h
  exact⟨fun j hj=>by simpa using List.all_eq_true.mp h2 j hj,fF _ h1⟩
 ·intro h
  exact AR m hm7 ms (F0 h hm) (List.all_eq_true.mpr fun j hj=>decide_eq_true (h.lt j hj))
theorem Ff {ms:List Nat}{l:Nat}(h:ms.getLast?=some l):atI (ms.map tN) (-1)=some (tN l):=by
 obtain⟨r,rfl⟩:∃ r,ms=r++[l]:=List.getLast?_eq_some_iff.mp h
 have e:ixN ((r++[l]).map tN).length (-1)=some r.length:=by
  unfold ixN
  rw[if_neg (by decide),List.length_map,List.length_append]
  rw[if_pos (by simp;omega)]
  congr 1
  simp
  omega
 unfold atI
 rw[e]
 simp
theorem GQ (t:T) (m:Nat)(ms:List Nat)(rs:List T)(o4:Option Sl)(hm:m≤1000)(hs:ms.length≤1000)(hn:nxt ms≤1000)(hr:rs.length+(ones m ms).length≤100000) :
  ∃ o4',jy [some (.pu t),some (.pu (tN m)),some (.ow rs),some (.pu (tupN ms)),o4]=some (.nx [some (.pu t),some (.pu (tN m)),some (.ow (rs++(ones m ms).map tupN)),some (.pu (tupN ms)),o4']):=by
 have key:aG (gNm 0) fYes jB [none,some (Sl.pu (tupN ms))] (rangeT (nxt ms:Int) ((m:Int) - (nxt ms:Int)).toNat)=some ((ones m ms).map tupN):=by
  have e:rangeT (nxt ms:Int) ((m:Int) - (nxt ms:Int)).toNat=(List.range (m - nxt ms)).map fun(k:Nat)=>tN (nxt ms+k):=by
   unfold rangeT
   rw[show((m:Int) - (nxt ms:Int)).toNat=m - nxt ms by omega]
   refine List.map_congr_left fun k _=>?_
   show T.int _=T.int _
   congr 1
  rw[e]
  have:=kD (g:=gNm 0) (c:=fYes) (e:=jB) (ρ:=[none,some (Sl.pu (tupN ms))]) (fun(k:Nat)=>tN (nxt ms+k)) (fun k=>tupN (ms++[nxt ms+k])) (fun _=>true) (List.range (m - nxt ms)) fun k _=>by
   refine⟨_,bq aN,rfl,fun _=>?_⟩
   unfold jB
   apply ev_eq
   walk_at "tl"
   show T.tup _=T.tup _
   rw[List.map_append];rfl
  rw[List.filter_eq_self.mpr (fun _ _=>rfl)] at this
  rw[this]
  unfold ones
  rw[List.map_map];rfl
 have hl2:(rangeT (nxt ms:Int) ((m:Int) - (nxt ms:Int)).toNat).length≤sizeLine:=by
  unfold rangeT;rw[List.length_map,List.length_range];exact ay (by omega)
 have hl3:rs.length+((ones m ms).map tupN).length≤sizeLine:=by rw[List.length_map];exact ay (by omega)
 have e4:fIf (fTru (gv 3)) (f2 tAdd (f2 tIx (gv 3) (f1 tNeg (kc (.int 1)))) (kc (.int 1))) (kc (.int 0)) [some (.pu t),some (.pu (tN m)),some (.ow rs),some (.pu (tupN ms)),o4]=some (.int (nxt ms:Int)):=by
  cases hl:ms.getLast? with
  | none =>
    have e0:ms=[]:=by simpa using hl
    subst e0
    rfl
  | some l =>
    have en:nxt ms=l+1:=by unfold nxt;rw[hl]
    have hne:(ms.map tN).isEmpty=false:=by
     cases ms with
     | nil=>simp at hl
     | cons=>rfl
    have la:=Ff hl
    apply ev_eq
    walk_at "tl"
    rw[hne,en]
    show T.int _=T.int _
    congr 1
 refine⟨some (.pu (.int (nxt ms:Int))),?_⟩
 unfold jy
 refine aC (aA e4 (aV (aV (aV (aV aN))))) ?_
 walk_at "tl"
theorem yk (t:T) (m:Nat)(hm:m≤1000):∀(lv:List (List Nat)) (rs:List T)(o3 o4:Option Sl),(∀ ms∈lv,ms.length≤1000∧nxt ms≤1000)→rs.length+(more m lv).length≤100000 →
  ∃ o3' o4',aI (gNm 3) jy (lv.map tupN) [some (.pu t),some (.pu (tN m)),some (.ow rs),o3,o4]=some (.nx [some (.pu t),some (.pu (tN m)),some (.ow (rs++(more m lv).map tupN)),o3',o4'])
 | [],rs,o3,o4,_,_=>⟨o3,o4,by simp [more,aI]⟩
 | ms::lv,rs,o3,o4,h,hr=>by
   have em:more m (ms::lv)=ones m ms++more m lv:=by simp [more]
   rw[em,List.length_append] at hr
   have h1:=h ms List.mem_cons_self
   obtain⟨o4',ht⟩:=GQ t m ms rs o4 hm h1.1 h1.2 (by omega)
   obtain⟨o3'',o4'',ih⟩:=yk t m hm lv (rs++(ones m ms).map tupN) (some (.pu (tupN ms))) o4' (fun a ha=>h a (List.mem_cons_of_mem _ ha)) (by rw[List.length_append,List.length_map];omega)
   refine⟨o3'',o4'',?_⟩
   rw[List.map_cons]
   have e:gNm 3 (tupN ms) [some (.pu t),some (.pu (tN m)),some (.ow rs),o3,o4]=some [some (.pu t),some (.pu (tN m)),some (.ow rs),some (.pu (tupN ms)),o4]:=rfl
   unfold aI
   rw[e]
   dsimp only
   rw[ht]
   dsimp only
   rw[ih,em,List.map_append,List.append_assoc]
theorem GP (m:Nat)(lv:List (List Nat)) (hm:m≤1000)(hl:lv.length≤1000)(h:∀ ms∈lv,ms.length≤1000∧nxt ms≤1000)(hr:(more m lv).length≤100000):jL [.lst (lv.map tupN),tN m]=some (.lst ((more m lv).map tupN)):=by
 obtain⟨o3,o4,hlp⟩:=yk (.lst (lv.map tupN)) m hm lv [] none none h (by simpa using hr)
 rw[List.nil_append] at hlp
 refine Al ?_
 unfold g7
 walk_at "tl"
theorem uZ (m:Nat)(hm:m≤6):iw [tN m]=some (.tup ((allM m).map tupN)):=by
 have hm7:m∈List.range 7:=List.mem_range.mpr (by omega)
 have hal:=uY m hm7
 obtain⟨ρ',hw,hD⟩:=xO (c:=lE) (b:=lu)
  (fun k ρ=>∃ j,j≤m+1∧k=m+1 - j∧ρ=[some (.pu (tN m)),some (.ow (((List.range j).flatMap (lvs m)).map tupN)),some (.pu (.lst ((lvs m j).map tupN)))])
  (fun ρ=>ρ=[some (.pu (tN m)),some (.ow ((allM m).map tupN)),some (.pu (.lst []))])
  (by
   rintro k ρ ⟨j,hj,rfl,rfl⟩
   by_cases he:j=m+1
   ·subst he
    have e:=FD m hm7
    rw[e]
    exact .inl ⟨rfl,rfl⟩
   ·have f:=FF m hm7 j (List.mem_range.mpr (by omega))
    have hne:((lvs m j).map tupN).isEmpty=false:=by
     have:=f.1
     cases q:lvs m j with
     | nil=>rw[q] at this;cases this
     | cons=>rfl
    have fl:=Dg m j hj
    have ho:=GP m (lvs m j) (by omega) (by omega) (fun ms h=>⟨by have:=(f.2.2.2 ms h).1;omega,by have:=(f.2.2.2 ms h).2;omega⟩) (by omega)
    refine .inr ⟨?_,_,m+1 - (j+1),?_,by omega,j+1,by omega,rfl,rfl⟩
    ·unfold lE
     refine cG (t:=.lst ((lvs m j).map tupN)) rfl ?_
     rw[zG,hne];rfl
    ·have e1:((List.range (j+1)).flatMap (lvs m)).map tupN=((List.range j).flatMap (lvs m)).map tupN++(lvs m j).map tupN:=by
      rw[List.range_succ,List.flatMap_append,List.map_append];simp
     have hlen:(((List.range j).flatMap (lvs m)).map tupN).length+((lvs m j).map tupN).length≤sizeLine:=by
      rw[List.length_map,List.length_map];exact ay (by omega)
     rw[e1]
     unfold lu
     walk_at "tl"
     all_goals first|exact hlen|rfl) (m+1) 100000 [some (.pu (tN m)),some (.ow []),some (.pu (.lst [.tup []]))] (by omega) ⟨0,by omega,rfl,rfl⟩
 subst hD
 refine Ae ?_
 unfold gS
 walk_at "tl"
local macro_rules|`(tactic| walk_at "tl call")=>`(tactic| with_reducible refine uZ _ (by first|assumption|omega))
theorem wL:∀ m∈List.range 7,(SR.every m).length≤64∧∀ r∈SR.every m,r.length≤6:=by decide +kernel
theorem CH:∀ m∈[1,2,3,4,5,6],tO (SR.prsL m)=some ((allM m).map fun r=>(r.length,r)):=by decide +kernel
theorem CI (t:T) (i:Nat)(L:List (List Nat)) (hL:L.length≤1000)(hr:∀ r∈L,r.length≤1000) :
  jv [some (.pu t),some (.pu (.lst (L.map tupN))),some (.pu (tN i))]=some (.nx [some (.pu t),some (.pu (.lst ((L++L.map (·++[i])).map tupN))),some (.pu (tN i))]):=by
 have key:aG (gNm 0) fYes lO [none,some (Sl.pu (tN i))] (L.map tupN)=some (L.map fun r=>tupN (r++[i])):=by
  refine iS tupN (fun r=>tupN (r++[i])) L fun r h=>⟨_,bq aN,?_⟩
  have:=hr r h
  unfold lO
  apply ev_eq
  walk_at "tl"
  show T.tup _=T.tup _
  rw[List.map_append];rfl
 have l1:(L.map tupN).length≤sizeLine:=by rw[List.length_map];exact ay (by omega)
 have l2:(L.map tupN).length+(L.map fun r=>tupN (r++[i])).length≤sizeLine:=by rw[List.length_map,List.length_map];exact ay (by omega)
 unfold jv
 refine aA (t:=T.lst ((L.map tupN)++(L.map fun r=>tupN (r++[i])))) ?_ ?_
 ·walk_at "tl"
 ·rw[List.map_append,List.map_map];rfl
theorem qu (m:Nat)(h0:1≤m)(hm:m≤6):dW [tN m]=some (.lst ((allM m).map tupN)):=by
 have hm7:m∈List.range 7:=List.mem_range.mpr (by omega)
 obtain⟨f1,f2⟩:=wL m hm7
 have hl:∃ ρ2,aI (gNm 2) jv (rangeT 0 (m:Int).toNat) [some (.pu (tN m)),some (.pu (.lst ([[]].map tupN))),none]=some (.nx ρ2)∧∃ o,ρ2=[some (.pu (tN m)),some (.pu (.lst ((SR.every m).map tupN))),o]:=by
  rw[Int.toNat_natCast]
  refine xN (fun i ρ=>∃ o,ρ=[some (.pu (tN m)),some (.pu (.lst ((SR.every i).map tupN))),o]) m _ (fun i ρ hi ⟨o,e⟩=>?_) ⟨none,rfl⟩
  subst e
  obtain⟨g1,g2⟩:=wL i (List.mem_range.mpr (by omega))
  exact⟨_,_,bq (aV (aV aN)),CI (tN m) i (SR.every i) (by omega) (fun r hr=>by have:=g2 r hr;omega),some (.pu (tN i)),rfl⟩
 obtain⟨_,hl,o,rfl⟩:=hl
 have key2:aG (gNm 0) fYes jD [none] ((SR.every m).map tupN)=some ((SR.prsL m).map toP):=by
  have:(SR.prsL m).map toP=(SR.every m).map fun r=>T.tup [tN r.length,tupN r]:=by
   unfold SR.prsL
   rw[List.map_map];rfl
  rw[this]
  refine iS tupN (fun r=>T.tup [tN r.length,tupN r]) _ fun r h=>⟨_,bq aN,?_⟩
  unfold jD
  apply ev_eq
  walk_at "tl"
  show T.tup [T.int _,_]=T.tup [T.int _,_]
  rw[List.length_map]
 have l1:((SR.every m).map tupN).length≤sizeLine:=by rw[List.length_map];exact ay (by omega)
 have e9:gg (fNew (aF [none] (fIt (gv 1)) (gNm 0) fYes jD)) [some (.pu (tN m)),some (.pu (.lst ((SR.every m).map tupN))),o]=some (((allM m).map fun r=>(r.length,r)).map toP):=by
  refine By ?_ (CH m (by rcases(by omega:m=1∨m=2∨m=3∨m=4∨m=5∨m=6) with h|h|h|h|h|h<;>subst h<;>decide))
  walk_at "tl"
 have key3:aG (gTp2 0 1) fYes (gv 1) [none,none] (((allM m).map fun r=>(r.length,r)).map toP)=some ((allM m).map tupN):=by
  rw[List.map_map]
  refine iS (g:=gTp2 0 1) (e:=gv 1) (ρ:=[none,none]) (fun r=>toP (r.length,r)) tupN (allM m) fun r h=>⟨[some (.pu (tN r.length)),some (.pu (tupN r))],rfl,rfl⟩
 have l3:(((allM m).map fun r=>(r.length,r)).map toP).length≤sizeLine:=by
  rw[List.length_map,List.length_map]
  have:=uY m hm7
  exact ay (by omega)
 refine Aa ?_
 unfold gO
 have e0:(fNew (fLst (aa (fTup fNil) fNil))) [some (.pu (tN m)),none,none]=some (.lst ([[]].map tupN)):=by
  show _=some (T.lst [T.tup []])
  walk_at "tl"
 refine aC (aA e0 (aV aN)) ?_
 walk_at "tl"
local macro_rules|`(tactic| walk_at "tl call")=>`(tactic| with_reducible refine qu _ (by assumption) (by assumption))
def uni (a b:List Nat):List Nat:=aM (aM [] a) (aM [] b)
theorem Eo (a b:List Nat)(ha:∀ k∈a,k<6)(hb:∀ k∈b,k<6):jK [tupN a,tupN b]=some (tupN (uni a b)):=by
 have n1:cC (a.map tN)=some a:=sC ha
 have n2:cC (b.map tN)=some b:=sC hb
 refine Aj ?_
 unfold gY
 walk_at "tl"
 rfl
theorem uB {m:Nat}{a b:List Nat}(hm:m≤6)(ha:Mks m a)(hb:Mks m b):Mks m (uni a b)∧∀ x,x∈uni a b↔x∈a∨x∈b:=by
 have h1:∀ k∈a,k<6:=fun k hk=>by have:=ha.lt k hk;omega
 have h2:∀ k∈b,k<6:=fun k hk=>by have:=hb.lt k hk;omega
 obtain⟨a1,a2⟩:=fy a jl h1
 obtain⟨b1,b2⟩:=fy b jl h2
 obtain⟨c1,c2⟩:=fy (aM [] b) a1 fun k hk=>h2 k (by have:=(b2 k).mp hk;simpa using this)
 have key:∀ x,x∈uni a b↔x∈a∨x∈b:=fun x=>by
  unfold uni
  rw[c2,a2,b2];simp
 exact⟨⟨fun j hj=>((key j).mp hj).elim (ha.lt j) (hb.lt j),fF _ c1⟩,key⟩
abbrev Rl:Type:=List Nat×List Nat
abbrev tR (r:Rl):T:=.tup [tupN r.1,tupN r.2]
abbrev tRs (rs:List Rl):T:=.tup (rs.map tR)
structure Ru (m:Nat)(r:Rl):Prop where
 a:Mks m r.1
 b:Mks m r.2
def stp (ms:List Nat)(r:Rl):List Nat:=if sub r.1 ms then uni ms r.2 else ms
def one (rs:List Rl)(ms:List Nat):List Nat:=rs.foldl stp ms
theorem nL {m:Nat}(hm:m≤6){ms:List Nat}{r:Rl}(h:Mks m ms)(hr:Ru m r):Mks m (stp ms r)∧∀ j∈ms,j∈stp ms r:=by
 unfold stp
 split
 ·have:=uB hm h hr.b
  exact⟨this.1,fun j hj=>(this.2 j).mpr (.inl hj)⟩
 ·exact⟨h,fun j hj=>hj⟩
theorem sJ {m:Nat}(hm:m≤6):∀{rs:List Rl}{ms:List Nat},Mks m ms→(∀ r∈rs,Ru m r)→Mks m (one rs ms)∧∀ j∈ms,j∈one rs ms
 | [],ms,h,_=>⟨h,fun j hj=>hj⟩
 | r::rs,ms,h,hr=>by
   obtain⟨h1,h2⟩:=nL hm h (hr r List.mem_cons_self)
   obtain⟨h3,h4⟩:=sJ hm h1 fun q hq=>hr q (List.mem_cons_of_mem _ hq)
   exact⟨h3,fun j hj=>h4 j (h2 j hj)⟩
def Cld (rs:List Rl)(d:List Nat):Prop:=∀ r∈rs,(∀ j∈r.1,j∈d)→∀ j∈r.2,j∈d
def cldB (rs:List Rl)(d:List Nat):Bool:=rs.all fun r=>!sub r.1 d||sub r.2 d
theorem wc {rs:List Rl}{d:List Nat}:cldB rs d=true↔Cld rs d:=by
 unfold cldB Cld
 rw[List.all_eq_true]
 refine forall_congr' fun r=>forall_congr' fun _=>?_
 rw[← bL,← bL]
 cases sub r.1 d<;>cases sub r.2 d<;>simp
theorem one_le {m:Nat}(hm:m≤6){d:List Nat}:∀{rs:List Rl}{ms:List Nat},Mks m ms→(∀ r∈rs,Ru m r)→Cld rs d→(∀ j∈ms,j∈d)→∀ j∈one rs ms,j∈d
 | [],ms,_,_,_,h=>h
 | r::rs,ms,hk,hr,hc,h=>by
   have h1:=hr r List.mem_cons_self
   obtain⟨h2,_⟩:=nL hm hk h1
   refine one_le (rs:=rs) hm h2 (fun q hq=>hr q (List.mem_cons_of_mem _ hq)) (fun q hq=>hc q (List.mem_cons_of_mem _ hq)) ?_
   unfold stp
   split
   ·rename_i hs
    intro j hj
    rcases((uB hm hk h1.b).2 j).mp hj with q|q
    ·exact h j q
    ·exact hc r List.mem_cons_self (fun x hx=>h x (bL.mp hs x hx)) j q
   ·exact h
theorem yj {m:Nat}(hm:m≤6):∀{rs:List Rl}{ms:List Nat},Mks m ms→(∀ r∈rs,Ru m r)→one rs ms=ms→Cld rs ms
 | [],ms,_,_,_=>fun r hr=>nomatch hr
 | r::rs,ms,hk,hr,e=>by
   have h1:=hr r List.mem_cons_self
   obtain⟨h2,h3⟩:=nL hm hk h1
   have h4:=sJ hm h2 fun q hq=>hr q (List.mem_cons_of_mem _ hq)
   have e1:one rs (stp ms r)=ms:=e
   have e2:stp ms r=ms:=eL h2.up hk.up fun x=>⟨fun hx=>e1▸h4.2 x hx,h3 x⟩
   rw[e2] at e1
   have ih:=yj hm hk (fun q hq=>hr q (List.mem_cons_of_mem _ hq)) e1
   intro q hq hs
   rcases List.mem_cons.mp hq with rfl|hq
   ·intro j hj
    unfold stp at e2
    rw[if_pos (bL.mpr hs)] at e2
    rw[← e2]
    exact((uB hm hk h1.b).2 j).mpr (.inr hj)
   ·exact ih q hq hs
def clR (m:Nat)(rs:List Rl)(ms:List Nat):List Nat:=(List.range m).filter fun j=>(allM m).all fun d=>!(sub ms d&&cldB rs d)||d.contains j
theorem m5 {m:Nat}(hm:m≤6){rs:List Rl}{ms:List Nat}{j:Nat}:j∈clR m rs ms↔j<m∧∀ d,Mks m d→(∀ x∈ms,x∈d)→Cld rs d→j∈d:=by
 unfold clR
 rw[List.mem_filter,List.mem_range,List.all_eq_true]
 refine and_congr_right fun _=>⟨fun h d hd hs hc=>?_,fun h d hd=>?_⟩
 ·have:=h d ((gi hm).mpr hd)
  rw[bL.mpr hs,wc.mpr hc] at this
  simpa using this
 ·cases h1:sub ms d<;>cases h2:cldB rs d<;>simp
  exact h d ((gi hm).mp hd) (bL.mp h1) (wc.mp h2)
theorem BP (m:Nat)(rs:List Rl)(ms:List Nat):Mks m (clR m rs ms):=.filter _
theorem v9 {m:Nat}(hm:m≤6){rs:List Rl}{ms:List Nat}(h:Mks m ms):∀ j∈ms,j∈clR m rs ms:=fun j hj=>(m5 hm).mpr ⟨h.lt j hj,fun d _ hs _=>hs j hj⟩
theorem BO {m:Nat}(hm:m≤6){rs:List Rl}{ms d:List Nat}(hd:Mks m d)(hs:∀ x∈ms,x∈d)(hc:Cld rs d):∀ j∈clR m rs ms,j∈d:=fun j hj=>((m5 hm).mp hj).2 d hd hs hc
theorem v7 {m:Nat}(hm:m≤6){rs:List Rl}(hr:∀ r∈rs,Ru m r)(ms:List Nat):Cld rs (clR m rs ms):=fun r hm1 hs j hj =>
 (m5 hm).mpr ⟨(hr r hm1).b.lt j hj,fun d hd h1 h2=>h2 r hm1 (fun x hx=>((m5 hm).mp (hs x hx)).2 d hd h1 h2) j hj⟩
theorem v8 {m:Nat}(hm:m≤6){rs:List Rl}{ms d:List Nat}(hk:Mks m ms)(hd:Mks m d)(hs:∀ x∈ms,x∈d)(hc:Cld rs d)(hl:∀ j∈d,j∈clR m rs ms):d=clR m rs ms :=
 eL hd.up (BP m rs ms).up fun x=>⟨hl x,BO hm hd hs hc x⟩
theorem yo {m:Nat}(hm:m≤6)(t:T):∀(rs:List Rl)(ms:List Nat)(o2 o3:Option Sl),Mks m ms→(∀ r∈rs,Ru m r) →
  ∃ o2' o3',aI (gTp2 2 3) jz (rs.map tR) [some (.pu t),some (.pu (tupN ms)),o2,o3]=some (.nx [some (.pu t),some (.pu (tupN (one rs ms))),o2',o3'])
 | [],ms,o2,o3,_,_=>⟨o2,o3,rfl⟩
 | r::rs,ms,o2,o3,hk,hr=>by
   have h1:=hr r List.mem_cons_self
   obtain⟨h2,_⟩:=nL hm hk h1
   have l1:=h1.a.len
   have l2:r.1.length≤1000:=by omega
   have l3:=Eo ms r.2 (fun k hx=>by have:=hk.lt k hx;omega) (fun k hx=>by have:=h1.b.lt k hx;omega)
   have ht:jz [some (.pu t),some (.pu (tupN ms)),some (.pu (tupN r.1)),some (.pu (tupN r.2))]=some (.nx [some (.pu t),some (.pu (tupN (stp ms r))),some (.pu (tupN r.1)),some (.pu (tupN r.2))]):=by
    unfold jz stp
    cases hs:sub r.1 ms with
    | true =>
      rw[if_pos rfl]
      walk_at "tl"
      rename_i q;rw[hs] at q;cases q
    | false =>
      rw[if_neg (by decide)]
      walk_at "tl"
      rename_i q;rw[hs] at q;cases q
   obtain⟨o2',o3',ih⟩:=yo hm t rs (stp ms r) (some (.pu (tupN r.1))) (some (.pu (tupN r.2))) h2 fun q hq=>hr q (List.mem_cons_of_mem _ hq)
   exact⟨o2',o3',fC (vn (aV (aV aN)) (aV (aV (aV aN)))) ht ih⟩
theorem ym {m:Nat}(hm:m≤6)(rs:List Rl)(ms:List Nat)(hk:Mks m ms)(hr:∀ r∈rs,Ru m r):iD [tRs rs,tupN ms]=some (tupN (one rs ms)):=by
 obtain⟨o2,o3,h⟩:=yo hm (tRs rs) rs ms none none hk hr
 refine Am ?_
 unfold g8
 walk_at "tl"
theorem wu {α:Type}{p q:α→Bool}:∀{l:List α},(∀ x∈l,q x=true→p x=true)→(∃ x∈l,p x=true∧q x=false)→l.countP q<l.countP p
 | [],_,⟨x,hx,_⟩=>nomatch hx
 | a::l,h,⟨x,hx,h1,h2⟩=>by
   have hle:l.countP q≤l.countP p:=List.countP_mono_left fun x hx=>h x (List.mem_cons_of_mem _ hx)
   have ha:=h a List.mem_cons_self
   rw[List.countP_cons,List.countP_cons]
   rcases List.mem_cons.mp hx with rfl|hx
   ·rw[h1,h2]
    simp
    omega
   ·have ih:=wu (l:=l) (fun x hx=>h x (List.mem_cons_of_mem _ hx)) ⟨x,hx,h1,h2⟩
    cases hq:q a with
    | true=>rw[ha hq];simp;exact ih
    | false=>cases p a<;>simp<;>omega
def mis (m:Nat)(c:List Nat):Nat:=(List.range m).countP fun j=>!c.contains j
theorem FU {m:Nat}{a b:List Nat}(ha:Mks m a)(hb:Mks m b)(h:∀ j∈a,j∈b)(hne:b≠a):mis m b<mis m a:=by
 unfold mis
 refine wu (fun x _ hx=>?_) ?_
 ·simp at hx ⊢
  exact fun q=>hx (h x q)
 ·by_cases hx:∀ x∈b,x∈a
  ·exact absurd (eL hb.up ha.up fun x=>⟨hx x,h x⟩) hne
  ·simp only[Classical.not_forall] at hx
   obtain⟨x,h1,h2⟩:=hx
   exact⟨x,List.mem_range.mpr (hb.lt x h1),by simpa using h2,by simpa using h1⟩
theorem FQ (m:Nat)(c:List Nat):mis m c≤m:=by
 unfold mis
 have:=List.countP_le_length (p:=fun j=>!c.contains j) (l:=List.range m)
 rwa [List.length_range] at this
theorem F8 (a b:List Nat):tNee (tupN a) (tupN b)=some (.bl (!decide (a=b))):=by
 rw[cu (fj a),fJ]
theorem BR {m:Nat}(hm:m≤6)(rs:List Rl)(ms:List Nat)(hk:Mks m ms)(hr:∀ r∈rs,Ru m r):iA [tRs rs,tupN ms]=some (tupN (clR m rs ms)):=by
 have hl:∃ ρ',dw jA lz 100000 [some (.pu (tRs rs)),some (.pu (tupN ms)),some (.pu (tupN (one rs ms)))]=some (.nx ρ')∧ρ'=[some (.pu (tRs rs)),some (.pu (tupN (clR m rs ms))),some (.pu (tupN (clR m rs ms)))]:=by
  refine xO (fun k ρ=>∃ c,Mks m c∧(∀ j∈ms,j∈c)∧(∀ j∈c,j∈clR m rs ms)∧k=mis m c∧ρ=[some (.pu (tRs rs)),some (.pu (tupN c)),some (.pu (tupN (one rs c)))]) _ (fun k ρ ⟨c,h1,h2,h3,h4,e⟩=>?_) (mis m ms) 100000 _ (by have:=FQ m ms;omega) ⟨ms,hk,fun j hj=>hj,v9 hm hk,rfl,rfl⟩
  subst e
  obtain⟨o1,o2⟩:=sJ hm h1 hr
  have n1:=F8 (one rs c) c
  by_cases he:one rs c=c
  ·left
   have hc:=yj hm h1 hr he
   have:=v8 hm hk h1 h2 hc h3
   subst this
   refine⟨?_,by rw[he]⟩
   unfold jA
   apply ev_eq
   walk_at "tl"
   simp [he]
  ·right
   refine⟨?_,_,mis m (one rs c),?_,?_,one rs c,o1,fun j hj=>o2 j (h2 j hj),one_le hm h1 hr (v7 hm hr ms) h3,rfl,rfl⟩
   ·unfold jA
    apply ev_eq
    walk_at "tl"
    simp [he]
   ·have:=ym hm rs (one rs c) o1 hr
    unfold lz
    walk_at "tl"
   ·rw[h4];exact FU h1 o1 o2 he
 obtain⟨_,hl,rfl⟩:=hl
 have h0:=ym hm rs ms hk hr
 refine Ah ?_
 unfold gW
 refine aC (ρ':=[some (.pu (tRs rs)),some (.pu (tupN ms)),some (.pu (tupN (one rs ms)))]) (by walk_at "tl") ?_
 refine aC (vz hl) ?_
 walk_at "tl"
structure Clo (m:Nat)(C:List Nat→List Nat):Prop where
 ok:∀ ms,Mks m (C ms)
 has:∀{ms},Mks m ms→∀ j∈ms,j∈C ms
 mono:∀{a b:List Nat},(∀ j∈a,j∈b)→∀ j∈C a,j∈C b
 idem:∀{ms},Mks m ms→C (C ms)=C ms
def wo (a b:List Nat):List Nat:=a.filter fun j=>!b.contains j
theorem Lv {m:Nat}{a:List Nat}(h:Mks m a)(b:List Nat):Mks m (wo a b):=⟨fun j hj=>h.lt j (List.mem_filter.mp hj).1,h.up.filter _⟩
theorem Lw {a b d:List Nat}(h:∀ j∈b,j∈d):(∀ j∈wo a b,j∈d)↔∀ j∈a,j∈d:=by
 constructor
 ·intro q j hj
  by_cases hb:j∈b
  ·exact h j hb
  ·exact q j (List.mem_filter.mpr ⟨hj,by simpa using hb⟩)
 ·intro q j hj
  exact q j (List.mem_filter.mp hj).1
def rl1 (C:List Nat→List Nat)(p:List Nat):Rl:=(p,wo (C p) p)
section
variable {m:Nat}{C:List Nat→List Nat}
theorem BQ (hm:m≤6){rs:List Rl}(hr:∀ r∈rs,Ru m r){d:List Nat}(hd:Mks m d):clR m rs d=d↔Cld rs d:=by
 constructor
 ·intro e
  have:=v7 hm hr d
  rw[e] at this;exact this
 ·intro hc
  exact(v8 hm hd hd (fun x hx=>hx) hc (v9 hm hd)).symm
end
section
variable {m:Nat}{C:List Nat→List Nat}
end
theorem Lu (a b:List Nat)(ha:a.length≤1000):jN [tupN a,tupN b]=some (tupN (wo a b)):=by
 have key:aG (gNm 0) lI (gv 0) [none,some (Sl.pu (tupN b))] (a.map tN)=some ((wo a b).map tN):=by
  refine d9 _ _ fun j hj=>⟨_,bq aN,?_,fun _=>rfl⟩
  unfold lI
  apply ev_eq
  walk_at "tl"
  rw[eE]
 refine Aq ?_
 unfold ie
 walk_at "tl"
theorem Ba {f:FE}{G:Rho→Option Str}{c:Str}{t:T}{ρ:Rho}(h1:f ρ=some t)(h2:G ρ=some c):(fun ρ=>(f ρ).bind fun _=>G ρ) ρ=some c:=by
 show(f ρ).bind _=_
 rw[h1];exact h2
def ask (m:Nat)(K:List (List Nat)) (S:List Rl):List (Str×T):=[("many",tN m),("table",tbl m K),("rules",tRs S)]
theorem j3 {m:Nat}{K:List (List Nat)}{S:List Rl}:(ask m K S).lookup ("many":Str)=some (tN m):=rfl
theorem lY {m:Nat}{K:List (List Nat)}{S:List Rl}:(ask m K S).lookup ("table":Str)=some (tbl m K):=rfl
theorem fc {m:Nat}{K:List (List Nat)}{S:List Rl}:(ask m K S).lookup ("rules":Str)=some (tRs S):=rfl
theorem j4 {m:Nat}{K:List (List Nat)}{S:List Rl}:((ask m K S).lookup ("question":Str)).isNone=true:=rfl
theorem fZ {m:Nat}{K:List (List Nat)}{S:List Rl}:((ask m K S).lookup ("to_be_answered":Str)).isNone=true:=rfl
theorem oJ {m:Nat}{K:List (List Nat)}{S:List Rl}:((ask m K S).lookup ("yes":Str)).isNone=true:=rfl
theorem lX {m:Nat}{K:List (List Nat)}{S:List Rl}:((ask m K S).lookup ("no":Str)).isNone=true:=rfl
theorem vd {m:Nat}{K:List (List Nat)}{S:List Rl}:((ask m K S).lookup ("known":Str)).isNone=true:=rfl
theorem vf {m:Nat}{K:List (List Nat)}{S:List Rl}:((ask m K S).lookup ("said":Str)).isNone=true:=rfl
theorem vc {m:Nat}{K:List (List Nat)}{S:List Rl}:((ask m K S).lookup ("asked_so_far":Str)).isNone=true:=rfl
theorem ve {m:Nat}{K:List (List Nat)}{S:List Rl}:(ask m K S).length<1000:=by simp [ask]
theorem Ig {m:Nat}{K K':List (List Nat)}{S:List Rl}:putT ("table":Str) (tbl m K') (ask m K S)=ask m K' S:=rfl
theorem Ie {m:Nat}{K:List (List Nat)}{S S':List Rl}:putT ("rules":Str) (tRs S') (ask m K S)=ask m K S':=rfl
theorem Ia {t:T}:putT ("many":Str) t []=[(("many":Str),t)]:=rfl
theorem Ib {t u:T}:putT ("table":Str) u [(("many":Str),t)]=[(("many":Str),t),(("table":Str),u)]:=rfl
theorem Ic {t u w:T}:putT ("rules":Str) w [(("many":Str),t),(("table":Str),u)]=[(("many":Str),t),(("table":Str),u),(("rules":Str),w)]:=rfl
theorem xg (a:Addr) (m:Nat):ig a [] [tN m]=some (ask m [] []):=by
 refine zV (r:=[some (.pu (tN m))]) ?_
 unfold gA
 refine aC (kg aD (by simp) (b_gv (w4 aD)) (by simp only[Ia];rfl)) (aC (kg aD (by simp) (bF (ah (b_gv (w4 aD)) (ah (bF ai (ay (by simp))) ai)) (ay (by simp))) (by simp only[Ib];rfl)) ?_)
 exact kg aD (by simp) (bF ai (ay (by simp))) (by simp only[Ic];rfl)
def isQ (m:Nat)(K:List (List Nat)) (S:List Rl)(p:List Nat):Bool:=!decide (cls m K p=p)&&decide (clR m S p=p)
def qOf (m:Nat)(K:List (List Nat)) (p:List Nat):T:=tR (rl1 (cls m K) p)
def qst (m:Nat)(K:List (List Nat)) (S:List Rl):T:=match (allM m).find? (isQ m K S) with
 | some p=>qOf m K p
 | none=>.non
section
variable {m:Nat}{K:List (List Nat)}{S:List Rl}
theorem yK (hm:m≤6)(hK:K.length≤1000)(hS:∀ r∈S,Ru m r):∀(L:List (List Nat)) (o1 o2:Option Sl),(∀ p∈L,Mks m p) →
  match L.find? (isQ m K S) with
  | some p=>aI (gNm 1) dO (L.map tupN) [some (.ro "Asker" (ask m K S)),o1,o2]=some (.rt (qOf m K p))
  | none=>∃ o1' o2',aI (gNm 1) dO (L.map tupN) [some (.ro "Asker" (ask m K S)),o1,o2]=some (.nx [some (.ro "Asker" (ask m K S)),o1',o2'])
 | [],o1,o2,_=>⟨o1,o2,rfl⟩
 | p::L,o1,o2,h=>by
   have hp:=h p List.mem_cons_self
   have lp:=hp.len
   have lc:=(kC m K p).len
   have e1:∀ o2,aq 2 iz (aa (fFld 0 "Asker" "table") (aa (gv 1) fNil)) [some (.ro "Asker" (ask m K S)),some (.pu (tupN p)),o2]=some (tupN (cls m K p)):=fun o2 =>
    aK (ah (bJ (bu aD) lY) (ah (b_gv rfl) ai)) rfl (we m K p (by omega) hK (by omega))
   have e2:fAnd (fB (f2 tNee (gv 2) (gv 1))) (fB (f2 tEqq (aq 2 iA (aa (fFld 0 "Asker" "rules") (aa (gv 1) fNil))) (gv 1))) [some (.ro "Asker" (ask m K S)),some (.pu (tupN p)),some (.pu (tupN (cls m K p)))]=some (isQ m K S p):=by
    refine ev_eq (f7 (b_B (b_f2 (b_gv rfl) (b_gv rfl) (cu (fj _)))) fun _=>b_B (b_f2 (aK (ah (bJ (bu aD) fc) (ah (b_gv rfl) ai)) rfl (BR hm S p hp hS)) (b_gv rfl) (cY (fj _)))) ?_
    rw[fJ,fJ];rfl
   rw[List.find?_cons]
   cases hq:isQ m K S p with
   | true =>
     rw[hq] at e2
     show aI (gNm 1) dO (tupN p::L.map tupN) _=_
     unfold aI
     rw[show gNm 1 (tupN p) [some (.ro "Asker" (ask m K S)),o1,o2]=some [some (.ro "Asker" (ask m K S)),some (.pu (tupN p)),o2] from rfl]
     dsimp only
     have eb:dO [some (.ro "Asker" (ask m K S)),some (.pu (tupN p)),o2]=some (.rt (qOf m K p)):=by
      unfold dO
      refine aC (aA (e1 o2) rfl) (bN e2 (fun _=>?_) fun z=>by cases z)
      exact aZ (bF (ah (b_gv rfl) (ah (aK (ah (b_gv rfl) (ah (b_gv rfl) ai)) rfl (Lu _ _ (by omega))) ai)) (ay (by simp))) rfl
     rw[eb]
   | false =>
     rw[hq] at e2
     have eb:dO [some (.ro "Asker" (ask m K S)),some (.pu (tupN p)),o2]=some (.nx [some (.ro "Asker" (ask m K S)),some (.pu (tupN p)),some (.pu (tupN (cls m K p)))]):=by
      unfold dO
      exact aC (aA (e1 o2) rfl) (bN e2 (fun z=>by cases z) fun _=>kh)
     have ih:=yK hm hK hS L (some (.pu (tupN p))) (some (.pu (tupN (cls m K p)))) fun x hx=>h x (List.mem_cons_of_mem _ hx)
     dsimp only
     cases hf:L.find? (isQ m K S) with
     | some q =>
       rw[hf] at ih
       exact fC rfl eb ih
     | none =>
       rw[hf] at ih
       obtain⟨o1',o2',ih⟩:=ih
       exact⟨o1',o2',fC rfl eb ih⟩
theorem kO (hm:m≤6)(hK:K.length≤1000)(hS:∀ r∈S,Ru m r):cy (ask m K S) []=some (qst m K S):=by
 have hl:=yK hm hK hS (allM m) none none fun p hp=>(gi hm).mp hp
 have e0:fIt (aq 1 iw (aa (fFld 0 "Asker" "many") fNil)) [some (.ro "Asker" (ask m K S)),none,none]=some ((allM m).map tupN):=dc (aK (ah (bJ (bu aD) j3) ai) rfl (uZ m hm))
 refine zZ ?_
 unfold gE qst
 cases hf:(allM m).find? (isQ m K S) with
 | some p =>
   rw[hf] at hl
   exact cS e0 hl (ki rfl)
 | none =>
   rw[hf] at hl
   obtain⟨o1,o2,hl⟩:=hl
   exact cS e0 hl (gb (aZ b_kc rfl))
theorem xB:cM (ask m K S) []=some (tbl m K):=zX (by unfold gC;exact aZ (bJ (bu aD) lY) rfl)
theorem ze:c8 (ask m K S) []=some (tRs S):=z0 (by unfold gF;exact aZ (bJ (bu aD) fc) rfl)
theorem vg:c7 (ask m K S) []=some (.int ((K.length:Int)+(S.length:Int))):=zW (by
 unfold gB
 have e1:f1 tLen (f2 tIx (fFld 0 "Asker" "table") (kc (.int 1))) [some (.ro "Asker" (ask m K S))]=some (.int (K.length:Int)):=ev_eq (b_f1 (b_f2 (bJ (bu aD) lY) b_kc (dM iL)) uc) (by rw[List.length_map])
 have e2:f1 tLen (fFld 0 "Asker" "rules") [some (.ro "Asker" (ask m K S))]=some (.int (S.length:Int)):=ev_eq (b_f1 (bJ (bu aD) fc) uc) (by rw[List.length_map])
 exact aZ (b_f2 e1 e2 fG) rfl)
theorem uu (hm:m≤6)(hK:K.length≤1000)(hS:∀ r∈S,Ru m r){r:Rl}(h:qst m K S=tR r):cF (ask m K S) []=some (tR r):=by
 have hq:=kO hm hK hS
 rw[h] at hq
 refine z4 ?_
 unfold gG
 refine aC (aA (b9 (bu aD) j4 hq) rfl) (aQ (b:=false) (b_B (b_f1 (b_gv rfl) rfl)) (fun z=>by cases z) fun _=>bw (aZ (b_gv rfl) rfl))
theorem LA (hm:m≤6)(hK:K.length≤1000)(hS:∀ r∈S,Ru m r)(hl:S.length≤1000){r:Rl}(h:qst m K S=tR r)(a:Addr):jG a (ask m K S) []=some (ask m K (S++[r])):=by
 refine z5 (r:=[]) ?_
 unfold gH
 have e1:f2 tAdd (fFld 0 "Asker" "rules") (fTup (aa (aH 0 "Asker" "to_be_answered" cF) fNil)) [some (.ob a "Asker" (ask m K S))]=some (tRs (S++[r])):=by
  refine ev_eq (b_f2 (bJ (br aD) fc) (bF (ah (b9 (br aD) fZ (uu hm hK hS h)) ai) (ay (by simp))) (t8 (ay (by simp;omega)))) ?_
  show T.tup _=T.tup _
  rw[List.map_append];rfl
 exact kg aD ve e1 (by simp only[Ie];rfl)
end
theorem Ls (j:Nat):iB [tN j]=some (.bl true):=uQ (by
 unfold fL
 exact aZ (cR (b_f1 (b_gv rfl) dJ) fun _=>iN (b_f1 (b_gv rfl) dJ)) rfl)
theorem xW (m:Nat)(t:T):∀(L:List Nat) (l:Nat)(o3:Option Sl),L.Pairwise (·<·)→(∀ j∈L,l≤j∧j<m) →
  ∃ l' o3',aI (gNm 3) cJ (L.map tN) [some (.pu t),some (.pu (tN m)),some (.pu (tN l)),o3]=some (.nx [some (.pu t),some (.pu (tN m)),some (.pu (tN l')),o3'])
 | [],l,o3,_,_=>⟨l,o3,rfl⟩
 | j::L,l,o3,hp,hb=>by
   rw[List.pairwise_cons] at hp
   have hj:=hb j List.mem_cons_self
   have eb:cJ [some (.pu t),some (.pu (tN m)),some (.pu (tN l)),some (.pu (tN j))]=some (.nx [some (.pu t),some (.pu (tN m)),some (.pu (tN (j+1))),some (.pu (tN j))]):=by
    unfold cJ
    refine aQ (b:=false) (ev_eq (b_or (aW (b_B (aK (ah (b_gv rfl) ai) rfl (Ls j)))) fun _=>aW (b_B (j7 (b_gv rfl) (b_gv rfl) k7 (fun _=>b_gv rfl) (fun _=>k8)))) ?_) (fun z=>by cases z) fun _=>bw (aA (ev_eq (b_f2 (b_gv rfl) b_kc fG) (by simp)) rfl)
    simp
    omega
   obtain⟨l',o3',e⟩:=xW m t L (j+1) (some (.pu (tN j))) hp.2 fun x hx=>⟨hp.1 x hx,(hb x (List.mem_cons_of_mem _ hx)).2⟩
   exact⟨l',o3',fC rfl eb e⟩
theorem u6 {m:Nat}{r:List Nat}(h:Mks m r):cz [tupN r,tN m]=some (.bl true):=by
 obtain⟨l',o3',e⟩:=xW m (tupN r) r 0 none h.up fun j hj=>⟨Nat.zero_le _,h.lt j hj⟩
 refine lR ?_
 unfold dR
 refine aQ (b:=false) (aW (b:=true) (b_B (b_f1 (t:=tupN r) (b_gv rfl) dJ))) (fun z=>by cases z) fun _=>bw (aC (aA b_kc rfl) (cS (dc (b_gv rfl)) e (gb (aZ b_kc rfl))))
theorem nH (d:List Nat)(r:Rl)(h1:r.1.length≤1000)(h2:r.2.length≤1000):cO [tupN d,tR r]=some (.bl (sub r.1 d&&!sub r.2 d)):=by
 refine Ao ?_
 unfold ic
 exact aZ (cR (aK (ah (b_f2 (b_gv rfl) b_kc (dM j5)) (ah (b_gv rfl) ai)) rfl (oB r.1 d h1)) fun _=>iN (aK (ah (b_f2 (b_gv rfl) b_kc (dM iL)) (ah (b_gv rfl) ai)) rfl (oB r.2 d h2))) rfl
theorem Gg {m:Nat}{K:List (List Nat)}{S:List Rl}(hm:m≤6)(hK:K.length≤900)(hS:∀ r∈S,Ru m r)(hl:S.length≤1000){r:Rl}(h:qst m K S=tR r)(hr:Ru m r){d:List Nat}(hd:Mks m d)(h1:sub r.1 d=true)(h2:sub r.2 d=false)(h3:∀ q∈S,(sub q.1 d&&!sub q.2 d)=false) (a:Addr) :
  ir a (ask m K S) [tupN d]=some (ask m (K++[d]) S):=by
 refine zY (r:=[some (.pu (tupN d)),some (.pu (tR r))]) ?_
 unfold gD
 have ru:∀ q,Ru m q→q.1.length≤1000∧q.2.length≤1000:=fun q hq=>by have:=hq.a.len;have:=hq.b.len;omega
 have key:aG (gNm 0) fYes lN [none,some (Sl.pu (tupN d))] (S.map tR)=some (S.map fun q=>T.bl (sub q.1 d&&!sub q.2 d)):=by
  refine iS tR (fun q=>T.bl (sub q.1 d&&!sub q.2 d)) S fun q hq=>⟨_,bq aN,?_⟩
  unfold lN
  exact aK (ah (b_gv rfl) (ah (b_gv rfl) ai)) rfl (nH d q (ru q (hS q hq)).1 (ru q (hS q hq)).2)
 have hany:tAny (.lst (S.map fun q=>T.bl (sub q.1 d&&!sub q.2 d)))=some (.bl false):=by
  refine ev_eq (t9) ?_
  congr 1
  rw[List.any_eq_false]
  intro q hq
  simp [h3 q hq]
 refine aC (aA (b9 (br aD) fZ (uu hm (by omega) hS h)) rfl) ?_
 refine aQ (b:=false) (aW (b_B (aK (ah (b_gv rfl) (ah (bJ (br aD) j3) ai)) rfl (u6 hd)))) (fun z=>by cases z) fun _=>bw ?_
 refine aQ (b:=false) (ev_eq (aW (b_B (aK (ah (b_gv rfl) (ah (b_gv rfl) ai)) rfl (nH d r (ru r hr).1 (ru r hr).2)))) (by rw[h1,h2];rfl)) (fun z=>by cases z) fun _=>bw ?_
 refine aQ (b:=false) (b_B (b_f1 (bA (d7 (dc (bJ (br aD) fc)) (ay (by rw[List.length_map];omega)) rfl key)) hany)) (fun z=>by cases z) fun _=>bw ?_
 have e1:fTup (aa (fFld 0 "Asker" "many") (aa (f2 tAdd (f2 tIx (fFld 0 "Asker" "table") (kc (.int 1))) (fTup (aa (gv 1) fNil))) fNil)) [some (.ob a "Asker" (ask m K S)),some (.pu (tupN d)),some (.pu (tR r))]=some (tbl m (K++[d])):=by
  refine bF (ah (bJ (br aD) j3) (ah (ev_eq (b_f2 (b_f2 (bJ (br aD) lY) b_kc (dM iL)) (bF (ah (b_gv rfl) ai) (ay (by simp))) (t8 (ay (by simp;omega)))) ?_) ai)) (ay (by simp))
  rw[List.map_append];rfl
 exact kg aD ve e1 (by simp only[Ig];rfl)
theorem Bb {f:FE}{G:Rho→Option Str}{t:T}{ρ:Rho}(h1:f ρ=some t)(h2:G ρ=none):(fun ρ=>(f ρ).bind fun _=>G ρ) ρ=none:=by
 show(f ρ).bind _=_
 rw[h1];exact h2
theorem vF {G:Rho→Option Str}{ρ:Rho}(h1:G ρ=none):xE G ρ=none:=by unfold xE;rw[h1];rfl
theorem oU {n:Nat}{c:Str}{F:FX}{fl:List (Str×T)}{ts:List T}(h:F (some (.ro c fl)::(ts.map (fun t=>some (.pu t))++List.replicate (n - ts.length) none))=none):bH n c F fl ts=none:=by
 unfold bH
 rw[h]
section
variable {m:Nat}{K:List (List Nat)}{S:List Rl}
theorem zE (hm:m≤6)(hK:K.length≤1000)(hS:∀ r∈S,Ru m r)(h:qst m K S=.non):bS (ask m K S) []=some "NoQuestion":=by
 have hq:=kO hm hK hS
 rw[h] at hq
 show bH 1 "Asker" cK (ask m K S) []=some "NoQuestion"
 refine iO (F:=cK) (ρ':=[some (.ro "Asker" (ask m K S)),some (.pu .non)]) ?_
 show cK [some (.ro "Asker" (ask m K S)),none]=_
 have e1:sSet 1 (aH 0 "Asker" "question" cy) [some (.ro "Asker" (ask m K S)),none]=some (.nx [some (.ro "Asker" (ask m K S)),some (.pu .non)]):=aA (b9 (bu aD) j4 hq) rfl
 have e2:fB (f1 tIsN (gv 1)) [some (.ro "Asker" (ask m K S)),some (.pu .non)]=some true:=b_B (b_f1 (b_gv rfl) rfl)
 unfold cK
 exact fh (vG e1) (kq (l5 e2 rfl))
theorem zD (hm:m≤6)(hK:K.length≤1000)(hS:∀ r∈S,Ru m r){r:Rl}(h:qst m K S=tR r):bS (ask m K S) []=none:=by
 have hq:=kO hm hK hS
 rw[h] at hq
 show bH 1 "Asker" cK (ask m K S) []=none
 have e1:sSet 1 (aH 0 "Asker" "question" cy) [some (.ro "Asker" (ask m K S)),none]=some (.nx [some (.ro "Asker" (ask m K S)),some (.pu (tR r))]):=aA (b9 (bu aD) j4 hq) rfl
 have e2:fB (f1 tIsN (gv 1)) [some (.ro "Asker" (ask m K S)),some (.pu (tR r))]=some false:=b_B (b_f1 (b_gv rfl) rfl)
 refine oU (F:=cK) ?_
 show cK [some (.ro "Asker" (ask m K S)),none]=none
 unfold cK
 exact fh (vG e1) (fh (ko e2 rfl) rfl)
theorem LC (hm:m≤6)(hK:K.length≤1000)(hS:∀ r∈S,Ru m r)(h:qst m K S=.non):jE (ask m K S) []=some "NoQuestion":=by
 show bH 0 "Asker" cL (ask m K S) []=some "NoQuestion"
 refine iO (F:=cL) (ρ':=[some (.ro "Asker" (ask m K S))]) ?_
 show cL [some (.ro "Asker" (ask m K S))]=_
 have e1:fFld 0 "Asker" "rules" [some (.ro "Asker" (ask m K S))]=some (tRs S):=bJ (bu aD) fc
 have e2:gMY 0 "Asker" "to_be_answered" 0 bS fNil [some (.ro "Asker" (ask m K S))]=some ("NoQuestion":Str):=j8 (bu aD) fZ ai rfl (zE hm hK hS h)
 unfold cL
 exact b_xE (Ba e1 e2)
theorem LB (hm:m≤6)(hK:K.length≤1000)(hS:∀ r∈S,Ru m r){r:Rl}(h:qst m K S=tR r):jE (ask m K S) []=none:=by
 show bH 0 "Asker" cL (ask m K S) []=none
 have e1:fFld 0 "Asker" "rules" [some (.ro "Asker" (ask m K S))]=some (tRs S):=bJ (bu aD) fc
 have e2:gMY 0 "Asker" "to_be_answered" 0 bS fNil [some (.ro "Asker" (ask m K S))]=none:=lZ (bu aD) fZ ai rfl (zD hm hK hS h)
 refine oU (F:=cL) ?_
 show cL [some (.ro "Asker" (ask m K S))]=none
 unfold cL
 exact vF (Bb e1 e2)
theorem no_x (hm:m≤6)(hK:K.length≤1000)(hS:∀ r∈S,Ru m r)(h:qst m K S=.non)(t:T):dU (ask m K S) [t]=some "NoQuestion":=by
 show bH 2 "Asker" bI (ask m K S) [t]=some "NoQuestion"
 refine iO (F:=bI) (ρ':=[some (.ro "Asker" (ask m K S)),some (.pu t),none]) ?_
 show bI [some (.ro "Asker" (ask m K S)),some (.pu t),none]=_
 have e2:gMY 0 "Asker" "to_be_answered" 0 bS fNil [some (.ro "Asker" (ask m K S)),some (.pu t),none]=some ("NoQuestion":Str):=j8 (bu aD) fZ ai rfl (zE hm hK hS h)
 unfold bI
 exact kq (BE (b_xE e2))
theorem yc (hm:m≤6)(hK:K.length≤1000)(hS:∀ r∈S,Ru m r){r:Rl}(h:qst m K S=tR r)(t:T){o:Option OutX}{G:FX}(hG:G [some (.ro "Asker" (ask m K S)),some (.pu t),some (.pu (tR r))]=o) :
  xSeq (xOr (xE (gMY 0 "Asker" "to_be_answered" 0 bS fNil)) (sSet 2 (aH 0 "Asker" "to_be_answered" cF))) G [some (.ro "Asker" (ask m K S)),some (.pu t),none]=o:=by
 have e2:gMY 0 "Asker" "to_be_answered" 0 bS fNil [some (.ro "Asker" (ask m K S)),some (.pu t),none]=none:=lZ (bu aD) fZ ai rfl (zD hm hK hS h)
 have e3:xE (gMY 0 "Asker" "to_be_answered" 0 bS fNil) [some (.ro "Asker" (ask m K S)),some (.pu t),none]=none:=vF e2
 exact fh (BD e3 (aA (b9 (bu aD) fZ (uu hm hK hS h)) rfl)) hG
theorem Gf (hm:m≤6)(hK:K.length≤1000)(hS:∀ r∈S,Ru m r){r:Rl}(h:qst m K S=tR r){t:T}(ht:cz [t,tN m]=some (.bl false)):dU (ask m K S) [t]=some "NoAnswer":=by
 show bH 2 "Asker" bI (ask m K S) [t]=some "NoAnswer"
 refine iO (F:=bI) (ρ':=[some (.ro "Asker" (ask m K S)),some (.pu t),some (.pu (tR r))]) ?_
 show bI [some (.ro "Asker" (ask m K S)),some (.pu t),none]=_
 unfold bI
 refine yc hm hK hS h t (kq (l5 ?_ rfl))
 exact aW (b:=false) (b_B (aK (ah (b_gv rfl) (ah (bJ (bu aD) j3) ai)) rfl ht))
theorem Gh (hm:m≤6)(hK:K.length≤1000)(hS:∀ r∈S,Ru m r)(hl:S.length≤1000){r:Rl}(h:qst m K S=tR r)(hr:Ru m r){d:List Nat}(hd:Mks m d) :
  dU (ask m K S) [tupN d]=if (sub r.1 d&&!sub r.2 d&&S.all fun q=>!(sub q.1 d&&!sub q.2 d))=true then none else some ("NoAnswer":Str):=by
 have ru:∀ q,Ru m q→q.1.length≤1000∧q.2.length≤1000:=fun q hq=>by have:=hq.a.len;have:=hq.b.len;omega
 have key:aG (gNm 0) fYes gy [none,some (Sl.pu (tupN d))] (S.map tR)=some (S.map fun q=>T.bl (sub q.1 d&&!sub q.2 d)):=by
  refine iS tR (fun q=>T.bl (sub q.1 d&&!sub q.2 d)) S fun q hq=>⟨_,bq aN,?_⟩
  unfold gy
  exact aK (ah (b_gv rfl) (ah (b_gv rfl) ai)) rfl (nH d q (ru q (hS q hq)).1 (ru q (hS q hq)).2)
 have c1:fNot (fB (aq 2 cz (aa (gv 1) (aa (fFld 0 "Asker" "many") fNil)))) [some (.ro "Asker" (ask m K S)),some (.pu (tupN d)),some (.pu (tR r))]=some false:=aW (b:=true) (b_B (aK (ah (b_gv rfl) (ah (bJ (bu aD) j3) ai)) rfl (u6 hd)))
 have c2:fNot (fB (aq 2 cO (aa (gv 1) (aa (gv 2) fNil)))) [some (.ro "Asker" (ask m K S)),some (.pu (tupN d)),some (.pu (tR r))]=some (!(sub r.1 d&&!sub r.2 d)):=aW (b_B (aK (ah (b_gv rfl) (ah (b_gv rfl) ai)) rfl (nH d r (ru r hr).1 (ru r hr).2)))
 have c3:fB (f1 tAny (fNew (aF [none,some 1] (fIt (fFld 0 "Asker" "rules")) (gNm 0) fYes gy))) [some (.ro "Asker" (ask m K S)),some (.pu (tupN d)),some (.pu (tR r))]=some (S.any fun q=>sub q.1 d&&!sub q.2 d) :=
  b_B (b_f1 (bA (d7 (dc (bJ (bu aD) fc)) (ay (by rw[List.length_map];omega)) rfl key)) t9)
 have hall:(S.all fun q=>!(sub q.1 d&&!sub q.2 d))=!(S.any fun q=>sub q.1 d&&!sub q.2 d):=by rw[List.not_any_eq_all_not]
 show bH 2 "Asker" bI (ask m K S) [tupN d]=_
 rw[hall]
 have nx:∀{o:Option OutX},(xSeq (xIf (fNot (fB (aq 2 cO (aa (gv 1) (aa (gv 2) fNil))))) (fK "NoAnswer") xNil) (xSeq (xIf (fB (f1 tAny (fNew (aF [none,some 1] (fIt (fFld 0 "Asker" "rules")) (gNm 0) fYes gy)))) (fK "NoAnswer") xNil) xNo)) [some (.ro "Asker" (ask m K S)),some (.pu (tupN d)),some (.pu (tR r))]=o→bI [some (.ro "Asker" (ask m K S)),some (.pu (tupN d)),none]=o:=fun{o} h9=>by
  unfold bI
  exact yc hm hK hS h _ (fh (ko c1 rfl) h9)
 cases h2:(sub r.1 d&&!sub r.2 d) with
 | false =>
   rw[h2] at c2
   rw[Bool.false_and,if_neg Bool.false_ne_true]
   exact iO (F:=bI) (nx (kq (l5 c2 rfl)))
 | true =>
   rw[h2] at c2
   rw[Bool.true_and]
   cases h3:(S.any fun q=>sub q.1 d&&!sub q.2 d) with
   | true =>
     rw[h3] at c3
     rw[Bool.not_true,if_neg Bool.false_ne_true]
     exact iO (F:=bI) (nx (fh (ko c2 rfl) (kq (l5 c3 rfl))))
   | false =>
     rw[h3] at c3
     rw[Bool.not_false,if_pos rfl]
     exact oU (F:=bI) (nx (fh (ko c2 rfl) (fh (ko c3 rfl) rfl)))
end
theorem yd (ms:List Nat):nol (tupN ms)=true:=by
 have:∀ ms:List Nat,nolL (ms.map tN)=true:=by
  intro ms
  induction ms with
  | nil=>rfl
  | cons a r ih=>simp only[List.map_cons,nolL,nol,ih];rfl
 unfold nol;exact this ms
theorem Gk (r:Rl):nol (tR r)=true:=by
 simp only[nol,nolL]
 rw[show nolL (r.1.map tN)=true from by have:=yd r.1;unfold nol at this;exact this,show nolL (r.2.map tN)=true from by have:=yd r.2;unfold nol at this;exact this]
 rfl
theorem Gj (m:Nat)(K:List (List Nat)) (S:List Rl):nol (qst m K S)=true:=by
 unfold qst
 split
 ·exact Gk _
 ·rfl
theorem qo (r:Rl):dep (tR r)≤2:=iU fun u hu=>by
 simp only[List.mem_cons,List.not_mem_nil,or_false] at hu
 rcases hu with rfl|rfl<;>exact qp _
theorem wF (m:Nat)(K:List (List Nat)) (S:List Rl):dep (qst m K S)≤60:=by
 unfold qst
 split
 ·exact Nat.le_trans (qo _) (by decide)
 ·simp [dep]
def okR (p:List Nat)(r:Rl):Bool:=!(!decide (r.1=p)&&(sub r.1 p&&!sub r.2 p))
section
variable {m:Nat}{K:List (List Nat)}{S:List Rl}
abbrev Q8l (m:Nat)(K:List (List Nat)) (S:List Rl)(o3 o4 o5 o6 o7:Option Sl):Rho:=[some (.pu (tN m)),some (.pu (.lst (K.map tupN))),some (.pu (.lst (S.map tR))),o3,o4,o5,o6,o7]
theorem xP (p:List Nat)(o4:Option Sl):∀(L:List Rl)(g:Bool)(o6 o7:Option Sl),(∀ r∈L,r.1.length≤1000∧r.2.length≤1000) →
  ∃ o6' o7',aI (gTp2 6 7) jw (L.map tR) (Q8l m K S (some (.pu (tupN p))) o4 (some (.pu (.bl g))) o6 o7)=some (.nx (Q8l m K S (some (.pu (tupN p))) o4 (some (.pu (.bl (g&&L.all (okR p))))) o6' o7'))
 | [],g,o6,o7,_=>⟨o6,o7,by rw[List.all_nil,Bool.and_true];rfl⟩
 | r::L,g,o6,o7,h=>by
   obtain⟨h1,h2⟩:=h r List.mem_cons_self
   have ec:fAnd (fB (f2 tNee (gv 6) (gv 3))) (fAnd (fB (aq 2 bU (aa (gv 6) (aa (gv 3) fNil)))) (fNot (fB (aq 2 bU (aa (gv 7) (aa (gv 3) fNil)))))) (Q8l m K S (some (.pu (tupN p))) o4 (some (.pu (.bl g))) (some (.pu (tupN r.1))) (some (.pu (tupN r.2))))=some (!okR p r):=by
    refine ev_eq (f7 (b_B (b_f2 (b_gv rfl) (b_gv rfl) (cu (fj _)))) fun _=>f7 (b_B (aK (ah (b_gv rfl) (ah (b_gv rfl) ai)) rfl (gh r.1 p h1))) fun _=>aW (b_B (aK (ah (b_gv rfl) (ah (b_gv rfl) ai)) rfl (gh r.2 p h2)))) ?_
    rw[fJ];unfold okR;rw[Bool.not_not]
   have eb:jw (Q8l m K S (some (.pu (tupN p))) o4 (some (.pu (.bl g))) (some (.pu (tupN r.1))) (some (.pu (tupN r.2))))=some (.nx (Q8l m K S (some (.pu (tupN p))) o4 (some (.pu (.bl (g&&okR p r)))) (some (.pu (tupN r.1))) (some (.pu (tupN r.2))))):=by
    unfold jw
    refine bN ec (fun z=>?_) fun z=>?_
    ·have:okR p r=false:=by simpa using z
     rw[this,Bool.and_false]
     exact aA b_kc rfl
    ·have:okR p r=true:=by simpa using z
     rw[this,Bool.and_true]
     exact kh
   obtain⟨o6',o7',e⟩:=xP p o4 L (g&&okR p r) (some (.pu (tupN r.1))) (some (.pu (tupN r.2))) fun q hq=>h q (List.mem_cons_of_mem _ hq)
   refine⟨o6',o7',fC rfl eb ?_⟩
   rw[e,List.all_cons,Bool.and_assoc]
theorem Dt (hm:m≤6)(hS:∀ r∈S,Ru m r)(hne:∀ r∈S,sub r.2 r.1=false){p:List Nat}(hp:Mks m p):(!decide (cls m K p=p)&&!decide (p∈S.map (·.1))&&S.all (okR p))=isQ m K S p:=by
 unfold isQ
 rw[Bool.and_assoc]
 congr 1
 rw[Bool.eq_iff_iff]
 simp only[Bool.and_eq_true,Bool.not_eq_true',decide_eq_false_iff_not,decide_eq_true_eq,List.all_eq_true]
 rw[BQ hm hS hp]
 constructor
 ·rintro⟨h1,h2⟩ r hr hs
  have hn:r.1≠p:=fun z=>h1 (List.mem_map.mpr ⟨r,hr,z⟩)
  have:=h2 r hr
  unfold okR at this
  rw[bL.mpr hs] at this
  have:sub r.2 p=true:=by simpa [hn] using this
  exact bL.mp this
 ·intro h
  constructor
  ·intro z
   obtain⟨r,hr,e⟩:=List.mem_map.mp z
   have:=bL.mpr (h r hr (fun j hj=>e▸hj))
   rw[← e,hne r hr] at this
   cases this
  ·intro r hr
   unfold okR
   cases hs:sub r.1 p with
   | false=>simp
   | true=>rw[bL.mpr (h r hr (bL.mp hs))];simp
theorem xQ (hm:m≤6)(hK:K.length≤1000)(hS:∀ r∈S,Ru m r)(hl:S.length≤1000)(hne:∀ r∈S,sub r.2 r.1=false):∀(L:List (List Nat)) (o3 o4 o5 o6 o7:Option Sl),(∀ p∈L,Mks m p) →
  match L.find? (isQ m K S) with
  | some p=>aI (gNm 3) dP (L.map tupN) (Q8l m K S o3 o4 o5 o6 o7)=some (.rt (qOf m K p))
  | none=>∃ o3' o4' o5' o6' o7',aI (gNm 3) dP (L.map tupN) (Q8l m K S o3 o4 o5 o6 o7)=some (.nx (Q8l m K S o3' o4' o5' o6' o7'))
 | [],o3,o4,o5,o6,o7,_=>⟨o3,o4,o5,o6,o7,rfl⟩
 | p::L,o3,o4,o5,o6,o7,h=>by
   have hp:=h p List.mem_cons_self
   have lp:=hp.len
   have lc:=(kC m K p).len
   have ru:∀ r∈S,r.1.length≤1000∧r.2.length≤1000:=fun r hr=>by have:=(hS r hr).a.len;have:=(hS r hr).b.len;omega
   have e1:aq 2 iu (aa (fTup (aa (gv 0) (aa (f1 aP (gv 1)) fNil))) (aa (gv 3) fNil)) (Q8l m K S (some (.pu (tupN p))) o4 o5 o6 o7)=some (tupN (cls m K p)) :=
    aK (ah (bF (ah (b_gv rfl) (ah (b_f1 (b_gv rfl) jn) ai)) (ay (by simp))) (ah (b_gv rfl) ai)) rfl (xC m K p (by omega) (by omega))
   have key:aG (gTp2 0 1) fYes (gv 0) [none,none] (S.map tR)=some (S.map fun r=>tupN r.1):=iS tR (fun r=>tupN r.1) S fun r _=>⟨[some (.pu (tupN r.1)),some (.pu (tupN r.2))],rfl,rfl⟩
   have hin:((S.map fun r=>tupN r.1).any fun y=>teq y (tupN p))=decide (p∈S.map (·.1)):=by
    have:=any_map fJ (S.map (·.1)) p
    rw[List.map_map] at this
    exact this.trans (by congr)
   have hdp:∀ y∈S.map (fun r=>tupN r.1),dep y≤60:=fun y hy=>by
    obtain⟨r,_,rfl⟩:=List.mem_map.mp hy
    exact fj _
   have e2:bB (f2 tNee (gv 4) (gv 3)) (f2 (tInn true) (gv 3) (fNew (aF [none,none] (fIt (gv 2)) (gTp2 0 1) fYes (gv 0)))) (Q8l m K S (some (.pu (tupN p))) (some (.pu (tupN (cls m K p)))) o5 o6 o7)=some (.bl (!decide (cls m K p=p)&&!decide (p∈S.map (·.1)))):=by
    refine ev_eq (cR (b_f2 (b_gv rfl) (b_gv rfl) (cu (fj _))) fun _=>b_f2 (b_gv rfl) (bA (d7 (iM (b_gv rfl)) (ay (by rw[List.length_map];omega)) rfl key)) (ud hdp)) ?_
    rw[fJ,hin]
   obtain⟨o6',o7',e3⟩:=xP (m:=m) (K:=K) (S:=S) p (some (.pu (tupN (cls m K p)))) S (!decide (cls m K p=p)&&!decide (p∈S.map (·.1))) o6 o7 ru
   rw[Dt hm hS hne hp] at e3
   have keyW:aG (gNm 0) lD (gv 0) [none,some (Sl.pu (tupN p))] ((cls m K p).map tN)=some ((wo (cls m K p) p).map tN):=by
    refine d9 _ _ fun j hj=>⟨_,bq aN,?_,fun _=>rfl⟩
    unfold lD
    apply ev_eq
    walk_at "tl"
    rw[eE]
   rw[List.find?_cons]
   cases hq:isQ m K S p with
   | true =>
     rw[hq] at e3
     show aI (gNm 3) dP (tupN p::L.map tupN) _=_
     unfold aI
     rw[show gNm 3 (tupN p) (Q8l m K S o3 o4 o5 o6 o7)=some (Q8l m K S (some (.pu (tupN p))) o4 o5 o6 o7) from rfl]
     dsimp only
     have eb:dP (Q8l m K S (some (.pu (tupN p))) o4 o5 o6 o7)=some (.rt (qOf m K p)):=by
      unfold dP
      refine aC (aA e1 rfl) (aC (aA e2 rfl) (cS (iM (b_gv rfl)) e3 (gb (bN (cG (b_gv rfl) cZ) (fun _=>?_) fun z=>by cases z))))
      exact aZ (bF (ah (b_gv rfl) (ah (b_f1 (bA (d7 (dc (b_gv rfl)) (ay (by rw[List.length_map];omega)) rfl keyW)) jn) ai)) (ay (by simp))) rfl
     rw[eb]
   | false =>
     rw[hq] at e3
     have eb:dP (Q8l m K S (some (.pu (tupN p))) o4 o5 o6 o7)=some (.nx (Q8l m K S (some (.pu (tupN p))) (some (.pu (tupN (cls m K p)))) (some (.pu (.bl false))) o6' o7')):=by
      unfold dP
      exact aC (aA e1 rfl) (aC (aA e2 rfl) (cS (iM (b_gv rfl)) e3 (gb (bN (cG (b_gv rfl) cZ) (fun z=>by cases z) fun _=>kh))))
     have ih:=xQ hm hK hS hl hne L (some (.pu (tupN p))) (some (.pu (tupN (cls m K p)))) (some (.pu (.bl false))) o6' o7' fun x hx=>h x (List.mem_cons_of_mem _ hx)
     dsimp only
     cases hf:L.find? (isQ m K S) with
     | some q =>
       rw[hf] at ih
       exact fC rfl eb ih
     | none =>
       rw[hf] at ih
       obtain⟨p3,p4,p5,p6,p7,ih⟩:=ih
       exact⟨p3,p4,p5,p6,p7,fC rfl eb ih⟩
theorem xS (h1:1≤m)(hm:m≤6)(hK:K.length≤1000)(hS:∀ r∈S,Ru m r)(hl:S.length≤1000)(hne:∀ r∈S,sub r.2 r.1=false):fO [tN m,.lst (K.map tupN),.lst (S.map tR)]=some (qst m K S):=by
 have hl2:=xQ hm hK hS hl hne (allM m) none none none none none fun p hp=>(gi hm).mp hp
 have e0:fIt (aq 1 dW (aa (gv 0) fNil)) (Q8l m K S none none none none none)=some ((allM m).map tupN):=iM (aK (ah (b_gv rfl) ai) rfl (qu m h1 hm))
 refine Ad ?_
 unfold gR qst
 cases hf:(allM m).find? (isQ m K S) with
 | some p =>
   rw[hf] at hl2
   exact cS e0 hl2 (ki rfl)
 | none =>
   rw[hf] at hl2
   obtain⟨o3,o4,o5,o6,o7,hl2⟩:=hl2
   exact cS e0 hl2 (gb (aZ b_kc rfl))
end
def odds (m:Nat):List T:=[.non,.lst [.int 0],.tup [tN m],.tup [.int (-1)],.tup [.int 0,.int 0],.tup [.bl true],.str "0"]
theorem rB {t:T}(h:isT "tuple" t=false) (m:Nat):cz [t,tN m]=some (.bl false):=by
 refine lR ?_
 unfold dR
 exact aQ (b:=true) (ev_eq (aW (b_B (b_f1 (b_gv rfl) dJ))) (by rw[h];rfl)) (fun _=>ff (aZ b_kc rfl)) fun z=>by cases z
theorem nU (t:T):iB [t]=some (.bl (isT "int" t&&!isT "bool" t)):=uQ (by
 unfold fL
 exact aZ (cR (b_f1 (b_gv rfl) dJ) fun _=>iN (b_f1 (b_gv rfl) dJ)) rfl)
theorem sI {t:T}{m:Nat}(h:(isT "int" t&&!isT "bool" t)=false∨∃ i:Int,t=.int i∧¬(0≤i∧i<m)):cz [.tup [t],tN m]=some (.bl false):=by
 have eb:cJ [some (.pu (.tup [t])),some (.pu (tN m)),some (.pu (.int 0)),some (.pu t)]=some (.rt (.bl false)):=by
  unfold cJ
  rcases h with h|⟨i,rfl,h⟩
  ·refine aQ (b:=true) (ev_eq (b_or (b:=true) (aW (b_B (aK (ah (b_gv rfl) ai) rfl (nU t)))) fun z=>?_) ?_) (fun _=>ff (aZ b_kc rfl)) fun z=>by cases z
   ·rw[h] at z;cases z
   ·rw[h];rfl
  ·refine aQ (b:=true) (ev_eq (b_or (aW (b_B (aK (ah (b_gv rfl) ai) rfl (nU _)))) fun _=>aW (b_B (j7 (b_gv rfl) (b_gv rfl) k7 (fun _=>b_gv rfl) (fun _=>k8)))) ?_) (fun _=>ff (aZ b_kc rfl)) fun z=>by cases z
   simp
   omega
 refine lR ?_
 unfold dR
 refine aQ (b:=false) (aW (b:=true) (b_B (b_f1 (t:=.tup [t]) (b_gv rfl) dJ))) (fun z=>by cases z) fun _=>bw (aC (aA b_kc (aV (aV aN))) (cS (o1:=.rt (.bl false)) (dc (b_gv rfl)) ?_ (ki rfl)))
 unfold aI
 rw[show gNm 3 t [some (.pu (.tup [t])),some (.pu (tN m)),some (.pu (.int 0)),none]=some [some (.pu (.tup [t])),some (.pu (tN m)),some (.pu (.int 0)),some (.pu t)] from rfl]
 dsimp only
 rw[eb]
theorem Li {m:Nat}(h1:1≤m):cz [.tup [.int 0,.int 0],tN m]=some (.bl false):=by
 have ea:cJ [some (.pu (.tup [.int 0,.int 0])),some (.pu (tN m)),some (.pu (.int 0)),some (.pu (.int 0))]=some (.nx [some (.pu (.tup [.int 0,.int 0])),some (.pu (tN m)),some (.pu (.int 1)),some (.pu (.int 0))]):=by
  unfold cJ
  refine aQ (b:=false) (ev_eq (b_or (aW (b_B (aK (ah (b_gv rfl) ai) rfl (nU _)))) fun _=>aW (b_B (j7 (b_gv rfl) (b_gv rfl) k7 (fun _=>b_gv rfl) (fun _=>k8)))) ?_) (fun z=>by cases z) fun _=>bw (aA (b_f2 (b_gv rfl) b_kc fG) rfl)
  simp
  omega
 have eb:cJ [some (.pu (.tup [.int 0,.int 0])),some (.pu (tN m)),some (.pu (.int 1)),some (.pu (.int 0))]=some (.rt (.bl false)):=by
  unfold cJ
  refine aQ (b:=true) (ev_eq (b_or (aW (b_B (aK (ah (b_gv rfl) ai) rfl (nU _)))) fun _=>aW (b_B (j7 (b_gv rfl) (b_gv rfl) k7 (fun _=>b_gv rfl) (fun _=>k8)))) ?_) (fun _=>ff (aZ b_kc rfl)) fun z=>by cases z
  simp
 refine lR ?_
 unfold dR
 refine aQ (b:=false) (aW (b:=true) (b_B (b_f1 (t:=.tup [.int 0,.int 0]) (b_gv rfl) dJ))) (fun z=>by cases z) fun _=>bw (aC (aA b_kc (aV (aV aN))) (cS (o1:=.rt (.bl false)) (dc (b_gv rfl)) (fC rfl ea ?_) (ki rfl)))
 unfold aI
 rw[show gNm 3 (T.int 0) [some (.pu (.tup [.int 0,.int 0])),some (.pu (tN m)),some (.pu (.int 1)),some (.pu (.int 0))]=some [some (.pu (.tup [.int 0,.int 0])),some (.pu (tN m)),some (.pu (.int 1)),some (.pu (.int 0))] from rfl]
 dsimp only
 rw[eb]
theorem GN {m:Nat}(h1:1≤m){t:T}(h:t∈odds m):cz [t,tN m]=some (.bl false):=by
 simp only[odds,List.mem_cons,List.not_mem_nil,or_false] at h
 rcases h with rfl|rfl|rfl|rfl|rfl|rfl|rfl
 ·exact rB rfl m
 ·exact rB rfl m
 ·exact sI (.inr ⟨m,rfl,by omega⟩)
 ·exact sI (.inr ⟨-1,rfl,by omega⟩)
 ·exact Li h1
 ·exact sI (.inl rfl)
 ·exact rB rfl m
theorem sH {b:Bool}(h:(!b)=true):b=false:=by cases b with|false=>rfl|true=>cases h
theorem Gq {b:Bool}(h:(!b)=false):b=true:=by cases b with|true=>rfl|false=>cases h
theorem wH (p:Rl→Bool):∀ S:List Rl,((S.filter p).map tR).isEmpty=S.all fun q=>!p q
 | []=>rfl
 | a::r=>by
   rw[List.all_cons,← wH p r]
   cases h:p a with
   | true=>rw[List.filter_cons_of_pos h];rfl
   | false=>rw[List.filter_cons_of_neg (by rw[h];exact Bool.false_ne_true)];rfl
section
variable {m:Nat}{S:List Rl}
theorem oE (h1:1≤m)(hm:m≤6)(t:T):fOr (fNot (fB (f1 (tIs "tuple") (gv 0)))) (fB (f2 (tInn true) (gv 0) (aq 1 dW (aa (gv 3) fNil)))) [some (.pu t),o1,o2,some (.pu (tN m))]=some (!isT "tuple" t||!(((allM m).map tupN).any fun y=>teq y t)):=by
 have hd:∀ y∈(allM m).map tupN,dep y≤60:=fun y hy=>by
  obtain⟨r,_,rfl⟩:=List.mem_map.mp hy
  exact fj _
 exact b_or (aW (b_B (b_f1 (b_gv rfl) dJ))) fun _=>b_B (b_f2 (b_gv rfl) (aK (ah (b_gv rfl) ai) rfl (qu m h1 hm)) (ud hd))
theorem A3 (h1:1≤m)(hm:m≤6)(hS:∀ r∈S,Ru m r)(hl:S.length≤1000){r:Rl}(hr:Ru m r){d:List Nat}(hd:Mks m d) :
  cN [tupN d,tR r,.lst (S.map tR),tN m]=some (.bl (sub r.1 d&&!sub r.2 d&&S.all fun q=>!(sub q.1 d&&!sub q.2 d))):=by
 have ru:∀ q,Ru m q→q.1.length≤1000∧q.2.length≤1000:=fun q hq=>by have:=hq.a.len;have:=hq.b.len;omega
 have ld:=hd.len
 have k1:aG (gNm 0) eS (gv 0) [none] (d.map tN)=some []:=by
  have:=d9 (g:=gNm 0) (c:=eS) (e:=gv 0) (ρ:=[none]) (fun _=>false) d fun j _=>⟨_,bq aN,by unfold eS;exact b_B (b_f1 (b_gv rfl) rfl),fun _=>rfl⟩
  rw[this];simp
 have k2:aG (gNm 0) lM (gv 0) [none,some (Sl.pu (tupN d))] (S.map tR)=some ((S.filter fun q=>sub q.1 d&&!sub q.2 d).map tR):=by
  refine BZ tR _ _ fun q hq=>⟨_,bq aN,?_,fun _=>rfl⟩
  unfold lM
  exact f7 (b_B (aK (ah (b_f2 (b_gv rfl) b_kc (dM j5)) (ah (b_gv rfl) ai)) rfl (gh q.1 d (ru q (hS q hq)).1))) fun _=>aW (b_B (aK (ah (b_f2 (b_gv rfl) b_kc (dM iL)) (ah (b_gv rfl) ai)) rfl (gh q.2 d (ru q (hS q hq)).2)))
 have c3:fOr (fNot (fB (aq 2 bU (aa (f2 tIx (gv 1) (kc (.int 0))) (aa (gv 0) fNil))))) (fB (aq 2 bU (aa (f2 tIx (gv 1) (kc (.int 1))) (aa (gv 0) fNil)))) [some (.pu (tupN d)),some (.pu (tR r)),some (.pu (.lst (S.map tR))),some (.pu (tN m))]=some (!(sub r.1 d&&!sub r.2 d)):=by
  refine ev_eq (b_or (aW (b_B (aK (ah (b_f2 (b_gv rfl) b_kc (dM j5)) (ah (b_gv rfl) ai)) rfl (gh r.1 d (ru r hr).1)))) fun _=>b_B (aK (ah (b_f2 (b_gv rfl) b_kc (dM iL)) (ah (b_gv rfl) ai)) rfl (gh r.2 d (ru r hr).2))) ?_
  cases sub r.1 d<;>cases sub r.2 d<;>rfl
 have dS:dep (.lst ((S.filter fun q=>sub q.1 d&&!sub q.2 d).map tR))≤60:=Nat.le_trans (wD (d:=2) fun t ht=>by
  obtain⟨x,_,rfl⟩:=List.mem_map.mp ht
  exact qo x) (by decide)
 refine nW ?_
 unfold eU
 refine aQ (b:=false) (ev_eq (oE h1 hm (tupN d)) ?_) (fun z=>by cases z) fun _=>bw ?_
 ·rw[A4 fJ ((gi hm).mpr hd)];rfl
 refine aQ (b:=false) (ev_eq (b_B (b_f2 (bA (d7 (dc (b_gv rfl)) (ay (by rw[List.length_map];omega)) rfl k1)) (bA (cA ai (ay (by simp)))) (cu (by simp [dep,depL])))) (by rw[eO];rfl)) (fun z=>by cases z) fun _=>bw ?_
 refine aQ c3 (fun z=>?_) fun z=>bw ?_
 ·have:(sub r.1 d&&!sub r.2 d)=false:=sH z
  rw[this,Bool.false_and]
  exact ff (aZ b_kc rfl)
 ·have:(sub r.1 d&&!sub r.2 d)=true:=Gq z
  rw[this,Bool.true_and]
  refine aZ (b_f2 (bA (d7 (iM (b_gv rfl)) (ay (by rw[List.length_map];omega)) rfl k2)) (bA (cA ai (ay (by simp)))) (cY dS)) ?_
  rw[nQ,wH]
theorem GL (h1:1≤m)(hm:m≤6){t:T}(h:t∈odds m)(q S':T):cN [t,q,S',tN m]=some (.bl false):=by
 have fst:(!isT "tuple" t||!(((allM m).map tupN).any fun y=>teq y t))=true→cN [t,q,S',tN m]=some (.bl false):=fun hz=>by
  refine nW ?_
  unfold eU
  exact aQ (oE h1 hm t) (fun _=>ff (aZ b_kc rfl)) fun z=>by rw[hz] at z;cases z
 have hin:∀ t:T,(((allM m).map tupN).any fun y=>teq y t)=true→∃ ms,Mks m ms∧teq (tupN ms) t=true:=fun t hz=>by
  obtain⟨y,hy,e⟩:=List.any_eq_true.mp hz
  obtain⟨ms,hms,rfl⟩:=List.mem_map.mp hy
  exact⟨ms,(gi hm).mp hms,e⟩
 have two:∀(ms:List Nat)(a:T),teq (tupN ms) (.tup [a])=true→∃ j,ms=[j]∧teq (tN j) a=true:=fun ms a hz=>by
  match ms,hz with
  | [],hz=>simp [teq,teqL] at hz
  | [j],hz =>
    have e1:teqL ([j].map tN) [a]=true:=by unfold teq at hz;exact hz
    simp only[List.map_cons,List.map_nil,teqL,Bool.and_true] at e1
    exact⟨j,rfl,e1⟩
  | j::k::r,hz =>
    have e1:teqL ((j::k::r).map tN) [a]=true:=by unfold teq at hz;exact hz
    simp only[List.map_cons,teqL,Bool.and_false] at e1
    cases e1
 simp only[odds,List.mem_cons,List.not_mem_nil,or_false] at h
 rcases h with rfl|rfl|rfl|rfl|rfl|rfl|rfl
 ·exact fst rfl
 ·exact fst rfl
 ·refine fst ?_
  cases hz:((allM m).map tupN).any fun y=>teq y (T.tup [tN m]) with
  | false=>simp
  | true =>
    obtain⟨ms,hk,e⟩:=hin _ hz
    obtain⟨j,rfl,e2⟩:=two ms _ e
    have:=hk.lt j (by simp)
    rw[jo] at e2
    simp at e2
    omega
 ·refine fst ?_
  cases hz:((allM m).map tupN).any fun y=>teq y (T.tup [.int (-1)]) with
  | false=>simp
  | true =>
    obtain⟨ms,hk,e⟩:=hin _ hz
    obtain⟨j,rfl,e2⟩:=two ms _ e
    rw[jo] at e2
    simp at e2
 ·refine fst ?_
  cases hz:((allM m).map tupN).any fun y=>teq y (T.tup [.int 0,.int 0]) with
  | false=>simp
  | true =>
    obtain⟨ms,hk,e⟩:=hin _ hz
    have e2:teq (tupN ms) (tupN [0,0])=true:=e
    rw[fJ] at e2
    have:ms=[0,0]:=by simpa using e2
    subst this
    have:=hk.up
    simp at this
 ·cases hz:((allM m).map tupN).any fun y=>teq y (T.tup [.bl true]) with
  | false=>exact fst (by rw[hz];simp)
  | true =>
    have k1:aG (gNm 0) eS (gv 0) [none] [.bl true]=some [.bl true]:=by
     unfold aG
     rw[show gNm 0 (T.bl true) [none]=some [some (.pu (.bl true))] from rfl]
     dsimp only
     rw[show eS [some (.pu (T.bl true))]=some true from by unfold eS;exact b_B (b_f1 (b_gv rfl) rfl)]
     rfl
    refine nW ?_
    unfold eU
    refine aQ (b:=false) (ev_eq (oE h1 hm (.tup [.bl true])) (by rw[hz];rfl)) (fun z=>by cases z) fun _=>bw ?_
    exact aQ (b:=true) (ev_eq (b_B (b_f2 (bA (d7 (dc (b_gv rfl)) (ay (by simp)) rfl k1)) (bA (cA ai (ay (by simp)))) (cu (by simp [dep,depL])))) (by simp [teq,teqL])) (fun _=>ff (aZ b_kc rfl)) fun z=>by cases z
 ·exact fst rfl
end
theorem d8 {c d:Str}{i:Nat}{ρ:Rho}{b:Bool}(h:ρ[i]?=some (some (.xc c))) (hc:CS.contains c=true)(hb:subB c d=b):fIsx CS i d ρ=some (.bl b):=by
 unfold fIsx;rw[h];simp only[hc,if_true,hb]
theorem vp {c:Str}{i:Nat}{ρ:Rho}(h:ρ[i]?=some (some (.xc c))) (hc:CS.contains c=true):fIsv CS i ρ=some (.bl true):=by
 unfold fIsv;rw[h];simp only[hc,if_true]
abbrev D5 (a:Addr)(fl:List (Str×T)) (t:T)(b:Bool)(o3 o4:Option Sl):Rho:=[some (.ob a "Asker" fl),some (.pu t),some (.pu (.bl b)),o3,o4]
theorem zp (a:Addr)(fl:List (Str×T)) (t:T)(b:Bool):∃ r,hAsW CS "NoQuestion" 3 gx (hAsW CS "NoAnswer" 3 gw (fun _ _=>none)) "NoQuestion" (D5 a fl t b none none)=some (.rt (some (.ob a "Asker" fl)::r) (.str "question")):=by
 have hc:CS.contains ("NoQuestion":Str)=true:=by decide +kernel
 have at3:∀ o,(D5 a fl t b (some (.xc "NoQuestion")) o)[3]?=some (some (.xc "NoQuestion")):=fun o=>rfl
 have any0:tAny (.lst [.bl false,.bl false,.bl false,.bl false])=some (.bl false):=rfl
 have e:gx (D5 a fl t b (some (.xc "NoQuestion")) none)=some (.rt (D5 a fl t b (some (.xc "NoQuestion")) (some (.pu (.lst [.bl false,.bl false,.bl false,.bl false])))) (.str "question")):=by
  unfold gx
  refine kj (vD (aA (bA (cA (ah (d8 (at3 _) hc (b:=false) (by decide +kernel)) (ah (d8 (at3 _) hc (b:=false) (by decide +kernel)) (ah (d8 (at3 _) hc (b:=false) (by decide +kernel)) (ah (d8 (at3 _) hc (b:=false) (by decide +kernel)) ai)))) (ay (by simp)))) rfl)) ?_
  exact vC (b_f2 b_kc (b_f1 (cR (d8 (at3 _) hc (b:=true) (by decide +kernel)) fun _=>cR (vp (at3 _) hc) fun _=>iN (b_f1 (b_gv rfl) any0)) rfl) rfl)
 have hs:subB "NoQuestion" "NoQuestion"=true:=by decide +kernel
 exact⟨[some (.pu t),some (.pu (.bl b)),none,some (.pu (.lst [.bl false,.bl false,.bl false,.bl false]))],vo (d:="NoQuestion") (ρ:=D5 a fl t b none none) (i:=3) hc hs e⟩
theorem Kh (a:Addr)(fl:List (Str×T)) (t:T)(b:Bool):∃ r,hAsW CS "NoQuestion" 3 gx (hAsW CS "NoAnswer" 3 gw (fun _ _=>none)) "NoAnswer" (D5 a fl t b none none)=some (.rt (some (.ob a "Asker" fl)::r) (.str "answer")):=by
 have hc:CS.contains ("NoAnswer":Str)=true:=by decide +kernel
 have at3:∀ o,(D5 a fl t b (some (.xc "NoAnswer")) o)[3]?=some (some (.xc "NoAnswer")):=fun o=>rfl
 have any0:tAny (.lst [.bl false,.bl false,.bl false])=some (.bl false):=rfl
 have e:gw (D5 a fl t b (some (.xc "NoAnswer")) none)=some (.rt (D5 a fl t b (some (.xc "NoAnswer")) (some (.pu (.lst [.bl false,.bl false,.bl false])))) (.str "answer")):=by
  unfold gw
  refine kj (vD (aA (bA (cA (ah (d8 (at3 _) hc (b:=false) (by decide +kernel)) (ah (d8 (at3 _) hc (b:=false) (by decide +kernel)) (ah (d8 (at3 _) hc (b:=false) (by decide +kernel)) ai))) (ay (by simp)))) rfl)) ?_
  exact vC (b_f2 b_kc (b_f1 (cR (d8 (at3 _) hc (b:=true) (by decide +kernel)) fun _=>cR (vp (at3 _) hc) fun _=>iN (b_f1 (b_gv rfl) any0)) rfl) rfl)
 have hs:subB "NoAnswer" "NoAnswer"=true:=by decide +kernel
 have hs2:subB "NoAnswer" "NoQuestion"=false:=by decide +kernel
 exact⟨[some (.pu t),some (.pu (.bl b)),none,some (.pu (.lst [.bl false,.bl false,.bl false]))],Bh (d:="NoQuestion") hc hs2 (vo (d:="NoAnswer") (ρ:=D5 a fl t b none none) (i:=3) hc hs e)⟩
theorem gu {ρ:Rho}:fNew (fLst (aa (kc (.str "told")) (aa (kc .non) fNil))) ρ=some (.lst [.str "told",.non]):=bA (cA (ah b_kc (ah b_kc ai)) (ay (by simp)))
theorem j6 {f:FE}{G:Rho→Option Str}{c:Option Str}{t:T}{ρ:Rho}(h1:f ρ=some t)(h2:G ρ=c):(fun ρ=>(f ρ).bind fun _=>G ρ) ρ=c:=by
 show(f ρ).bind _=_
 rw[h1];exact h2
section
variable {m:Nat}{K:List (List Nat)}{S:List Rl}
theorem Ct (hm:m≤6)(hK:K.length≤1000)(hS:∀ r∈S,Ru m r)(hl:S.length≤1000){r:Rl}(h:qst m K S=tR r)(a:Addr)(t:T):bM a (ask m K S) [t,.bl true]=some (.non,ask m K (S++[r])):=by
 refine jF (r:=[some (.pu t),some (.pu (.bl true)),none,none]) ?_
 unfold c5
 refine vE ?_
 unfold fY
 refine BB (vA (cG (b_gv rfl) cZ) (vB (j6 gu (lZ (br aD) oJ ai rfl (LB hm hK hS h))) (vq gu (b_m1 (b_m1 (vt aD oJ ai rfl (LA hm hK hS hl h a) aN) rfl) rfl) rfl)))
theorem Cu (hm:m≤6)(hK:K.length≤1000)(hS:∀ r∈S,Ru m r)(h:qst m K S=.non)(a:Addr)(t:T):bM a (ask m K S) [t,.bl true]=some (.str "question",ask m K S):=by
 obtain⟨r,e⟩:=zp a (ask m K S) t true
 refine jF (r:=r) ?_
 unfold c5
 refine oX ?_ e
 unfold fY
 exact BC (vA (cG (b_gv rfl) cZ) (oW (j6 gu (j8 (br aD) oJ ai rfl (LC hm hK hS h)))))
theorem Cs (hm:m≤6)(hK:K.length≤1000)(hS:∀ r∈S,Ru m r)(h:qst m K S=.non)(a:Addr)(t:T):bM a (ask m K S) [t,.bl false]=some (.str "question",ask m K S):=by
 obtain⟨r,e⟩:=zp a (ask m K S) t false
 refine jF (r:=r) ?_
 unfold c5
 refine oX ?_ e
 unfold fY
 exact kj (oV (cG (b_gv rfl) cZ) rfl) (oW (j6 gu (j8 (br aD) lX (ah (b_gv rfl) ai) rfl (no_x hm hK hS h t))))
theorem Cr (a:Addr)(t:T)(h:dU (ask m K S) [t]=some "NoAnswer"):bM a (ask m K S) [t,.bl false]=some (.str "answer",ask m K S):=by
 obtain⟨r,e⟩:=Kh a (ask m K S) t false
 refine jF (r:=r) ?_
 unfold c5
 refine oX ?_ e
 unfold fY
 exact kj (oV (cG (b_gv rfl) cZ) rfl) (oW (j6 gu (j8 (br aD) lX (ah (b_gv rfl) ai) rfl h)))
theorem Cq (a:Addr)(t:T){fl':List (Str×T)}(h:dU (ask m K S) [t]=none) (h2:ir a (ask m K S) [t]=some fl'):bM a (ask m K S) [t,.bl false]=some (.non,fl'):=by
 refine jF (r:=[some (.pu t),some (.pu (.bl false)),none,none]) ?_
 unfold c5
 refine vE ?_
 unfold fY
 exact kj (oV (cG (b_gv rfl) cZ) rfl) (vB (j6 gu (lZ (br aD) lX (ah (b_gv rfl) ai) rfl h)) (vq gu (b_m1 (b_m1 (vt aD lX (ah (b_gv rfl) ai) rfl h2 aN) rfl) rfl) rfl))
end
structure Asks (m:Nat)(K:List (List Nat)) (S:List Rl) (i:Nat):Prop where
 rows:∀ d∈K,Mks m d
 ru:∀ r∈S,Ru m r
 ne:∀ r∈S,sub r.2 r.1=false
 len:K.length+S.length≤i
theorem Ij {m:Nat}(hm:m≤6){K:List (List Nat)}{S:List Rl}{p:List Nat}(h:(allM m).find? (isQ m K S)=some p):Ru m (rl1 (cls m K) p)∧sub (rl1 (cls m K) p).2 (rl1 (cls m K) p).1=false:=by
 have hk:Mks m p:=(gi hm).mp (List.mem_of_find?_eq_some h)
 refine⟨⟨hk,Lv (kC _ _ _) _⟩,?_⟩
 have hq:=List.find?_some h
 unfold isQ at hq
 rw[Bool.and_eq_true] at hq
 have q1:cls m K p≠p:=by simpa using hq.1
 cases hs:sub (rl1 (cls m K) p).2 (rl1 (cls m K) p).1 with
 | false=>rfl
 | true =>
   have:=(Lw (a:=cls m K p) (b:=p) (d:=p) (fun j hj=>hj)).mp (bL.mp hs)
   exact absurd ((kC m K p).ext hk fun x=>⟨this x,fun hx=>BV hk x hx⟩) q1
abbrev L12 (ns:List Int) (m:Nat)(a:Addr)(fl:List (Str×T)) (b:Addr)(gl:List (Str×T)) (K:List (List Nat)) (S:List Rl)(o6 o7 o8 o9 o10 o11:Option Sl):Rho :=
 [some (.pu (scr ns)),some (.pu (tN m)),some (.ob a "Asker" fl),some (.ob b "Asker" gl),some (.ow (K.map tupN)),some (.ow (S.map tR)),o6,o7,o8,o9,o10,o11]
def Ans (m:Nat)(t:T):Prop:=(∃ d,Mks m d∧t=tupN d)∨t∈odds m
theorem Fo {ns:List Int}{m i:Nat}{K:List (List Nat)}{S:List Rl}(h1:1≤m)(hm:m≤6)(hi:i<500)(h:Asks m K S i)(a b:Addr)(gl:List (Str×T)) (o7 o8 o9 o10 o11:Option Sl) :
  ∃ K' S' o7' o8' o9' o10' o11',jx (L12 ns m a (ask m K S) b gl K S (some (.pu (tN i))) o7 o8 o9 o10 o11)=some (.nx (L12 ns m a (ask m K' S') b gl K' S' (some (.pu (tN i))) o7' o8' o9' o10' o11'))∧Asks m K' S' (i+1):=by
 have hl:=h.len
 have hK:K.length≤1000:=by omega
 have hSl:S.length≤1000:=by omega
 have hS:=h.ru
 have x0:=x8 ns (1+(i:Int))
 have x1:=F6 ns (1+(i:Int))
 have hq:=kO (m:=m) (K:=K) (S:=S) hm hK hS
 have hlq:=xS (m:=m) (K:=K) (S:=S) h1 hm hK hS hSl h.ne
 have hmx:=sf ns (1+(i:Int)) (by omega)
 generalize mx ns (1+(i:Int))=n at x0 x1 hmx
 have hMa:fN [.int (n / 4),tN m]=some (tupN (mk (n / 4) m)):=by have:=xU (n / 4) (m:Int) (by omega) (by omega);rwa [Int.toNat_natCast] at this
 have hA:=FY (n / 4) m
 generalize mk (n / 4) m=d0 at hMa hA
 unfold jx
 have e7:aq 2 eX (aa (gv 0) (aa (f2 tAdd (kc (.int 1)) (gv 6)) fNil)) (L12 ns m a (ask m K S) b gl K S (some (.pu (tN i))) o7 o8 o9 o10 o11)=some (.int n):=aK (ah (b_gv rfl) (ah (b_f2 b_kc (b_gv rfl) fG) ai)) rfl hmx
 have e8:cT 3 fO (aa (gv 1) (aa (go 4) (aa (go 5) fNil))) (L12 ns m a (ask m K S) b gl K S (some (.pu (tN i))) (some (.pu (.int n))) o8 o9 o10 o11)=some (qst m K S) :=
  oO (ah (b_gv rfl) (ah (b_go rfl) (ah (b_go rfl) ai))) rfl hlq (Gj m K S)
 have e9:fB (f2 tNee (aH 2 "Asker" "question" cy) (gv 8)) (L12 ns m a (ask m K S) b gl K S (some (.pu (tN i))) (some (.pu (.int n))) (some (.pu (qst m K S))) o9 o10 o11)=some false :=
  ev_eq (b_B (b_f2 (b9 (br rfl) j4 hq) (b_gv rfl) (cu (wF m K S)))) (by rw[eO];rfl)
 have e10:aq 2 fN (aa (f2 tFd (gv 7) (kc (.int 4))) (aa (gv 1) fNil)) (L12 ns m a (ask m K S) b gl K S (some (.pu (tN i))) (some (.pu (.int n))) (some (.pu (qst m K S))) o9 o10 o11)=some (tupN d0) :=
  aK (ah (b_f2 (b_gv rfl) b_kc (kZ (by omega) (by omega))) (ah (b_gv rfl) ai)) rfl hMa
 have fin:∀(t:T),Ans m t→∃ K' S' o7' o8' o9' o10' o11',sSeq (sSet 10 (kc .non)) (sSeq (sSet 11 (bB (f2 tEqq (f2 tMd (gv 7) (kc (.int 4))) (kc (.int 0))) (f2 tEqq (f2 tMd (f2 tFd (gv 7) (kc (.int 4))) (kc (.int 2))) (kc (.int 0)))))
   (sSeq (sIf (fB (f1 tIsN (gv 8)))
    (sSet 10 (kc (.str "question")))
    (sIf (fTru (gv 11))
     (sApp 5 (gv 8))
     (sIf (fB (cT 4 cN (aa (gv 9) (aa (gv 8) (aa (go 5) (aa (gv 1) fNil))))))
      (sApp 4 (gv 9))
      (sSet 10 (kc (.str "answer"))))))
   (sSeq (sIfM (mtOr (dB tNee (cV 2 "Asker" 2 bM (aa (gv 9) (aa (gv 11) fNil))) (gv 10)) (fB (f2 tNee (aH 2 "Asker" "known" cM) (fTup (aa (gv 1) (aa (f1 aP (go 4)) fNil))))))
    (sRet (kc (.bl false)))
    sNil)
   (sIf (fOr (fB (f2 tNee (aH 2 "Asker" "said" c8) (f1 aP (go 5)))) (fB (f2 tNee (aH 2 "Asker" "asked_so_far" c7) (f2 tAdd (f1 tLen (go 4)) (f1 tLen (go 5))))))
    (sRet (kc (.bl false)))
    sNil)))) (L12 ns m a (ask m K S) b gl K S (some (.pu (tN i))) (some (.pu (.int n))) (some (.pu (qst m K S))) (some (.pu t)) o10 o11)=some (.nx (L12 ns m a (ask m K' S') b gl K' S' (some (.pu (tN i))) o7' o8' o9' o10' o11'))∧Asks m K' S' (i+1):=fun t ht=>by
  obtain⟨sy,esy⟩:∃ sy,sy=(teq (.int (n % 4)) (.int 0)&&teq (.int (n / 4 % 2)) (.int 0)):=⟨_,rfl⟩
  have e11:bB (f2 tEqq (f2 tMd (gv 7) (kc (.int 4))) (kc (.int 0))) (f2 tEqq (f2 tMd (f2 tFd (gv 7) (kc (.int 4))) (kc (.int 2))) (kc (.int 0))) (L12 ns m a (ask m K S) b gl K S (some (.pu (tN i))) (some (.pu (.int n))) (some (.pu (qst m K S))) (some (.pu t)) (some (.pu .non)) o11)=some (.bl sy) :=
   ev_eq (cR (b_f2 (b_f2 (b_gv rfl) b_kc (fH (by omega))) b_kc (cY (by rw[dg];omega))) fun _=>b_f2 (b_f2 (b_f2 (b_gv rfl) b_kc (kZ (by omega) (by omega))) b_kc (fH (by omega))) b_kc (cY (by rw[dg];omega))) (by rw[esy])
  have rest:∀(K':List (List Nat)) (S':List Rl)(due:T),dep due≤60→bM a (ask m K S) [t,.bl sy]=some (due,ask m K' S')→K'.length≤1000→S'.length≤1000 →
    sSeq (sIfM (mtOr (dB tNee (cV 2 "Asker" 2 bM (aa (gv 9) (aa (gv 11) fNil))) (gv 10)) (fB (f2 tNee (aH 2 "Asker" "known" cM) (fTup (aa (gv 1) (aa (f1 aP (go 4)) fNil))))))
    (sRet (kc (.bl false)))
    sNil)
   (sIf (fOr (fB (f2 tNee (aH 2 "Asker" "said" c8) (f1 aP (go 5)))) (fB (f2 tNee (aH 2 "Asker" "asked_so_far" c7) (f2 tAdd (f1 tLen (go 4)) (f1 tLen (go 5))))))
    (sRet (kc (.bl false)))
    sNil) (L12 ns m a (ask m K S) b gl K' S' (some (.pu (tN i))) (some (.pu (.int n))) (some (.pu (qst m K S))) (some (.pu t)) (some (.pu due)) (some (.pu (.bl sy))))=some (.nx (L12 ns m a (ask m K' S') b gl K' S' (some (.pu (tN i))) (some (.pu (.int n))) (some (.pu (qst m K S))) (some (.pu t)) (some (.pu due)) (some (.pu (.bl sy))))):=fun K' S' due dd hdone lK lS=>by
   have dT:dep (tbl m K')≤60:=by
    refine Nat.le_trans (iU (d:=2) fun u hu=>?_) (by decide)
    simp only[List.mem_cons,List.not_mem_nil,or_false] at hu
    rcases hu with rfl|rfl
    ·have:=mq m;omega
    ·refine iU fun u hu=>?_
     obtain⟨x,_,rfl⟩:=List.mem_map.mp hu
     exact qp x
   have dS:dep (tRs S')≤60:=Nat.le_trans (iU (d:=2) fun u hu=>by
    obtain⟨x,_,rfl⟩:=List.mem_map.mp hu
    exact qo x) (by decide)
   have c1:mtOr (dB tNee (cV 2 "Asker" 2 bM (aa (gv 9) (aa (gv 11) fNil))) (gv 10)) (fB (f2 tNee (aH 2 "Asker" "known" cM) (fTup (aa (gv 1) (aa (f1 aP (go 4)) fNil))))) (L12 ns m a (ask m K S) b gl K' S' (some (.pu (tN i))) (some (.pu (.int n))) (some (.pu (qst m K S))) (some (.pu t)) (some (.pu due)) (some (.pu (.bl sy))))
     = some (false||false,L12 ns m a (ask m K' S') b gl K' S' (some (.pu (tN i))) (some (.pu (.int n))) (some (.pu (qst m K S))) (some (.pu t)) (some (.pu due)) (some (.pu (.bl sy)))):=by
    refine Bm (Bl (Bk rfl (ah (b_gv rfl) (ah (b_gv rfl) ai)) rfl hdone rfl) (b_gv rfl) ?_) fun _=>?_
    ·rw[cu dd,eO];rfl
    ·refine ev_eq (b_B (b_f2 (b9 (br rfl) vd xB) (bF (ah (b_gv rfl) (ah (b_f1 (b_go rfl) jn) ai)) (ay (by simp))) (cu dT))) ?_
     rw[eO];rfl
   refine Bt c1 rfl (bw (bN (b:=false) ?_ (fun z=>by cases z) fun _=>kh))
   refine ev_eq (b_or (b_B (b_f2 (b9 (br rfl) vf ze) (b_f1 (b_go rfl) jn) (cu dS))) fun _=>b_B (b_f2 (b9 (br rfl) vc vg) (b_f2 (b_f1 (b_go rfl) nO) (b_f1 (b_go rfl) nO) fG) (cu (by rw[dg];omega)))) ?_
   rw[eO,jo,List.length_map,List.length_map]
   simp
  have ds:∀ x:Str,dep (.str x)≤60:=fun x=>by simp [dep]
  cases hf:(allM m).find? (isQ m K S) with
  | none =>
    have e0:qst m K S=.non:=by unfold qst;rw[hf]
    have hdone:bM a (ask m K S) [t,.bl sy]=some (.str "question",ask m K S):=by
     cases sy with
     | true=>exact Cu hm hK hS e0 a t
     | false=>exact Cs hm hK hS e0 a t
    refine⟨K,S,_,_,_,_,_,aC (aA b_kc rfl) (aC (aA e11 rfl) (aC (bN (b:=true) (b_B (b_f1 (b_gv rfl) ?_)) (fun _=>aA b_kc rfl) fun z=>by cases z) (rest K S (.str "question") (ds _) hdone hK hSl))),h.rows,h.ru,h.ne,by omega⟩
    rw[e0];rfl
  | some p =>
    have e0:qst m K S=tR (rl1 (cls m K) p):=by unfold qst;rw[hf];rfl
    obtain⟨hru,hne⟩:=Ij hm hf
    have c0:fB (f1 tIsN (gv 8)) (L12 ns m a (ask m K S) b gl K S (some (.pu (tN i))) (some (.pu (.int n))) (some (.pu (qst m K S))) (some (.pu t)) (some (.pu .non)) (some (.pu (.bl sy))))=some false:=b_B (b_f1 (b_gv rfl) (by rw[e0];rfl))
    cases hsy:sy with
    | true =>
      rw[hsy] at e11 c0 rest
      have hdone:=Ct hm hK hS hSl e0 a t
      refine⟨K,S++[rl1 (cls m K) p],_,_,_,_,_,aC (aA b_kc rfl) (aC (aA e11 rfl) (aC (ρ':=L12 ns m a (ask m K S) b gl K (S++[rl1 (cls m K) p]) (some (.pu (tN i))) (some (.pu (.int n))) (some (.pu (qst m K S))) (some (.pu t)) (some (.pu .non)) (some (.pu (.bl true)))) (bN c0 (fun z=>by cases z) fun _=>bN (b:=true) (cG (b_gv rfl) cZ) (fun _=>?_) fun z=>by cases z) (rest K (S++[rl1 (cls m K) p]) .non (by simp [dep]) hdone hK (by simp;omega)))),h.rows,?_,?_,by simp;omega⟩
      ·refine oN rfl (b_gv rfl) (tK (by rw[List.length_map];omega)) ?_
       have em:(S++[rl1 (cls m K) p]).map tR=S.map tR++[tR (rl1 (cls m K) p)]:=by rw[List.map_append];rfl
       rw[e0]
       show(_:Rho)=[_,_,_,_,_,some (.ow ((S++[rl1 (cls m K) p]).map tR)),_,_,_,_,_,_]
       rw[em];rfl
      ·intro r hr
       rcases List.mem_append.mp hr with hr|hr
       ·exact hS r hr
       ·obtain rfl:r=rl1 (cls m K) p:=by simpa using hr
        exact hru
      ·intro r hr
       rcases List.mem_append.mp hr with hr|hr
       ·exact h.ne r hr
       ·obtain rfl:r=rl1 (cls m K) p:=by simpa using hr
        exact hne
    | false =>
      rw[hsy] at e11 c0 rest
      have bad:cN [t,tR (rl1 (cls m K) p),.lst (S.map tR),tN m]=some (.bl false)→dU (ask m K S) [t]=some "NoAnswer"→∃ K' S' o7' o8' o9' o10' o11',sSeq (sSet 10 (kc .non)) (sSeq (sSet 11 (bB (f2 tEqq (f2 tMd (gv 7) (kc (.int 4))) (kc (.int 0))) (f2 tEqq (f2 tMd (f2 tFd (gv 7) (kc (.int 4))) (kc (.int 2))) (kc (.int 0)))))
        (sSeq (sIf (fB (f1 tIsN (gv 8)))
         (sSet 10 (kc (.str "question")))
         (sIf (fTru (gv 11))
          (sApp 5 (gv 8))
          (sIf (fB (cT 4 cN (aa (gv 9) (aa (gv 8) (aa (go 5) (aa (gv 1) fNil))))))
           (sApp 4 (gv 9))
           (sSet 10 (kc (.str "answer"))))))
        (sSeq (sIfM (mtOr (dB tNee (cV 2 "Asker" 2 bM (aa (gv 9) (aa (gv 11) fNil))) (gv 10)) (fB (f2 tNee (aH 2 "Asker" "known" cM) (fTup (aa (gv 1) (aa (f1 aP (go 4)) fNil))))))
         (sRet (kc (.bl false)))
         sNil)
        (sIf (fOr (fB (f2 tNee (aH 2 "Asker" "said" c8) (f1 aP (go 5)))) (fB (f2 tNee (aH 2 "Asker" "asked_so_far" c7) (f2 tAdd (f1 tLen (go 4)) (f1 tLen (go 5))))))
         (sRet (kc (.bl false)))
         sNil)))) (L12 ns m a (ask m K S) b gl K S (some (.pu (tN i))) (some (.pu (.int n))) (some (.pu (qst m K S))) (some (.pu t)) o10 o11)=some (.nx (L12 ns m a (ask m K' S') b gl K' S' (some (.pu (tN i))) o7' o8' o9' o10' o11'))∧Asks m K' S' (i+1):=fun ha hg =>
          ⟨K,S,_,_,_,_,_,aC (aA b_kc rfl) (aC (aA e11 rfl) (aC (bN c0 (fun z=>by cases z) fun _=>bN (b:=false) (cG (b_gv rfl) cZ) (fun z=>by cases z) fun _=>bN (b:=false) (b_B (oO (ah (b_gv rfl) (ah (by rw[← e0];exact b_gv rfl) (ah (b_go rfl) (ah (b_gv rfl) ai)))) rfl ha rfl)) (fun z=>by cases z) fun _=>aA b_kc rfl) (rest K S (.str "answer") (ds _) (Cr a t hg) hK hSl))),h.rows,h.ru,h.ne,by omega⟩
      rcases ht with⟨d,hd,rfl⟩|ht
      ·have ha:=A3 (S:=S) h1 hm hS hSl hru hd
       have hg:=Gh (K:=K) hm hK hS hSl e0 hru hd
       cases hgood:(sub (rl1 (cls m K) p).1 d&&!sub (rl1 (cls m K) p).2 d&&S.all fun q=>!(sub q.1 d&&!sub q.2 d)) with
       | false =>
         rw[hgood] at ha hg
         exact bad ha hg
       | true =>
         rw[hgood] at ha hg
         rw[if_pos rfl] at hg
         rw[Bool.and_eq_true,Bool.and_eq_true] at hgood
         have hno:=Gg hm (by omega) hS hSl e0 hru hd hgood.1.1 (sH hgood.1.2) (fun q hq=>sH (List.all_eq_true.mp hgood.2 q hq)) a
         refine⟨K++[d],S,_,_,_,_,_,aC (aA b_kc rfl) (aC (aA e11 rfl) (aC (ρ':=L12 ns m a (ask m K S) b gl (K++[d]) S (some (.pu (tN i))) (some (.pu (.int n))) (some (.pu (qst m K S))) (some (.pu (tupN d))) (some (.pu .non)) (some (.pu (.bl false)))) (bN c0 (fun z=>by cases z) fun _=>bN (b:=false) (cG (b_gv rfl) cZ) (fun z=>by cases z) fun _=>bN (b:=true) (b_B (oO (ah (b_gv rfl) (ah (by rw[← e0];exact b_gv rfl) (ah (b_go rfl) (ah (b_gv rfl) ai)))) rfl ha rfl)) (fun _=>?_) fun z=>by cases z) (rest (K++[d]) S .non (by simp [dep]) (Cq a (tupN d) hg hno) (by simp;omega) hSl))),?_,h.ru,h.ne,by simp;omega⟩
         ·refine oN rfl (b_gv rfl) (tK (by rw[List.length_map];omega)) ?_
          have em:(K++[d]).map tupN=K.map tupN++[tupN d]:=by rw[List.map_append];rfl
          show(_:Rho)=[_,_,_,_,some (.ow ((K++[d]).map tupN)),_,_,_,_,_,_,_]
          rw[em];rfl
         ·intro x hx
          rcases List.mem_append.mp hx with hx|hx
          ·exact h.rows x hx
          ·obtain rfl:x=d:=by simpa using hx
           exact hd
      ·exact bad (GL h1 hm ht _ _) (Gf hm hK hS e0 (GN h1 ht))
 have odd:∀(t:T)(o9:Option Sl),o9=some (.pu t)→Ans m t→∃ K' S' o7' o8' o9' o10' o11',sSeq (sIf (fAnd (fB (f2 tEqq (f2 tMd (gv 7) (kc (.int 4))) (kc (.int 1)))) (fB (f2 tEqq (f2 tMd (f2 tFd (gv 7) (kc (.int 4))) (kc (.int 3))) (kc (.int 0)))))
    (sSet 9 (f2 tIx (fNew (fLst (aa (kc .non) (aa (fNew (fLst (aa (kc (.int 0)) fNil))) (aa (fTup (aa (gv 1) fNil)) (aa (fTup (aa (f1 tNeg (kc (.int 1))) fNil)) (aa (fTup (aa (kc (.int 0)) (aa (kc (.int 0)) fNil))) (aa (fTup (aa (kc (.bl true)) fNil)) (aa (kc (.str "0")) fNil))))))))) (f2 tMd (f2 tFd (gv 7) (kc (.int 12))) (kc (.int 7)))))
    sNil) (sSeq (sSet 10 (kc .non)) (sSeq (sSet 11 (bB (f2 tEqq (f2 tMd (gv 7) (kc (.int 4))) (kc (.int 0))) (f2 tEqq (f2 tMd (f2 tFd (gv 7) (kc (.int 4))) (kc (.int 2))) (kc (.int 0)))))
   (sSeq (sIf (fB (f1 tIsN (gv 8)))
    (sSet 10 (kc (.str "question")))
    (sIf (fTru (gv 11))
     (sApp 5 (gv 8))
     (sIf (fB (cT 4 cN (aa (gv 9) (aa (gv 8) (aa (go 5) (aa (gv 1) fNil))))))
      (sApp 4 (gv 9))
      (sSet 10 (kc (.str "answer"))))))
   (sSeq (sIfM (mtOr (dB tNee (cV 2 "Asker" 2 bM (aa (gv 9) (aa (gv 11) fNil))) (gv 10)) (fB (f2 tNee (aH 2 "Asker" "known" cM) (fTup (aa (gv 1) (aa (f1 aP (go 4)) fNil))))))
    (sRet (kc (.bl false)))
    sNil)
   (sIf (fOr (fB (f2 tNee (aH 2 "Asker" "said" c8) (f1 aP (go 5)))) (fB (f2 tNee (aH 2 "Asker" "asked_so_far" c7) (f2 tAdd (f1 tLen (go 4)) (f1 tLen (go 5))))))
    (sRet (kc (.bl false)))
    sNil))))) (L12 ns m a (ask m K S) b gl K S (some (.pu (tN i))) (some (.pu (.int n))) (some (.pu (qst m K S))) o9 o10 o11)=some (.nx (L12 ns m a (ask m K' S') b gl K' S' (some (.pu (tN i))) o7' o8' o9' o10' o11'))∧Asks m K' S' (i+1):=fun t o9 eo ht=>by
  subst eo
  have q0:0≤n / 12 % 7:=by omega
  have q1:n / 12 % 7<7:=by omega
  have hix:∃ u∈odds m,atI [T.non,.lst [.int 0],.tup [tN m],.tup [.int (-1)],.tup [.int 0,.int 0],.tup [.bl true],.str "0"] (n / 12 % 7)=some u:=by
   have hi:(n / 12 % 7).toNat<(odds m).length:=by simp [odds];omega
   exact⟨(odds m)[(n / 12 % 7).toNat],List.getElem_mem _,oM q0 (List.getElem?_eq_getElem hi)⟩
  obtain⟨u,hu,eu⟩:=hix
  obtain⟨cb,ecb⟩:∃ cb,cb=(teq (.int (n % 4)) (.int 1)&&teq (.int (n / 4 % 3)) (.int 0)):=⟨_,rfl⟩
  have c:fAnd (fB (f2 tEqq (f2 tMd (gv 7) (kc (.int 4))) (kc (.int 1)))) (fB (f2 tEqq (f2 tMd (f2 tFd (gv 7) (kc (.int 4))) (kc (.int 3))) (kc (.int 0)))) (L12 ns m a (ask m K S) b gl K S (some (.pu (tN i))) (some (.pu (.int n))) (some (.pu (qst m K S))) (some (.pu t)) o10 o11)=some cb :=
   ev_eq (f7 (b_B (b_f2 (b_f2 (b_gv rfl) b_kc (fH (by omega))) b_kc (cY (by rw[dg];omega)))) fun _=>b_B (b_f2 (b_f2 (b_f2 (b_gv rfl) b_kc (kZ (by omega) (by omega))) b_kc (fH (by omega))) b_kc (cY (by rw[dg];omega)))) (by rw[ecb])
  cases hcb:cb with
  | false =>
    rw[hcb] at c
    obtain⟨K',S',p7,p8,p9,p10,p11,e,hA⟩:=fin t ht
    exact⟨K',S',p7,p8,p9,p10,p11,aQ c (fun z=>by cases z) fun _=>bw e,hA⟩
  | true =>
    rw[hcb] at c
    obtain⟨K',S',p7,p8,p9,p10,p11,e,hA⟩:=fin u (.inr hu)
    refine⟨K',S',p7,p8,p9,p10,p11,aQ c (fun _=>aC (aA (t:=u) ?_ rfl) e) (fun z=>by cases z),hA⟩
    refine b_f2 (bA (cA (ah b_kc (ah (bA (cA (ah b_kc ai) (ay (by simp)))) (ah (bF (ah (b_gv rfl) ai) (ay (by simp))) (ah (bF (ah (b_f1 b_kc zA) ai) (ay (by simp))) (ah (bF (ah b_kc (ah b_kc ai)) (ay (by simp))) (ah (bF (ah b_kc ai) (ay (by simp))) (ah b_kc ai))))))) (ay (by simp)))) (b_f2 (b_f2 (b_gv rfl) b_kc (kZ (by omega) (by omega))) b_kc (fH (by omega))) (zv eu)
 obtain⟨cb,ecb⟩:∃ cb,cb=(decide ((1:Int)<n % 4)&&(match qst m K S with|.non=>false|_=>true)):=⟨_,rfl⟩
 have c:fAnd (fB (f2 tGtI (f2 tMd (gv 7) (kc (.int 4))) (kc (.int 1)))) (fB (f1 jm (gv 8))) (L12 ns m a (ask m K S) b gl K S (some (.pu (tN i))) (some (.pu (.int n))) (some (.pu (qst m K S))) (some (.pu (tupN d0))) o10 o11)=some cb:=by
  refine ev_eq (f7 (b:=match qst m K S with|.non=>false|_=>true) (b_B (b_f2 (b_f2 (b_gv rfl) b_kc (fH (by omega))) b_kc zu)) fun _=>b_B (b_f1 (b_gv rfl) ?_)) (by rw[ecb])
  cases qst m K S<;>rfl
 cases hcb:cb with
 | false =>
   rw[hcb] at c
   obtain⟨K',S',p7,p8,p9,p10,p11,e,hA2⟩:=odd (tupN d0) _ rfl (.inl ⟨d0,hA,rfl⟩)
   exact⟨K',S',p7,p8,p9,p10,p11,aC (aA e7 rfl) (aC (aA e8 rfl) (aQ e9 (fun z=>by cases z) fun _=>bw (aC (aA e10 rfl) (aQ c (fun z=>by cases z) fun _=>bw e)))),hA2⟩
 | true =>
   rw[hcb] at c ecb
   have hqr:∃ r:Rl,qst m K S=tR r:=by
    cases hf:(allM m).find? (isQ m K S) with
    | some p=>exact⟨rl1 (cls m K) p,by unfold qst;rw[hf];rfl⟩
    | none =>
      have e0:qst m K S=.non:=by unfold qst;rw[hf]
      rw[e0] at ecb
      simp at ecb
   obtain⟨r,er⟩:=hqr
   have key:aG (gNm 0) lG (gv 0) [none,some (Sl.pu (qst m K S)),some (Sl.pu (tupN d0))] (rangeT 0 (m:Int).toNat)=some (((List.range m).filter fun j=>r.1.contains j||d0.contains j).map tN):=by
    rw[Int.toNat_natCast,kP,er]
    refine d9 _ _ fun j hj=>⟨_,bq aN,?_,fun _=>rfl⟩
    unfold lG
    refine ev_eq (b_or (b_B (b_f2 (b_gv rfl) (b_f2 (b_gv rfl) b_kc (dM j5)) (ua (qm _)))) fun _=>b_B (b_f2 (b_gv rfl) (b_gv rfl) (ua (qm _)))) ?_
    rw[eE,eE]
   obtain⟨K',S',p7,p8,p9,p10,p11,e,hA2⟩:=odd (tupN ((List.range m).filter fun j=>r.1.contains j||d0.contains j)) _ rfl (.inl ⟨_,.filter _,rfl⟩)
   refine⟨K',S',p7,p8,p9,p10,p11,aC (aA e7 rfl) (aC (aA e8 rfl) (aQ e9 (fun z=>by cases z) fun _=>bw (aC (aA e10 rfl) (aQ c (fun _=>aC (aA (t:=tupN ((List.range m).filter fun j=>r.1.contains j||d0.contains j)) ?_ rfl) e) fun z=>by cases z)))),hA2⟩
   exact b_f1 (bA (d7 (oR (b_gv rfl) (by omega) (by omega)) (ay (by rw[kP];simp;omega)) rfl key)) jn
theorem Fl (ns:List Int)(h:ns.length≤63):iC [.lst (ns.map T.int)]=some (.bl true):=by
 have x0:=x8 ns 0
 obtain⟨m,em⟩:∃ m:Nat,(m:Int)=1+mx ns 0 % 5:=⟨(1+mx ns 0 % 5).toNat,by omega⟩
 have h1:1≤m:=by omega
 have hm:m≤6:=by omega
 refine Ak ?_
 unfold gZ
 have e1:f2 tAdd (kc (.int 1)) (f2 tMd (aq 2 eX (aa (gv 0) (aa (kc (.int 0)) fNil))) (kc (.int 5))) [some (.pu (scr ns)),none,none,none,none,none,none,none,none,none,none,none]=some (tN m):=by
  refine ev_eq (b_f2 b_kc (b_f2 (aK (ah (b_gv rfl) (ah b_kc ai)) rfl (sf ns 0 (by omega))) b_kc (fH (by omega))) fG) ?_
  rw[← em]
 refine aC (aA e1 rfl) ?_
 unfold oh
 refine vv (fl:=ask m [] []) (ts:=[tN m]) (ah (b_gv rfl) ai) rfl (fun a=>xg a m) fun a=>?_
 unfold oj
 refine vv (fl:=ask m [] []) (ts:=[tN m]) (ah (b_gv rfl) ai) rfl (fun a=>xg a m) fun b=>?_
 unfold om
 refine aC (oQ (cA ai (ay (by simp))) rfl) ?_
 unfold oq
 refine aC (oQ (cA ai (ay (by simp))) rfl) ?_
 show lU (L12 ns m a (ask m [] []) b (ask m [] []) [] [] none none none none none none)=_
 unfold lU
 obtain⟨n,hn,en⟩:∃ n:Nat,n≤30∧fRng (f2 tMin (kc (.int 30)) (f2 tAdd (kc (.int 2)) (f1 tLen (gv 0)))) (L12 ns m a (ask m [] []) b (ask m [] []) [] [] none none none none none none)=some (rangeT 0 n):=by
  have e2:f2 tMin (kc (.int 30)) (f2 tAdd (kc (.int 2)) (f1 tLen (gv 0))) (L12 ns m a (ask m [] []) b (ask m [] []) [] [] none none none none none none)=some (.int (if 2+((ns.map T.int).length:Int)<30 then 2+((ns.map T.int).length:Int) else 30)):=b_f2 b_kc (b_f2 b_kc (b_f1 (b_gv rfl) nO) fG) zy
  refine⟨(if 2+((ns.map T.int).length:Int)<30 then 2+((ns.map T.int).length:Int) else 30).toNat,by split<;>omega,oR e2 (by split<;>omega) (by split<;>omega)⟩
 obtain⟨ρ2,hl,K,S,o6,o7,o8,o9,o10,o11,e,hA⟩:=xN (g:=gNm 6) (b:=jx) (fun i ρ=>∃ K S o6 o7 o8 o9 o10 o11,ρ=L12 ns m a (ask m K S) b (ask m [] []) K S o6 o7 o8 o9 o10 o11∧Asks m K S i) n
  (L12 ns m a (ask m [] []) b (ask m [] []) [] [] none none none none none none) (fun i ρ hi ⟨K,S,o6,o7,o8,o9,o10,o11,e,hA⟩=>by
   subst e
   obtain⟨K',S',p7,p8,p9,p10,p11,e1,e2⟩:=Fo (ns:=ns) (i:=i) h1 hm (by omega) hA a b (ask m [] []) o7 o8 o9 o10 o11
   exact⟨_,_,bq (aV (aV (aV (aV (aV (aV aN)))))),e1,K',S',some (.pu (tN i)),p7,p8,p9,p10,p11,rfl,e2⟩)
  ⟨[],[],none,none,none,none,none,none,rfl,(fun _ h=>nomatch h),(fun _ h=>nomatch h),(fun _ h=>nomatch h),Nat.le_refl _⟩
 subst e
 refine cS en hl (gb ?_)
 unfold ou
 have hq0:=kO (m:=m) (K:=[]) (S:=[]) hm (by simp) (fun _ h=>nomatch h)
 have hlq:=xS (m:=m) (K:=[]) (S:=[]) h1 hm (by simp) (fun _ h=>nomatch h) (by simp) (fun _ h=>nomatch h)
 refine aQ (b:=false) ?_ (fun z=>by cases z) fun _=>bw ?_
 ·refine ev_eq (b_or (b_B (b_f2 (b9 (br rfl) vf ze) (bF ai (ay (by simp))) (cu (by simp [dep,depL])))) fun _=>b_B (b_f2 (b9 (br rfl) vd xB) (bF (ah (b_gv rfl) (ah (bF ai (ay (by simp))) ai)) (ay (by simp))) (cu (by simp [dep,depL])))) ?_
  rw[show tRs []=T.tup [] from rfl,show tbl m []=T.tup [tN m,T.tup []] from rfl,eO,eO];rfl
 unfold oz
 refine aZ (cR (b_f2 (b9 (br rfl) vc vg) b_kc (cY (by rw[dg];omega))) fun _=>b_f2 (b9 (br rfl) j4 hq0) (aK (ah (b_gv rfl) (ah (bA (cA ai (ay (by simp)))) (ah (bA (cA ai (ay (by simp)))) ai))) rfl hlq) (cY (wF _ _ _))) ?_
 rw[eO,jo];rfl
end G
set_option maxHeartbeats 4000000
namespace G
open PySem L2
open TL hiding er_of ev_new ev_var er_own ev_int ev_bl ev_non ev_str ea_nil ea_cons ev_tup ef_lst ev_op ev_cmp et_val et_cmp et_not ew_and1 ew_or1 ew_and ew_or et_w ev_one ev_and ev_not ev_ifExp et_chain ev_neg ev_ix ev_b1 ev_y1 ev_isi ev_min ir_seq ip_seq ip_range ip_range2 ir_of eg_name eg_tup2 ss_nil ss_cons ss_one s_ret s_retO s_set s_own s_app s_if s_for s_while ev_has ef_comp' et_ifs1 et_ifs0 ez_set ez_or ef_sorted ef_lrange ir_enum s_setC ef_compN et_tru s_extend ef_sortP ev_isx ev_isv s_no x_raise x_if x_one x_cons x_nil x_st x_never ev_fld s_fld ev_meth ss_make et_isN et_notN xr_tup xr_op x_fldE x_setE x_or eao_nil eao_cons eao_own ev_hasR em_isN em_y1 em_ix em_meth0 em_meth1 emt_cmp emw_or emt_w s_ifM xr_isN xr_y1 xr_ix xr_metY0 xr_metY1 w_ret w_retV w_st w_nil w_one w_cons w_if hw_nil em_hasD hw_as w_try
open TL.W
def aR (K:PySem.W.Frag) (x:Str)(st:Stmt):Prop:=∃(f:Addr)(oc:Value)(od an:Option Addr)(osl:Array (Option Value)) (kV doc pm cdv ct:Value),PySem.W.nsIn K mainGlobals x=some (some (.ref f))∧K.lookup f=some ⟨oc,od,.func (PySem.W.fnOf x x (bf st) (aj st) (af st) .none kV doc pm an cdv ct),osl⟩∧PySem.W.codeIn K cdv x=true∧PySem.W.keepIn K (.ref f)=true
theorem Cj {K:PySem.W.Frag}{x:Str}{st:Stmt}{f:Addr}{oc:Value}{od an:Option Addr}{osl:Array (Option Value)}{kV doc pm cdv ct:Value}(a:PySem.W.nsIn K mainGlobals x=some (some (.ref f))) (l:K.lookup f=some ⟨oc,od,.func (PySem.W.fnOf x x (bf st) (aj st) (af st) .none kV doc pm an cdv ct),osl⟩)
  (c:PySem.W.codeIn K cdv x=true)(k:PySem.W.keepIn K (.ref f)=true):aR K x st:=⟨f,oc,od,an,osl,kV,doc,pm,cdv,ct,a,l,c,k⟩
theorem aY {K:PySem.W.Frag}{mg:Str→Option Value}{h:Heap}{x:Str}{st:Stmt}{ps:List Str}(X:K.In h)(G:h.Ns mainGlobals mg)(d:aR K x st)
  (hb:∀(kV doc pm:Value)(an:Option Addr)(cdv ct:Value)(us:List Value),us.length=ps.length→bindArgs (PySem.W.fnOf x x (bf st) (aj st) (af st) .none kV doc pm an cdv ct) ⟨us,[]⟩=pure (ps.zip us)):Src K mg x st ps :=
 let ⟨_,_,_,_,_,_,_,_,_,_,a,l,c,k⟩:=d
 J2 X G a l c k hb
variable {P:Program}{w:World}{K:PySem.W.Frag}{mg:Str→Option Value}{base:Heap}
def top (i:Nat):Stmt:=PySem.Challenge.pw_markhall_k40_asking.main.body.getD i (.Pass ⟨0,0,0,0⟩)
abbrev fP:Stmt:=inClass (top 25) 0
abbrev Ar:List Str:=["self","many"]
theorem Jr:av Ar ["self","many"] (af fP):=⟨rfl,rfl,rfl,by decide +kernel,rfl,by decide +kernel,by decide +kernel⟩
theorem DF (src:SrcM K "Asker" "__init__" "Asker.__init__" fP ["self","many"])(az:Cls K (clsAt K "Asker")) (cB:aL K (clsAt K "Asker") "many") (aS:aL K (clsAt K "Asker") "rules") (bG:aL K (clsAt K "Asker") "table"):b8 P w K mg base "Asker" "__init__" 1 1 ig :=
 by
 refine qQ (k:=0) (F:=gA) rfl rfl src Jr fun f cdv A outer s H E z hr hz=>?_
 unfold gA
 show sVs _ _ (aj fP) _
 conv=>arg 2;whnf
 exact
  (ss_cons (s_fld 0 hz az cB (ev_var 1))
  (ss_cons (s_fld 0 hz az bG (ev_tup (ea_cons (ev_var 1) (ea_cons (ev_tup ea_nil) ea_nil eN) ao)))
  (ss_one (s_fld 0 hz az aS (ev_tup ea_nil)))))
abbrev jP:Stmt:=top 27
abbrev Az:List Str:=["_law_script","_law_k"]
theorem Jw:av Az ["_law_script","_law_k"] (af jP):=⟨rfl,rfl,rfl,by decide +kernel,rfl,by decide +kernel,by decide +kernel⟩
theorem DO (src:Src K mg "_law_cell_at" jP ["_law_script","_law_k"])(bX:mg "len"=none):Has P w K mg base "_law_cell_at" 1 2 jH :=
 by
 refine bg (k:=0) (F:=gJ) rfl rfl src Jw fun f cdv A outer s H E z hr hz=>?_
 unfold gJ
 show sVs _ _ (aj jP) _
 conv=>arg 2;whnf
 exact
  (ss_cons (s_if (et_cmp hz o_lt (er_of (ev_var 1)) (er_of (ev_b1 hz f9 rfl bX PySem.boot_len (er_of (ev_var 0)))) (aT _))
   (ss_one (s_ret (ev_ix hz (er_of (ev_var 0)) (ev_var 1) (fun _ _=>rfl))))
   ss_nil)
  (ss_one (s_ret ev_int)))
abbrev jR:Stmt:=top 28
abbrev AD:List Str:=["_law_script","_law_k","_law_drawn_here"]
theorem zj:av AD ["_law_script","_law_k"] (af jR):=⟨rfl,rfl,rfl,by decide +kernel,rfl,by decide +kernel,by decide +kernel⟩
theorem DV (src:Src K mg "_law_mixed" jR ["_law_script","_law_k"])(qB:Has P w K mg base "_law_cell_at" 1 2 jH):Has P w K mg base "_law_mixed" 2 2 eX :=
 by
 refine bg (k:=1) (F:=gQ) rfl rfl src zj fun f cdv A outer s H E z hr hz=>?_
 unfold gQ
 show sVs _ _ (aj jR) _
 conv=>arg 2;whnf
 exact
  (ss_cons (s_set 2 zj.nd (ev_op hz o_md (er_of (ev_op hz fD (er_of (ev_op hz bh (er_of (ev_op hz bh (er_of (ev_has hz qB (hr.mono (by decide)) (ea_cons (ev_var 0) (ea_cons (ev_var 1) ea_nil ao) ao))) (er_of (ev_op hz fD (er_of ev_int) (er_of (ev_var 1)))))) (er_of ev_int))) (er_of ev_int))) (er_of ev_int)))
  (ss_one (s_ret (ev_op hz o_md (er_of (ev_op hz bh (er_of (ev_op hz bh (er_of (ev_op hz fD (er_of (ev_var 2)) (er_of (ev_var 2)))) (er_of (ev_op hz fD (er_of ev_int) (er_of (ev_var 2)))))) (er_of (ev_var 1)))) (er_of ev_int)))))
abbrev eY:Stmt:=top 33
abbrev lT:List Str:=["_law_many","_law_found","_law_mark"]
theorem nC:av lT ["_law_many"] (af eY):=⟨rfl,rfl,rfl,by decide +kernel,rfl,by decide +kernel,by decide +kernel⟩
theorem DS (src:Src K mg "_law_every" eY ["_law_many"])(bX:mg "len"=none)(bC:mg "range"=none)(jd:mg "sorted"=none):Has P w K mg base "_law_every" 1 1 dW :=
 by
 refine bg (k:=0) (F:=gO) rfl rfl src nC fun f cdv A outer s H E z hr hz=>?_
 unfold gO jD jv lO
 show sVs _ _ (aj eY) _
 conv=>arg 2;whnf
 exact
  (ss_cons (s_set 1 nC.nd (ev_new (ef_lst (ea_cons (ev_tup ea_nil) ea_nil eN))))
  (ss_cons (s_for PassesOwn.never rfl (ip_range rfl bC (ev_var 0)) (eg_name 2 nC.nd)
   (ss_one (s_set 1 nC.nd (ev_op hz bh (er_of (ev_var 1)) (er_of (ev_new (ef_comp' lT (af eY) ["_law_row","_law_mark"] [none,some 2] [0] (by decide +kernel) hz (ir_seq hz (er_of (ev_var 1))) (fun C s H fp z' (hz':z'.K=K)=>(eg_name 0 (show List.Nodup (["_law_row","_law_mark"]:List Str) by decide +kernel))) (fun C s H fp z' (hz':z'.K=K)=>et_ifs0) (fun C s H fp z' (hz':z'.K=K)=>(ev_op hz' bh (er_of (ev_var 0)) (er_of (ev_tup (ea_cons (ev_var 1) ea_nil ao))))))))))))
  (ss_one (s_ret (ev_new (ef_comp' lT (af eY) ["_law_size","_law_row"] [none,none] [0,1] (by decide +kernel) hz (ir_seq hz (er_of (ev_new (ef_sortP hz (hr).units rfl jd (er_of (ev_new (ef_comp' lT (af eY) ["_law_row"] [none] [0] (by decide +kernel) hz (ir_seq hz (er_of (ev_var 1))) (fun C s H fp z' (hz':z'.K=K)=>(eg_name 0 (show List.Nodup (["_law_row"]:List Str) by decide +kernel))) (fun C s H fp z' (hz':z'.K=K)=>et_ifs0) (fun C s H fp z' (hz':z'.K=K)=>(ev_tup (ea_cons (ev_b1 hz' f9 rfl bX PySem.boot_len (er_of (ev_var 0))) (ea_cons (ev_var 0) ea_nil ao) ck)))))))))) (fun C s H fp z' (hz':z'.K=K)=>(eg_tup2 hz' rfl 0 1 (show List.Nodup (["_law_size","_law_row"]:List Str) by decide +kernel))) (fun C s H fp z' (hz':z'.K=K)=>et_ifs0) (fun C s H fp z' (hz':z'.K=K)=>(ev_var 1))))))))
abbrev fU:Stmt:=top 34
abbrev nY:List Str:=["_law_table_here","_law_marks_here","_law_found","_law_row"]
theorem nB:av nY ["_law_table_here","_law_marks_here"] (af fU):=⟨rfl,rfl,rfl,by decide +kernel,rfl,by decide +kernel,by decide +kernel⟩
theorem DP (src:Src K mg "_law_closed" fU ["_law_table_here","_law_marks_here"])(su:mg "list"=none)(bC:mg "range"=none)(aJ:mg "tuple"=none):Has P w K mg base "_law_closed" 1 2 iu :=
 by
 refine bg (k:=0) (F:=gK) rfl rfl src nB fun f cdv A outer s H E z hr hz=>?_
 unfold gK ju lJ lB
 show sVs _ _ (aj fU) _
 conv=>arg 2;whnf
 exact
  (ss_cons (s_set 2 nB.nd (ev_new (ef_lrange rfl rfl su rfl bC (ev_ix hz (er_of (ev_var 0)) ev_int (fun _ _=>rfl)))))
  (ss_cons (s_for PassesOwn.never rfl (ip_seq hz (ev_ix hz (er_of (ev_var 0)) ev_int (fun _ _=>rfl))) (eg_name 3 nB.nd)
   (ss_one (s_if (et_cmp hz (o_eq (hr).units) (er_of (ev_new (ef_comp' nY (af fU) ["_law_mark","_law_row"] [none,some 3] [0] (by decide +kernel) hz (ir_seq hz (er_of (ev_var 1))) (fun C s H fp z' (hz':z'.K=K)=>(eg_name 0 (show List.Nodup (["_law_mark","_law_row"]:List Str) by decide +kernel))) (fun C s H fp z' (hz':z'.K=K)=>(et_ifs1 (et_cmp hz' (je (hr).units) (er_of (ev_var 0)) (er_of (ev_var 1)) (by with_unfolding_all rfl)))) (fun C s H fp z' (hz':z'.K=K)=>(ev_var 0))))) (er_of (ev_new (ef_lst ea_nil))) (aT _))
    (ss_one (s_setC 2 nB.nd nY (af fU) ["_law_mark","_law_row"] [none,some 3] [0] (by decide +kernel) hz (ir_seq hz (er_of (ev_var 2))) (fun C s H fp z' (hz':z'.K=K)=>(eg_name 0 (show List.Nodup (["_law_mark","_law_row"]:List Str) by decide +kernel))) (fun C s H fp z' (hz':z'.K=K)=>(et_ifs1 (et_cmp hz' (o_in (hr).units) (er_of (ev_var 0)) (er_of (ev_var 1)) (by with_unfolding_all rfl)))) (fun C s H fp z' (hz':z'.K=K)=>(ev_var 0))))
    ss_nil)))
  (ss_one (s_ret (ev_y1 hz cH rfl aJ rfl (er_of (ev_var 2)))))))
abbrev iF:Stmt:=top 35
abbrev uR:List Str:=["_law_some","_law_marks_here"]
theorem Jv:av uR ["_law_some","_law_marks_here"] (af iF):=⟨rfl,rfl,rfl,by decide +kernel,rfl,by decide +kernel,by decide +kernel⟩
theorem DN (src:Src K mg "_law_among" iF ["_law_some","_law_marks_here"])  : Has P w K mg base "_law_among" 1 2 bU :=
 by
 refine bg (k:=0) (F:=gI) rfl rfl src Jv fun f cdv A outer s H E z hr hz=>?_
 unfold gI lA
 show sVs _ _ (aj iF) _
 conv=>arg 2;whnf
 exact
  (ss_one (s_ret (ev_cmp hz (o_eq (hr).units) (er_of (ev_new (ef_comp' uR (af iF) ["_law_mark","_law_marks_here"] [none,some 1] [0] (by decide +kernel) hz (ir_seq hz (er_of (ev_var 0))) (fun C s H fp z' (hz':z'.K=K)=>(eg_name 0 (show List.Nodup (["_law_mark","_law_marks_here"]:List Str) by decide +kernel))) (fun C s H fp z' (hz':z'.K=K)=>(et_ifs1 (et_cmp hz' (je (hr).units) (er_of (ev_var 0)) (er_of (ev_var 1)) (by with_unfolding_all rfl)))) (fun C s H fp z' (hz':z'.K=K)=>(ev_var 0))))) (er_of (ev_new (ef_lst ea_nil))) (aT _))))
abbrev fW:Stmt:=top 36
abbrev n5:List Str:=["_law_many","_law_rows","_law_rules_here","_law_marks_here","_law_more","_law_good","_law_ahead","_law_behind"]
theorem jh:av n5 ["_law_many","_law_rows","_law_rules_here"] (af fW):=⟨rfl,rfl,rfl,by decide +kernel,rfl,by decide +kernel,by decide +kernel⟩
theorem DW (src:Src K mg "_law_question" fW ["_law_many","_law_rows","_law_rules_here"])(i0:Has P w K mg base "_law_every" 1 1 dW)(qC:Has P w K mg base "_law_closed" 1 2 iu)(di:Has P w K mg base "_law_among" 1 2 bU)(aJ:mg "tuple"=none):Has P w K mg base "_law_question" 2 3 fO :=
 by
 refine bg (k:=1) (F:=gR) rfl rfl src jh fun f cdv A outer s H E z hr hz=>?_
 unfold gR dP lD jw
 show sVs _ _ (aj fW) _
 conv=>arg 2;whnf
 exact
  (ss_cons (s_for PassesOwn.never rfl (ip_seq hz (ev_has hz i0 (hr.mono (by decide)) (ea_cons (ev_var 0) ea_nil ao))) (eg_name 3 jh.nd)
   (ss_cons (s_set 4 jh.nd (ev_has hz qC (hr.mono (by decide)) (ea_cons (ev_tup (ea_cons (ev_var 0) (ea_cons (ev_y1 hz cH rfl aJ rfl (er_of (ev_var 1))) ea_nil ck) ao)) (ea_cons (ev_var 3) ea_nil ao) eN)))
   (ss_cons (s_set 5 jh.nd (ev_and (ev_cmp hz (o_ne (hr).units) (er_of (ev_var 4)) (er_of (ev_var 3)) (aT _)) (ev_one (ev_cmp hz (je (hr).units) (er_of (ev_var 3)) (er_of (ev_new (ef_comp' n5 (af fW) ["_law_ahead","_law_behind"] [none,none] [0,1] (by decide +kernel) hz (ir_seq hz (er_of (ev_var 2))) (fun C s H fp z' (hz':z'.K=K)=>(eg_tup2 hz' rfl 0 1 (show List.Nodup (["_law_ahead","_law_behind"]:List Str) by decide +kernel))) (fun C s H fp z' (hz':z'.K=K)=>et_ifs0) (fun C s H fp z' (hz':z'.K=K)=>(ev_var 0))))) (by with_unfolding_all rfl)))))
   (ss_cons (s_for PassesOwn.never rfl (ip_seq hz (ev_var 2)) (eg_tup2 hz rfl 6 7 jh.nd)
    (ss_one (s_if (et_w (ew_and (et_cmp hz (o_ne (hr).units) (er_of (ev_var 6)) (er_of (ev_var 3)) (aT _)) (ew_and (et_val (ev_has hz di (hr.mono (by decide)) (ea_cons (ev_var 6) (ea_cons (ev_var 3) ea_nil ao) ao))) (ew_and1 (et_not (et_val (ev_has hz di (hr.mono (by decide)) (ea_cons (ev_var 7) (ea_cons (ev_var 3) ea_nil ao) ao))))))))
     (ss_one (s_set 5 jh.nd ev_bl))
     ss_nil)))
   (ss_one (s_if (et_tru hz (er_of (ev_var 5)))
    (ss_one (s_ret (ev_tup (ea_cons (ev_var 3) (ea_cons (ev_y1 hz cH rfl aJ rfl (er_of (ev_new (ef_comp' n5 (af fW) ["_law_mark","_law_marks_here"] [none,some 3] [0] (by decide +kernel) hz (ir_seq hz (er_of (ev_var 4))) (fun C s H fp z' (hz':z'.K=K)=>(eg_name 0 (show List.Nodup (["_law_mark","_law_marks_here"]:List Str) by decide +kernel))) (fun C s H fp z' (hz':z'.K=K)=>(et_ifs1 (et_cmp hz' (je (hr).units) (er_of (ev_var 0)) (er_of (ev_var 1)) (by with_unfolding_all rfl)))) (fun C s H fp z' (hz':z'.K=K)=>(ev_var 0)))))) ea_nil ck) ao))))
    ss_nil))))))
  (ss_one (s_ret ev_non)))
abbrev jQ:Stmt:=top 29
abbrev AB:List Str:=["_law_number","_law_k","_law_drawn_here"]
theorem zg:av AB ["_law_number","_law_k"] (af jQ):=⟨rfl,rfl,rfl,by decide +kernel,rfl,by decide +kernel,by decide +kernel⟩
theorem DR (src:Src K mg "_law_drawn" jQ ["_law_number","_law_k"])  : Has P w K mg base "_law_drawn" 1 2 jI :=
 by
 refine bg (k:=0) (F:=gM) rfl rfl src zg fun f cdv A outer s H E z hr hz=>?_
 unfold gM
 show sVs _ _ (aj jQ) _
 conv=>arg 2;whnf
 exact
  (ss_cons (s_set 2 zg.nd (ev_op hz o_md (er_of (ev_op hz fD (er_of (ev_op hz bh (er_of (ev_op hz bh (er_of (ev_var 0)) (er_of (ev_op hz fD (er_of ev_int) (er_of (ev_var 1)))))) (er_of ev_int))) (er_of ev_int))) (er_of ev_int)))
  (ss_one (s_ret (ev_op hz o_md (er_of (ev_op hz bh (er_of (ev_op hz bh (er_of (ev_op hz fD (er_of (ev_var 2)) (er_of (ev_var 2)))) (er_of (ev_op hz fD (er_of ev_int) (er_of (ev_var 2)))))) (er_of (ev_var 1)))) (er_of ev_int)))))
abbrev iG:Stmt:=top 30
abbrev uS:List Str:=["_law_number","_law_many","_law_share"]
theorem zh:av uS ["_law_number","_law_many"] (af iG):=⟨rfl,rfl,rfl,by decide +kernel,rfl,by decide +kernel,by decide +kernel⟩
theorem DU (src:Src K mg "_law_marks" iG ["_law_number","_law_many"])(qE:Has P w K mg base "_law_drawn" 1 2 jI)(bC:mg "range"=none)(aJ:mg "tuple"=none):Has P w K mg base "_law_marks" 2 2 fN :=
 by
 refine bg (k:=1) (F:=gP) rfl rfl src zh fun f cdv A outer s H E z hr hz=>?_
 unfold gP lC
 show sVs _ _ (aj iG) _
 conv=>arg 2;whnf
 exact
  (ss_cons (s_set 2 zh.nd (ev_op hz bh (er_of ev_int) (er_of (ev_op hz o_md (er_of (ev_var 0)) (er_of ev_int)))))
  (ss_one (s_ret (ev_y1 hz cH rfl aJ rfl (er_of (ev_new (ef_comp' uS (af iG) ["_law_mark","_law_number","_law_share"] [none,some 0,some 2] [0] (by decide +kernel) hz (ir_of (ip_range rfl bC (ev_var 1))) (fun C s H fp z' (hz':z'.K=K)=>(eg_name 0 (show List.Nodup (["_law_mark","_law_number","_law_share"]:List Str) by decide +kernel))) (fun C s H fp z' (hz':z'.K=K)=>(et_ifs1 (et_cmp hz' (o_eq (hr).units) (er_of (ev_op hz' o_md (er_of (ev_has hz' qE (hr.mono (by decide)) (ea_cons (ev_var 1) (ea_cons (ev_var 0) ea_nil ao) ao))) (er_of (ev_var 2)))) (er_of ev_int) (aT _)))) (fun C s H fp z' (hz':z'.K=K)=>(ev_var 0)))))))))
abbrev iJ:Stmt:=top 4
abbrev uW:List Str:=["level","many","longer","marks","least"]
theorem nG:av uW ["level","many"] (af iJ):=⟨rfl,rfl,rfl,by decide +kernel,rfl,by decide +kernel,by decide +kernel⟩
theorem Ea (src:Src K mg "one_more" iJ ["level","many"])(bC:mg "range"=none):Has P w K mg base "one_more" 1 2 jL :=
 by
 refine bg (k:=0) (F:=g7) rfl rfl src nG fun f cdv A outer s H E z hr hz=>?_
 unfold g7 jy jB
 show sVs _ _ (aj iJ) _
 conv=>arg 2;whnf
 exact
  (ss_cons (s_own 2 nG.nd (ef_lst ea_nil))
  (ss_cons (s_for PassesOwn.never rfl (ip_seq hz (ev_var 0)) (eg_name 3 nG.nd)
   (ss_cons (s_set 4 nG.nd (ev_ifExp (et_tru hz (er_of (ev_var 3))) (ev_op hz bh (er_of (ev_ix hz (er_of (ev_var 3)) (ev_neg ev_int) (fun _ _=>rfl))) (er_of ev_int)) ev_int))
   (ss_one (s_extend hz 2 (er_of (ev_new (ef_comp' uW (af iJ) ["mark","marks"] [none,some 3] [0] (by decide +kernel) hz (ir_of (ip_range2 rfl bC (ev_var 4) (ev_var 1))) (fun C s H fp z' (hz':z'.K=K)=>(eg_name 0 (show List.Nodup (["mark","marks"]:List Str) by decide +kernel))) (fun C s H fp z' (hz':z'.K=K)=>et_ifs0) (fun C s H fp z' (hz':z'.K=K)=>(ev_op hz' bh (er_of (ev_var 1)) (er_of (ev_tup (ea_cons (ev_var 0) ea_nil ao))))))))))))
  (ss_one (s_retO 2))))
abbrev jS:Stmt:=top 5
abbrev AE:List Str:=["many","told","level"]
theorem nD:av AE ["many"] (af jS):=⟨rfl,rfl,rfl,by decide +kernel,rfl,by decide +kernel,by decide +kernel⟩
theorem DX (src:Src K mg "all_marks" jS ["many"])(qN:Has P w K mg base "one_more" 1 2 jL)(aJ:mg "tuple"=none):Has P w K mg base "all_marks" 2 1 iw :=
 by
 refine bg (k:=1) (F:=gS) rfl rfl src nD fun f cdv A outer s H E z hr hz=>?_
 unfold gS lu lE
 show sVs _ _ (aj jS) _
 conv=>arg 2;whnf
 exact
  (ss_cons (s_own 1 nD.nd (ef_lst ea_nil))
  (ss_cons (s_set 2 nD.nd (ev_new (ef_lst (ea_cons (ev_tup ea_nil) ea_nil eN))))
  (ss_cons (s_while 100000 PassesOwn.never (et_tru hz (er_of (ev_var 2)))
   (ss_cons (s_extend hz 1 (er_of (ev_var 2)))
   (ss_one (s_set 2 nD.nd (ev_has hz qN (hr.mono (by decide)) (ea_cons (ev_var 2) (ea_cons (ev_var 0) ea_nil ao) ao))))))
  (ss_one (s_ret (ev_y1 hz cH rfl aJ rfl (er_own 1)))))))
abbrev fX:Stmt:=top 7
abbrev n8:List Str:=["table","things","rows"]
theorem zk:av n8 ["table","things"] (af fX):=⟨rfl,rfl,rfl,by decide +kernel,rfl,by decide +kernel,by decide +kernel⟩
theorem Ec (src:Src K mg "shared" fX ["table","things"])(ja:mg "all"=none)(bC:mg "range"=none)(aJ:mg "tuple"=none):Has P w K mg base "shared" 1 2 jM :=
 by
 refine bg (k:=0) (F:=g9) rfl rfl src zk fun f cdv A outer s H E z hr hz=>?_
 unfold g9 lH lQ jC
 show sVs _ _ (aj fX) _
 conv=>arg 2;whnf
 exact
  (ss_cons (s_set 2 zk.nd (ev_new (ef_comp' n8 (af fX) ["thing","table"] [none,some 0] [0] (by decide +kernel) hz (ir_seq hz (er_of (ev_var 1))) (fun C s H fp z' (hz':z'.K=K)=>(eg_name 0 (show List.Nodup (["thing","table"]:List Str) by decide +kernel))) (fun C s H fp z' (hz':z'.K=K)=>et_ifs0) (fun C s H fp z' (hz':z'.K=K)=>(ev_ix hz' (er_of (ev_ix hz' (er_of (ev_var 1)) ev_int (fun _ _=>rfl))) (ev_var 0) (fun _ _=>rfl))))))
  (ss_one (s_ret (ev_y1 hz cH rfl aJ rfl (er_of (ev_new (ef_comp' n8 (af fX) ["mark","rows"] [none,some 2] [0] (by decide +kernel) hz (ir_of (ip_range rfl bC (ev_ix hz (er_of (ev_var 0)) ev_int (fun _ _=>rfl)))) (fun C s H fp z' (hz':z'.K=K)=>(eg_name 0 (show List.Nodup (["mark","rows"]:List Str) by decide +kernel))) (fun C s H fp z' (hz':z'.K=K)=>(et_ifs1 (et_val (ev_b1 hz' (vh rfl) rfl ja rfl (er_of (ev_new (ef_compN ["row","mark"] [none,some 0] [0] (by kernel_rfl) hz' (ir_seq hz' (er_of (ev_var 1))) (fun C s H fp z' (hz'':z'.K=K)=>(eg_name 0 (show List.Nodup (["row","mark"]:List Str) by decide +kernel))) (fun C s H fp z' (hz'':z'.K=K)=>et_ifs0) (fun C s H fp z' (hz'':z'.K=K)=>(ev_cmp hz'' (o_in (hr).units) (er_of (ev_var 1)) (er_of (ev_var 0)) (by with_unfolding_all rfl)))))))))) (fun C s H fp z' (hz':z'.K=K)=>(ev_var 0)))))))))
abbrev iH:Stmt:=top 1
abbrev uT:List Str:=["marks","others"]
theorem Jy:av uT ["marks","others"] (af iH):=⟨rfl,rfl,rfl,by decide +kernel,rfl,by decide +kernel,by decide +kernel⟩
theorem DY (src:Src K mg "are_among" iH ["marks","others"])(ja:mg "all"=none):Has P w K mg base "are_among" 1 2 c9 :=
 by
 refine bg (k:=0) (F:=gT) rfl rfl src Jy fun f cdv A outer s H E z hr hz=>?_
 unfold gT lP
 show sVs _ _ (aj iH) _
 conv=>arg 2;whnf
 exact
  (ss_one (s_ret (ev_b1 hz (vh rfl) rfl ja rfl (er_of (ev_new (ef_comp' uT (af iH) ["mark","others"] [none,some 1] [0] (by decide +kernel) hz (ir_seq hz (er_of (ev_var 0))) (fun C s H fp z' (hz':z'.K=K)=>(eg_name 0 (show List.Nodup (["mark","others"]:List Str) by decide +kernel))) (fun C s H fp z' (hz':z'.K=K)=>et_ifs0) (fun C s H fp z' (hz':z'.K=K)=>(ev_cmp hz' (o_in (hr).units) (er_of (ev_var 0)) (er_of (ev_var 1)) (by with_unfolding_all rfl)))))))))
abbrev iI:Stmt:=top 8
abbrev uU:List Str:=["table","marks"]
theorem JA:av uU ["table","marks"] (af iI):=⟨rfl,rfl,rfl,by decide +kernel,rfl,by decide +kernel,by decide +kernel⟩
theorem D4 (src:Src K mg "having" iI ["table","marks"])(dj:Has P w K mg base "are_among" 1 2 c9)(sr:mg "enumerate"=none)(aJ:mg "tuple"=none):Has P w K mg base "having" 2 2 jJ :=
 by
 refine bg (k:=1) (F:=gX) rfl rfl src JA fun f cdv A outer s H E z hr hz=>?_
 unfold gX lF
 show sVs _ _ (aj iI) _
 conv=>arg 2;whnf
 exact
  (ss_one (s_ret (ev_y1 hz cH rfl aJ rfl (er_of (ev_new (ef_comp' uU (af iI) ["thing","row","marks"] [none,none,some 1] [0,1] (by decide +kernel) hz (ir_enum hz rfl sr (er_of (ev_ix hz (er_of (ev_var 0)) ev_int (fun _ _=>rfl)))) (fun C s H fp z' (hz':z'.K=K)=>(eg_tup2 hz' rfl 0 1 (show List.Nodup (["thing","row","marks"]:List Str) by decide +kernel))) (fun C s H fp z' (hz':z'.K=K)=>(et_ifs1 (et_val (ev_has hz' dj (hr.mono (by decide)) (ea_cons (ev_var 2) (ea_cons (ev_var 1) ea_nil ao) ao))))) (fun C s H fp z' (hz':z'.K=K)=>(ev_var 0))))))))
abbrev jU:Stmt:=top 9
abbrev AG:List Str:=["table","marks"]
theorem Jz:av AG ["table","marks"] (af jU):=⟨rfl,rfl,rfl,by decide +kernel,rfl,by decide +kernel,by decide +kernel⟩
theorem D0 (src:Src K mg "closed" jU ["table","marks"])(qO:Has P w K mg base "shared" 1 2 jM)(qK:Has P w K mg base "having" 2 2 jJ):Has P w K mg base "closed" 3 2 iz :=
 by
 refine bg (k:=2) (F:=gU) rfl rfl src Jz fun f cdv A outer s H E z hr hz=>?_
 unfold gU
 show sVs _ _ (aj jU) _
 conv=>arg 2;whnf
 exact
  (ss_one (s_ret (ev_has hz qO (hr.mono (by decide)) (ea_cons (ev_var 0) (ea_cons (ev_has hz qK (hr.mono (by decide)) (ea_cons (ev_var 0) (ea_cons (ev_var 1) ea_nil ao) ao)) ea_nil ck) ao))))
abbrev jW:Stmt:=top 2
abbrev AI:List Str:=["one","other"]
theorem JB:av AI ["one","other"] (af jW):=⟨rfl,rfl,rfl,by decide +kernel,rfl,by decide +kernel,by decide +kernel⟩
theorem D6 (src:Src K mg "in_either" jW ["one","other"])(m9:mg "set"=none)(jd:mg "sorted"=none)(aJ:mg "tuple"=none):Has P w K mg base "in_either" 1 2 jK :=
 by
 refine bg (k:=0) (F:=gY) rfl rfl src JB fun f cdv A outer s H E z hr hz=>?_
 unfold gY
 show sVs _ _ (aj jW) _
 conv=>arg 2;whnf
 exact
  (ss_one (s_ret (ev_y1 hz cH rfl aJ rfl (er_of (ev_new (ef_sorted rfl rfl jd (ez_or (ez_set hz rfl rfl m9 (er_of (ev_var 0))) (ez_set hz rfl rfl m9 (er_of (ev_var 1))))))))))
abbrev jY:Stmt:=top 18
abbrev AK:List Str:=["rules","marks","ahead","behind"]
theorem tE:av AK ["rules","marks"] (af jY):=⟨rfl,rfl,rfl,by decide +kernel,rfl,by decide +kernel,by decide +kernel⟩
theorem Eb (src:Src K mg "one_turn" jY ["rules","marks"])(dj:Has P w K mg base "are_among" 1 2 c9)(qL:Has P w K mg base "in_either" 1 2 jK):Has P w K mg base "one_turn" 2 2 iD :=
 by
 refine bg (k:=1) (F:=g8) rfl rfl src tE fun f cdv A outer s H E z hr hz=>?_
 unfold g8 jz
 show sVs _ _ (aj jY) _
 conv=>arg 2;whnf
 exact
  (ss_cons (s_for PassesOwn.never rfl (ip_seq hz (ev_var 0)) (eg_tup2 hz rfl 2 3 tE.nd)
   (ss_one (s_if (et_val (ev_has hz dj (hr.mono (by decide)) (ea_cons (ev_var 2) (ea_cons (ev_var 1) ea_nil ao) ao)))
    (ss_one (s_set 1 tE.nd (ev_has hz qL (hr.mono (by decide)) (ea_cons (ev_var 1) (ea_cons (ev_var 3) ea_nil ao) ao))))
    ss_nil)))
  (ss_one (s_ret (ev_var 1))))
abbrev jV:Stmt:=top 19
abbrev AH:List Str:=["rules","marks","more"]
theorem nF:av AH ["rules","marks"] (af jV):=⟨rfl,rfl,rfl,by decide +kernel,rfl,by decide +kernel,by decide +kernel⟩
theorem D3 (src:Src K mg "closed_by" jV ["rules","marks"])(mV:Has P w K mg base "one_turn" 2 2 iD):Has P w K mg base "closed_by" 3 2 iA :=
 by
 refine bg (k:=2) (F:=gW) rfl rfl src nF fun f cdv A outer s H E z hr hz=>?_
 unfold gW lz jA
 show sVs _ _ (aj jV) _
 conv=>arg 2;whnf
 exact
  (ss_cons (s_set 2 nF.nd (ev_has hz mV (hr.mono (by decide)) (ea_cons (ev_var 0) (ea_cons (ev_var 1) ea_nil ao) ao)))
  (ss_cons (s_while 100000 PassesOwn.never (et_cmp hz (o_ne (hr).units) (er_of (ev_var 2)) (er_of (ev_var 1)) (aT _))
   (ss_cons (s_set 1 nF.nd (ev_var 2))
   (ss_one (s_set 2 nF.nd (ev_has hz mV (hr.mono (by decide)) (ea_cons (ev_var 0) (ea_cons (ev_var 1) ea_nil ao) ao))))))
  (ss_one (s_ret (ev_var 1)))))
abbrev iK:Stmt:=top 3
abbrev uX:List Str:=["marks","others"]
theorem JE:av uX ["marks","others"] (af iK):=⟨rfl,rfl,rfl,by decide +kernel,rfl,by decide +kernel,by decide +kernel⟩
theorem Ef (src:Src K mg "without" iK ["marks","others"])(aJ:mg "tuple"=none):Has P w K mg base "without" 1 2 jN :=
 by
 refine bg (k:=0) (F:=ie) rfl rfl src JE fun f cdv A outer s H E z hr hz=>?_
 unfold ie lI
 show sVs _ _ (aj iK) _
 conv=>arg 2;whnf
 exact
  (ss_one (s_ret (ev_y1 hz cH rfl aJ rfl (er_of (ev_new (ef_comp' uX (af iK) ["mark","others"] [none,some 1] [0] (by decide +kernel) hz (ir_seq hz (er_of (ev_var 0))) (fun C s H fp z' (hz':z'.K=K)=>(eg_name 0 (show List.Nodup (["mark","others"]:List Str) by decide +kernel))) (fun C s H fp z' (hz':z'.K=K)=>(et_ifs1 (et_cmp hz' (je (hr).units) (er_of (ev_var 0)) (er_of (ev_var 1)) (by with_unfolding_all rfl)))) (fun C s H fp z' (hz':z'.K=K)=>(ev_var 0))))))))
abbrev fS:Stmt:=inClass (top 25) 1
abbrev Av:List Str:=["self","marks","whole"]
theorem tD:av Av ["self"] (af fS):=⟨rfl,rfl,rfl,by decide +kernel,rfl,by decide +kernel,by decide +kernel⟩
theorem DJ (src:SrcM K "Asker" "question" "Asker.question" fS ["self"])(qH:Has P w K mg base "all_marks" 2 1 iw)(qI:Has P w K mg base "closed" 3 2 iz)(qJ:Has P w K mg base "closed_by" 3 2 iA)(qP:Has P w K mg base "without" 1 2 jN)(az:Cls K (clsAt K "Asker")) (cB:aL K (clsAt K "Asker") "many") (aS:aL K (clsAt K "Asker") "rules") (bG:aL K (clsAt K "Asker") "table"):HasM P w K mg base "Asker" "question" 4 cy :=
 by
 refine kI (k:=3) (F:=gE) rfl src tD fun f cdv A outer s H E z hr hz=>?_
 unfold gE dO
 show sVs _ _ (aj fS) _
 conv=>arg 2;whnf
 exact
  (ss_cons (s_for PassesOwn.never rfl (ip_seq hz (ev_has hz qH (hr.mono (by decide)) (ea_cons (ev_fld 0 hz az cB) ea_nil jj))) (eg_name 1 tD.nd)
   (ss_cons (s_set 2 tD.nd (ev_has hz qI (hr.mono (by decide)) (ea_cons (ev_fld 0 hz az bG) (ea_cons (ev_var 1) ea_nil ao) jj)))
   (ss_one (s_if (et_w (ew_and (et_cmp hz (o_ne (hr).units) (er_of (ev_var 2)) (er_of (ev_var 1)) (aT _)) (ew_and1 (et_cmp hz (o_eq (hr).units) (er_of (ev_has hz qJ (hr.mono (by decide)) (ea_cons (ev_fld 0 hz az aS) (ea_cons (ev_var 1) ea_nil ao) jj))) (er_of (ev_var 1)) (aT _)))))
    (ss_one (s_ret (ev_tup (ea_cons (ev_var 1) (ea_cons (ev_has hz qP (hr.mono (by decide)) (ea_cons (ev_var 2) (ea_cons (ev_var 1) ea_nil ao) ao)) ea_nil ck) ao))))
    ss_nil))))
  (ss_one (s_ret ev_non)))
abbrev fT:Stmt:=inClass (top 25) 6
abbrev Aw:List Str:=["self"]
theorem Ju:av Aw ["self"] (af fT):=⟨rfl,rfl,rfl,by decide +kernel,rfl,by decide +kernel,by decide +kernel⟩
theorem DK (src:SrcM K "Asker" "said" "Asker.said" fT ["self"])(az:Cls K (clsAt K "Asker")) (aS:aL K (clsAt K "Asker") "rules"):HasM P w K mg base "Asker" "said" 1 c8 :=
 by
 refine kI (k:=0) (F:=gF) rfl src Ju fun f cdv A outer s H E z hr hz=>?_
 unfold gF
 show sVs _ _ (aj fT) _
 conv=>arg 2;whnf
 exact
  (ss_one (s_ret (ev_fld 0 hz az aS)))
abbrev fR:Stmt:=inClass (top 25) 5
abbrev Au:List Str:=["self"]
theorem Jt:av Au ["self"] (af fR):=⟨rfl,rfl,rfl,by decide +kernel,rfl,by decide +kernel,by decide +kernel⟩
theorem DH (src:SrcM K "Asker" "known" "Asker.known" fR ["self"])(az:Cls K (clsAt K "Asker")) (bG:aL K (clsAt K "Asker") "table"):HasM P w K mg base "Asker" "known" 1 cM :=
 by
 refine kI (k:=0) (F:=gC) rfl src Jt fun f cdv A outer s H E z hr hz=>?_
 unfold gC
 show sVs _ _ (aj fR) _
 conv=>arg 2;whnf
 exact
  (ss_one (s_ret (ev_fld 0 hz az bG)))
abbrev fQ:Stmt:=inClass (top 25) 7
abbrev As:List Str:=["self"]
theorem Js:av As ["self"] (af fQ):=⟨rfl,rfl,rfl,by decide +kernel,rfl,by decide +kernel,by decide +kernel⟩
theorem DG (src:SrcM K "Asker" "asked_so_far" "Asker.asked_so_far" fQ ["self"])(az:Cls K (clsAt K "Asker")) (aS:aL K (clsAt K "Asker") "rules") (bG:aL K (clsAt K "Asker") "table") (bX:mg "len"=none):HasM P w K mg base "Asker" "asked_so_far" 1 c7 :=
 by
 refine kI (k:=0) (F:=gB) rfl src Js fun f cdv A outer s H E z hr hz=>?_
 unfold gB
 show sVs _ _ (aj fQ) _
 conv=>arg 2;whnf
 exact
  (ss_one (s_ret (ev_op hz bh (er_of (ev_b1 hz f9 rfl bX PySem.boot_len (er_of (ev_ix hz (er_of (ev_fld 0 hz az bG)) ev_int (fun _ _=>rfl))))) (er_of (ev_b1 hz f9 rfl bX PySem.boot_len (er_of (ev_fld 0 hz az aS)))))))
abbrev fV:Stmt:=top 38
abbrev nZ:List Str:=["_law_marks_here","_law_question_here","_law_rules_here","_law_many"]
theorem Jx:av nZ ["_law_marks_here","_law_question_here","_law_rules_here","_law_many"] (af fV):=⟨rfl,rfl,rfl,by decide +kernel,rfl,by decide +kernel,by decide +kernel⟩
theorem DT (src:Src K mg "_law_is_answer" fV ["_law_marks_here","_law_question_here","_law_rules_here","_law_many"])(i0:Has P w K mg base "_law_every" 1 1 dW)(di:Has P w K mg base "_law_among" 1 2 bU)(jc:mg "bool"=none)(aU:mg "isinstance"=none)(aJ:mg "tuple"=none):Has P w K mg base "_law_is_answer" 2 4 cN :=
 by
 refine bg (k:=1) (F:=eU) rfl rfl src Jx fun f cdv A outer s H E z hr hz=>?_
 unfold eU lM eS
 show sVs _ _ (aj fV) _
 conv=>arg 2;whnf
 exact
  (ss_cons (s_if (et_w (ew_or (et_not (et_val (ev_isi hz (kit_tuple _) rfl aU rfl aJ rfl (er_of (ev_var 0))))) (ew_or1 (et_cmp hz (je (hr).units) (er_of (ev_var 0)) (er_of (ev_has hz i0 (hr.mono (by decide)) (ea_cons (ev_var 3) ea_nil ao))) (by with_unfolding_all rfl)))))
   (ss_one (s_ret ev_bl))
   ss_nil)
  (ss_cons (s_if (et_cmp hz (o_ne (hr).units) (er_of (ev_new (ef_comp' nZ (af fV) ["_law_mark"] [none] [0] (by decide +kernel) hz (ir_seq hz (er_of (ev_var 0))) (fun C s H fp z' (hz':z'.K=K)=>(eg_name 0 (show List.Nodup (["_law_mark"]:List Str) by decide +kernel))) (fun C s H fp z' (hz':z'.K=K)=>(et_ifs1 (et_val (ev_isi hz' (xA _) rfl aU rfl jc rfl (er_of (ev_var 0)))))) (fun C s H fp z' (hz':z'.K=K)=>(ev_var 0))))) (er_of (ev_new (ef_lst ea_nil))) (aT _))
   (ss_one (s_ret ev_bl))
   ss_nil)
  (ss_cons (s_if (et_w (ew_or (et_not (et_val (ev_has hz di (hr.mono (by decide)) (ea_cons (ev_ix hz (er_of (ev_var 1)) ev_int (fun _ _=>rfl)) (ea_cons (ev_var 0) ea_nil ao) jk)))) (ew_or1 (et_val (ev_has hz di (hr.mono (by decide)) (ea_cons (ev_ix hz (er_of (ev_var 1)) ev_int (fun _ _=>rfl)) (ea_cons (ev_var 0) ea_nil ao) jk))))))
   (ss_one (s_ret ev_bl))
   ss_nil)
  (ss_one (s_ret (ev_cmp hz (o_eq (hr).units) (er_of (ev_new (ef_comp' nZ (af fV) ["_law_rule","_law_marks_here"] [none,some 0] [0] (by decide +kernel) hz (ir_seq hz (er_of (ev_var 2))) (fun C s H fp z' (hz':z'.K=K)=>(eg_name 0 (show List.Nodup (["_law_rule","_law_marks_here"]:List Str) by decide +kernel))) (fun C s H fp z' (hz':z'.K=K)=>(et_ifs1 (et_w (ew_and (et_val (ev_has hz' di (hr.mono (by decide)) (ea_cons (ev_ix hz' (er_of (ev_var 0)) ev_int (fun _ _=>rfl)) (ea_cons (ev_var 1) ea_nil ao) jk))) (ew_and1 (et_not (et_val (ev_has hz' di (hr.mono (by decide)) (ea_cons (ev_ix hz' (er_of (ev_var 0)) ev_int (fun _ _=>rfl)) (ea_cons (ev_var 1) ea_nil ao) jk))))))))) (fun C s H fp z' (hz':z'.K=K)=>(ev_var 0))))) (er_of (ev_new (ef_lst ea_nil))) (aT _)))))))
abbrev dY:Stmt:=inClass (top 25) 2
abbrev Ax:List Str:=["self","rule"]
theorem nA:av Ax ["self"] (af dY):=⟨rfl,rfl,rfl,by decide +kernel,rfl,by decide +kernel,by decide +kernel⟩
theorem DL (src:SrcM K "Asker" "to_be_answered" "Asker.to_be_answered" dY ["self"])(dh:HasM P w K mg base "Asker" "question" 4 cy)(er:Er CS K mg):HasM P w K mg base "Asker" "to_be_answered" 5 cF :=
 by
 refine kI (k:=4) (F:=gG) rfl src nA fun f cdv A outer s H E z hr hz=>?_
 unfold gG
 show sVs _ _ (aj dY) _
 conv=>arg 2;whnf
 exact
  (ss_cons (s_set 1 nA.nd (ev_meth 0 hz dh (hr.mono (by decide))))
  (ss_cons (s_if (et_isN (ev_var 1))
   (ss_one s_no)
   ss_nil)
  (ss_one (s_ret (ev_var 1)))))
theorem DC (src:SrcM K "Asker" "to_be_answered" "Asker.to_be_answered" dY ["self"])(dh:HasM P w K mg base "Asker" "question" 4 cy)(er:Er CS K mg):bT P w K mg base "Asker" "to_be_answered" 5 0 bS :=
 by
 refine qR (k:=4) (F:=cK) rfl rfl src nA fun f cdv A outer s H E z hr hz pins kx hL hL2=>?_
 unfold cK
 show xVs _ _ _ _ (aj dY) _
 conv=>arg 5;whnf
 exact
  (x_cons (x_st (s_set 1 nA.nd (ev_meth 0 hz dh (hr.mono (by decide)))))
  (x_cons (x_if (et_isN (ev_var 1))
   (x_one (x_raise er hz hL))
   x_nil)
  x_never))
abbrev jX:Stmt:=top 21
abbrev AJ:List Str:=["thing"]
theorem JC:av AJ ["thing"] (af jX):=⟨rfl,rfl,rfl,by decide +kernel,rfl,by decide +kernel,by decide +kernel⟩
theorem D7 (src:Src K mg "is_whole" jX ["thing"])(jc:mg "bool"=none)(cW:mg "int"=none)(aU:mg "isinstance"=none):Has P w K mg base "is_whole" 1 1 iB :=
 by
 refine bg (k:=0) (F:=fL) rfl rfl src JC fun f cdv A outer s H E z hr hz=>?_
 unfold fL
 show sVs _ _ (aj jX) _
 conv=>arg 2;whnf
 exact
  (ss_one (s_ret (ev_and (ev_isi hz (E9 _) rfl aU rfl cW rfl (er_of (ev_var 0))) (ev_one (ev_not (ev_isi hz (xA _) rfl aU rfl jc rfl (er_of (ev_var 0))))))))
abbrev jT:Stmt:=top 22
abbrev AF:List Str:=["thing","many","least","mark"]
theorem nE:av AF ["thing","many"] (af jT):=⟨rfl,rfl,rfl,by decide +kernel,rfl,by decide +kernel,by decide +kernel⟩
theorem DZ (src:Src K mg "are_marks" jT ["thing","many"])(qM:Has P w K mg base "is_whole" 1 1 iB)(aU:mg "isinstance"=none)(aJ:mg "tuple"=none):Has P w K mg base "are_marks" 2 2 cz :=
 by
 refine bg (k:=1) (F:=dR) rfl rfl src nE fun f cdv A outer s H E z hr hz=>?_
 unfold dR cJ
 show sVs _ _ (aj jT) _
 conv=>arg 2;whnf
 exact
  (ss_cons (s_if (et_not (et_val (ev_isi hz (kit_tuple _) rfl aU rfl aJ rfl (er_of (ev_var 0)))))
   (ss_one (s_ret ev_bl))
   ss_nil)
  (ss_cons (s_set 2 nE.nd ev_int)
  (ss_cons (s_for PassesOwn.never rfl (ip_seq hz (ev_var 0)) (eg_name 3 nE.nd)
   (ss_cons (s_if (et_w (ew_or (et_not (et_val (ev_has hz qM (hr.mono (by decide)) (ea_cons (ev_var 3) ea_nil ao)))) (ew_or1 (et_not (et_chain hz o_le o_lt (er_of (ev_var 2)) (er_of (ev_var 3)) (er_of (ev_var 1)))))))
    (ss_one (s_ret ev_bl))
    ss_nil)
   (ss_one (s_set 2 nE.nd (ev_op hz bh (er_of (ev_var 3)) (er_of ev_int))))))
  (ss_one (s_ret ev_bl)))))
abbrev jZ:Stmt:=top 24
abbrev AL:List Str:=["marks","rule"]
theorem JD:av AL ["marks","rule"] (af jZ):=⟨rfl,rfl,rfl,by decide +kernel,rfl,by decide +kernel,by decide +kernel⟩
theorem Ed (src:Src K mg "speaks_against" jZ ["marks","rule"])(dj:Has P w K mg base "are_among" 1 2 c9):Has P w K mg base "speaks_against" 2 2 cO :=
 by
 refine bg (k:=1) (F:=ic) rfl rfl src JD fun f cdv A outer s H E z hr hz=>?_
 unfold ic
 show sVs _ _ (aj jZ) _
 conv=>arg 2;whnf
 exact
  (ss_one (s_ret (ev_and (ev_has hz dj (hr.mono (by decide)) (ea_cons (ev_ix hz (er_of (ev_var 1)) ev_int (fun _ _=>rfl)) (ea_cons (ev_var 0) ea_nil ao) jk)) (ev_one (ev_not (ev_has hz dj (hr.mono (by decide)) (ea_cons (ev_ix hz (er_of (ev_var 1)) ev_int (fun _ _=>rfl)) (ea_cons (ev_var 0) ea_nil ao) jk)))))))
abbrev cP:Stmt:=inClass (top 25) 4
abbrev nX:List Str:=["self","marks","rule"]
theorem nv:av nX ["self","marks"] (af cP):=⟨rfl,rfl,rfl,by decide +kernel,rfl,by decide +kernel,by decide +kernel⟩
theorem DI (src:SrcM K "Asker" "no" "Asker.no" cP ["self","marks"])(cU:HasM P w K mg base "Asker" "to_be_answered" 5 cF)(i6:Has P w K mg base "are_marks" 2 2 cz)(fq:Has P w K mg base "speaks_against" 2 2 cO)(dm:bT P w K mg base "Asker" "to_be_answered" 5 0 bS)(az:Cls K (clsAt K "Asker")) (cB:aL K (clsAt K "Asker") "many") (aS:aL K (clsAt K "Asker") "rules") (bG:aL K (clsAt K "Asker") "table") (er:Er CS K mg)(dD:mg "any"=none):b8 P w K mg base "Asker" "no" 6 1 ir :=
 by
 refine qQ (k:=5) (F:=gD) rfl rfl src nv fun f cdv A outer s H E z hr hz=>?_
 unfold gD lN
 show sVs _ _ (aj cP) _
 conv=>arg 2;whnf
 exact
  (ss_cons (s_set 2 nv.nd (ev_meth 0 hz cU (hr.mono (by decide))))
  (ss_cons (s_if (et_not (et_val (ev_has hz i6 (hr.mono (by decide)) (ea_cons (ev_var 1) (ea_cons (ev_fld 0 hz az cB) ea_nil jj) ao))))
   (ss_one s_no)
   ss_nil)
  (ss_cons (s_if (et_not (et_val (ev_has hz fq (hr.mono (by decide)) (ea_cons (ev_var 1) (ea_cons (ev_var 2) ea_nil ao) ao))))
   (ss_one s_no)
   ss_nil)
  (ss_cons (s_if (et_val (ev_b1 hz (vj rfl) rfl dD rfl (er_of (ev_new (ef_comp' nX (af cP) ["said_rule","marks"] [none,some 1] [0] (by decide +kernel) hz (ir_seq hz (er_of (ev_fld 0 hz az aS))) (fun C s H fp z' (hz':z'.K=K)=>(eg_name 0 (show List.Nodup (["said_rule","marks"]:List Str) by decide +kernel))) (fun C s H fp z' (hz':z'.K=K)=>et_ifs0) (fun C s H fp z' (hz':z'.K=K)=>(ev_has hz' fq (hr.mono (by decide)) (ea_cons (ev_var 1) (ea_cons (ev_var 0) ea_nil ao) ao))))))))
   (ss_one s_no)
   ss_nil)
  (ss_one (s_fld 0 hz az bG (ev_tup (ea_cons (ev_fld 0 hz az cB) (ea_cons (ev_op hz bh (er_of (ev_ix hz (er_of (ev_fld 0 hz az bG)) ev_int (fun _ _=>rfl))) (er_of (ev_tup (ea_cons (ev_var 1) ea_nil ao)))) ea_nil tQ) jj))))))))
theorem DB (src:SrcM K "Asker" "no" "Asker.no" cP ["self","marks"])(cU:HasM P w K mg base "Asker" "to_be_answered" 5 cF)(i6:Has P w K mg base "are_marks" 2 2 cz)(fq:Has P w K mg base "speaks_against" 2 2 cO)(dm:bT P w K mg base "Asker" "to_be_answered" 5 0 bS)(az:Cls K (clsAt K "Asker")) (cB:aL K (clsAt K "Asker") "many") (aS:aL K (clsAt K "Asker") "rules") (bG:aL K (clsAt K "Asker") "table") (er:Er CS K mg)(dD:mg "any"=none):bT P w K mg base "Asker" "no" 6 1 dU :=
 by
 refine qR (k:=5) (F:=bI) rfl rfl src nv fun f cdv A outer s H E z hr hz pins kx hL hL2=>?_
 unfold bI gy
 show xVs _ _ _ _ (aj cP) _
 conv=>arg 5;whnf
 exact
  (x_cons (x_or (x_setE (xr_metY0 0 hL2 hz dm (hr.mono (by decide)))) (s_set 2 nv.nd (ev_meth 0 hz cU (hr.mono (by decide)))))
  (x_cons (x_if (et_not (et_val (ev_has hz i6 (hr.mono (by decide)) (ea_cons (ev_var 1) (ea_cons (ev_fld 0 hz az cB) ea_nil jj) ao))))
   (x_one (x_raise er hz hL))
   x_nil)
  (x_cons (x_if (et_not (et_val (ev_has hz fq (hr.mono (by decide)) (ea_cons (ev_var 1) (ea_cons (ev_var 2) ea_nil ao) ao))))
   (x_one (x_raise er hz hL))
   x_nil)
  (x_cons (x_if (et_val (ev_b1 hz (vj rfl) rfl dD rfl (er_of (ev_new (ef_comp' nX (af cP) ["said_rule","marks"] [none,some 1] [0] (by decide +kernel) hz (ir_seq hz (er_of (ev_fld 0 hz az aS))) (fun C s H fp z' (hz':z'.K=K)=>(eg_name 0 (show List.Nodup (["said_rule","marks"]:List Str) by decide +kernel))) (fun C s H fp z' (hz':z'.K=K)=>et_ifs0) (fun C s H fp z' (hz':z'.K=K)=>(ev_has hz' fq (hr.mono (by decide)) (ea_cons (ev_var 1) (ea_cons (ev_var 0) ea_nil ao) ao))))))))
   (x_one (x_raise er hz hL))
   x_nil)
  x_never))))
abbrev dZ:Stmt:=inClass (top 25) 3
abbrev Ay:List Str:=["self"]
theorem zf:av Ay ["self"] (af dZ):=⟨rfl,rfl,rfl,by decide +kernel,rfl,by decide +kernel,by decide +kernel⟩
theorem DM (src:SrcM K "Asker" "yes" "Asker.yes" dZ ["self"])(cU:HasM P w K mg base "Asker" "to_be_answered" 5 cF)(dm:bT P w K mg base "Asker" "to_be_answered" 5 0 bS)(az:Cls K (clsAt K "Asker")) (aS:aL K (clsAt K "Asker") "rules"):b8 P w K mg base "Asker" "yes" 6 0 jG :=
 by
 refine qQ (k:=5) (F:=gH) rfl rfl src zf fun f cdv A outer s H E z hr hz=>?_
 unfold gH
 show sVs _ _ (aj dZ) _
 conv=>arg 2;whnf
 exact
  (ss_one (s_fld 0 hz az aS (ev_op hz bh (er_of (ev_fld 0 hz az aS)) (er_of (ev_tup (ea_cons (ev_meth 0 hz cU (hr.mono (by decide))) ea_nil ck))))))
theorem DE (src:SrcM K "Asker" "yes" "Asker.yes" dZ ["self"])(cU:HasM P w K mg base "Asker" "to_be_answered" 5 cF)(dm:bT P w K mg base "Asker" "to_be_answered" 5 0 bS)(az:Cls K (clsAt K "Asker")) (aS:aL K (clsAt K "Asker") "rules"):bT P w K mg base "Asker" "yes" 6 0 jE :=
 by
 refine qR (k:=5) (F:=cL) rfl rfl src zf fun f cdv A outer s H E z hr hz pins kx hL hL2=>?_
 unfold cL
 show xVs _ _ _ _ (aj dZ) _
 conv=>arg 5;whnf
 exact
  (x_one (x_fldE (xr_op (ev_fld 0 hz az aS) (xr_tup (xr_metY0 0 hL2 hz dm (hr.mono (by decide)))))))
abbrev lV:Stmt:=top 37
abbrev AA:List Str:=["_law_asker","_law_marks_here","_law_says_yes","e","_law_some"]
theorem kU:av AA ["_law_asker","_law_marks_here","_law_says_yes"] (af lV):=⟨rfl,rfl,rfl,by decide +kernel,rfl,by decide +kernel,by decide +kernel⟩
theorem DQ (src:Src K mg "_law_done" lV ["_law_asker","_law_marks_here","_law_says_yes"])(qz:b8 P w K mg base "Asker" "no" 6 1 ir)(qA:b8 P w K mg base "Asker" "yes" 6 0 jG)(qU:bT P w K mg base "Asker" "no" 6 1 dU)(qV:bT P w K mg base "Asker" "yes" 6 0 jE)(er:Er CS K mg)(m8:mg "ValueError"=none)(dD:mg "any"=none)(cW:mg "int"=none)(aU:mg "isinstance"=none):HasD P w K mg base "_law_done" "Asker" 7 2 bM :=
 by
 refine Dw (k:=6) (F:=c5) rfl rfl src kU rfl fun f cdv A outer s H E z hr hz=>?_
 unfold c5 fY gx gw
 exact
  (w_try (fun E pins kx hL=>(w_cons (w_if (et_tru hz (er_of (ev_var 2)))
    (w_one (w_ret (xr_ix (ev_new (ef_lst (ea_cons ev_str (ea_cons ev_non ea_nil bY) bY))) (xr_y1 rfl cW rfl (xr_isN (xr_metY0 0 hL hz qV (hr.mono (by decide)))))) (em_ix hz (ev_new (ef_lst (ea_cons ev_str (ea_cons ev_non ea_nil bY) bY))) (em_y1 hz l0 rfl cW rfl (em_isN (em_meth0 0 hz qA (hr.mono (by decide))))) (fun _ _=>rfl))))
    w_nil)
   (w_one (w_ret (xr_ix (ev_new (ef_lst (ea_cons ev_str (ea_cons ev_non ea_nil bY) bY))) (xr_y1 rfl cW rfl (xr_isN (xr_metY1 0 hL hz qU (hr.mono (by decide)) (ea_cons (ev_var 1) ea_nil ao))))) (em_ix hz (ev_new (ef_lst (ea_cons ev_str (ea_cons ev_non ea_nil bY) bY))) (em_y1 hz l0 rfl cW rfl (em_isN (em_meth1 0 hz qz (hr.mono (by decide)) (ea_cons (ev_var 1) ea_nil ao)))) (fun _ _=>rfl))))))
   (hw_as er hz 3 kU.nd (fun ea oe E sx pins =>
    (w_cons (w_st (s_set 4 kU.nd (ev_new (ef_lst (by refine ea_cons (ev_isx er hz 3 aU) ?_ ck;refine ea_cons (ev_isx er hz 3 aU) ?_ ck;refine ea_cons (ev_isx er hz 3 aU) ?_ ck;refine ea_cons (ev_isx er hz 3 aU) ?_ ck;exact ea_nil)))))
    (w_one (w_retV (ev_op hz yg (er_of ev_str) (er_of (ev_y1 hz l0 rfl cW rfl (er_of (ev_and (ev_isx er hz 3 aU) (ev_and (ev_isv er hz 3 aU m8) (ev_one (ev_not (ev_b1 hz (vm sx) rfl dD rfl (er_of (ev_var 4))))))))))))))) (hw_as er hz 3 kU.nd (fun ea oe E sx pins =>
    (w_cons (w_st (s_set 4 kU.nd (ev_new (ef_lst (ea_cons (ev_isx er hz 3 aU) (ea_cons (ev_isx er hz 3 aU) (ea_cons (ev_isx er hz 3 aU) ea_nil ck) ck) ck)))))
    (w_one (w_retV (ev_op hz yg (er_of ev_str) (er_of (ev_y1 hz l0 rfl cW rfl (er_of (ev_and (ev_isx er hz 3 aU) (ev_and (ev_isv er hz 3 aU m8) (ev_one (ev_not (ev_b1 hz (vm sx) rfl dD rfl (er_of (ev_var 4))))))))))))))) hw_nil)))
abbrev cQ:Stmt:=top 39
abbrev uV:List Str:=["_law_script","_law_many","_law_asker","_law_other","_law_rows","_law_rules_here","_law_k","_law_number","_law_question_here","_law_marks_here","_law_due","_law_says_yes"]
theorem bP:av uV ["_law_script"] (af cQ):=⟨rfl,rfl,rfl,by decide +kernel,rfl,by decide +kernel,by decide +kernel⟩
theorem Fj {fa:Addr}{fd:FuncData}(src:Fun K "law" "law" cQ fa fd)(mP:b8 P w K mg base "Asker" "__init__" 1 1 ig)(mT:Has P w K mg base "_law_mixed" 2 2 eX)(mU:Has P w K mg base "_law_question" 2 3 fO)(qG:Has P w K mg base "_law_marks" 2 2 fN)(dh:HasM P w K mg base "Asker" "question" 4 cy)(mS:HasM P w K mg base "Asker" "said" 1 c8)(mR:HasM P w K mg base "Asker" "known" 1 cM)(mQ:HasM P w K mg base "Asker" "asked_so_far" 1 c7)(qF:Has P w K mg base "_law_is_answer" 2 4 cN)(qD:HasD P w K mg base "_law_done" "Asker" 7 2 bM)(az:Cls K (clsAt K "Asker")) (m7:PySem.W.makesIn K (clsAt K "Asker")=true) (mX:PySem.W.keepIn K (.ref (clsAt K "Asker"))=true) (m6:mg "Asker"=some (.ref (clsAt K "Asker"))) (bX:mg "len"=none)(sA:mg "min"=none)(bC:mg "range"=none)(aJ:mg "tuple"=none):FnOk P w K mg base CX0 8 fa fd ["_law_script"] (spT K 1 iC) :=
 by
 refine Dk (k:=7) (F:=gZ) rfl rfl src bP fun cdv A outer s H E z hr hz=>?_
 unfold gZ oh oj om oq lU ou oz jx lG
 show sVs _ _ (aj cQ) _
 conv=>arg 2;whnf
 exact
  (ss_cons (s_set 1 bP.nd (ev_op hz bh (er_of ev_int) (er_of (ev_op hz o_md (er_of (ev_has hz mT (hr.mono (by decide)) (ea_cons (ev_var 0) (ea_cons ev_int ea_nil bY) ao))) (er_of ev_int)))))
  (ss_make 2 hz bP.nd mP m7 mX (hr.mono (by decide)) m6 (ea_cons (ev_var 1) ea_nil ao)
  (ss_make 3 hz bP.nd mP m7 mX (hr.mono (by decide)) m6 (ea_cons (ev_var 1) ea_nil ao)
  (ss_cons (s_own 4 bP.nd (ef_lst ea_nil))
  (ss_cons (s_own 5 bP.nd (ef_lst ea_nil))
  (ss_cons (s_for PassesOwn.never rfl (ip_range rfl bC (ev_min rfl rfl sA ev_int (ev_op hz bh (er_of ev_int) (er_of (ev_b1 hz f9 rfl bX PySem.boot_len (er_of (ev_var 0))))))) (eg_name 6 bP.nd)
   (ss_cons (s_set 7 bP.nd (ev_has hz mT (hr.mono (by decide)) (ea_cons (ev_var 0) (ea_cons (ev_op hz bh (er_of ev_int) (er_of (ev_var 6))) ea_nil tQ) ao)))
   (ss_cons (s_set 8 bP.nd (ev_hasR hz mU (hr.mono (by decide)) (eao_cons (ev_var 1) (eao_own 4 (eao_own 5 eao_nil)))))
   (ss_cons (s_if (et_cmp hz (o_ne (hr).units) (er_of (ev_meth 2 hz dh (hr.mono (by decide)))) (er_of (ev_var 8)) (aT _))
    (ss_one (s_ret ev_bl))
    ss_nil)
   (ss_cons (s_set 9 bP.nd (ev_has hz qG (hr.mono (by decide)) (ea_cons (ev_op hz o_fd (er_of (ev_var 7)) (er_of ev_int)) (ea_cons (ev_var 1) ea_nil ao) tQ)))
   (ss_cons (s_if (et_w (ew_and (et_cmp hz o_gt (er_of (ev_op hz o_md (er_of (ev_var 7)) (er_of ev_int))) (er_of ev_int) (aT _)) (ew_and1 (et_notN (ev_var 8)))))
    (ss_one (s_set 9 bP.nd (ev_y1 hz cH rfl aJ rfl (er_of (ev_new (ef_comp' uV (af cQ) ["_law_mark","_law_question_here","_law_marks_here"] [none,some 8,some 9] [0] (by decide +kernel) hz (ir_of (ip_range rfl bC (ev_var 1))) (fun C s H fp z' (hz':z'.K=K)=>(eg_name 0 (show List.Nodup (["_law_mark","_law_question_here","_law_marks_here"]:List Str) by decide +kernel))) (fun C s H fp z' (hz':z'.K=K)=>(et_ifs1 (et_w (ew_or (et_cmp hz' (o_in (hr).units) (er_of (ev_var 0)) (er_of (ev_ix hz' (er_of (ev_var 1)) ev_int (fun _ _=>rfl))) (by with_unfolding_all rfl)) (ew_or1 (et_cmp hz' (o_in (hr).units) (er_of (ev_var 0)) (er_of (ev_var 2)) (by with_unfolding_all rfl))))))) (fun C s H fp z' (hz':z'.K=K)=>(ev_var 0))))))))
    ss_nil)
   (ss_cons (s_if (et_w (ew_and (et_cmp hz (o_eq (hr).units) (er_of (ev_op hz o_md (er_of (ev_var 7)) (er_of ev_int))) (er_of ev_int) (aT _)) (ew_and1 (et_cmp hz (o_eq (hr).units) (er_of (ev_op hz o_md (er_of (ev_op hz o_fd (er_of (ev_var 7)) (er_of ev_int))) (er_of ev_int))) (er_of ev_int) (aT _)))))
    (ss_one (s_set 9 bP.nd (ev_ix hz (er_of (ev_new (ef_lst (by refine ea_cons ev_non ?_ bY;refine ea_cons (ev_new (ef_lst (ea_cons ev_int ea_nil bY))) ?_ tU;refine ea_cons (ev_tup (ea_cons (ev_var 1) ea_nil ao)) ?_ eN;refine ea_cons (ev_tup (ea_cons (ev_neg ev_int) ea_nil J4)) ?_ eN;refine ea_cons (ev_tup (ea_cons ev_int (ea_cons ev_int ea_nil bY) bY)) ?_ eN;refine ea_cons (ev_tup (ea_cons ev_bl ea_nil bY)) ?_ eN;refine ea_cons ev_str ?_ bY;exact ea_nil)))) (ev_op hz o_md (er_of (ev_op hz o_fd (er_of (ev_var 7)) (er_of ev_int))) (er_of ev_int)) (fun _ _=>rfl))))
    ss_nil)
   (ss_cons (s_set 10 bP.nd ev_non)
   (ss_cons (s_set 11 bP.nd (ev_and (ev_cmp hz (o_eq (hr).units) (er_of (ev_op hz o_md (er_of (ev_var 7)) (er_of ev_int))) (er_of ev_int) (aT _)) (ev_one (ev_cmp hz (o_eq (hr).units) (er_of (ev_op hz o_md (er_of (ev_op hz o_fd (er_of (ev_var 7)) (er_of ev_int))) (er_of ev_int))) (er_of ev_int) (aT _)))))
   (ss_cons (s_if (et_isN (ev_var 8))
    (ss_one (s_set 10 bP.nd ev_str))
    (ss_one (s_if (et_tru hz (er_of (ev_var 11)))
     (ss_one (s_app 5 (sL PySem.F.plainAttrs_list PySem.F.slot_list_append PySem.F.type_list_append x6 (pv 5) (bx (eV.p (by exact(ev_var 8))) cE))))
     (ss_one (s_if (et_val (ev_hasR hz qF (hr.mono (by decide)) (eao_cons (ev_var 9) (eao_cons (ev_var 8) (eao_own 5 (eao_cons (ev_var 1) eao_nil))))))
      (ss_one (s_app 4 (sL PySem.F.plainAttrs_list PySem.F.slot_list_append PySem.F.type_list_append x6 (pv 4) (bx (eV.p (by exact(ev_var 9))) cE))))
      (ss_one (s_set 10 bP.nd ev_str)))))))
   (ss_cons (s_ifM (emt_w (emw_or (emt_cmp hz (o_ne (hr).units) (em_hasD 2 hz qD (hr.mono (by decide)) (ea_cons (ev_var 9) (ea_cons (ev_var 11) ea_nil ao) ao)) (ev_var 10) (aT _)) (ew_or1 (et_cmp hz (o_ne (hr).units) (er_of (ev_meth 2 hz mR (hr.mono (by decide)))) (er_of (ev_tup (ea_cons (ev_var 1) (ea_cons (ev_y1 hz cH rfl aJ rfl (er_own 4)) ea_nil ck) ao))) (aT _)))))
    (ss_one (s_ret ev_bl))
    ss_nil)
   (ss_one (s_if (et_w (ew_or (et_cmp hz (o_ne (hr).units) (er_of (ev_meth 2 hz mS (hr.mono (by decide)))) (er_of (ev_y1 hz cH rfl aJ rfl (er_own 5))) (aT _)) (ew_or1 (et_cmp hz (o_ne (hr).units) (er_of (ev_meth 2 hz mQ (hr.mono (by decide)))) (er_of (ev_op hz bh (er_of (ev_b1 hz f9 rfl bX PySem.boot_len (er_own 4))) (er_of (ev_b1 hz f9 rfl bX PySem.boot_len (er_own 5))))) (aT _)))))
    (ss_one (s_ret ev_bl))
    ss_nil)))))))))))))
  (ss_cons (s_if (et_w (ew_or (et_cmp hz (o_ne (hr).units) (er_of (ev_meth 3 hz mS (hr.mono (by decide)))) (er_of (ev_tup ea_nil)) (aT _)) (ew_or1 (et_cmp hz (o_ne (hr).units) (er_of (ev_meth 3 hz mR (hr.mono (by decide)))) (er_of (ev_tup (ea_cons (ev_var 1) (ea_cons (ev_tup ea_nil) ea_nil eN) ao))) (aT _)))))
   (ss_one (s_ret ev_bl))
   ss_nil)
  (ss_one (s_ret (ev_and (ev_cmp hz (o_eq (hr).units) (er_of (ev_meth 3 hz mQ (hr.mono (by decide)))) (er_of ev_int) (aT _)) (ev_one (ev_cmp hz (o_eq (hr).units) (er_of (ev_meth 3 hz dh (hr.mono (by decide)))) (er_of (ev_has hz mU (hr.mono (by decide)) (ea_cons (ev_var 1) (ea_cons (ev_new (ef_lst ea_nil)) (ea_cons (ev_new (ef_lst ea_nil)) ea_nil tU) tU) ao))) (aT _)))))))))))))
theorem all_mk {P:Program}{w:World}{K:PySem.W.Frag}{h:Heap}{mg:Str→Option Value}{fa:Addr}(X:K.In h)(G:h.Ns mainGlobals mg)(hfa:mg "law"=some (.ref fa)) {mz:Addr}{Gr EL Ca HD vQ B0:Value}{GB AV:Option Addr}{JO:Array (Option Value)}{mF:Addr}{Gw EU Ce HH vV B6:Value}{GG AZ:Option Addr}{JS:Array (Option Value)}{mG:Addr}{Gx EX Cf HK vW B7:Value}{GH A0:Option Addr}{JT:Array (Option Value)}{mD:Addr}{Gu EO Cc HF vS B4:Value}{GD AX:Option Addr}{JQ:Array (Option Value)}{mC:Addr}{Gs EN Cb HE vR B3:Value}{GC AW:Option Addr}{JP:Array (Option Value)}{mH:Addr}{Gy EY Cg HL vX B8:Value}{GI A1:Option Addr}{JU:Array (Option Value)}{mE:Addr}{Gv ES Cd HG vU B5:Value}{GF AY:Option Addr}{JR:Array (Option Value)}{mJ:Addr}{Gz E1 Ci HM vY B9:Value}{GJ A2:Option Addr}{JV:Array (Option Value)}{qx:Addr}{GA xx wA yF pI wz:Value}{GK u5:Option Addr}{JW:Array (Option Value)}  {bz:Addr}
  (lW:PySem.W.nsIn K mainGlobals "Asker"=some (some (.ref bz))) (sN:PySem.W.plainGet K bz Str.empty=true)(qS:PySem.W.hasDictIn K bz=true)(sR:PySem.W.plainOver K bz=true)(tw:PySem.W.findIn K (.ref bz) "__setattr__"=some (some (.builtin "object.__setattr__"))) (sj:PySem.W.makesIn K bz=true)(rO:PySem.W.keepIn K (.ref bz)=true)
  (sD:PySem.W.findIn K (.ref bz) "many"=some none)
  (sE:PySem.W.findIn K (.ref bz) "rules"=some none)
  (sF:PySem.W.findIn K (.ref bz) "table"=some none)
  (ue:PySem.W.findIn K (.ref bz) "__init__"=some (some (.ref mz))) (rP:K.lookup mz=some ⟨Gr,GB,.func (PySem.W.fnOf "__init__" "Asker.__init__" (bf fP) (aj fP) (af fP) .none EL Ca HD AV vQ B0),JO⟩) (pe:PySem.W.codeIn K vQ "Asker.__init__"=true)(rD:PySem.W.keepIn K (.ref mz)=true) (qW:PySem.W.isFn K (.ref mz)=true)
  (pO:aR K "_law_cell_at" jP)
  (pV:aR K "_law_mixed" jR)
  (pS:aR K "_law_every" eY)
  (pP:aR K "_law_closed" fU)
  (pN:aR K "_law_among" iF)
  (pW:aR K "_law_question" fW)
  (pR:aR K "_law_drawn" jQ)
  (pU:aR K "_law_marks" iG)
  (qf:aR K "one_more" iJ)
  (pX:aR K "all_marks" jS)
  (qh:aR K "shared" fX)
  (pY:aR K "are_among" iH)
  (qc:aR K "having" iI)
  (qa:aR K "closed" jU)
  (qd:aR K "in_either" jW)
  (qg:aR K "one_turn" jY)
  (qb:aR K "closed_by" jV)
  (qj:aR K "without" iK)
  (um:PySem.W.findIn K (.ref bz) "question"=some (some (.ref mF))) (rV:K.lookup mF=some ⟨Gw,GG,.func (PySem.W.fnOf "question" "Asker.question" (bf fS) (aj fS) (af fS) .none EU Ce HH AZ vV B6),JS⟩) (pC:PySem.W.codeIn K vV "Asker.question"=true)(rH:PySem.W.keepIn K (.ref mF)=true) (q8:PySem.W.isFn K (.ref mF)=true)
  (uo:PySem.W.findIn K (.ref bz) "said"=some (some (.ref mG))) (rW:K.lookup mG=some ⟨Gx,GH,.func (PySem.W.fnOf "said" "Asker.said" (bf fT) (aj fT) (af fT) .none EX Cf HK A0 vW B7),JT⟩) (pD:PySem.W.codeIn K vW "Asker.said"=true)(rJ:PySem.W.keepIn K (.ref mG)=true) (q9:PySem.W.isFn K (.ref mG)=true)
  (ug:PySem.W.findIn K (.ref bz) "known"=some (some (.ref mD))) (rR:K.lookup mD=some ⟨Gu,GD,.func (PySem.W.fnOf "known" "Asker.known" (bf fR) (aj fR) (af fR) .none EO Cc HF AX vS B4),JQ⟩) (pA:PySem.W.codeIn K vS "Asker.known"=true)(rF:PySem.W.keepIn K (.ref mD)=true) (qY:PySem.W.isFn K (.ref mD)=true)
  (uf:PySem.W.findIn K (.ref bz) "asked_so_far"=some (some (.ref mC))) (rQ:K.lookup mC=some ⟨Gs,GC,.func (PySem.W.fnOf "asked_so_far" "Asker.asked_so_far" (bf fQ) (aj fQ) (af fQ) .none EN Cb HE AW vR B3),JP⟩) (pq:PySem.W.codeIn K vR "Asker.asked_so_far"=true)(rE:PySem.W.keepIn K (.ref mC)=true) (qX:PySem.W.isFn K (.ref mC)=true)
  (pT:aR K "_law_is_answer" fV)
  (uq:PySem.W.findIn K (.ref bz) "to_be_answered"=some (some (.ref mH))) (rX:K.lookup mH=some ⟨Gy,GI,.func (PySem.W.fnOf "to_be_answered" "Asker.to_be_answered" (bf dY) (aj dY) (af dY) .none EY Cg HL A1 vX B8),JU⟩) (pF:PySem.W.codeIn K vX "Asker.to_be_answered"=true)(rK:PySem.W.keepIn K (.ref mH)=true) (rj:PySem.W.isFn K (.ref mH)=true)
  (qe:aR K "is_whole" jX)
  (pZ:aR K "are_marks" jT)
  (qi:aR K "speaks_against" jZ)
  (uh:PySem.W.findIn K (.ref bz) "no"=some (some (.ref mE))) (rS:K.lookup mE=some ⟨Gv,GF,.func (PySem.W.fnOf "no" "Asker.no" (bf cP) (aj cP) (af cP) .none ES Cd HG AY vU B5),JR⟩) (pB:PySem.W.codeIn K vU "Asker.no"=true)(rG:PySem.W.keepIn K (.ref mE)=true) (qZ:PySem.W.isFn K (.ref mE)=true)
  (ur:PySem.W.findIn K (.ref bz) "yes"=some (some (.ref mJ))) (rY:K.lookup mJ=some ⟨Gz,GJ,.func (PySem.W.fnOf "yes" "Asker.yes" (bf dZ) (aj dZ) (af dZ) .none E1 Ci HM A2 vY B9),JV⟩) (pG:PySem.W.codeIn K vY "Asker.yes"=true)(rL:PySem.W.keepIn K (.ref mJ)=true) (rm:PySem.W.isFn K (.ref mJ)=true)
  (pQ:aR K "_law_done" lV)
  (oA:PySem.W.nsIn K mainGlobals "law"=some (some (.ref qx))) (rZ:K.lookup qx=some ⟨GA,GK,.func (PySem.W.fnOf "law" "law" (bf cQ) (aj cQ) (af cQ) .none xx wA yF u5 pI wz),JW⟩) (pH:PySem.W.codeIn K pI "law"=true)(rM:PySem.W.keepIn K (.ref qx)=true)
  (ers:ersB CS K=true)
  (uC:PySem.W.nsIn K mainGlobals "ValueError"=some none)
  (uD:PySem.W.nsIn K mainGlobals "all"=some none)
  (uE:PySem.W.nsIn K mainGlobals "any"=some none)
  (uF:PySem.W.nsIn K mainGlobals "bool"=some none)
  (uG:PySem.W.nsIn K mainGlobals "enumerate"=some none)
  (uH:PySem.W.nsIn K mainGlobals "int"=some none)
  (uI:PySem.W.nsIn K mainGlobals "isinstance"=some none)
  (uJ:PySem.W.nsIn K mainGlobals "len"=some none)
  (uK:PySem.W.nsIn K mainGlobals "list"=some none)
  (uL:PySem.W.nsIn K mainGlobals "min"=some none)
  (uM:PySem.W.nsIn K mainGlobals "range"=some none)
  (uN:PySem.W.nsIn K mainGlobals "set"=some none)
  (uO:PySem.W.nsIn K mainGlobals "sorted"=some none)
  (uP:PySem.W.nsIn K mainGlobals "tuple"=some none) :
  ∃ fd:FuncData,(∀(s:Shared)(v:Value),BindsTo s fd ⟨[v],[]⟩ [("_law_script",v)])∧∀ base:Heap,K.In base→base.Ns mainGlobals mg→FnOk P w K mg base CX0 8 fa fd ["_law_script"] (spT K 1 iC):=by
 have e:=hfa.symm.trans (PySem.W.mg_of X G oA)
 cases e
 have bV:clsAt K "Asker"=bz:=BW lW
 have az:Cls K (clsAt K "Asker"):=by rw[bV];exact⟨sN,qS,sR,tw⟩
 have m7:PySem.W.makesIn K (clsAt K "Asker")=true:=by rw[bV];exact sj
 have mX:PySem.W.keepIn K (.ref (clsAt K "Asker"))=true:=by rw[bV];exact rO
 have m6:mg "Asker"=some (.ref (clsAt K "Asker")):=by rw[bV];exact PySem.W.mg_of X G lW
 have cB:aL K (clsAt K "Asker") "many":=by rw[bV];exact sD
 have aS:aL K (clsAt K "Asker") "rules":=by rw[bV];exact sE
 have bG:aL K (clsAt K "Asker") "table":=by rw[bV];exact sF
 have IJ:SrcM K "Asker" "__init__" "Asker.__init__" fP ["self","many"]:=fE (h:=h) az bV rP pe rD ue qW fun _ _ _ _ _ _ us hl=>match us,hl with|[_,_],_=>rfl
 have IS:Src K mg "_law_cell_at" jP ["_law_script","_law_k"]:=aY X G pO fun _ _ _ _ _ _ us hl=>match us,hl with|[_,_],_=>rfl
 have IZ:Src K mg "_law_mixed" jR ["_law_script","_law_k"]:=aY X G pV fun _ _ _ _ _ _ us hl=>match us,hl with|[_,_],_=>rfl
 have IW:Src K mg "_law_every" eY ["_law_many"]:=aY X G pS fun _ _ _ _ _ _ us hl=>match us,hl with|[_],_=>rfl
 have IT:Src K mg "_law_closed" fU ["_law_table_here","_law_marks_here"]:=aY X G pP fun _ _ _ _ _ _ us hl=>match us,hl with|[_,_],_=>rfl
 have IQ:Src K mg "_law_among" iF ["_law_some","_law_marks_here"]:=aY X G pN fun _ _ _ _ _ _ us hl=>match us,hl with|[_,_],_=>rfl
 have Ja:Src K mg "_law_question" fW ["_law_many","_law_rows","_law_rules_here"]:=aY X G pW fun _ _ _ _ _ _ us hl=>match us,hl with|[_,_,_],_=>rfl
 have IV:Src K mg "_law_drawn" jQ ["_law_number","_law_k"]:=aY X G pR fun _ _ _ _ _ _ us hl=>match us,hl with|[_,_],_=>rfl
 have IY:Src K mg "_law_marks" iG ["_law_number","_law_many"]:=aY X G pU fun _ _ _ _ _ _ us hl=>match us,hl with|[_,_],_=>rfl
 have Jl:Src K mg "one_more" iJ ["level","many"]:=aY X G qf fun _ _ _ _ _ _ us hl=>match us,hl with|[_,_],_=>rfl
 have Jb:Src K mg "all_marks" jS ["many"]:=aY X G pX fun _ _ _ _ _ _ us hl=>match us,hl with|[_],_=>rfl
 have Jo:Src K mg "shared" fX ["table","things"]:=aY X G qh fun _ _ _ _ _ _ us hl=>match us,hl with|[_,_],_=>rfl
 have Jc:Src K mg "are_among" iH ["marks","others"]:=aY X G pY fun _ _ _ _ _ _ us hl=>match us,hl with|[_,_],_=>rfl
 have Ji:Src K mg "having" iI ["table","marks"]:=aY X G qc fun _ _ _ _ _ _ us hl=>match us,hl with|[_,_],_=>rfl
 have Je:Src K mg "closed" jU ["table","marks"]:=aY X G qa fun _ _ _ _ _ _ us hl=>match us,hl with|[_,_],_=>rfl
 have Jj:Src K mg "in_either" jW ["one","other"]:=aY X G qd fun _ _ _ _ _ _ us hl=>match us,hl with|[_,_],_=>rfl
 have Jm:Src K mg "one_turn" jY ["rules","marks"]:=aY X G qg fun _ _ _ _ _ _ us hl=>match us,hl with|[_,_],_=>rfl
 have Jf:Src K mg "closed_by" jV ["rules","marks"]:=aY X G qb fun _ _ _ _ _ _ us hl=>match us,hl with|[_,_],_=>rfl
 have Jq:Src K mg "without" iK ["marks","others"]:=aY X G qj fun _ _ _ _ _ _ us hl=>match us,hl with|[_,_],_=>rfl
 have IM:SrcM K "Asker" "question" "Asker.question" fS ["self"]:=fE (h:=h) az bV rV pC rH um q8 fun _ _ _ _ _ _ us hl=>match us,hl with|[_],_=>rfl
 have IP:SrcM K "Asker" "said" "Asker.said" fT ["self"]:=fE (h:=h) az bV rW pD rJ uo q9 fun _ _ _ _ _ _ us hl=>match us,hl with|[_],_=>rfl
 have IL:SrcM K "Asker" "known" "Asker.known" fR ["self"]:=fE (h:=h) az bV rR pA rF ug qY fun _ _ _ _ _ _ us hl=>match us,hl with|[_],_=>rfl
 have IK:SrcM K "Asker" "asked_so_far" "Asker.asked_so_far" fQ ["self"]:=fE (h:=h) az bV rQ pq rE uf qX fun _ _ _ _ _ _ us hl=>match us,hl with|[_],_=>rfl
 have IX:Src K mg "_law_is_answer" fV ["_law_marks_here","_law_question_here","_law_rules_here","_law_many"]:=aY X G pT fun _ _ _ _ _ _ us hl=>match us,hl with|[_,_,_,_],_=>rfl
 have zc:SrcM K "Asker" "to_be_answered" "Asker.to_be_answered" dY ["self"]:=fE (h:=h) az bV rX pF rK uq rj fun _ _ _ _ _ _ us hl=>match us,hl with|[_],_=>rfl
 have Jk:Src K mg "is_whole" jX ["thing"]:=aY X G qe fun _ _ _ _ _ _ us hl=>match us,hl with|[_],_=>rfl
 have Jd:Src K mg "are_marks" jT ["thing","many"]:=aY X G pZ fun _ _ _ _ _ _ us hl=>match us,hl with|[_,_],_=>rfl
 have Jp:Src K mg "speaks_against" jZ ["marks","rule"]:=aY X G qi fun _ _ _ _ _ _ us hl=>match us,hl with|[_,_],_=>rfl
 have zb:SrcM K "Asker" "no" "Asker.no" cP ["self","marks"]:=fE (h:=h) az bV rS pB rG uh qZ fun _ _ _ _ _ _ us hl=>match us,hl with|[_,_],_=>rfl
 have zd:SrcM K "Asker" "yes" "Asker.yes" dZ ["self"]:=fE (h:=h) az bV rY pG rL ur rm fun _ _ _ _ _ _ us hl=>match us,hl with|[_],_=>rfl
 have IU:Src K mg "_law_done" lV ["_law_asker","_law_marks_here","_law_says_yes"]:=aY X G pQ fun _ _ _ _ _ _ us hl=>match us,hl with|[_,_,_],_=>rfl
 have m8:=PySem.W.mg_none_of X G uC
 have ja:=PySem.W.mg_none_of X G uD
 have dD:=PySem.W.mg_none_of X G uE
 have jc:=PySem.W.mg_none_of X G uF
 have sr:=PySem.W.mg_none_of X G uG
 have cW:=PySem.W.mg_none_of X G uH
 have aU:=PySem.W.mg_none_of X G uI
 have bX:=PySem.W.mg_none_of X G uJ
 have su:=PySem.W.mg_none_of X G uK
 have sA:=PySem.W.mg_none_of X G uL
 have bC:=PySem.W.mg_none_of X G uM
 have m9:=PySem.W.mg_none_of X G uN
 have jd:=PySem.W.mg_none_of X G uO
 have aJ:=PySem.W.mg_none_of X G uP
 have er:Er CS K mg:=CF X G ers
 refine⟨PySem.W.fnOf "law" "law" (bf cQ) (aj cQ) (af cQ) .none xx wA yF u5 pI wz,fun s v=>.of_eq rfl,fun base _ _=>?_⟩
 have mP:=DF (P:=P) (w:=w) (mg:=mg) (base:=base) IJ az cB aS bG
 have qB:=DO (P:=P) (w:=w) (mg:=mg) (base:=base) IS bX
 have mT:=DV (P:=P) (w:=w) (mg:=mg) (base:=base) IZ qB
 have i0:=DS (P:=P) (w:=w) (mg:=mg) (base:=base) IW bX bC jd
 have qC:=DP (P:=P) (w:=w) (mg:=mg) (base:=base) IT su bC aJ
 have di:=DN (P:=P) (w:=w) (mg:=mg) (base:=base) IQ 
 have mU:=DW (P:=P) (w:=w) (mg:=mg) (base:=base) Ja i0 qC di aJ
 have qE:=DR (P:=P) (w:=w) (mg:=mg) (base:=base) IV 
 have qG:=DU (P:=P) (w:=w) (mg:=mg) (base:=base) IY qE bC aJ
 have qN:=Ea (P:=P) (w:=w) (mg:=mg) (base:=base) Jl bC
 have qH:=DX (P:=P) (w:=w) (mg:=mg) (base:=base) Jb qN aJ
 have qO:=Ec (P:=P) (w:=w) (mg:=mg) (base:=base) Jo ja bC aJ
 have dj:=DY (P:=P) (w:=w) (mg:=mg) (base:=base) Jc ja
 have qK:=D4 (P:=P) (w:=w) (mg:=mg) (base:=base) Ji dj sr aJ
 have qI:=D0 (P:=P) (w:=w) (mg:=mg) (base:=base) Je qO qK
 have qL:=D6 (P:=P) (w:=w) (mg:=mg) (base:=base) Jj m9 jd aJ
 have mV:=Eb (P:=P) (w:=w) (mg:=mg) (base:=base) Jm dj qL
 have qJ:=D3 (P:=P) (w:=w) (mg:=mg) (base:=base) Jf mV
 have qP:=Ef (P:=P) (w:=w) (mg:=mg) (base:=base) Jq aJ
 have dh:=DJ (P:=P) (w:=w) (mg:=mg) (base:=base) IM qH qI qJ qP az cB aS bG
 have mS:=DK (P:=P) (w:=w) (mg:=mg) (base:=base) IP az aS
 have mR:=DH (P:=P) (w:=w) (mg:=mg) (base:=base) IL az bG
 have mQ:=DG (P:=P) (w:=w) (mg:=mg) (base:=base) IK az aS bG bX
 have qF:=DT (P:=P) (w:=w) (mg:=mg) (base:=base) IX i0 di jc aU aJ
 have cU:=DL (P:=P) (w:=w) (mg:=mg) (base:=base) zc dh er
 have dm:=DC (P:=P) (w:=w) (mg:=mg) (base:=base) zc dh er
 have qM:=D7 (P:=P) (w:=w) (mg:=mg) (base:=base) Jk jc cW aU
 have i6:=DZ (P:=P) (w:=w) (mg:=mg) (base:=base) Jd qM aU aJ
 have fq:=Ed (P:=P) (w:=w) (mg:=mg) (base:=base) Jp dj
 have qz:=DI (P:=P) (w:=w) (mg:=mg) (base:=base) zb cU i6 fq dm az cB aS bG er dD
 have qU:=DB (P:=P) (w:=w) (mg:=mg) (base:=base) zb cU i6 fq dm az cB aS bG er dD
 have qA:=DM (P:=P) (w:=w) (mg:=mg) (base:=base) zd cU dm az aS
 have qV:=DE (P:=P) (w:=w) (mg:=mg) (base:=base) zd cU dm az aS
 have qD:=DQ (P:=P) (w:=w) (mg:=mg) (base:=base) IU qz qA qU qV er m8 dD cW aU
 exact Fj (kH (st:=cQ) rZ pH rM) mP mT mU qG dh mS mR mQ qF qD az m7 mX m6 bX sA bC aJ
end G
namespace G
open PySem L2 TL
theorem walk {l:PySem.W.OpenLaw}{q:Program}{loose:List Str}{XP:(Str→Option Value)→Heap→Prop}{YP:World→Heap→Prop}{d:DefRec}{K:Params→PySem.W.Frag}(hn:l.most=some 63)(hdf:d.params.defaults=[])
  (hY:∀(w:World)(h:Heap),YP w h→(K w.params).In h)
  (F:∀(w:World)(mg:Str→Option Value)(fa:Addr)(h:Heap),(K w.params).In h→h.Ns mainGlobals mg→mg d.name=some (.ref fa) →
   ∃ fd:FuncData,(∀(s:Shared)(u:Value),BindsTo s fd ⟨[u],[]⟩ [("_law_script",u)])∧∀ base:Heap,(K w.params).In base→base.Ns mainGlobals mg→FnOk l.prog w (K w.params) mg base CX0 8 fa fd ["_law_script"] (spT (K w.params) 1 iC)) :
  PySem.W.WalkO q loose XP YP l.row.toRowW d [] (fun f vs=>PySem.call f vs) :=
 L2.Lp (n:=63) (k:=8) (x:="_law_script") (CX:=CX0) (sp:=fun K=>spT K 1 iC) hn (by decide) hdf ⟨rfl,by decide,by decide⟩ hY F
  (fun K H a ns hl _ hS=>⟨H,[.lst (ns.map T.int)],.bl true,rfl,.refl _,.one (by unfold Rep;exact⟨a,_,rfl,hS,RepL.ints.mpr rfl⟩),Fl ns hl,fun v _ _ _ r=>r.b⟩) fun _ _ _ _ z=>z
end G
local macro_rules|`(tactic| walk_at "dk")=>`(tactic| (refine' G.Cj ?a ?l ?c ?k;(case a=>k_is);(case l=>k_is);(case c=>k_is);(case k=>k_is)))
open PySem PySem.W PyProof.Rows
set_option maxRecDepth 100000 in
set_option maxHeartbeats 0 in
theorem PySem.Challenge.cw_markhall_k40_asking_holds : PySem.Challenge.rw_markhall_k40_asking.Holds := by
 refine Hd.top ?_
 k_fill
 refine G.walk (l:=PySem.Challenge.rw_markhall_k40_asking) rfl rfl (fun w h Y=>PySem.W.kIn_of Y) ?F
 case F =>
  intro w mg fa h KX GX hmg
  refine' G.all_mk KX GX hmg ?lW ?sN ?qS ?sR ?tw ?sj ?rO ?sD ?sE ?sF ?ue ?rP ?pe ?rD ?qW ?pO ?pV ?pS ?pP ?pN ?pW ?pR ?pU ?qf ?pX ?qh ?pY ?qc ?qa ?qd ?qg ?qb ?qj ?um ?rV ?pC ?rH ?q8 ?uo ?rW ?pD ?rJ ?q9 ?ug ?rR ?pA ?rF ?qY ?uf ?rQ ?pq ?rE ?qX ?pT ?uq ?rX ?pF ?rK ?rj ?qe ?pZ ?qi ?uh ?rS ?pB ?rG ?qZ ?ur ?rY ?pG ?rL ?rm ?pQ ?oA ?rZ ?pH ?rM ?ers ?uC ?uD ?uE ?uF ?uG ?uH ?uI ?uJ ?uK ?uL ?uM ?uN ?uO ?uP
  (case lW=>k_is);(case sN=>k_is);(case qS=>k_is);(case sR=>k_is);(case tw=>k_is);(case sj=>k_is)
  (case rO=>k_is);(case sD=>k_is);(case sE=>k_is);(case sF=>k_is);(case ue=>k_is);(case rP=>k_is)
  (case pe=>k_is);(case rD=>k_is);(case qW=>k_is);(case pO=>walk_at "dk");(case pV=>walk_at "dk");(case pS=>walk_at "dk")
  (case pP=>walk_at "dk");(case pN=>walk_at "dk");(case pW=>walk_at "dk");(case pR=>walk_at "dk");(case pU=>walk_at "dk");(case qf=>walk_at "dk")
  (case pX=>walk_at "dk");(case qh=>walk_at "dk");(case pY=>walk_at "dk");(case qc=>walk_at "dk");(case qa=>walk_at "dk");(case qd=>walk_at "dk")
  (case qg=>walk_at "dk");(case qb=>walk_at "dk");(case qj=>walk_at "dk");(case um=>k_is);(case rV=>k_is);(case pC=>k_is)
  (case rH=>k_is);(case q8=>k_is);(case uo=>k_is);(case rW=>k_is);(case pD=>k_is);(case rJ=>k_is)
  (case q9=>k_is);(case ug=>k_is);(case rR=>k_is);(case pA=>k_is);(case rF=>k_is);(case qY=>k_is)
  (case uf=>k_is);(case rQ=>k_is);(case pq=>k_is);(case rE=>k_is);(case qX=>k_is);(case pT=>walk_at "dk")
  (case uq=>k_is);(case rX=>k_is);(case pF=>k_is);(case rK=>k_is);(case rj=>k_is);(case qe=>walk_at "dk")
  (case pZ=>walk_at "dk");(case qi=>walk_at "dk");(case uh=>k_is);(case rS=>k_is);(case pB=>k_is);(case rG=>k_is)
  (case qZ=>k_is);(case ur=>k_is);(case rY=>k_is);(case pG=>k_is);(case rL=>k_is);(case rm=>k_is)
  (case pQ=>walk_at "dk");(case oA=>k_is);(case rZ=>k_is);(case pH=>k_is);(case rM=>k_is);(case ers=>kernel_rfl)
  (case uC=>k_is);(case uD=>k_is);(case uE=>k_is);(case uF=>k_is);(case uG=>k_is);(case uH=>k_is)
  (case uI=>k_is);(case uJ=>k_is);(case uK=>k_is);(case uL=>k_is);(case uM=>k_is);(case uN=>k_is)
  (case uO=>k_is);(case uP=>k_is)
