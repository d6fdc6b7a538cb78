import PyProof.Rows.All
import Wide.All
import OpenK.AllK
import Wide.FinOn
import Lean
import PyProof.EqAt
import PyProof.EqKinds
import PyProof.TupleCall
import PyProof.ExcBaseAll.ValueError
import PyProof.ExcClass2
import PyProof.ExcAttrAll.ValueError
import PyProof.Rows.StrWeight2
import PyProof.FactsAll.str_0
import PyProof.FactsAll.str_5
import KE.KSortAsk
import KE.KSortTup
import KE.KSortKey
import PyProof.Conv_int_bool
import PyProof.StrOps2
import PyProof.StrBlockI
import PyProof.Rows.StrNews
import PyProof.FactsAll.str_7
import PyProof.StrLawsTight
import PyProof.StrLawsChain
import PySem.Challenge.RW_markhall_k04_whole_read
set_option Elab.async false
set_option linter.all false
set_option maxRecDepth 100000
namespace Hd
open PySem PySem.W PyProof.Rows
def keepB:Stmt → Bool
 | .Assign (.Name x _ :: _) _ _=>!(x == ("__name__":Str))
 | _=>true
noncomputable def view:Program:={ PySem.Challenge.rw_markhall_k04_whole_read.row.toRowW.prog with main:={ PySem.Challenge.rw_markhall_k04_whole_read.row.toRowW.prog.main with body:=PySem.Challenge.rw_markhall_k04_whole_read.row.toRowW.prog.main.body.filter keepB } }
local macro_rules | `(tactic| o_head $H)=>`(tactic| (refine holds_open (q:=Hd.view) (loose:=[]) (Xt:=fun s=>xlAt Hd.view [] s && recOk (RowW.records PySem.Challenge.rw_markhall_k04_whole_read.row.toRowW) s) (XP:=XL Hd.view []) (Yf:=Hook.obs $H) (Ya:=Hook.val $H) (YP:=Hook.says $H) (N:=9000) ?hl (Hook.of $H) (Hook.keeps $H) (fun s e=>xl_of s (Bool.and_eq_true_iff.mp e).1) XL.keeps (by rfl) (by rfl) (by rfl) (fun s e=>recFacts_of (Bool.and_eq_true_iff.mp e).2) (by rfl) (by first | assumption | decide +kernel) (by decide +kernel) ⟨rfl,rfl,rfl,rfl,rfl,by decide +kernel⟩ ?hw ?hc; (case hl=>(intro w; unfold openEnds fencedOpening topFrom; rw [PySem.W.Fast.te14082659384304107361,PySem.W.Fast.te10274390034422433532,PySem.W.Fast.te14289696077712309145,PySem.W.Fast.te4187177175401517315,PySem.W.Fast.te1435165496053646825,PySem.W.Fast.te14364793385576792824]; kernel_rfl))))
set_option maxHeartbeats 0 in
open_top top for PySem.Challenge.rw_markhall_k04_whole_read
end Hd
namespace L2
open PySem PySem.Spec PyProof.Rows
abbrev Key:=Sum Int Str
def keyIs:Key → Value → Bool
 | .inl k,v=>Value.isInt k v
 | .inr x,v=>Value.isStrOf x v
def keyH (w:World):Key → Int
 | .inl k=>hashInt k
 | .inr x=>hashStr w x
theorem keyIs_shape:∀ {k:Key} {v:Value},keyIs k v=true → (∃ i t,k=Sum.inl i ∧ v=Value.int i t) ∨ (∃ x t,k=Sum.inr x ∧ v=Value.str x t)
 | .inl i,v,h=>by
   obtain ⟨t,e⟩:=Value.isInt_shape (k:=i) (v:=v) h
   exact .inl ⟨i,t,rfl,e⟩
 | .inr x,v,h=>by
   obtain ⟨t,e⟩:=Value.isStrOf_shape (x:=x) (v:=v) h
   exact .inr ⟨x,t,rfl,e⟩
theorem key_ll (a b:Int):decide ((Sum.inl a:Key)=Sum.inl b)=(a == b):=by
 by_cases e:a=b
 ·subst e; simp
 ·have h:¬ (Sum.inl a:Key)=Sum.inl b:=fun q=>e (Sum.inl.inj q)
  rw [decide_eq_false h]
  exact (beq_eq_false_iff_ne.mpr e).symm
theorem key_rr (a b:Str):decide ((Sum.inr a:Key)=Sum.inr b)=decide (a=b):=by
 by_cases e:a=b
 ·subst e; simp
 ·have h:¬ (Sum.inr a:Key)=Sum.inr b:=fun q=>e (Sum.inr.inj q)
  rw [decide_eq_false h,decide_eq_false e]
theorem key_lr (a:Int) (b:Str):decide ((Sum.inl a:Key)=Sum.inr b)=false:=decide_eq_false (fun q=>nomatch q)
theorem key_rl (a:Str) (b:Int):decide ((Sum.inr a:Key)=Sum.inl b)=false:=decide_eq_false (fun q=>nomatch q)
def mixKind (prog:Program) (w:World):PySem.KeyKind prog w Key where
 is:=keyIs
 hash:=keyH w
 inj:=fun v a b ha hb=>by
  rcases keyIs_shape ha with ⟨i,t,rfl,rfl⟩ | ⟨x,t,rfl,rfl⟩
  ·rcases keyIs_shape hb with ⟨j,u,rfl,e⟩ | ⟨y,u,rfl,e⟩
   ·injection e with e1 _; rw [e1]
   ·exact nomatch e
  ·rcases keyIs_shape hb with ⟨j,u,rfl,e⟩ | ⟨y,u,rfl,e⟩
   ·exact nomatch e
   ·injection e with e1 _; rw [e1]
 byValue:=fun k v h=>by
  rcases keyIs_shape h with ⟨i,t,rfl,rfl⟩ | ⟨x,t,rfl,rfl⟩ <;> rfl
 pyHash:=fun hv h=>by
  rcases keyIs_shape hv with ⟨i,t,rfl,rfl⟩ | ⟨x,t,rfl,rfl⟩
  ·exact wpAny_pyHash_int h
  ·exact wpAny_pyHash_str h
 eqBool:=fun hu hv h=>by
  rcases keyIs_shape hu with ⟨i,t,rfl,rfl⟩ | ⟨x,t,rfl,rfl⟩
  ·rcases keyIs_shape hv with ⟨j,u,rfl,rfl⟩ | ⟨y,u,rfl,rfl⟩
   ·rw [key_ll] at h; exact wpAny_eqBool_int h
   ·rw [key_lr] at h; exact SeqAt.EqAt.int_str i t y u _ _ _ _ h
  ·rcases keyIs_shape hv with ⟨j,u,rfl,rfl⟩ | ⟨y,u,rfl,rfl⟩
   ·rw [key_rl] at h; exact SeqAt.EqAt.str_int x t j u _ _ _ _ h
   ·rw [key_rr] at h; exact wpAny_eqBool_str h
 «strs»:=fun k x t v h=>by
  rcases keyIs_shape h with ⟨i,u,rfl,e⟩ | ⟨y,u,rfl,e⟩
  ·exact nomatch e
  ·injection e with e1 _
   subst e1
   cases v <;> rfl
end L2
namespace L2
open PySem PySem.Spec PyProof.Rows
inductive V where
 | non | bl (b:Bool) | int (i:Int) | str (x:Str) | byt (b:Array UInt8) | flt (b:UInt64) | ref (a:Addr) | ty (n:String)
 deriving DecidableEq
def RelV:V → Value → Prop
 | .non,u=>u=Value.none
 | .bl b,u=>u=Value.bool b
 | .int i,u=>∃ t,u=Value.int i t
 | .str x,u=>∃ t,u=Value.str x t
 | .byt b,u=>∃ t,u=Value.bytes b t
 | .flt b,u=>∃ t,u=Value.float b t
 | .ref a,u=>u=Value.ref a
 | .ty n,u=>u=Value.type n
abbrev Vals:List V → List Value → Prop:=Paired RelV
theorem Vals.length {xs:List V} {us:List Value} (r:Vals xs us):xs.length=us.length:=Paired.length r
theorem Vals.get:∀ {xs:List V} {us:List Value} {i:Nat} {x:V},Vals xs us → xs[i]?=some x → ∃ u,us[i]?=some u ∧ RelV x u
 | _,_,_,_,.nil,e=>by simp at e
 | _,_,0,_,.cons r _,e=>by simp at e; subst e; exact ⟨_,rfl,r⟩
 | _,_,i + 1,x,.cons _ t,e=>by
   obtain ⟨u,h1,h2⟩:=Vals.get (i:=i) (x:=x) t (by simpa using e)
   exact ⟨u,by simpa using h1,h2⟩
theorem Vals.append:∀ {xs ys:List V} {us ws:List Value},Vals xs us → Vals ys ws → Vals (xs ++ ys) (us ++ ws)
 | _,_,_,_,.nil,s=>s
 | _,_,_,_,.cons r t,s=>.cons r (Vals.append t s)
theorem Vals.take:∀ {xs:List V} {us:List Value} (n:Nat),Vals xs us → Vals (xs.take n) (us.take n)
 | _,_,0,_=>.nil
 | _,_,_ + 1,.nil=>.nil
 | _,_,n + 1,.cons r t=>.cons r (Vals.take n t)
theorem Vals.drop:∀ {xs:List V} {us:List Value} (n:Nat),Vals xs us → Vals (xs.drop n) (us.drop n)
 | _,_,0,r=>r
 | _,_,_ + 1,.nil=>.nil
 | _,_,n + 1,.cons _ t=>Vals.drop n t
def RelO:Option V → Option Value → Prop
 | some v,some u=>RelV v u
 | none,none=>True
 | _,_=>False
def KV {κ:Type}:List (κ × V) → List (κ × Value) → Prop:=Paired fun (p:κ × V) (q:κ × Value)=>p.1=q.1 ∧ RelV p.2 q.2
def kV:Key → V
 | .inl i=>.int i
 | .inr x=>.str x
inductive HO where
  
 | lst (xs:List V)
  
 | tup (xs:List V)
  
 | dK (kvs:List (Key × V)) | dT (kvs:List (List Key × V))
  
 | set (S:Int → Bool) (n:Nat)
  
 | ins (C dx:Addr) (fs:List (Str × V))
  
 | own (x:Addr)
  
 | xd (fs:List (Str × V))
  
 | met (f x:Addr)
  
 | rng (lo hi:Int)
  
 | frz (o:Obj) (u:HO)
  
 | tbl (ps:Array Value)
  
 | ext (φ:Heap → Prop)
abbrev Hp:=Addr → Option HO
def upd (H:Hp) (a:Addr) (o:HO):Hp:=fun b=>if b=a then some o else H b
theorem upd_same {H:Hp} {a:Addr} {o:HO}:upd H a o a=some o:=by unfold upd; rw [if_pos rfl]
theorem upd_ne {H:Hp} {a b:Addr} {o:HO} (h:b ≠ a):upd H a o b=H b:=by unfold upd; rw [if_neg h]
theorem ne_of {H:Hp} {a b:Addr} {o u:HO} (h:H a=some o) (h':H b=some u) (d:o ≠ u):a ≠ b:=by
 intro e; subst e; rw [h] at h'; exact d (Option.some.inj h')
theorem ne_of_none {H:Hp} {a b:Addr} {o:HO} (h:H a=some o) (h':H b=none):a ≠ b:=by
 intro e; subst e; rw [h] at h'; cases h'
section
variable (P:Program) (w:World)
def ObjOk (H:Hp) (h:Heap) (a:Addr):HO → Prop
 | .lst xs=>xs.length ≤ sizeLine ∧ ∃ (its:List Value) (n:Nat),Vals xs its ∧ h.get? a=some { cls:=.type "list",data:=.seq its.toArray n }
 | .tup xs=>xs.length ≤ sizeLine ∧ ∃ its:List Value,Vals xs its ∧ IsTup h a its.toArray
 | .dK kvs=>kvs.length ≤ sizeLine ∧ (a == sysModules)=false ∧ ∃ vs,KV kvs vs ∧ h.DictOf (mixKind P w) a vs
 | .dT kvs=>kvs.length ≤ sizeLine ∧ (a == sysModules)=false ∧ ∃ xs:List (List Key × Addr × Value),
   Paired (fun (p:List Key × V) (q:List Key × Addr × Value)=>p.1=q.1 ∧ H q.2.1=some (.tup (p.1.map kV)) ∧ RelV p.2 q.2.2) kvs xs ∧
   ∃ o es ep,h.get? a=some o ∧ o.ExactDict ∧ o.data=.dict es ep ∧ es.toList=xs.map (entryOfKey (tupleKind (mixKind P w))) ∧ (xs.map (·.1)).Nodup
 | .set S n=>h.SetOf (intKind P w) a S n
 | .ins C dx fs=>H dx=some (.own a) ∧ fs.length ≤ 1000 ∧ dx ≠ a ∧ h.get? a=some (PySem.W.instObj C dx) ∧
   ∃ mA,h.Ns1 dx mA ∧ (∀ f,RelO (fs.lookup f) (mA f)) ∧ PySem.Within mA (fs.map (·.1))
 | .own _=>∃ o,h.get? a=some o
 | .xd fs=>∃ mA,h.Ns1 a mA ∧ ∀ f,RelO (fs.lookup f) (mA f)
 | .rng lo hi=>∃ t u v,h.get? a=some { cls:=.type "range",data:=.fields #[.int lo t,.int hi u,.int 1 v] }
 | .frz o u=>h.get? a=some o ∧ ObjOk H h a u
 | .tbl ps=>h.get? a=some { cls:=.none,data:=.fields ps }
 | .met f x=>h.get? a=some (PySem.W.methodObj (.ref f) (.ref x))
 | .ext φ=>φ h ∧ (∃ o,h.get? a=some o) ∧ ∀ h1 h2:Heap,φ h1 → (∀ o,h1.get? a=some o → h2.get? a=some o) → φ h2
def HOk (H:Hp) (h:Heap):Prop:=∀ a o,H a=some o → ObjOk P w H h a o
end
section
variable {P:Program} {w:World} {H H':Hp} {h h':Heap} {a:Addr} {o:HO}
theorem ObjOk.lt (x:ObjOk P w H h a o):a < h.objs.size:=by
 cases o with
 | lst xs=>obtain ⟨_,_,_,_,e⟩:=x; exact Heap.lt_size e
 | tup xs=>obtain ⟨_,_,_,p⟩:=x; exact p.lt
 | dK kvs=>obtain ⟨_,_,_,_,o,_,_,e,_⟩:=x; exact Heap.lt_size e
 | dT kvs=>obtain ⟨_,_,_,_,o,_,_,e,_⟩:=x; exact Heap.lt_size e
 | set S n=>obtain ⟨o,_,_,_,e,_⟩:=x; exact Heap.lt_size e
 | ins C dx fs=>obtain ⟨_,_,_,e,_⟩:=x; exact Heap.lt_size e
 | own y=>obtain ⟨_,e⟩:=x; exact Heap.lt_size e
 | xd fs=>obtain ⟨_,⟨_,_,_,e,_⟩,_⟩:=x; exact Heap.lt_size e
 | rng lo hi=>obtain ⟨_,_,_,e⟩:=x; exact Heap.lt_size e
 | frz ob u=>obtain ⟨e,_⟩:=x; exact Heap.lt_size e
 | tbl ps=>exact Heap.lt_size (show h.get? a=some _ from x)
 | met f y=>exact Heap.lt_size (show h.get? a=some _ from x)
 | ext φ=>obtain ⟨_,⟨_,e⟩,_⟩:=x; exact Heap.lt_size e
theorem Paired.mapP {α β:Type} {F G:α → β → Prop}:∀ {l₁:List α} {l₂:List β},Paired F l₁ l₂ → (∀ a b,F a b → G a b) → Paired G l₁ l₂
 | _,_,.nil,_=>.nil
 | _,_,.cons r t,f=>.cons (f _ _ r) (Paired.mapP t f)
theorem ObjOk.stay (x:ObjOk P w H h a o) (k:∀ b u,(b=a ∨ H b=some (.own a)) → h.get? b=some u → h'.get? b=some u)
  (ho:∀ b,H b=some (.own a) → H' b=some (.own a)) (ht:∀ b xs,H b=some (.tup xs) → H' b=some (.tup xs)):ObjOk P w H' h' a o:=by
 induction o with
 | lst xs=>obtain ⟨z,its,n,r,e⟩:=x; exact ⟨z,its,n,r,k _ _ (.inl rfl) e⟩
 | tup xs=>obtain ⟨z,its,r,ob,e,c⟩:=x; exact ⟨z,its,r,ob,k _ _ (.inl rfl) e,c⟩
 | dK kvs=>obtain ⟨z,y,vs,r,ob,es,ep,e,c⟩:=x; exact ⟨z,y,vs,r,ob,es,ep,k _ _ (.inl rfl) e,c⟩
 | dT kvs =>
   obtain ⟨z,y,xs,r,ob,es,ep,e,c⟩:=x
   exact ⟨z,y,xs,Paired.mapP r fun p q z=>⟨z.1,ht _ _ z.2.1,z.2.2⟩,ob,es,ep,k _ _ (.inl rfl) e,c⟩
 | set S n=>obtain ⟨ob,es,ep,t,e,c⟩:=x; exact ⟨ob,es,ep,t,k _ _ (.inl rfl) e,c⟩
 | ins C dx fs =>
   obtain ⟨d,z,ne,e,mA,⟨od,es,ep,e2,c⟩,r⟩:=x
   exact ⟨ho _ d,z,ne,k _ _ (.inl rfl) e,mA,⟨od,es,ep,k _ _ (.inr d) e2,c⟩,r⟩
 | own y=>obtain ⟨ob,e⟩:=x; exact ⟨ob,k _ _ (.inl rfl) e⟩
 | xd fs=>obtain ⟨mA,⟨od,es,ep,e,c⟩,r⟩:=x; exact ⟨mA,⟨od,es,ep,k _ _ (.inl rfl) e,c⟩,r⟩
 | rng lo hi=>obtain ⟨t,u,v,e⟩:=x; exact ⟨t,u,v,k _ _ (.inl rfl) e⟩
 | frz ob u ih=>obtain ⟨e,q⟩:=x; exact ⟨k _ _ (.inl rfl) e,ih q⟩
 | tbl ps =>
   have e:h.get? a=some { cls:=.none,data:=.fields ps }:=x
   show h'.get? a=some { cls:=.none,data:=.fields ps }
   exact k a _ (.inl rfl) e
 | met f y =>
   have e:h.get? a=some (PySem.W.methodObj (.ref f) (.ref y)):=x
   show h'.get? a=some (PySem.W.methodObj (.ref f) (.ref y))
   exact k a _ (.inl rfl) e
 | ext φ=>obtain ⟨p,⟨o,e⟩,st⟩:=x; exact ⟨st _ _ p fun o q=>k _ _ (.inl rfl) q,⟨o,k _ _ (.inl rfl) e⟩,st⟩
theorem HOk.lt (x:HOk P w H h) (e:H a=some o):a < h.objs.size:=(x a o e).lt
theorem HOk.fresh (x:HOk P w H h) (e:h.objs.size ≤ a):H a=none:=by
 cases q:H a with
 | none=>rfl
 | some u=>exact absurd (Nat.lt_of_lt_of_le (x.lt q) e) (Nat.lt_irrefl _)
theorem HOk.kept (x:HOk P w H h) (k:∀ b u,h.get? b=some u → h'.get? b=some u):HOk P w H h':=fun a o e =>
 (x a o e).stay (fun b u _ q=>k b u q) (fun _ q=>q) fun _ _ q=>q
theorem HOk.laid (x:HOk P w H h) (k:∀ b u,h.get? b=some u → h'.get? b=some u) (hp:h.objs.size ≤ a) (new:ObjOk P w (upd H a o) h' a o):HOk P w (upd H a o) h':=fun b u e=>by
 have hn:=x.fresh hp
 by_cases hb:b=a
 ·subst hb; rw [upd_same] at e; cases e; exact new
 ·rw [upd_ne hb] at e
  exact (x b u e).stay (fun c v _ q=>k c v q) (fun c q=>by rw [upd_ne (ne_of_none q hn)]; exact q) fun c xs q=>by rw [upd_ne (ne_of_none q hn)]; exact q
end
def Rd (H:Hp) (a:Addr) (u:HO):Prop:=H a=some u ∨ ∃ o,H a=some (.frz o u)
theorem Rd.ok {P:Program} {w:World} {H:Hp} {h:Heap} {a:Addr} {u:HO} (r:Rd H a u) (x:HOk P w H h):ObjOk P w H h a u:=by
 rcases r with r | ⟨o,r⟩
 ·exact x a u r
 ·obtain ⟨_,q⟩:=x a _ r
  exact q
def Mut:Option HO → Prop
 | some (.lst _)=>True
 | some (.dK _)=>True
 | some (.dT _)=>True
 | some (.set _ _)=>True
 | some (.ins _ _ _)=>True
 | some (.ext _)=>True
 | _=>False
section
variable {P:Program} {w:World} {H:Hp} {h h':Heap} {x e:Addr} {o':HO}
theorem HOk.write (ok:HOk P w H h) (mu:Mut (H x)) (he:e=x ∨ H e=some (.own x)) (k:∀ b u,b ≠ e → h.get? b=some u → h'.get? b=some u) (heo:∃ u,h'.get? e=some u)
  (new:ObjOk P w (upd H x o') h' x o'):HOk P w (upd H x o') h':=fun b u q=>by
 have nown:∀ c y,H c=some (.own y) → c ≠ x:=fun c y r z=>by subst z; rw [r] at mu; exact mu
 have ntup:∀ c xs,H c=some (.tup xs) → c ≠ x:=fun c xs r z=>by subst z; rw [r] at mu; exact mu
 by_cases hb:b=x
 ·subst hb; rw [upd_same] at q; cases q; exact new
 ·rw [upd_ne hb] at q
  by_cases hbe:b=e
  ·have q':H b=some (.own x):=by
    rcases he with z | z
    ·exact absurd (hbe.trans z) hb
    ·rw [hbe]; exact z
   rw [q] at q'; cases q'
   obtain ⟨v,hv⟩:=heo
   exact ⟨v,by rw [hbe]; exact hv⟩
  ·refine (ok b u q).stay (fun c v hc r=>k c v ?_ r) (fun c r=>by rw [upd_ne (nown c b r)]; exact r) fun c xs r=>by rw [upd_ne (ntup c xs r)]; exact r
   rcases hc with rfl | hc
   ·exact hbe
   ·rintro rfl
    rcases he with z | z
    ·exact nown c b hc z
    ·rw [hc] at z; cases z; exact hb rfl
end
structure Un (fs ex:List Addr) (H H':Hp) (h h':Heap):Prop where
 keep:∀ b o,h.get? b=some o → H b=none → b ∉ fs → b ∉ ex → h'.get? b=some o
 slot:∀ b o,h.get? b=some o → H b=none → b ∈ fs → b ∉ ex → ∃ sl,h'.get? b=some { o with slots:=sl }
 free:∀ b o,h.get? b=some o → H b=none → b ∉ ex → H' b=none
 there:∀ b o,h.get? b=some o → b ∉ ex → ∃ o',h'.get? b=some o'
 tups:∀ b xs,H b=some (.tup xs) → H' b=some (.tup xs)
 frzs:∀ b o u,H b=some (.frz o u) → H' b=some (.frz o u)
 tbls:∀ b ps,H b=some (.tbl ps) → ∃ more,H' b=some (.tbl (ps ++ more))
section
variable {fs fs' ex ex':List Addr} {H H1 H2:Hp} {h h1 h2 h':Heap} {a x e:Addr} {o:HO}
theorem Un.any (u:Un fs ex H H1 h h1) {b:Addr} {ob:Obj} (q:h.get? b=some ob) (n:H b=none) (hx:b ∉ ex):∃ sl,h1.get? b=some { ob with slots:=sl }:=by
 by_cases hb:b ∈ fs
 ·exact u.slot b ob q n hb hx
 ·exact ⟨ob.slots,u.keep b ob q n hb hx⟩
theorem Un.kept (k:∀ b u,h.get? b=some u → h'.get? b=some u):Un fs ex H H h h' :=
 ⟨fun b ob q _ _ _=>k b ob q,fun b ob q _ _ _=>⟨ob.slots,k b ob q⟩,fun _ _ _ n _=>n,fun b ob q _=>⟨ob,k b ob q⟩,fun _ _ q=>q,fun _ _ _ q=>q,fun _ ps q=>⟨#[],by rw [q]; simp⟩⟩
theorem Un.refl:Un fs ex H H h h:=Un.kept fun _ _ q=>q
theorem Un.laid (k:∀ b u,h.get? b=some u → h'.get? b=some u) (hp:h.objs.size ≤ a) (hn:H a=none):Un fs ex H (upd H a o) h h' where
 keep:=fun b u q _ _ _=>k b u q
 slot:=fun b u q _ _ _=>⟨u.slots,k b u q⟩
 free:=fun b u q n _=>by rw [upd_ne (Nat.ne_of_lt (Nat.lt_of_lt_of_le (Heap.lt_size q) hp))]; exact n
 there:=fun b u q _=>⟨u,k b u q⟩
 tups:=fun b xs q=>by rw [upd_ne (ne_of_none q hn)]; exact q
 frzs:=fun b u xs q=>by rw [upd_ne (ne_of_none q hn)]; exact q
 tbls:=fun b ps q=>⟨#[],by rw [upd_ne (ne_of_none q hn),q]; simp⟩
theorem Un.write (mu:Mut (H x)) (he:e=x ∨ H e=some (.own x)) (k:∀ b u,b ≠ e → h.get? b=some u → h'.get? b=some u) (heo:∃ u,h'.get? e=some u):Un fs ex H (upd H x o) h h':=by
 have hx:∀ b,H b=none → b ≠ x:=fun b n z=>by subst z; rw [n] at mu; exact mu
 have hb:∀ b,H b=none → b ≠ e:=fun b n z=>by
  subst z
  rcases he with r | r
  ·exact hx b n r
  ·rw [n] at r; cases r
 have hm:∀ b u,H b=some u → ¬ Mut (some u) → b ≠ x:=fun b u q nm z=>by subst z; rw [q] at mu; exact nm mu
 refine ⟨fun b u q n _ _=>k b u (hb b n) q,fun b u q n _ _=>⟨u.slots,k b u (hb b n) q⟩,fun b u q n _=>by rw [upd_ne (hx b n)]; exact n,fun b u q _=>?_,
  fun b xs q=>by rw [upd_ne (hm b _ q fun z=>z)]; exact q,fun b u xs q=>by rw [upd_ne (hm b _ q fun z=>z)]; exact q,fun b ps q=>⟨#[],by rw [upd_ne (hm b _ q fun z=>z),q]; simp⟩⟩
 by_cases hbe:b=e
 ·subst hbe; exact heo
 ·exact ⟨u,k b u hbe q⟩
end
def trk (h:Heap) (H:Hp):List Addr:=(List.range h.objs.size).filter fun a=>(H a).isSome
def hidT (h:Heap) (H:Hp):Heap:=PySem.W.hideAll h (trk h H)
theorem hidT_size (h:Heap) (H:Hp):(hidT h H).objs.size=h.objs.size:=PySem.W.hideAll_size _ _
theorem hidT_get {h:Heap} {H:Hp} {b:Addr} {o:Obj} (e:h.get? b=some o) (n:H b=none):(hidT h H).get? b=some o :=
 PySem.W.hideAll_get _ e fun hm=>by
  have q:(H b).isSome=true:=(List.mem_filter.mp hm).2
  rw [n] at q; simp at q
theorem of_hidT {h:Heap} {H:Hp} {b:Addr} {o:Obj} (e:(hidT h H).get? b=some o):h.get? b=some o ∧ H b=none:=by
 have e':h.get? b=some o:=PySem.W.of_hideAll (trk h H) e
 refine ⟨e',?_⟩
 cases q:H b with
 | none=>rfl
 | some x =>
   have hm:b ∈ trk h H:=List.mem_filter.mpr ⟨List.mem_range.mpr (Heap.lt_size e'),by simp [q]⟩
   have z:(hidT h H).get? b=none:=PySem.W.hideAll_none (trk h H) hm
   rw [z] at e; cases e
def allNews (g h:Heap) (L:Addr):List (Addr × Obj):=(List.range h.objs.size).filterMap fun a=>if a=L ∨ (g.get? a).isSome=true then none else (h.get? a).map fun o=>(a,o)
def rest (g h:Heap) (L d:Addr):List (Addr × Obj):=(allNews g h L).filter fun p=>decide (p.1 ≠ d)
end L2
namespace L2
open PySem PySem.Spec PyProof.Rows
structure Mod (K:PySem.W.Frag) (mg:Str → Option Value) (base:Heap):Prop where
 kin:K.In base
 glob:base.Ns mainGlobals mg
 blt:∃ mb,base.Ns builtinsNs mb ∧ ∀ x:Str,x ≠ "__name__" → mb x=bootBuiltins x
 nolimit:base.NoLimit
structure Cx where
 prog:Program
 w:World
 K:PySem.W.Frag
 mg:Str → Option Value
 base:Heap
 A:Around
 N:List Str
 s₀:Shared
 H₀:Hp
 env:Env
 outer:List Env
 stack:List Env
 ex:List Addr
 fn:Str → Bool
 calm:Bool
 pn:List (Addr × Obj)
 xe:Value → Shared → Prop
def frs (l:List Env):List Addr:=l.filterMap (·.frame)
abbrev Cx.fs (X:Cx):List Addr:=frs X.outer
def Vis (sc:Scope) (x:Str):Prop:=sc.names.lookup x=some .local ∨ sc.names.lookup x=some .cell ∨ sc.names.lookup x=some .free
def Loc (sc:Scope) (x:Str):Prop:=sc.names.lookup x=some .local ∨ sc.names.lookup x=some .cell
def Look (env:Env) (h:Heap) (m:Str → Option Value) (x:Str) (u:Value):Prop :=
 (env.kindOf x=some .local ∧ m x=some u) ∨ ((env.kindOf x=some .cell ∨ env.kindOf x=some .free) ∧ ∃ c,env.cells.lookup x=some c ∧ h.IsCell c (some u))
structure Cx.Ok (X:Cx):Prop where
 mod:Mod X.K X.mg X.base
 kind:X.env.scope.kind=.function
 glob:X.env.globals=mainGlobals
 blt:X.env.builtins=builtinsNs
 above:X.s₀.heap.objs.size ≤ X.env.locals
 inj:∀ x y c,X.env.cells.lookup x=some c → X.env.cells.lookup y=some c → x=y
 has:∀ x,(X.env.kindOf x=some .cell ∨ X.env.kindOf x=some .free) → ∃ c,X.env.cells.lookup x=some c
 cab:∀ x c,X.fn x=true → X.env.cells.lookup x=some c → X.s₀.heap.objs.size ≤ c
 hd:X.calm=true → X.A.handled=none
 frames:X.A.frames=some X.stack
 stk:X.stack=X.outer ∨ (X.stack=X.env :: X.outer ∧ X.env.frame=some X.env.locals)
 exf:∀ b ∈ X.ex,b ≠ X.env.locals ∧ ∀ x c,X.env.cells.lookup x=some c → c ≠ b
 bs:∀ b o,X.base.get? b=some o → X.s₀.heap.get? b=some o ∧ X.H₀ b=none
 bsz:X.base.objs.size ≤ X.s₀.heap.objs.size
 noex:∀ b o,X.base.get? b=some o → b ∉ X.ex
 exfs:∀ b ∈ X.ex,b ∉ X.fs
 funs:X.s₀.heap.FunFrames X.base X.outer
 frf:∀ b ∈ X.fs,X.H₀ b=none
structure Inv (X:Cx) (pins:List (Addr × Obj)) (σ:List (Option V)) (H:Hp) (s:Shared):Prop where
 ok:X.Ok
 os:s.os=X.s₀.os
 bare:AllBare s.gens
 base:Un X.fs X.ex X.H₀ H X.s₀.heap s.heap
 loc:∃ m,s.heap.Ns X.env.locals m ∧ ∀ (i:Nat) (x:Str) (v:V),X.N[i]?=some x → σ[i]?=some (some v) → Vis X.env.scope x → ∃ u,RelV v u ∧ Look X.env s.heap m x u
 cell:∀ x c,X.env.cells.lookup x=some c → ∃ v,s.heap.IsCell c v
 free:H X.env.locals=none
 freeC:∀ x c,X.env.cells.lookup x=some c → H c=none
 pin:∀ p ∈ X.pn ++ pins,s.heap.get? p.1=some p.2 ∧ H p.1=none ∧ p.1 ≠ X.env.locals ∧ p.1 ∉ X.fs ∧ ∀ v,p.2.data ≠ .cell v
 hok:HOk X.prog X.w H s.heap
 len:σ.length=X.N.length
section
variable {X:Cx} {pins:List (Addr × Obj)} {σ:List (Option V)} {H H':Hp} {s:Shared} {h':Heap}
theorem Cx.Ok.nofr (ok:X.Ok) {b:Addr} {o:Obj} (e:X.base.get? b=some o):b ∉ X.fs:=fun hb=>by
 have:=(ok.funs.mem hb).1
 rw [e] at this; cases this
theorem Inv.bs (I:Inv X pins σ H s):∀ b o,X.base.get? b=some o → s.heap.get? b=some o ∧ H b=none:=fun b o e =>
 ⟨I.base.keep b o (I.ok.bs b o e).1 (I.ok.bs b o e).2 (I.ok.nofr e) (I.ok.noex b o e),I.base.free b o (I.ok.bs b o e).1 (I.ok.bs b o e).2 (I.ok.noex b o e)⟩
theorem Inv.bk (I:Inv X pins σ H s):∀ b o,X.base.get? b=some o → s.heap.get? b=some o:=fun b o e=>(I.bs b o e).1
theorem Inv.mod (I:Inv X pins σ H s):Mod X.K X.mg X.base:=I.ok.mod
theorem Inv.kIn (I:Inv X pins σ H s):X.K.In s.heap:=I.ok.mod.kin.keeps I.bk
theorem Inv.lt (I:Inv X pins σ H s):X.env.locals < s.heap.objs.size:=let ⟨_,hn,_⟩:=I.loc; hn.lt
theorem Inv.sz (I:Inv X pins σ H s):X.s₀.heap.objs.size ≤ s.heap.objs.size:=Nat.le_trans I.ok.above (Nat.le_of_lt I.lt)
theorem Inv.nofs (I:Inv X pins σ H s) {a:Addr} (h:s.heap.objs.size ≤ a):a ∉ X.fs:=fun hb=>by
 obtain ⟨_,o,ho,_⟩:=I.ok.funs.mem hb
 exact absurd (Nat.lt_of_lt_of_le (Heap.lt_size ho) (Nat.le_trans I.sz h)) (Nat.lt_irrefl _)
theorem Inv.cne (I:Inv X pins σ H s):∀ x c,X.env.cells.lookup x=some c → c ≠ X.env.locals:=fun x c e z=>by
 obtain ⟨v,o,ho,hd⟩:=I.cell x c e
 obtain ⟨m,⟨o',es,ep,ho',hd',_⟩,_⟩:=I.loc
 rw [z,ho'] at ho; cases ho; rw [hd'] at hd; cases hd
theorem Inv.funs (I:Inv X pins σ H s):s.heap.FunFrames X.base X.outer:=by
 have all:∀ (l:List Env),(∀ b ∈ frs l,b ∈ X.fs) → X.s₀.heap.FunFrames X.base l → s.heap.FunFrames X.base l:=by
  intro l
  induction l with
  | nil=>intro _ _; trivial
  | cons env r ih =>
    intro hs hl
    obtain ⟨hk,⟨L,o,hf,hn,ho,hd⟩,hr⟩:=hl
    have hL:L ∈ X.fs:=hs L (by unfold frs; rw [List.filterMap_cons,hf]; exact List.mem_cons_self)
    obtain ⟨sl,e⟩:=I.base.slot L o ho (I.ok.frf L hL) hL fun z=>I.ok.exfs L z hL
    exact ⟨hk,⟨L,_,hf,hn,e,hd⟩,ih (fun b hb=>hs b (by unfold frs; rw [List.filterMap_cons,hf]; exact List.mem_cons_of_mem _ hb)) hr⟩
 exact all X.outer (fun _ hb=>hb) I.ok.funs
theorem Inv.stack (I:Inv X pins σ H s):s.heap.FunFrames X.base X.stack:=by
 rcases I.ok.stk with e | ⟨e,hf⟩
 ·rw [e]; exact I.funs
 ·rw [e]
  obtain ⟨m,hn,_⟩:=I.loc
  refine .cons (by rw [I.ok.kind]; decide) hf hn ?_ I.funs
  exact Heap.get?_none_of_le (Nat.le_trans I.ok.bsz I.ok.above)
theorem Inv.stkSub (I:Inv X pins σ H s):∀ b ∈ frs X.stack,b ∈ X.env.locals :: X.fs:=fun b hb=>by
 rcases I.ok.stk with e | ⟨e,hf⟩
 ·rw [e] at hb; exact List.mem_cons_of_mem _ hb
 ·rw [e] at hb
  unfold frs at hb
  rw [List.filterMap_cons,hf] at hb
  exact hb
theorem Inv.stkFree (I:Inv X pins σ H s):∀ b ∈ frs X.stack,H b=none:=fun b hb=>by
 rcases List.mem_cons.mp (I.stkSub b hb) with e | hb
 ·rw [e]; exact I.free
 ·obtain ⟨_,o,ho,_⟩:=I.ok.funs.mem hb
  exact I.base.free b o ho (I.ok.frf b hb) fun z=>I.ok.exfs b z hb
theorem Inv.step {g':Array GenState} {t':Nat} {d':Drawn} {ch:List Addr} (I:Inv X pins σ H s)
  (hch:∀ b ∈ ch,(b ∈ X.ex ∨ X.s₀.heap.objs.size ≤ b) ∧ b ≠ X.env.locals ∧ (∀ x c,X.env.cells.lookup x=some c → c ≠ b) ∧ ∀ p ∈ X.pn ++ pins,p.1 ≠ b)
  (keep:∀ b o,b ≠ X.env.locals → b ∉ X.fs → b ∉ ch → s.heap.get? b=some o → H b=none → h'.get? b=some o)
  (slot:∀ b o,b ≠ X.env.locals → b ∈ X.fs → b ∉ ch → s.heap.get? b=some o → H b=none → ∃ sl,h'.get? b=some { o with slots:=sl }) (free:∀ b o,b ∉ ch → s.heap.get? b=some o → H b=none → H' b=none)
  (there:∀ b o,b ∉ ch → s.heap.get? b=some o → ∃ o',h'.get? b=some o')
  (tups:∀ b xs,H b=some (.tup xs) → H' b=some (.tup xs)) (frzs:∀ b o u,H b=some (.frz o u) → H' b=some (.frz o u)) (tbls:∀ b ps,H b=some (.tbl ps) → ∃ more,H' b=some (.tbl (ps ++ more)))
  (ns:∀ m,s.heap.Ns X.env.locals m → h'.Ns X.env.locals m) (hok:HOk X.prog X.w H' h') (hg:AllBare g') :
  Inv X pins σ H' { s with heap:=h',gens:=g',drawn:=d',toks:=t' }:=by
 have neL:∀ b o,X.s₀.heap.get? b=some o → b ≠ X.env.locals:=fun b o e=>Nat.ne_of_lt (Nat.lt_of_lt_of_le (Heap.lt_size e) I.ok.above)
 have neC:∀ b o,X.s₀.heap.get? b=some o → b ∉ X.ex → b ∉ ch:=fun b o e hx hb=>by
  rcases (hch b hb).1 with z | z
  ·exact hx z
  ·exact absurd (Nat.lt_of_lt_of_le (Heap.lt_size e) z) (Nat.lt_irrefl _)
 have cellK:∀ x c,X.env.cells.lookup x=some c → ∀ v,s.heap.IsCell c v → h'.IsCell c v:=fun x c e v ⟨o,ho,hd⟩=>by
  have nch:c ∉ ch:=fun z=>(hch c z).2.2.1 x c e rfl
  by_cases hc:c ∈ X.fs
  ·obtain ⟨sl,q⟩:=slot c o (I.cne x c e) hc nch ho (I.freeC x c e)
   exact ⟨_,q,hd⟩
  ·exact ⟨o,keep c o (I.cne x c e) hc nch ho (I.freeC x c e),hd⟩
 refine ⟨I.ok,I.os,hg,⟨fun b o e n hb hx=>?_,fun b o e n hb hx=>?_,fun b o e n hx=>?_,fun b o e hx=>?_,fun b xs e=>tups b xs (I.base.tups b xs e),fun b o xs e=>frzs b o xs (I.base.frzs b o xs e),fun b ps e=>?_⟩,?_,fun x c e=>?_,?_,fun x c e=>?_,fun p hp=>?_,hok,I.len⟩
 ·exact keep b o (neL b o e) hb (neC b o e hx) (I.base.keep b o e n hb hx) (I.base.free b o e n hx)
 ·obtain ⟨sl,e1⟩:=I.base.slot b o e n hb hx
  obtain ⟨sl',e2⟩:=slot b _ (neL b o e) hb (neC b o e hx) e1 (I.base.free b o e n hx)
  exact ⟨sl',e2⟩
 ·obtain ⟨o',e1⟩:=I.base.there b o e hx
  exact free b o' (neC b o e hx) e1 (I.base.free b o e n hx)
 ·obtain ⟨o',e1⟩:=I.base.there b o e hx
  exact there b o' (neC b o e hx) e1
 ·obtain ⟨m1,e1⟩:=I.base.tbls b ps e
  obtain ⟨m2,e2⟩:=tbls b _ e1
  exact ⟨m1 ++ m2,by rw [e2,Array.append_assoc]⟩
 ·obtain ⟨m,hn,hl⟩:=I.loc
  refine ⟨m,ns m hn,fun i x v e1 e2 e3=>?_⟩
  obtain ⟨u,r,l⟩:=hl i x v e1 e2 e3
  refine ⟨u,r,?_⟩
  rcases l with l | ⟨k,c,e,z⟩
  ·exact .inl l
  ·exact .inr ⟨k,c,e,cellK x c e _ z⟩
 ·obtain ⟨v,z⟩:=I.cell x c e
  exact ⟨v,cellK x c e v z⟩
 ·obtain ⟨m,⟨o,_,_,ho,_⟩,_⟩:=I.loc
  exact free _ o (fun z=>(hch _ z).2.1 rfl) ho I.free
 ·obtain ⟨v,o,ho,hd⟩:=I.cell x c e
  exact free c o (fun z=>(hch c z).2.2.1 x c e rfl) ho (I.freeC x c e)
 ·obtain ⟨e,n,ne,nf,d⟩:=I.pin p hp
  have nch:p.1 ∉ ch:=fun z=>(hch p.1 z).2.2.2 p hp rfl
  exact ⟨keep p.1 p.2 ne nf nch e n,free p.1 p.2 nch e n,ne,nf,d⟩
theorem Inv.un {t':Nat} (I:Inv X pins σ H s) (u:Un X.fs [] H H' s.heap h') (hok:HOk X.prog X.w H' h'):Inv X pins σ H' { s with heap:=h',toks:=t' }:=by
 obtain ⟨m,⟨o,es,ep,ho,r⟩,_⟩:=id I.loc
 obtain ⟨sl,hL⟩:=u.any ho I.free (by simp)
 exact I.step (g':=s.gens) (d':=s.drawn) (ch:=[]) (fun _ z=>nomatch z) (fun b o _ hb _ e n=>u.keep b o e n hb (by simp)) (fun b o _ hb _ e n=>u.slot b o e n hb (by simp)) (fun b o _ e n=>u.free b o e n (by simp)) (fun b o _ e=>u.there b o e (by simp)) u.tups u.frzs u.tbls (fun m' hm=>by
  obtain ⟨o',es',ep',ho',r'⟩:=hm
  rw [ho] at ho'; cases ho'
  exact ⟨_,es',ep',hL,r'⟩) hok I.bare
theorem Inv.call {g':Array GenState} {t':Nat} {d':Drawn} {ch:List Addr} (I:Inv X pins σ H s) (u:Un (frs X.stack) ch H H' s.heap h') (hok:HOk X.prog X.w H' h') (hg:AllBare g')
  (hch:∀ b ∈ ch,(b ∈ X.ex ∨ X.s₀.heap.objs.size ≤ b) ∧ b ≠ X.env.locals ∧ (∀ x c,X.env.cells.lookup x=some c → c ≠ b) ∧ ∀ p ∈ X.pn ++ pins,p.1 ≠ b) :
  Inv X pins σ H' { s with heap:=h',gens:=g',drawn:=d',toks:=t' }:=by
 obtain ⟨m,⟨o,es,ep,ho,r⟩,_⟩:=id I.loc
 obtain ⟨sl,hL⟩:=u.any ho I.free fun z=>(hch _ z).2.1 rfl
 exact I.step (ch:=ch) hch (fun b o hL hb hc e n=>u.keep b o e n (fun z=>(List.mem_cons.mp (I.stkSub b z)).elim hL hb) hc) (fun b o _ _ hc e n=>u.any e n hc) (fun b o hc e n=>u.free b o e n hc) (fun b o hc e=>u.there b o e hc) u.tups u.frzs u.tbls (fun m' hm=>by
  obtain ⟨o',es',ep',ho',r'⟩:=hm
  rw [ho] at ho'; cases ho'
  exact ⟨_,es',ep',hL,r'⟩) hok hg
theorem Inv.turned {t':Nat} {it:Addr} (I:Inv X pins σ H s) (k:∀ b o,b ≠ it → s.heap.get? b=some o → h'.get? b=some o) (hn:H it=none) (hL:it ≠ X.env.locals)
  (h1:it ∈ X.ex ∨ X.s₀.heap.objs.size ≤ it) (h2:∀ x c,X.env.cells.lookup x=some c → c ≠ it) (h3:∀ p ∈ X.pn ++ pins,p.1 ≠ it):Inv X pins σ H { s with heap:=h',toks:=t' }:=by
 have nit:∀ b u,H b=some u → b ≠ it:=fun b u e z=>by rw [z,hn] at e; cases e
 refine I.step (g':=s.gens) (d':=s.drawn) (ch:=[it]) (fun b hb=>?_) (fun b o _ _ hc e _=>k b o (fun z=>hc (by simp [z])) e) (fun b o _ _ hc e _=>⟨o.slots,k b o (fun z=>hc (by simp [z])) e⟩) (fun _ _ _ _ n=>n)
  (fun b o hc e=>⟨o,k b o (fun z=>hc (by simp [z])) e⟩) (fun _ _ e=>e) (fun _ _ _ e=>e) (fun b ps e=>⟨#[],by rw [e]; simp⟩) (fun m hm=>?_) (fun b u e=>?_) I.bare
 ·have e:b=it:=by simpa using hb
  subst e
  exact ⟨h1,hL,h2,h3⟩
 ·obtain ⟨o,es,ep,ho,r⟩:=hm
  exact ⟨o,es,ep,k _ o (Ne.symm hL) ho,r⟩
 ·refine (I.hok b u e).stay (fun c v hc q=>k c v ?_ q) (fun _ q=>q) fun _ _ q=>q
  rcases hc with z | z
  ·rw [z]; exact nit b u e
  ·exact nit c _ z
theorem Inv.tok (I:Inv X pins σ H s) (t:Nat):Inv X pins σ H { s with toks:=t }:=I.un (h':=s.heap) (t':=t) Un.refl I.hok
theorem Inv.kept {t':Nat} (I:Inv X pins σ H s) (k:∀ b u,s.heap.get? b=some u → h'.get? b=some u):Inv X pins σ H { s with heap:=h',toks:=t' }:=I.un (Un.kept k) (I.hok.kept k)
theorem Inv.laid {a:Addr} {o:HO} {t':Nat} (I:Inv X pins σ H s) (k:∀ b u,s.heap.get? b=some u → h'.get? b=some u) (hp:s.heap.objs.size ≤ a) (new:ObjOk X.prog X.w (upd H a o) h' a o) :
  Inv X pins σ (upd H a o) { s with heap:=h',toks:=t' }:=I.un (Un.laid k hp (I.hok.fresh hp)) (I.hok.laid k hp new)
theorem Inv.write {x e:Addr} {o:HO} {t':Nat} (I:Inv X pins σ H s) (mu:Mut (H x)) (he:e=x ∨ H e=some (.own x)) (k:∀ b u,b ≠ e → s.heap.get? b=some u → h'.get? b=some u) (heo:∃ u,h'.get? e=some u)
  (new:ObjOk X.prog X.w (upd H x o) h' x o):Inv X pins σ (upd H x o) { s with heap:=h',toks:=t' }:=I.un (Un.write mu he k heo) (I.hok.write mu he k heo new)
theorem Inv.weak {σ':List (Option V)} (I:Inv X pins σ H s) (hl:σ'.length=σ.length) (w:∀ (i:Nat) v,σ'[i]?=some (some v) → σ[i]?=some (some v)):Inv X pins σ' H s :=
 ⟨I.ok,I.os,I.bare,I.base,let ⟨m,hn,hl'⟩:=I.loc; ⟨m,hn,fun i x v e1 e2 e3=>hl' i x v e1 (w i v e2) e3⟩,I.cell,I.free,I.freeC,I.pin,I.hok,hl.trans I.len⟩
theorem Inv.pins_of {pins':List (Addr × Obj)} (I:Inv X pins σ H s) (h:∀ p ∈ pins',s.heap.get? p.1=some p.2 ∧ H p.1=none ∧ p.1 ≠ X.env.locals ∧ p.1 ∉ X.fs ∧ ∀ v,p.2.data ≠ .cell v):Inv X pins' σ H s :=
 ⟨I.ok,I.os,I.bare,I.base,I.loc,I.cell,I.free,I.freeC,fun p hp=>(List.mem_append.mp hp).elim (fun z=>I.pin p (List.mem_append_left _ z)) (h p),I.hok,I.len⟩
theorem nodup_ix {N:List Str} (hN:N.Nodup) {i j:Nat} {x:Str} (a:N[i]?=some x) (b:N[j]?=some x):i=j:=by
 obtain ⟨h1,e1⟩:=List.getElem?_eq_some_iff.mp a
 obtain ⟨h2,e2⟩:=List.getElem?_eq_some_iff.mp b
 exact (List.getElem_inj hN).mp (e1.trans e2.symm)
theorem store_ok2 {M:Model} {A:Around} {E:Value → Shared → Prop} {i:Nat} {x:Str} {v:V} {u:Value} {Q:Unit → Shared → Prop} (I:Inv X pins σ H s) (hN:X.N.Nodup) (hi:X.N[i]?=some x) (hx:Loc X.env.scope x) (r:RelV v u)
  (h:∀ s',Inv X pins (σ.set i (some v)) H s' → (∃ a,Heap.SameBut a s.heap s'.heap ∧ (a=X.env.locals ∨ X.env.cells.lookup x=some a)) → Q () s') (hf:X.fn x=true ∨ X.env.scope.names.lookup x=some .local:=by first | exact .inl rfl | exact .inr rfl | assumption):wpAny M A (storeName X.env x u) Q E s:=by
 obtain ⟨m,hn,hl⟩:=id I.loc
 have hcls:(X.env.scope.kind == .class || (X.env.scope.kind == .module && X.env.locals != X.env.globals))=false:=by rw [I.ok.kind]; rfl
 have hiσ:i < σ.length:=by rw [I.len]; exact (List.getElem?_eq_some_iff.mp hi).1
 have cne:=I.cne
 have tracked:∀ {a:Addr} {h':Heap},(∃ o,s.heap.get? a=some o ∧ H a=none) → Heap.SameBut a s.heap h' → HOk X.prog X.w H h':=fun {a h'} ha hs b ob e=>by
  obtain ⟨_,_,hfree⟩:=ha
  refine (I.hok b ob e).stay (fun c w' hc q=>(hs.2 c ?_).trans q) (fun _ q=>q) fun _ _ q=>q
  rintro rfl
  rcases hc with rfl | hc
  ·rw [hfree] at e; cases e
  ·rw [hfree] at hc; cases hc
 rcases hx with hk | hk
 ·refine wpAny_storeName_local hk hn (fun h' hn' hs=>?_) hcls
  obtain ⟨oL,_,_,hoL,_⟩:=id hn
  refine h _ ⟨I.ok,I.os,I.bare,⟨fun b o e n hb hx=>?_,fun b o e n hb hx=>?_,I.base.free,fun b o e hx=>?_,I.base.tups,I.base.frzs,I.base.tbls⟩,⟨_,hn',fun j y v' e1 e2 e3=>?_⟩,fun y c e=>?_,I.free,I.freeC,fun p hp=>?_,tracked ⟨oL,hoL,I.free⟩ hs,by simpa using I.len⟩ ⟨_,hs,.inl rfl⟩
  ·exact (hs.2 b (Nat.ne_of_lt (Nat.lt_of_lt_of_le (Heap.lt_size e) I.ok.above))).trans (I.base.keep b o e n hb hx)
  ·obtain ⟨sl,e1⟩:=I.base.slot b o e n hb hx
   exact ⟨sl,(hs.2 b (Nat.ne_of_lt (Nat.lt_of_lt_of_le (Heap.lt_size e) I.ok.above))).trans e1⟩
  ·obtain ⟨o',e1⟩:=I.base.there b o e hx
   exact ⟨o',(hs.2 b (Nat.ne_of_lt (Nat.lt_of_lt_of_le (Heap.lt_size e) I.ok.above))).trans e1⟩
  ·by_cases hj:j=i
   ·subst hj
    rw [hi] at e1; cases e1
    rw [List.getElem?_set_self hiσ] at e2
    cases e2
    exact ⟨u,r,.inl ⟨hk,by simp⟩⟩
   ·rw [List.getElem?_set_ne (Ne.symm hj)] at e2
    obtain ⟨u',r',q⟩:=hl j y v' e1 e2 e3
    refine ⟨u',r',?_⟩
    rcases q with ⟨k,e⟩ | ⟨k,c,e,z⟩
    ·refine .inl ⟨k,?_⟩
     have:y ≠ x:=fun e=>hj (nodup_ix hN e1 (e ▸ hi))
     simp [this,e]
    ·exact .inr ⟨k,c,e,z.sameBut hs (cne y c e)⟩
  ·obtain ⟨w',z⟩:=I.cell y c e
   exact ⟨w',z.sameBut hs (cne y c e)⟩
  ·obtain ⟨e,n,ne,nf,d⟩:=I.pin p hp
   exact ⟨(hs.2 p.1 ne).trans e,n,ne,nf,d⟩
 ·have hfn:X.fn x=true:=by
   rcases hf with z | z
   ·exact z
   ·rw [z] at hk; cases hk
  obtain ⟨c,hc⟩:=I.ok.has x (.inl hk)
  obtain ⟨w',z⟩:=I.cell x c hc
  refine wpAny_storeName_cell I.ok.kind hk hc z (fun h' hc' hs=>?_)
  obtain ⟨oc,hoc,hocd⟩:=id z
  refine h { s with heap:=h' } ⟨I.ok,I.os,I.bare,⟨fun b o e n hb hx=>?_,fun b o e n hb hx=>?_,I.base.free,fun b o e hx=>?_,I.base.tups,I.base.frzs,I.base.tbls⟩,⟨m,hn.sameBut hs (Ne.symm (cne x c hc)),fun j y v' e1 e2 e3=>?_⟩,fun y c' e=>?_,I.free,I.freeC,fun p hp=>?_,tracked ⟨oc,hoc,I.freeC x c hc⟩ hs,by simpa using I.len⟩ ⟨c,hs,.inr hc⟩
  ·exact (hs.2 b (Nat.ne_of_lt (Nat.lt_of_lt_of_le (Heap.lt_size e) (I.ok.cab x c hfn hc)))).trans (I.base.keep b o e n hb hx)
  ·obtain ⟨sl,e1⟩:=I.base.slot b o e n hb hx
   exact ⟨sl,(hs.2 b (Nat.ne_of_lt (Nat.lt_of_lt_of_le (Heap.lt_size e) (I.ok.cab x c hfn hc)))).trans e1⟩
  ·obtain ⟨o',e1⟩:=I.base.there b o e hx
   exact ⟨o',(hs.2 b (Nat.ne_of_lt (Nat.lt_of_lt_of_le (Heap.lt_size e) (I.ok.cab x c hfn hc)))).trans e1⟩
  ·by_cases hj:j=i
   ·subst hj
    rw [hi] at e1; cases e1
    rw [List.getElem?_set_self hiσ] at e2
    cases e2
    exact ⟨u,r,.inr ⟨.inl hk,c,hc,hc'⟩⟩
   ·rw [List.getElem?_set_ne (Ne.symm hj)] at e2
    obtain ⟨u',r',q⟩:=hl j y v' e1 e2 e3
    refine ⟨u',r',?_⟩
    rcases q with q | ⟨k,c',e,z'⟩
    ·exact .inl q
    ·refine .inr ⟨k,c',e,z'.sameBut hs ?_⟩
     rintro rfl
     exact hj (nodup_ix hN e1 (I.ok.inj _ _ _ e hc ▸ hi))
  ·by_cases hcc:c'=c
   ·subst hcc; exact ⟨_,hc'⟩
   ·obtain ⟨w2,z2⟩:=I.cell y c' e
    exact ⟨w2,z2.sameBut hs hcc⟩
  ·obtain ⟨e,n,ne,nf,d⟩:=I.pin p hp
   refine ⟨(hs.2 p.1 ?_).trans e,n,ne,nf,d⟩
   intro q
   rw [q,hoc] at e
   have q':oc=p.2:=Option.some.inj e
   exact d w' (by rw [← q']; exact hocd)
theorem store_ok {M:Model} {A:Around} {E:Value → Shared → Prop} {i:Nat} {x:Str} {v:V} {u:Value} {Q:Unit → Shared → Prop} (I:Inv X pins σ H s) (hN:X.N.Nodup) (hi:X.N[i]?=some x) (hx:Loc X.env.scope x) (r:RelV v u)
  (h:∀ s',Inv X pins (σ.set i (some v)) H s' → Q () s') (hf:X.fn x=true ∨ X.env.scope.names.lookup x=some .local:=by first | exact .inl rfl | exact .inr rfl | assumption):wpAny M A (storeName X.env x u) Q E s :=
 store_ok2 I hN hi hx r (fun s' I' _=>h s' I') hf
theorem Inv.call' {s':Shared} {ch:List Addr} (I:Inv X pins σ H s) (ho:s'.os=s.os) (u:Un (frs X.stack) ch H H' s.heap s'.heap) (hok:HOk X.prog X.w H' s'.heap) (hg:AllBare s'.gens)
  (hch:∀ b ∈ ch,(b ∈ X.ex ∨ X.s₀.heap.objs.size ≤ b) ∧ b ≠ X.env.locals ∧ (∀ x c,X.env.cells.lookup x=some c → c ≠ b) ∧ ∀ p ∈ X.pn ++ pins,p.1 ≠ b):Inv X pins σ H' s':=by
 obtain ⟨h',g',d',t',o'⟩:=s'
 have e:o'=s.os:=ho
 subst e
 exact I.call (g':=g') (t':=t') (d':=d') u hok hg hch
end
abbrev XK:=Value → Option Addr → Hp → Prop
abbrev St:=List (Option V)
abbrev VK:=V → Hp → Prop
abbrev TE:=St → Hp → VK → Prop
abbrev TT:=St → Hp → (Bool → Hp → Prop) → Prop
abbrev TA:=St → Hp → (List V → Hp → Prop) → Prop
structure Ends where
 nx:St → Hp → Prop
 rt:VK
 bk:St → Hp → Prop:=fun _ _=>False
 ct:St → Hp → Prop:=fun _ _=>False
abbrev TS:=Ends → St → Hp → Prop
def EP (X:Cx) (pins:List (Addr × Obj)) (σ:St) (Q:VK) (u:Value) (s':Shared):Prop:=∃ v H',Inv X pins σ H' s' ∧ RelV v u ∧ Q v H'
def TP (X:Cx) (pins:List (Addr × Obj)) (σ:St) (Q:Bool → Hp → Prop) (b:Bool) (s':Shared):Prop:=∃ H',Inv X pins σ H' s' ∧ Q b H'
def AP (X:Cx) (pins:List (Addr × Obj)) (σ:St) (Q:List V → Hp → Prop) (us:List Value) (s':Shared):Prop:=∃ vs H',Inv X pins σ H' s' ∧ Vals vs us ∧ Q vs H'
def SP (X:Cx) (pins:List (Addr × Obj)) (D:Ends) (f:Flow) (s':Shared):Prop :=
 match f with
 | .next=>∃ σ' H',Inv X pins σ' H' s' ∧ D.nx σ' H'
 | .brk=>∃ σ' H',Inv X pins σ' H' s' ∧ D.bk σ' H'
 | .cont=>∃ σ' H',Inv X pins σ' H' s' ∧ D.ct σ' H'
 | .ret u=>∃ v σ' H',Inv X pins σ' H' s' ∧ RelV v u ∧ D.rt v H'
def PE (X:Cx) (e:Expr) (t:TE):Prop :=
 ∀ (pins:List (Addr × Obj)) (s:Shared) (σ:St) (H:Hp) (Q:VK),Inv X pins σ H s → t σ H Q → wpAny (model X.prog X.w) X.A (eval e X.env) (EP X pins σ Q) X.xe s
def PT (X:Cx) (e:Expr) (t:TT):Prop :=
 ∀ (pins:List (Addr × Obj)) (s:Shared) (σ:St) (H:Hp) (Q:Bool → Hp → Prop),Inv X pins σ H s → t σ H Q → wpAny (model X.prog X.w) X.A (isTrue e X.env (eval e X.env)) (TP X pins σ Q) X.xe s
def PW (X:Cx) (e:Expr) (t:TT):Prop :=
 ∀ (whole:Sem Value) (pins:List (Addr × Obj)) (s:Shared) (σ:St) (H:Hp) (Q:Bool → Hp → Prop),Inv X pins σ H s → t σ H Q → wpAny (model X.prog X.w) X.A (isTrue e X.env whole) (TP X pins σ Q) X.xe s
theorem PW.pt {X:Cx} {e:Expr} {t:TT} (h:PW X e t):PT X e t:=h _
def PA (X:Cx) (es:List Expr) (t:TA):Prop :=
 ∀ (pos:Pos) (pins:List (Addr × Obj)) (s:Shared) (σ:St) (H:Hp) (Q:List V → Hp → Prop),Inv X pins σ H s → t σ H Q → wpAny (model X.prog X.w) X.A (spliced (backTo pos (starEach es X.env))) (AP X pins σ Q) X.xe s
def PS (X:Cx) (st:Stmt) (t:TS):Prop :=
 ∀ (pins:List (Addr × Obj)) (s:Shared) (σ:St) (H:Hp) (D:Ends),Inv X pins σ H s → t D σ H → wpAny (model X.prog X.w) X.A (exec st X.env) (SP X pins D) X.xe s
def PSs (X:Cx) (st:List Stmt) (t:TS):Prop :=
 ∀ (pins:List (Addr × Obj)) (s:Shared) (σ:St) (H:Hp) (D:Ends),Inv X pins σ H s → t D σ H → wpAny (model X.prog X.w) X.A (execs st X.env) (SP X pins D) X.xe s
theorem thn {α:Type} {t:Sem α} {Q Q':α → Shared → Prop} {M:Model} {A:Around} {E:Value → Shared → Prop} {s:Shared} (h:wpAny M A t Q E s) (hQ:∀ a s,Q a s → Q' a s):wpAny M A t Q' E s:=wpAny_mono h hQ fun _ _ x=>x
end L2
namespace L2
open PySem PySem.Spec PyProof.Rows
section
variable {X:Cx}
def tVar (i:Nat):TE:=fun σ H Q=>∃ v,σ[i]?=some (some v) ∧ Q v H
def tC (v:V):TE:=fun _ H Q=>Q v H
theorem pe_var {i:Nat} {x:Str} {pos:Pos} (hN:X.N[i]?=some x) (hv:Vis X.env.scope x) (hd:(x == ("__debug__":Str))=false:=by decide) (hcd:(x == ("__classdict__":Str))=false:=by decide):PE X (.Name x pos) (tVar i):=by
 intro pins s σ H Q I h
 obtain ⟨v,e,h⟩:=h
 obtain ⟨m,hn,hl⟩:=I.loc
 obtain ⟨u,r,l⟩:=hl i x v hN e hv
 have fin:EP X pins σ Q u s:=⟨v,H,I,r,h⟩
 rcases l with ⟨hk,hm⟩ | ⟨hk,c,hc,hcell⟩
 ·exact wpAny_Name (wpAny_loadName_local I.ok.kind hk hn hm fin) hd
 ·rcases hk with hk | hk
  ·exact wpAny_Name (wpAny_loadName_cell I.ok.kind hk hc hcell fin) hd
  ·exact wpAny_Name (wpAny_loadName_free I.ok.kind hk hc hcell fin hcd) hd
theorem pe_int {i j pos}:PE X (.Constant (.int i) j pos) (tC (.int i)):=fun _ _ _ H _ I h=>wpAny_Constant_int ⟨.int i,H,I.tok _,⟨_,rfl⟩,h⟩
theorem pe_bl {b j pos}:PE X (.Constant (.bool b) j pos) (tC (.bl b)):=fun _ _ _ H _ I h=>Constant_bool ⟨.bl b,H,I,rfl,h⟩
theorem pe_non {j pos}:PE X (.Constant .none j pos) (tC .non):=fun _ _ _ H _ I h=>Constant_none ⟨.non,H,I,rfl,h⟩
theorem pe_str {x j pos}:PE X (.Constant (.str x) j pos) (tC (.str x)):=fun _ _ _ H _ I h=>Calls.Constant_str ⟨.str x,H,I.tok _,⟨_,rfl⟩,h⟩
def Gl (X:Cx) (x:Str):Prop:=X.env.kindOf x=some .globalImplicit
theorem ld_glob {E:Value → Shared → Prop} {pins:List (Addr × Obj)} {s:Shared} {σ:St} {H:Hp} {x:Str} {u:Value} {pos:Pos} {Q:Value → Shared → Prop} (I:Inv X pins σ H s) (hg:Gl X x) (hm:X.mg x=some u) (h:Q u s)
  (hd:(x == ("__debug__":Str))=false:=by decide):wpAny (model X.prog X.w) X.A (eval (.Name x pos) X.env) Q E s :=
 Calls.Name_function_global I.ok.kind hg (Calls.loadGlobal_global (by rw [I.ok.glob]; exact I.mod.glob.keeps I.bk) hm h) hd
theorem ld_blt {E:Value → Shared → Prop} {pins:List (Addr × Obj)} {s:Shared} {σ:St} {H:Hp} {x:Str} {u:Value} {pos:Pos} {Q:Value → Shared → Prop} (I:Inv X pins σ H s) (hg:Gl X x) (hm:X.mg x=none) (hv:bootBuiltins x=some u) (h:Q u s)
  (hn:x ≠ "__name__":=by decide) (hd:(x == ("__debug__":Str))=false:=by decide):wpAny (model X.prog X.w) X.A (eval (.Name x pos) X.env) Q E s:=by
 obtain ⟨mb,h1,h2⟩:=I.mod.blt
 exact Calls.Name_function_global I.ok.kind hg (Calls.loadGlobal_builtin (by rw [I.ok.glob]; exact I.mod.glob.keeps I.bk) hm (by rw [I.ok.blt]; exact h1.keeps I.bk) ((h2 x hn).trans hv) h) hd
theorem pe_glob {x:Str} {v:V} {u:Value} {pos:Pos} (hg:Gl X x) (hm:X.mg x=some u) (r:RelV v u) (hd:(x == ("__debug__":Str))=false:=by decide):PE X (.Name x pos) (tC v) :=
 fun _ _ _ H _ I h=>ld_glob I hg hm ⟨v,H,I,r,h⟩ hd
theorem pe_bltn {x:Str} {v:V} {u:Value} {pos:Pos} (hg:Gl X x) (hm:X.mg x=none) (hv:bootBuiltins x=some u) (r:RelV v u) (hn:x ≠ "__name__":=by decide) (hd:(x == ("__debug__":Str))=false:=by decide):PE X (.Name x pos) (tC v) :=
 fun _ _ _ H _ I h=>ld_blt I hg hm hv ⟨v,H,I,r,h⟩ hn hd
def t2I (ta tb:TE) (k:Int → Int → Hp → Prop):St → Hp → Prop:=fun σ H=>ta σ H fun x H1=>tb σ H1 fun y H2=>∃ i j,x=.int i ∧ y=.int j ∧ k i j H2
def tAdd (ta tb:TE):TE:=fun σ H Q=>t2I ta tb (fun i j H2=>Q (.int (i + j)) H2) σ H
def tSub (ta tb:TE):TE:=fun σ H Q=>t2I ta tb (fun i j H2=>Q (.int (i - j)) H2) σ H
def tMul (ta tb:TE):TE:=fun σ H Q=>t2I ta tb (fun i j H2=>(-(2 ^ 64) < i ∧ i < 2 ^ 64) ∧ Q (.int (i * j)) H2) σ H
variable {a b:Expr} {ta tb:TE} {pos:Pos}
def tIsN (ta:TE):TE:=fun σ H Q=>ta σ H fun x H1=>Q (.bl (decide (x=.non))) H1
def tNotN (ta:TE):TE:=fun σ H Q=>ta σ H fun x H1=>Q (.bl (!decide (x=.non))) H1
def tB (t:TE):TT:=fun σ H Q=>t σ H fun x H1=>∃ c,x=.bl c ∧ Q c H1
theorem pt_val {e:Expr} {t:TE} (h:PE X e t) (he:∀ whole,isTrue e X.env whole=(do let v ← whole; standAt e.pos; holding [v] (truthy v)):=by intro _; rfl):PT X e (tB t):=by
 intro pins s σ H Q I hw
 refine isTrue_plain (thn (h pins s σ H _ I hw) fun v s1 ⟨x,H1,I1,r1,q1⟩=>?_) (he _)
 obtain ⟨d,rfl,q⟩:=q1
 cases r1
 exact wpAny_truthy_bool ⟨H1,I1,q⟩
variable {tA tB':TT} {rest:List Expr}
def tAnd (t u:TT):TT:=fun σ H Q=>t σ H fun c H1=>if c=true then u σ H1 Q else Q false H1
def tOr (t u:TT):TT:=fun σ H Q=>t σ H fun c H1=>if c=true then Q true H1 else u σ H1 Q
def tNot (t:TT):TT:=fun σ H Q=>t σ H fun c H1=>Q (!c) H1
theorem pw_and1 (ha:PT X a tA):PW X (.BoolOp .And [a] pos) tA:=by
 intro wh pins s σ H Q I h
 refine isTrue_and (thn (ha pins s σ H Q I h) fun c s1 e=>?_)
 cases c with
 | true=>exact isTrue_and_nil e
 | false=>exact e
theorem pw_or1 (ha:PT X a tA):PW X (.BoolOp .Or [a] pos) tA:=by
 intro wh pins s σ H Q I h
 refine isTrue_or (thn (ha pins s σ H Q I h) fun c s1 e=>?_)
 cases c with
 | false=>exact isTrue_or_nil e
 | true=>exact e
theorem pw_and (ha:PT X a tA) (hb:PW X (.BoolOp .And (b :: rest) pos) tB'):PW X (.BoolOp .And (a :: b :: rest) pos) (tAnd tA tB'):=by
 intro wh pins s σ H Q I h
 refine isTrue_and (thn (ha pins s σ H _ I h) fun c s1 ⟨H1,I1,q1⟩=>?_)
 cases c with
 | true=>exact hb wh pins s1 σ H1 Q I1 q1
 | false=>exact ⟨H1,I1,q1⟩
theorem pw_or (ha:PT X a tA) (hb:PW X (.BoolOp .Or (b :: rest) pos) tB'):PW X (.BoolOp .Or (a :: b :: rest) pos) (tOr tA tB'):=by
 intro wh pins s σ H Q I h
 refine isTrue_or (thn (ha pins s σ H _ I h) fun c s1 ⟨H1,I1,q1⟩=>?_)
 cases c with
 | true=>exact ⟨H1,I1,q1⟩
 | false=>exact hb wh pins s1 σ H1 Q I1 q1
theorem pt_not (ha:PT X a tA):PT X (.UnaryOp .Not a pos) (tNot tA):=by
 intro pins s σ H Q I h
 exact isTrue_not (ha pins s σ H (fun c H1=>Q (!c) H1) I h)
def tAndV (ta tb:TE):TE:=fun σ H Q=>ta σ H fun x H1=>∃ c,x=.bl c ∧ if c=true then tb σ H1 Q else Q (.bl false) H1
def tNotV (ta:TE):TE:=fun σ H Q=>ta σ H fun x H1=>∃ c,x=.bl c ∧ Q (.bl (!c)) H1
theorem pe_one {op} {t:TE} (h:PE X a t):PE X (.BoolOp op [a] pos) t:=fun pins s σ H Q I hw=>BoolOp_one (h pins s σ H Q I hw)
theorem pe_and (ha:PE X a ta) (hb:PE X (.BoolOp .And (b :: rest) pos) tb):PE X (.BoolOp .And (a :: b :: rest) pos) (tAndV ta tb):=by
 intro pins s σ H Q I h
 refine BoolOp_and (thn (ha pins s σ H _ I h) fun v s1 ⟨x,H1,I1,r1,q1⟩=>?_)
 obtain ⟨c,rfl,q1⟩:=q1
 cases r1
 refine wpAny_truthy_bool ?_
 cases c with
 | true=>exact hb pins s1 σ H1 Q I1 q1
 | false=>exact ⟨.bl false,H1,I1,rfl,q1⟩
theorem pe_not (ha:PE X a ta):PE X (.UnaryOp .Not a pos) (tNotV ta):=by
 intro pins s σ H Q I h
 refine UnaryOp_ (thn (ha pins s σ H _ I h) fun v s1 ⟨x,H1,I1,r1,q1⟩=>?_)
 obtain ⟨c,rfl,q1⟩:=q1
 cases r1
 exact not_of (wpAny_truthy_bool ⟨.bl (!c),H1,I1,rfl,q1⟩)
end
end L2
namespace L2
open PySem PySem.Spec PyProof.Rows
def SqL (K:PySem.W.Frag) (H:Hp) (a:Addr) (xs:List V):Prop :=
 Rd H a (.lst xs) ∨
  ∃ (o:Obj) (its:Array Value) (n:Nat),K.lookup a=some o ∧ o.cls=.type "list" ∧ o.dict=none ∧ o.data=.seq its n ∧ its.size ≤ sizeLine ∧ Vals xs its.toList
def SqT (K:PySem.W.Frag) (H:Hp) (a:Addr) (xs:List V):Prop :=
 Rd H a (.tup xs) ∨
  ∃ (o:Obj) (its:Array Value) (n:Nat),K.lookup a=some o ∧ o.cls=.type "tuple" ∧ o.data=.seq its n ∧ its.size ≤ sizeLine ∧ Vals xs its.toList
def absV:Value → Option V
 | .none=>some .non
 | .bool b=>some (.bl b)
 | .int i _=>some (.int i)
 | .str x _=>some (.str x)
 | .bytes b _=>some (.byt b)
 | .float b _=>some (.flt b)
 | .ref a=>some (.ref a)
 | .type n=>some (.ty n)
 | _=>none
theorem RelV.abs {x:V} {u:Value} (r:RelV x u):absV u=some x:=by
 cases x with
 | non=>cases r; rfl
 | bl _=>cases r; rfl
 | int _=>obtain ⟨t,rfl⟩:=r; rfl
 | str _=>obtain ⟨t,rfl⟩:=r; rfl
 | byt _=>obtain ⟨t,rfl⟩:=r; rfl
 | flt _=>obtain ⟨t,rfl⟩:=r; rfl
 | ref _=>cases r; rfl
 | ty _=>cases r; rfl
theorem RelV.inj {x y:V} {u:Value} (r:RelV x u) (q:RelV y u):x=y:=Option.some.inj (r.abs.symm.trans q.abs)
theorem Vals.inj:∀ {xs ys:List V} {us:List Value},Vals xs us → Vals ys us → xs=ys
 | _,_,_,.nil,.nil=>rfl
 | _,_,_,.cons r t,.cons r' t'=>by rw [r.inj r',Vals.inj t t']
section
variable {X:Cx} {pins:List (Addr × Obj)} {σ:St} {H:Hp} {s:Shared} {a:Addr} {xs ys:List V}
theorem SqL.of {K:PySem.W.Frag} (h:H a=some (.lst xs)):SqL K H a xs:=.inl (.inl h)
theorem SqT.of {K:PySem.W.Frag} (h:H a=some (.tup xs)):SqT K H a xs:=.inl (.inl h)
theorem Inv.list (I:Inv X pins σ H s) (h:SqL X.K H a xs):∃ its:List Value,Vals xs its ∧ PlainL s.heap a its.toArray ∧ xs.length ≤ sizeLine:=by
 rcases h with h | ⟨o,its,n,hk,hc,hd,hs,hz,r⟩
 ·obtain ⟨z,its,n,r,e⟩:=h.ok I.hok
  exact ⟨its,r,⟨_,n,e,rfl,rfl,rfl⟩,z⟩
 ·refine ⟨its.toList,r,⟨o,n,I.kIn a o hk,hc,hd,by simpa using hs⟩,?_⟩
  have e:=r.length
  simp only [Array.length_toList] at e
  omega
theorem Inv.tuple (I:Inv X pins σ H s) (h:SqT X.K H a xs):∃ its:List Value,Vals xs its ∧ IsTup s.heap a its.toArray ∧ xs.length ≤ sizeLine:=by
 rcases h with h | ⟨o,its,n,hk,hc,hs,hz,r⟩
 ·obtain ⟨z,its,r,p⟩:=h.ok I.hok
  exact ⟨its,r,p,z⟩
 ·refine ⟨its.toList,r,⟨o,I.kIn a o hk,hc,n,by simpa using hs⟩,?_⟩
  have e:=r.length
  simp only [Array.length_toList] at e
  omega
theorem Inv.list_inj (I:Inv X pins σ H s) (h:SqL X.K H a xs) (h':SqL X.K H a ys):xs=ys:=by
 obtain ⟨its,r,⟨o,n,e,_,_,d⟩,_⟩:=I.list h
 obtain ⟨its',r',⟨o',n',e',_,_,d'⟩,_⟩:=I.list h'
 rw [e] at e'; cases e'
 rw [d] at d'
 injection d' with d1 _
 have:its=its':=by simpa using congrArg Array.toList d1
 subst this
 exact r.inj r'
theorem Inv.tuple_inj (I:Inv X pins σ H s) (h:SqT X.K H a xs) (h':SqT X.K H a ys):xs=ys:=by
 obtain ⟨its,r,⟨o,e,_,n,d⟩,_⟩:=I.tuple h
 obtain ⟨its',r',⟨o',e',_,n',d'⟩,_⟩:=I.tuple h'
 rw [e] at e'; cases e'
 rw [d] at d'
 injection d' with d1 _
 have:its=its':=by simpa using congrArg Array.toList d1
 subst this
 exact r.inj r'
end
abbrev Cx.wish (X:Cx) (E:Value → Shared → Prop):Cx:={ X with xe:=E }
abbrev Cx.nox (X:Cx):Cx:=X.wish fun _ _=>False
theorem Cx.Ok.wish {X:Cx} (ok:X.Ok) (E:Value → Shared → Prop):(X.wish E).Ok :=
 ⟨ok.mod,ok.kind,ok.glob,ok.blt,ok.above,ok.inj,ok.has,ok.cab,ok.hd,ok.frames,ok.stk,ok.exf,ok.bs,ok.bsz,ok.noex,ok.exfs,ok.funs,ok.frf⟩
theorem Cx.Ok.unwish {X:Cx} {E:Value → Shared → Prop} (ok:(X.wish E).Ok):X.Ok :=
 ⟨ok.mod,ok.kind,ok.glob,ok.blt,ok.above,ok.inj,ok.has,ok.cab,ok.hd,ok.frames,ok.stk,ok.exf,ok.bs,ok.bsz,ok.noex,ok.exfs,ok.funs,ok.frf⟩
section
variable {X:Cx} {pins:List (Addr × Obj)} {σ:St} {H:Hp} {s:Shared} {E:Value → Shared → Prop}
theorem Inv.wish (I:Inv X pins σ H s) (E:Value → Shared → Prop):Inv (X.wish E) pins σ H s:=⟨I.ok.wish E,I.os,I.bare,I.base,I.loc,I.cell,I.free,I.freeC,I.pin,I.hok,I.len⟩
theorem Inv.unwish (I:Inv (X.wish E) pins σ H s):Inv X pins σ H s:=⟨I.ok.unwish,I.os,I.bare,I.base,I.loc,I.cell,I.free,I.freeC,I.pin,I.hok,I.len⟩
theorem SP.unwish {D:Ends} {f:Flow} {s':Shared} (h:SP (X.wish E) pins D f s'):SP X pins D f s':=by
 cases f with
 | next=>obtain ⟨σ',H',I,q⟩:=h; exact ⟨σ',H',I.unwish,q⟩
 | brk=>obtain ⟨σ',H',I,q⟩:=h; exact ⟨σ',H',I.unwish,q⟩
 | cont=>obtain ⟨σ',H',I,q⟩:=h; exact ⟨σ',H',I.unwish,q⟩
 | ret u=>obtain ⟨v,σ',H',I,r,q⟩:=h; exact ⟨v,σ',H',I.unwish,r,q⟩
theorem PSs.nox {st:List Stmt} {t:TS} (h:PSs X.nox st t):PSs X st t:=fun pins s σ H D I hw =>
 wpAny_mono (h pins s σ H D (I.wish _) hw) (fun _ _ q=>q.unwish) fun _ _ z=>False.elim z
end
section
variable {X:Cx} {st:Stmt} {rest:List Stmt} {t u:TS} {e:Expr} {te:TE} {pos:Pos}
def tNext:TS:=fun D σ H=>D.nx σ H
def tSeq (t u:TS):TS:=fun D σ H=>t { D with nx:=u D } σ H
theorem pss_nil:PSs X [] tNext:=fun _ _ σ H _ I h=>wpAny_execs_nil ⟨σ,H,I,h⟩
theorem pss_cons (h1:PS X st t) (h2:PSs X rest u):PSs X (st :: rest) (tSeq t u):=by
 intro pins s σ H D I h
 refine wpAny_execs_cons (thn (h1 pins s σ H { D with nx:=u D } I h) fun f s1 q=>?_)
 cases f with
 | next =>
   obtain ⟨σ',H',I',q⟩:=q
   exact h2 pins s1 σ' H' D I' q
 | ret v=>exact q
 | brk=>exact q
 | cont=>exact q
theorem pss_one (h1:PS X st t):PSs X [st] t:=by
 intro pins s σ H D I h
 refine wpAny_execs_cons (thn (h1 pins s σ H D I h) fun f s1 q=>?_)
 cases f with
 | next=>exact wpAny_execs_nil q
 | ret v=>exact q
 | brk=>exact q
 | cont=>exact q
theorem Inv.quiet {pins:List (Addr × Obj)} {σ:St} {H:Hp} {s:Shared} (I:Inv X pins σ H s):interactive X.env=false:=by simp [interactive,I.ok.kind]
def tDrop (te:TE):TS:=fun D σ H=>te σ H fun _ H1=>D.nx σ H1
theorem ps_expr (he:PE X e te) (hs:swapsWith e none pos.line X.env=pure false:=by rfl):PS X (.Expr e pos) (tDrop te):=by
 intro pins s σ H D I h
 exact wpAny_Expr_any (thn (he pins s σ H _ I h) fun v s1 ⟨x,H1,I1,r1,q1⟩=>⟨σ,H1,I1,q1⟩) I.quiet hs
def tRet (te:TE):TS:=fun D σ H=>te σ H D.rt
theorem ps_ret (he:PE X e te):PS X (.Return (some e) pos) (tRet te):=by
 intro pins s σ H D I h
 exact wpAny_Return_some (thn (he pins s σ H _ I h) fun v s1 ⟨x,H1,I1,r1,q1⟩=>⟨x,σ,H1,I1,r1,q1⟩)
def tIfS (c:TT) (t u:TS):TS:=fun D σ H=>c σ H fun b H1=>if b=true then t D σ H1 else u D σ H1
theorem ps_if {c:Expr} {a b:List Stmt} {tc:TT} (hc:PT X c tc) (ha:PSs X a t) (hb:PSs X b u):PS X (.If c a b pos) (tIfS tc t u):=by
 intro pins s σ H D I h
 refine wpAny_If (thn (hc pins s σ H _ I h) fun d s1 ⟨H1,I1,q1⟩=>?_)
 cases d with
 | true=>exact ha pins s1 σ H1 D I1 q1
 | false=>exact hb pins s1 σ H1 D I1 q1
end
abbrev TG:=V → St → Hp → (St → Hp → Prop) → Prop
abbrev TGs:=List V → St → Hp → (St → Hp → Prop) → Prop
def PG (X:Cx) (target:Expr) (t:TG):Prop :=
 ∀ (pins:List (Addr × Obj)) (s:Shared) (σ:St) (H:Hp) (v:V) (u:Value) (Q:St → Hp → Prop),Inv X pins σ H s → RelV v u → t v σ H Q →
   wpAny (model X.prog X.w) X.A (assign target X.env u) (fun _ s'=>∃ σ' H',Inv X pins σ' H' s' ∧ Q σ' H') X.xe s
def PGs (X:Cx) (ts:List Expr) (t:TGs):Prop :=
 ∀ (pins:List (Addr × Obj)) (s:Shared) (σ:St) (H:Hp) (vs:List V) (us:List Value) (Q:St → Hp → Prop),Inv X pins σ H s → Vals vs us → t vs σ H Q →
   wpAny (model X.prog X.w) X.A (assignInOrder ((assignEach ts X.env).map (·.2)) us) (fun _ s'=>∃ σ' H',Inv X pins σ' H' s' ∧ Q σ' H') X.xe s
section
variable {X:Cx} {pos:Pos}
def gName (i:Nat):TG:=fun v σ H Q=>Q (σ.set i (some v)) H
theorem pg_name {i:Nat} {x:Str} (hN:X.N.Nodup) (hi:X.N[i]?=some x) (hx:Loc X.env.scope x) (hf:X.fn x=true ∨ X.env.scope.names.lookup x=some .local:=by first | exact .inl rfl | exact .inr rfl | assumption):PG X (.Name x pos) (gName i):=by
 intro pins s σ H v u Q I r h
 exact wpAny_assign_Name (store_ok I hN hi hx r (fun s' I'=>⟨_,H,I',h⟩) hf)
def gNil:TGs:=fun vs σ H Q=>vs=[] ∧ Q σ H
def gCons (t:TG) (u:TGs):TGs:=fun vs σ H Q=>∃ v r,vs=v :: r ∧ t v σ H fun σ' H'=>u r σ' H' Q
theorem pgs_nil:PGs X [] gNil:=by
 intro pins s σ H vs us Q I r h
 obtain ⟨e,h⟩:=h
 subst e
 cases r
 exact assignInOrder_nil ⟨σ,H,I,h⟩
theorem pgs_cons {e:Expr} {es:List Expr} {t:TG} {u:TGs} (h1:PG X e t) (h2:PGs X es u)
  (hs:(assignEach (e :: es) X.env).map (·.2)=assign e X.env :: (assignEach es X.env).map (·.2):=by rfl):PGs X (e :: es) (gCons t u):=by
 intro pins s σ H vs us Q I r h
 obtain ⟨v,vr,e1,h⟩:=h
 subst e1
 cases r with
 | cons r rr =>
   rw [hs]
   refine assignInOrder_cons (thn (h1 pins s σ H _ _ _ I r h) fun _ s1 ⟨σ1,H1,I1,q1⟩=>?_)
   exact h2 pins s1 σ1 H1 _ _ Q I1 rr q1
def gTup (K:PySem.W.Frag) (n:Nat) (t:TGs):TG:=fun v σ H Q=>∃ a xs,v=.ref a ∧ SqT K H a xs ∧ xs.length=n ∧ t xs σ H Q
theorem pg_tup {es:List Expr} {k:Nat} {t:TGs} {n:Nat} (hc:X.calm=true) (h:PGs X es t)
  (hn:(assignEach es X.env).length=n:=by rfl) (hst:(assignEach es X.env).findIdx? (·.1)=none:=by rfl):PG X (.Tuple es k pos) (gTup X.K n t):=by
 intro pins s σ H v u Q I r hw
 obtain ⟨a,xs,e1,hq,hl,hw⟩:=hw
 subst e1
 cases r
 obtain ⟨its,rv,ht,hz⟩:=I.tuple hq
 refine assign_Tuple_tuple (I.ok.hd hc) ht (by simp [hn,← hl,rv.length]) hst fun h' hx=>?_
 have I1:Inv X pins σ H { s with heap:=h' }:=I.kept (t':=s.toks) fun b o e=>hx b o (Nat.ne_of_lt (Heap.lt_size e)) e
 exact h pins _ σ H xs _ Q I1 (by simpa using rv) hw
def tAsg (te:TE) (g:TG):TS:=fun D σ H=>te σ H fun x H1=>g x σ H1 D.nx
theorem ps_set {i:Nat} {x:Str} {e:Expr} {te:TE} {pos':Pos} (hN:X.N.Nodup) (hi:X.N[i]?=some x) (hx:Loc X.env.scope x) (he:PE X e te) (hs:swapsWith e (some (.Name x pos')) pos.line X.env=pure false:=by rfl) (hf:X.fn x=true ∨ X.env.scope.names.lookup x=some .local:=by first | exact .inl rfl | exact .inr rfl | assumption) :
  PS X (.Assign [.Name x pos'] e pos) (tAsg te (gName i)):=by
 intro pins s σ H D I h
 refine wpAny_Assign_Name (thn (he pins s σ H _ I h) fun v s1 ⟨y,H1,I1,r1,q1⟩=>?_) hs
 exact store_ok I1 hN hi hx r1 (fun s2 I2=>⟨_,H1,I2,q1⟩) hf
end
section
variable {X:Cx} {pos:Pos}
end
structure It where
 go:Nat → Hp → Prop
 yld:Nat → Hp → V → Hp → Prop
 stop:Nat → Hp → Prop
def FpOk (X:Cx) (pins:List (Addr × Obj)) (H:Hp) (b:Addr):Prop :=
 H b=none ∧ b ≠ X.env.locals ∧ b ∉ X.fs ∧ (b ∈ X.ex ∨ X.s₀.heap.objs.size ≤ b) ∧ (∀ x c,X.env.cells.lookup x=some c → c ≠ b) ∧ ∀ p ∈ X.pn ++ pins,p.1 ≠ b
theorem Inv.fpOk {X:Cx} {pins:List (Addr × Obj)} {σ:St} {H H':Hp} {s:Shared} {b:Addr} (I:Inv X pins σ H s) (hb:s.heap.objs.size ≤ b) (hn:H' b=none):FpOk X pins H' b:=by
 refine ⟨hn,Nat.ne_of_gt (Nat.lt_of_lt_of_le I.lt hb),I.nofs hb,.inr (Nat.le_trans I.sz hb),fun x c e z=>?_,fun p hp z=>?_⟩
 ·obtain ⟨v,q⟩:=I.cell x c e
  exact absurd (Nat.lt_of_lt_of_le q.lt (by rw [z]; exact hb)) (Nat.lt_irrefl _)
 ·exact absurd (Nat.lt_of_lt_of_le (Heap.lt_size (I.pin p hp).1) (by rw [z]; exact hb)) (Nat.lt_irrefl _)
structure Turn (P:Program) (w:World) (K:PySem.W.Frag) (tg:Expr) (J:It) (fp:List Addr) (it:Addr) (tn:Nat → Heap → Prop):Prop where
 mem:it ∈ fp
 obj:∀ i h,tn i h → ∀ b ∈ fp,∃ o,h.get? b=some o ∧ ∀ v,o.data ≠ .cell v
 keep:∀ i h h',tn i h → (∀ b ∈ fp,∀ o,h.get? b=some o → h'.get? b=some o) → tn i h'
 item:∀ (X:Cx),X.prog=P → X.w=w → X.K=K → X.calm=true → ∀ (i:Nat) (pins:List (Addr × Obj)) (s:Shared) (σ:St) (H:Hp) (E:Value → Shared → Prop),Inv X pins σ H s → (∀ b ∈ fp,FpOk X pins H b) → tn i s.heap → J.go i H →
  wpAny (model P w) X.A (pyNext (.ref it)) (fun r s1=>∃ u,r=some u ∧
   wpAny (model P w) X.A (letOwnedTupleGo tg (.ref it) u) (fun _ s2=>∃ x H',Inv X pins σ H' s2 ∧ RelV x u ∧ J.yld i H x H' ∧ tn (i + 1) s2.heap ∧ ∀ b ∈ fp,H' b=none) E s1) E s
 done:∀ (X:Cx),X.prog=P → X.w=w → X.K=K → X.calm=true → ∀ (i:Nat) (pins:List (Addr × Obj)) (s:Shared) (σ:St) (H:Hp) (E:Value → Shared → Prop),Inv X pins σ H s → (∀ b ∈ fp,FpOk X pins H b) → tn i s.heap → J.stop i H →
  wpAny (model P w) X.A (pyNext (.ref it)) (fun r s1=>r=none ∧ Inv X pins σ H s1) E s
 self:∀ (A:Around) (i:Nat) (s:Shared) (Q:Value → Shared → Prop) (E:Value → Shared → Prop),tn i s.heap → Q (.ref it) s → wpAny (model P w) A (pyIter (.ref it)) Q E s
abbrev TI:=St → Hp → (It → Hp → Prop) → Prop
def PIE (X:Cx) (pins:List (Addr × Obj)) (σ:St) (tg:Expr) (R:It → Hp → Prop) (itv:Value) (s2:Shared):Prop :=
 ∃ (it:Addr) (fp:List Addr) (tn:Nat → Heap → Prop) (J:It) (H':Hp),itv=.ref it ∧ Inv X pins σ H' s2 ∧ Turn X.prog X.w X.K tg J fp it tn ∧ tn 0 s2.heap ∧ (∀ b ∈ fp,FpOk X pins H' b) ∧ R J H'
def PI (X:Cx) (tg iter:Expr) (wi:TI):Prop :=
 ∀ (pins:List (Addr × Obj)) (s:Shared) (σ:St) (H:Hp) (R:It → Hp → Prop),Inv X pins σ H s → wi σ H R →
   wpAny (model X.prog X.w) X.A (eval iter X.env) (fun v s1=>wpAny (model X.prog X.w) X.A (pyIter v) (PIE X pins σ tg R) X.xe s1) X.xe s
theorem go_of {M:Model} {A:Around} {E:Value → Shared → Prop} {s:Shared} {tg:Expr} {it:Addr} {u:Value} {o:Obj} {n:String} {vs:Array Value} {Q:Unit → Shared → Prop} (ho:s.heap.get? it=some o) (hc:o.cls=.type n) (hd:o.data=.fields vs)
  (hn:["enumerate","zip","dict_itemiterator","dict_reverseitemiterator","odict_iterator","itertools.zip_longest","itertools.pairwise"].contains n=false) (hQ:Q () s):wpAny M A (letOwnedTupleGo tg (.ref it) u) Q E s:=by
 unfold letOwnedTupleGo
 cases tg <;> first
  | exact wpAny_pure hQ
  | (cases u <;> first
    | exact wpAny_pure hQ
    | (refine wpAny_bind (wpAny_load ho ?_)
       rw [hc,hd]
       show wpAny M A (if (["enumerate","zip","dict_itemiterator","dict_reverseitemiterator","odict_iterator","itertools.zip_longest","itertools.pairwise"].contains n && vs[0]? == some (rawInt _))=true then _ else _) Q E s
       rw [if_neg (by intro h; rw [hn,Bool.false_and] at h; cases h)]
       exact wpAny_pure hQ))
def Itl (K:PySem.W.Frag) (a:Addr):It :=
 ⟨fun i H=>∃ xs x,SqL K H a xs ∧ xs[i]?=some x,fun i H x H'=>H'=H ∧ ∀ xs,SqL K H a xs → xs[i]?=some x,fun i H=>∃ xs,SqL K H a xs ∧ xs.length ≤ i⟩
def Itt (K:PySem.W.Frag) (a:Addr):It :=
 ⟨fun i H=>∃ xs x,SqT K H a xs ∧ xs[i]?=some x,fun i H x H'=>H'=H ∧ ∀ xs,SqT K H a xs → xs[i]?=some x,fun i H=>∃ xs,SqT K H a xs ∧ xs.length ≤ i⟩
def Itr (lo:Int) (n:Nat):It:=⟨fun i _=>i < n,fun i H x H'=>H'=H ∧ x=.int (lo + i),fun i _=>n ≤ i⟩
theorem turn_list {P:Program} {w:World} {K:PySem.W.Frag} {tg:Expr} (a it:Addr):Turn P w K tg (Itl K a) [it] it (fun i h=>h.IsListIter it a i) where
 mem:=by simp
 obj:=fun i h st b hb=>by
  have e:b=it:=by simpa using hb
  subst e
  obtain ⟨o,e,c,d⟩:=st
  exact ⟨o,e,fun v z=>by rw [d] at z; cases z⟩
 keep:=fun i h h' st k=>st.at fun o e=>k it (by simp) o e
 item:=by
  intro X hP hw hK hc i pins s σ H E I hf st hg
  subst hP hw hK
  obtain ⟨xs,x,hq,hx⟩:=hg
  obtain ⟨its,rv,p,hz⟩:=I.list hq
  obtain ⟨u,hu,ru⟩:=rv.get hx
  obtain ⟨f0,f1,f2,f3,f4,f5⟩:=hf it (by simp)
  refine wpAny_pyNext_list_item st p.isList (x:=u) (by simpa using hu) fun h' st' sb=>?_
  have I1:Inv X pins σ H { s with heap:=h' }:=I.turned (t':=s.toks) (fun b o hb e=>(sb.2 b hb).trans e) f0 f1 f3 f4 f5
  obtain ⟨o,e,c,d⟩:=id st'
  exact ⟨u,rfl,go_of (s:={ s with heap:=h' }) e c d (by decide) ⟨x,H,I1,ru,⟨rfl,fun ys hy=>by rw [I.list_inj hy hq]; exact hx⟩,st',fun b hb=>(hf b hb).1⟩⟩
 done:=by
  intro X hP hw hK hc i pins s σ H E I hf st hg
  subst hP hw hK
  obtain ⟨xs,hq,hx⟩:=hg
  obtain ⟨its,rv,p,hz⟩:=I.list hq
  obtain ⟨f0,f1,f2,f3,f4,f5⟩:=hf it (by simp)
  have hl:=rv.length
  exact wpAny_pyNext_list_end (I.ok.hd hc) st p.isList (by simp; omega) fun h' eb=>⟨rfl,I.turned (t':=s.toks) (fun b o hb e=>eb b o hb e) f0 f1 f3 f4 f5⟩
 self:=fun _ _ _ _ _ st h=>wpAny_pyIter_listiter st h
theorem turn_tuple {P:Program} {w:World} {K:PySem.W.Frag} {tg:Expr} (a it:Addr):Turn P w K tg (Itt K a) [it] it (fun i h=>h.IsTupleIter it a i) where
 mem:=by simp
 obj:=fun i h st b hb=>by
  have e:b=it:=by simpa using hb
  subst e
  obtain ⟨o,e,c,d⟩:=st
  exact ⟨o,e,fun v z=>by rw [d] at z; cases z⟩
 keep:=fun i h h' st k=>st.at fun o e=>k it (by simp) o e
 item:=by
  intro X hP hw hK hc i pins s σ H E I hf st hg
  subst hP hw hK
  obtain ⟨xs,x,hq,hx⟩:=hg
  obtain ⟨its,rv,p,hz⟩:=I.tuple hq
  obtain ⟨u,hu,ru⟩:=rv.get hx
  obtain ⟨f0,f1,f2,f3,f4,f5⟩:=hf it (by simp)
  refine wpAny_pyNext_tuple_item st (show s.heap.IsTuple a its.toArray from p) (x:=u) (by simpa using hu) fun h' st' sb=>?_
  have I1:Inv X pins σ H { s with heap:=h' }:=I.turned (t':=s.toks) (fun b o hb e=>(sb.2 b hb).trans e) f0 f1 f3 f4 f5
  obtain ⟨o,e,c,d⟩:=id st'
  exact ⟨u,rfl,go_of (s:={ s with heap:=h' }) e c d (by decide) ⟨x,H,I1,ru,⟨rfl,fun ys hy=>by rw [I.tuple_inj hy hq]; exact hx⟩,st',fun b hb=>(hf b hb).1⟩⟩
 done:=by
  intro X hP hw hK hc i pins s σ H E I hf st hg
  subst hP hw hK
  obtain ⟨xs,hq,hx⟩:=hg
  obtain ⟨its,rv,p,hz⟩:=I.tuple hq
  obtain ⟨f0,f1,f2,f3,f4,f5⟩:=hf it (by simp)
  have hl:=rv.length
  exact wpAny_pyNext_tuple_end (I.ok.hd hc) st (show s.heap.IsTuple a its.toArray from p) (by simp; omega) fun h' eb=>⟨rfl,I.turned (t':=s.toks) (fun b o hb e=>eb b o hb e) f0 f1 f3 f4 f5⟩
 self:=fun _ _ _ _ _ st h=>wpAny_pyIter_tupleiter st h
theorem turn_range {P:Program} {w:World} {K:PySem.W.Frag} {tg:Expr} (it:Addr) (lo:Int) (n:Nat):Turn P w K tg (Itr lo n) [it] it (fun i h=>IsRangeIter h it (lo + (i:Nat) * 1) ((n:Int) - (i:Nat)) 1) where
 mem:=by simp
 obj:=fun i h st b hb=>by
  have e:b=it:=by simpa using hb
  subst e
  exact ⟨_,st,fun v z=>by
   have z':Data.fields _=Data.cell v:=z
   cases z'⟩
 keep:=fun i h h' st k=>k it (by simp) _ st
 item:=by
  intro X hP hw hK hc i pins s σ H E I hf st hg
  subst hP hw hK
  obtain ⟨f0,f1,f2,f3,f4,f5⟩:=hf it (by simp)
  have W:=Walks.range (prog:=X.prog) (w:=X.w) (I.ok.hd hc) it lo 1 n
  refine W.item i s _ _ hg st fun v h' tk hv st' kk=>?_
  obtain ⟨t,rfl⟩:=hv
  have I1:Inv X pins σ H { s with heap:=h',toks:=tk }:=I.turned (fun b o hb e=>kk b o (by simpa using hb) e) f0 f1 f3 f4 f5
  refine ⟨_,rfl,go_of (s:={ s with heap:=h',toks:=tk }) (n:="range_iterator") st' rfl rfl (by decide) ⟨.int (lo + i),H,I1,⟨t,?_⟩,⟨rfl,rfl⟩,st',fun b hb=>(hf b hb).1⟩⟩
  rw [Int.mul_one]
 done:=by
  intro X hP hw hK hc i pins s σ H E I hf st hg
  subst hP hw hK
  obtain ⟨f0,f1,f2,f3,f4,f5⟩:=hf it (by simp)
  exact wpAny_pyNext_range_end (I.ok.hd hc) st (by have:n ≤ i:=hg; omega) fun h' eb=>⟨rfl,I.turned (t':=s.toks) (fun b o hb e=>eb b o hb e) f0 f1 f3 f4 f5⟩
 self:=fun _ _ _ _ _ st h=>wpAny_pyIter_rangeiter st h
end L2
namespace L2
open PySem PySem.Spec PyProof.Rows
section
variable {X:Cx} {tg:Expr}
theorem range_it {pins:List (Addr × Obj)} {σ:St} {H:Hp} {s:Shared} {R:It → Hp → Prop} {E:Value → Shared → Prop} {lo hi:Int} {t u v:Tok} {tk:Nat} (I:Inv X pins σ H s) (h1:-(2 ^ 62) ≤ lo) (h2:lo < 2 ^ 62) (h3:-(2 ^ 62) ≤ hi) (h4:hi < 2 ^ 62)
  (q:R (Itr lo (hi - lo).toNat) H):wpAny (model X.prog X.w) X.A (pyIter (.ref s.heap.objs.size)) (PIE X pins σ tg R) E { s with heap:=s.heap.push { cls:=.type "range",data:=.fields #[.int lo t,.int hi u,.int 1 v] },toks:=tk }:=by
 refine wpAny_pyIter_range (IsRange.new ..) (small_one h1 h2 h3 h4) ?_
 have I1:Inv X pins σ H { s with heap:=s.heap.push { cls:=.type "range",data:=.fields #[.int lo t,.int hi u,.int 1 v] },toks:=tk }:=I.kept fun b o e=>Heap.get?_push_of_some _ e
 refine ⟨(s.heap.push { cls:=.type "range",data:=.fields #[.int lo t,.int hi u,.int 1 v] }).objs.size,[(s.heap.push { cls:=.type "range",data:=.fields #[.int lo t,.int hi u,.int 1 v] }).objs.size],_,_,H,rfl,
  I1.kept (t':=tk) fun b o e=>Heap.get?_push_of_some _ e,turn_range _ lo (hi - lo).toNat,?_,fun b hb=>?_,q⟩
 ·have e1:lo + ((0:Nat):Int) * 1=lo:=by simp
  have e2:(((hi - lo).toNat:Nat):Int) - ((0:Nat):Int)=Builtin.Range.rangeSize lo hi 1:=by rw [rangeSize_one]; split <;> omega
  show IsRangeIter _ _ (lo + ((0:Nat):Int) * 1) ((((hi - lo).toNat:Nat):Int) - ((0:Nat):Int)) 1
  rw [e1,e2]
  exact Heap.get?_push_size _ rfl
 ·have e:b=(s.heap.push { cls:=.type "range",data:=.fields #[.int lo t,.int hi u,.int 1 v] }).objs.size:=by simpa using hb
  subst e
  exact I1.fpOk (Nat.le_refl _) (I1.hok.fresh (Nat.le_refl _))
def iRng1 (ta:TA):TI:=fun σ H R=>ta σ H fun vs H1=>∃ j:Int,vs=[.int j] ∧ -(2 ^ 62) ≤ j ∧ j < 2 ^ 62 ∧ R (Itr 0 j.toNat) H1
def iRng2 (ta:TA):TI:=fun σ H R=>ta σ H fun vs H1=>∃ i j:Int,vs=[.int i,.int j] ∧ (-(2 ^ 62) ≤ i ∧ i < 2 ^ 62 ∧ -(2 ^ 62) ≤ j ∧ j < 2 ^ 62) ∧ R (Itr i (j - i).toNat) H1
theorem pi_range1 {a:Expr} {ta:TA} {p pos:Pos} (hg:Gl X "range") (hm:X.mg "range"=none) (ha:PA X [a] ta) (hs:starEach [a] X.env=[(false,eval a X.env)]:=by rfl):PI X tg (.Call (.Name "range" p) [a] [] pos) (iRng1 ta):=by
 intro pins s σ H R I h
 refine Call_ (ld_blt I hg hm boot_range (PyProof.Rows.callWith_type1 (thn (ha pos pins s σ H _ I h) fun us s1 ⟨vs,H1,I1,r1,q1⟩=>?_) hs rfl))
 obtain ⟨j,e,q1,q2,q⟩:=q1
 subst e
 cases r1 with
 | cons r rr =>
   cases rr
   obtain ⟨t,rfl⟩:=r
   exact call_range_1 (range_it I1 (by omega) (by omega) q1 q2 (by simpa using q))
theorem pi_range2 {a b:Expr} {ta:TA} {p pos:Pos} (hg:Gl X "range") (hm:X.mg "range"=none) (ha:PA X [a,b] ta) (hs:starEach [a,b] X.env=[(false,eval a X.env),(false,eval b X.env)]:=by rfl) (hs2:starEach [b] X.env=[(false,eval b X.env)]:=by rfl) :
  PI X tg (.Call (.Name "range" p) [a,b] [] pos) (iRng2 ta):=by
 intro pins s σ H R I h
 refine Call_ (ld_blt I hg hm boot_range (PyProof.Rows.callWith_type1 (thn (ha pos pins s σ H _ I h) fun us s1 ⟨vs,H1,I1,r1,q1⟩=>?_) (by rw [hs,hs2]) (by rw [hs2]; rfl)))
 obtain ⟨i,j,e,⟨q1,q2,q3,q4⟩,q⟩:=q1
 subst e
 cases r1 with
 | cons r rr =>
   cases rr with
   | cons r' rr =>
     cases rr
     obtain ⟨t,rfl⟩:=r
     obtain ⟨t',rfl⟩:=r'
     exact call_range_2 (range_it I1 q1 q2 q3 q4 q)
def tFor (wi:TI) (g:TG) (tb:TS):TS:=fun D σ H=>wi σ H fun J H1=>∃ W:Nat → Nat → St → Hp → Prop,(∃ m,W 0 m σ H1) ∧ ∀ i m σ H,W i m σ H →
 (J.stop i H ∧ D.nx σ H) ∨ (J.go i H ∧ ∃ N:St → Hp → Prop,(∀ σ' H',N σ' H' → ∃ m',m' < m ∧ W (i + 1) m' σ' H') ∧ ∀ x H',J.yld i H x H' → g x σ H' fun σ2 H2=>tb { D with nx:=N,ct:=N,bk:=D.nx } σ2 H2)
def pinsAt (fp:List Addr) (h:Heap):List (Addr × Obj):=fp.filterMap fun b=>(h.get? b).map fun o=>(b,o)
theorem mem_pinsAt {fp:List Addr} {h:Heap} {b:Addr} {o:Obj} (hb:b ∈ fp) (e:h.get? b=some o):(b,o) ∈ pinsAt fp h:=List.mem_filterMap.mpr ⟨b,hb,by rw [e]; rfl⟩
theorem of_pinsAt {fp:List Addr} {h:Heap} {p:Addr × Obj} (hp:p ∈ pinsAt fp h):p.1 ∈ fp ∧ h.get? p.1=some p.2:=by
 obtain ⟨b,hb,e⟩:=List.mem_filterMap.mp hp
 cases q:h.get? b with
 | none=>rw [q] at e; cases e
 | some o =>
   rw [q] at e
   have e':(b,o)=p:=Option.some.inj e
   subst e'
   exact ⟨hb,q⟩
theorem Inv.pinned {pins:List (Addr × Obj)} {σ:St} {H:Hp} {s:Shared} {fp:List Addr} (I:Inv X pins σ H s) (hf:∀ b ∈ fp,FpOk X pins H b) (ho:∀ b ∈ fp,∃ o,s.heap.get? b=some o ∧ ∀ v,o.data ≠ .cell v):Inv X (pins ++ pinsAt fp s.heap) σ H s :=
 I.pins_of fun p hp=>(List.mem_append.mp hp).elim (fun z=>I.pin p (List.mem_append_right _ z)) fun z=>by
  obtain ⟨hb,e⟩:=of_pinsAt z
  obtain ⟨f0,f1,f2,_⟩:=hf p.1 hb
  obtain ⟨o,e',d⟩:=ho p.1 hb
  rw [e] at e'; cases e'
  exact ⟨e,f0,f1,f2,d⟩
theorem Inv.unpinned {pins pl:List (Addr × Obj)} {σ:St} {H:Hp} {s:Shared} (I:Inv X (pins ++ pl) σ H s):Inv X pins σ H s:=I.pins_of fun p hp=>I.pin p (List.mem_append_right _ (List.mem_append_left _ hp))
theorem ps_for {iter:Expr} {body:List Stmt} {wi:TI} {g:TG} {tb:TS} {pos:Pos} (hp:PassesOwn (model X.prog X.w) X.A X.env X.xe) (hc:X.calm=true) (hi:PI X tg iter wi) (hg:PG X tg g) (hb:PSs X body tb)
  (hs:∀ x,foldedSetIterable iter X.env x=pure x:=by intro _; rfl):PS X (.For tg iter body [] pos) (tFor wi g tb):=by
 intro pins s σ H D I h
 refine wpAny_For (thn (hi pins s σ H _ I h) fun v s1 h1=>thn h1 fun itv s2 h2=>?_) hs
 obtain ⟨it,fp,tn,J,H2,e,I2,T,st2,f2,W,⟨m0,w0⟩,turn⟩:=h2
 subst e
 have stat:∀ {H':Hp},(∀ b ∈ fp,H' b=none) → ∀ b ∈ fp,FpOk X pins H' b:=fun hn b hb=>⟨hn b hb,(f2 b hb).2⟩
 refine codeAny_forLoop_any (fun n s'=>∃ i σ' H',Inv X pins σ' H' s' ∧ tn i s'.heap ∧ (∀ b ∈ fp,H' b=none) ∧ W i n σ' H') ?_ m0 ⟨0,σ,H2,I2,st2,fun b hb=>(f2 b hb).1,w0⟩
 rintro n s3 ⟨i,σ3,H3,I3,st3,fr3,w3⟩
 rcases turn i n σ3 H3 w3 with ⟨stop,qn⟩ | ⟨go,N,hN,step⟩
 ·refine wpAny_passesOwn hp (thn (T.done X rfl rfl rfl hc i pins s3 σ3 H3 X.xe I3 (stat fr3) st3 stop) fun r s4 ⟨hr,I4⟩=>?_)
  subst hr
  exact wpAny_execs_nil ⟨σ3,H3,I4,qn⟩
 ·refine wpAny_passesOwn hp (thn (T.item X rfl rfl rfl hc i pins s3 σ3 H3 X.xe I3 (stat fr3) st3 go) fun r s4 ⟨u,hr,h4⟩=>?_)
  subst hr
  refine wpAny_passesOwn hp (thn h4 fun _ s5 ⟨x,H5,I5,r5,y5,st5,fr5⟩=>?_)
  have I5':=I5.pinned (stat fr5) (T.obj _ _ st5)
  refine wpAny_passesOwn hp (thn (hg _ s5 σ3 H5 x u _ I5' r5 (step x H5 y5)) fun _ s6 ⟨σ6,H6,I6,q6⟩=>?_)
  refine wpAny_passesOwn hp (thn (hb _ s6 σ6 H6 _ I6 q6) fun f s7 q7=>?_)
  have again:∀ {σ7:St} {H7:Hp},Inv X (pins ++ pinsAt fp s5.heap) σ7 H7 s7 → N σ7 H7 → ∃ m,m < n ∧ ∃ i σ' H',Inv X pins σ' H' s7 ∧ tn i s7.heap ∧ (∀ b ∈ fp,H' b=none) ∧ W i m σ' H':=fun {σ7 H7} I7 n7=>by
   obtain ⟨m',hm,w7⟩:=hN σ7 H7 n7
   refine ⟨m',hm,i + 1,σ7,H7,I7.unpinned,T.keep _ _ _ st5 fun b hb o e=>(I7.pin (b,o) (List.mem_append_right _ (List.mem_append_right _ (mem_pinsAt hb e)))).1,fun b hb=>?_,w7⟩
   obtain ⟨o,e,d⟩:=T.obj _ _ st5 b hb
   exact (I7.pin (b,o) (List.mem_append_right _ (List.mem_append_right _ (mem_pinsAt hb e)))).2.1
  cases f with
  | next=>obtain ⟨σ7,H7,I7,n7⟩:=q7; exact again I7 n7
  | cont=>obtain ⟨σ7,H7,I7,n7⟩:=q7; exact again I7 n7
  | brk=>obtain ⟨σ7,H7,I7,q7⟩:=q7; exact ⟨σ7,H7,I7.unpinned,q7⟩
  | ret v=>obtain ⟨x7,σ7,H7,I7,r7,q7⟩:=q7; exact ⟨x7,σ7,H7,I7.unpinned,r7,q7⟩
end
end L2
namespace L2
open PySem PySem.Spec PyProof.Rows
abbrev R2:=V → V → Hp → VK → Prop
def OpR (X:Cx) (f:Value → Value → Sem Value) (r:R2):Prop :=
 ∀ (pins:List (Addr × Obj)) (s:Shared) (σ:St) (H:Hp) (x y:V) (v u:Value) (Q:VK),Inv X pins σ H s → RelV x v → RelV y u → r x y H Q →
   wpAny (model X.prog X.w) X.A (f v u) (EP X pins σ Q) X.xe s
def CallR (X:Cx) (f:Value) (r:List V → Hp → VK → Prop):Prop :=
 ∀ (pins:List (Addr × Obj)) (s:Shared) (σ:St) (H:Hp) (xs:List V) (us:List Value) (Q:VK),Inv X pins σ H s → Vals xs us → r xs H Q →
   wpAny (model X.prog X.w) X.A (call f us) (EP X pins σ Q) X.xe s
def TruR (X:Cx) (r:V → Hp → (Bool → Hp → Prop) → Prop):Prop :=
 ∀ (pins:List (Addr × Obj)) (s:Shared) (σ:St) (H:Hp) (x:V) (v:Value) (Q:Bool → Hp → Prop),Inv X pins σ H s → RelV x v → r x H Q →
   wpAny (model X.prog X.w) X.A (truthy v) (TP X pins σ Q) X.xe s
def tOp (r:R2) (ta tb:TE):TE:=fun σ H Q=>ta σ H fun x H1=>tb σ H1 fun y H2=>r x y H2 Q
def rI (C:Int → Int → Prop) (g:Int → Int → V):R2:=fun x y H Q=>∃ i j,x=.int i ∧ y=.int j ∧ C i j ∧ Q (g i j) H
def rI0 (g:Int → Int → V):R2:=fun x y H Q=>∃ i j,x=.int i ∧ y=.int j ∧ Q (g i j) H
section
variable {X:Cx} {a b c:Expr} {ta tb tc:TE} {pos:Pos}
theorem binT (ha:PE X a ta) (hb:PE X b tb) {pins:List (Addr × Obj)} {s:Shared} {σ:St} {H:Hp} {R:V → V → Hp → Prop} (I:Inv X pins σ H s)
  (h:ta σ H fun x H1=>tb σ H1 fun y H2=>R x y H2) {Q:Value → Shared → Prop} {f:Value → Value → Sem Value}
  (hf:∀ v u s2 x y H2,Inv X pins σ H2 s2 → RelV x v → RelV y u → R x y H2 → wpAny (model X.prog X.w) X.A (f v u) Q X.xe s2) :
  wpAny (model X.prog X.w) X.A (eval a X.env) (fun v s₁=>wpAny (model X.prog X.w) X.A (eval b X.env) (fun u s₂=>wpAny (model X.prog X.w) X.A (f v u) Q X.xe s₂) X.xe s₁) X.xe s:=by
 refine thn (ha pins s σ H _ I h) fun v s1 ⟨x,H1,I1,r1,q1⟩=>?_
 refine thn (hb pins s1 σ H1 _ I1 q1) fun u s2 ⟨y,H2,I2,r2,q2⟩=>?_
 exact hf v u s2 x y H2 I2 r1 r2 q2
theorem pe_op {op:Operator} {r:R2} (ho:OpR X (binaryOp op) r) (ha:PE X a ta) (hb:PE X b tb):PE X (.BinOp a op b pos) (tOp r ta tb):=by
 intro pins s σ H Q I h
 exact wpAny_BinOp (binT ha hb I h fun v u s2 x y H2 I2 rx ry q=>ho pins s2 σ H2 x y v u Q I2 rx ry q)
theorem opI {f:Value → Value → Sem Value} {C:Int → Int → Prop} {g:Int → Int → Int}
  (rule:∀ (i j:Int) (t u:Tok) (s:Shared) (Q:Value → Shared → Prop) (E:Value → Shared → Prop),C i j → Q (.int (g i j) s.toks) { s with toks:=s.toks + 1 } → wpAny (model X.prog X.w) X.A (f (.int i t) (.int j u)) Q E s) :
  OpR X f (rI C fun i j=>.int (g i j)):=by
 intro pins s σ H x y v u Q I rx ry h
 obtain ⟨i,j,rfl,rfl,hc,q⟩:=h
 obtain ⟨t,rfl⟩:=rx
 obtain ⟨t',rfl⟩:=ry
 exact rule i j t t' s _ _ hc ⟨.int (g i j),H,I.tok _,⟨_,rfl⟩,q⟩
theorem opI0 {f:Value → Value → Sem Value} {g:Int → Int → Int}
  (rule:∀ (i j:Int) (t u:Tok) (s:Shared) (Q:Value → Shared → Prop) (E:Value → Shared → Prop),Q (.int (g i j) s.toks) { s with toks:=s.toks + 1 } → wpAny (model X.prog X.w) X.A (f (.int i t) (.int j u)) Q E s) :
  OpR X f (rI0 fun i j=>.int (g i j)):=by
 intro pins s σ H x y v u Q I rx ry h
 obtain ⟨i,j,rfl,rfl,q⟩:=h
 obtain ⟨t,rfl⟩:=rx
 obtain ⟨t',rfl⟩:=ry
 exact rule i j t t' s _ _ ⟨.int (g i j),H,I.tok _,⟨_,rfl⟩,q⟩
theorem opB0 {f:Value → Value → Sem Value} {g:Int → Int → Bool}
  (rule:∀ (i j:Int) (t u:Tok) (s:Shared) (Q:Value → Shared → Prop) (E:Value → Shared → Prop),Q (.bool (g i j)) s → wpAny (model X.prog X.w) X.A (f (.int i t) (.int j u)) Q E s) :
  OpR X f (rI0 fun i j=>.bl (g i j)):=by
 intro pins s σ H x y v u Q I rx ry h
 obtain ⟨i,j,rfl,rfl,q⟩:=h
 obtain ⟨t,rfl⟩:=rx
 obtain ⟨t',rfl⟩:=ry
 exact rule i j t t' s _ _ ⟨.bl (g i j),H,I,rfl,q⟩
def CDiv (i j:Int):Prop:=0 < j ∧ j < 1073741824
def CMul (i j:Int):Prop:=(-(2 ^ 64) < i ∧ i < 2 ^ 64) ∨ (-(2 ^ 64) < j ∧ j < 2 ^ 64)
theorem CMul.ok {i j:Int} (h:CMul i j):IntMulOk i j:=by
 rcases h with ⟨h1,h2⟩ | ⟨h1,h2⟩
 ·exact .of_left (intBits_le_64 h1 h2)
 ·exact .of_right (intBits_le_64 h1 h2)
theorem op_add:OpR X (binaryOp .Add) (rI0 fun i j=>.int (i + j)):=opI0 fun _ _ _ _ _ _ _ q=>add_int q
theorem op_sub:OpR X (binaryOp .Sub) (rI0 fun i j=>.int (i - j)):=opI0 fun _ _ _ _ _ _ _ q=>sub_int q
theorem op_mul:OpR X (binaryOp .Mult) (rI CMul fun i j=>.int (i * j)):=opI fun _ _ _ _ _ _ _ hc q=>mul_int q hc.ok
theorem op_fdiv:OpR X (binaryOp .FloorDiv) (rI CDiv fun i j=>.int (i / j)):=opI fun i j _ _ _ _ _ hc q=>by
 have h1:(0:Int) < j:=hc.1
 have h2:j < 1073741824:=hc.2
 exact floordiv_int (by omega) (by rw [Int.fdiv_eq_ediv_of_nonneg i (by omega)]; exact q) (.inl (PyProof.noPylong_small (by omega)))
theorem op_mod:OpR X (binaryOp .Mod) (rI (fun _ j=>0 < j) fun i j=>.int (i % j)):=opI fun i j _ _ _ _ _ hc q=>by
 have h1:(0:Int) < j:=hc
 exact mod_int' (by omega) (by rw [Int.fmod_eq_emod_of_nonneg i (by omega)]; exact q)
end
section
variable {X:Cx} {a b c:Expr} {ta tb tc:TE} {pos:Pos}
theorem fin_bl {pins:List (Addr × Obj)} {σ:St} {H:Hp} {s:Shared} {Q:VK} {k k':Bool} (I:Inv X pins σ H s) (q:Q (.bl k) H) (e:k=k'):EP X pins σ Q (.bool k') s:=by
 subst e
 exact ⟨.bl k,H,I,rfl,q⟩
theorem op_lt:OpR X (compareOp .Lt) (rI0 fun i j=>.bl (decide (i < j))):=opB0 fun _ _ _ _ _ _ _ q=>lt_int q
theorem op_le:OpR X (compareOp .LtE) (rI0 fun i j=>.bl (decide (i ≤ j))):=opB0 fun _ _ _ _ _ _ _ q=>le_int q
theorem op_gt:OpR X (compareOp .Gt) (rI0 fun i j=>.bl (decide (j < i))):=opB0 fun _ _ _ _ _ _ _ q=>gt_int q
theorem op_ge:OpR X (compareOp .GtE) (rI0 fun i j=>.bl (decide (j ≤ i))):=opB0 fun _ _ _ _ _ _ _ q=>ge_int q
theorem op_isN:OpR X (compareOp .Is) (fun x y H Q=>y=.non ∧ Q (.bl (decide (x=.non))) H):=by
 intro pins s σ H x y v u Q I rx ry h
 obtain ⟨rfl,q⟩:=h
 cases ry
 refine is_none_gen (fin_bl I q ?_)
 cases x <;> first
  | (cases rx; rfl)
  | (obtain ⟨t,rfl⟩:=rx; rfl)
theorem op_notN:OpR X (compareOp .IsNot) (fun x y H Q=>y=.non ∧ Q (.bl (!decide (x=.non))) H):=by
 intro pins s σ H x y v u Q I rx ry h
 obtain ⟨rfl,q⟩:=h
 cases ry
 refine isnot_none_gen (fin_bl I q ?_)
 cases x <;> first
  | (cases rx; rfl)
  | (obtain ⟨t,rfl⟩:=rx; rfl)
theorem nomark (b:Expr) {op:CmpOp} (h:op ≠ .In:=by decide) (h2:op ≠ .NotIn:=by decide):behindInMarks op b=false:=by
 have e1:(op == CmpOp.In)=false:=by cases op <;> first | rfl | exact absurd rfl h
 have e2:(op == CmpOp.NotIn)=false:=by cases op <;> first | rfl | exact absurd rfl h2
 cases b <;> simp [behindInMarks,e1,e2]
theorem pe_cmpR {op:CmpOp} {r:R2} (ho:OpR X (compareOp op) r) (ha:PE X a ta) (hb:PE X b tb) (hm:behindInMarks op b=false):PE X (.Compare a [op] [b] pos) (tOp r ta tb):=by
 intro pins s σ H Q I h
 exact wpAny_Compare1 (binT ha hb I h fun v u s2 x y H2 I2 rx ry q=>ho pins s2 σ H2 x y v u Q I2 rx ry q) hm
def tTest (t:TE):TT:=fun σ H Q=>t σ H fun x H'=>∃ k,x=.bl k ∧ Q k H'
theorem pt_cmpR {op:CmpOp} {r:R2} (ho:OpR X (compareOp op) r) (ha:PE X a ta) (hb:PE X b tb) (hm:behindInMarks op b=false):PT X (.Compare a [op] [b] pos) (tTest (tOp r ta tb)):=by
 intro pins s σ H Q I h
 refine wpAny_isTrue_Compare1 (thn (ha pins s σ H _ I h) fun v s1 ⟨x,H1,I1,r1,q1⟩=>thn (hb pins s1 σ H1 _ I1 q1) fun u s2 ⟨y,H2,I2,r2,q2⟩ =>
  thn (ho pins s2 σ H2 x y v u _ I2 r1 r2 q2) fun c s3 ⟨z,H3,I3,r3,k,e,q3⟩=>?_) hm
 subst e
 cases r3
 exact wpAny_truthy_bool ⟨H3,I3,q3⟩
def tChain (r r':R2) (ta tb tc:TE):TE:=fun σ H Q=>ta σ H fun x H1=>tb σ H1 fun y H2=>r x y H2 fun z H3=>∃ k,z=.bl k ∧
 (if k=true then tc σ H3 fun w' H4=>r' y w' H4 Q else Q (.bl false) H3)
theorem pe_chain {op op':CmpOp} {r r':R2} (ho:OpR X (compareOp op) r) (ho':OpR X (compareOp op') r') (ha:PE X a ta) (hb:PE X b tb) (hc:PE X c tc)
  (hm:lastMarks [op,op'] [b,c]=false:=by with_unfolding_all rfl):PE X (.Compare a [op,op'] [b,c] pos) (tChain r r' ta tb tc):=by
 intro pins s σ H Q I h
 refine Compare_chain (thn (ha pins s σ H _ I h) fun v s1 ⟨x,H1,I1,r1,q1⟩=>chain_link (thn (hb pins s1 σ H1 _ I1 q1) fun u s2 ⟨y,H2,I2,r2,q2⟩ =>
  thn (ho pins s2 σ H2 x y v u _ I2 r1 r2 q2) fun d s3 ⟨z,H3,I3,r3,k,e,q3⟩=>?_)) hm
 subst e
 cases r3
 refine wpAny_truthy_bool ?_
 cases k with
 | false=>exact ite_ff ⟨.bl false,H3,I3,rfl,q3⟩
 | true=>exact ite_tt (chain_last (thn (hc pins s3 σ H3 _ I3 q3) fun w' s4 ⟨z',H4,I4,r4,q4⟩=>ho' pins s4 σ H4 y z' u w' Q I4 r2 r4 q4))
theorem pt_chain {op op':CmpOp} {r r':R2} (ho:OpR X (compareOp op) r) (ho':OpR X (compareOp op') r') (ha:PE X a ta) (hb:PE X b tb) (hc:PE X c tc)
  (hm:lastMarks [op,op'] [b,c]=false:=by with_unfolding_all rfl):PT X (.Compare a [op,op'] [b,c] pos) (tTest (tChain r r' ta tb tc)):=by
 intro pins s σ H Q I h
 refine isTrue_chain (thn (ha pins s σ H _ I h) fun v s1 ⟨x,H1,I1,r1,q1⟩=>test_link (thn (hb pins s1 σ H1 _ I1 q1) fun u s2 ⟨y,H2,I2,r2,q2⟩ =>
  thn (ho pins s2 σ H2 x y v u _ I2 r1 r2 q2) fun d s3 ⟨z,H3,I3,r3,k,e,q3⟩=>?_)) hm
 subst e
 cases r3
 refine wpAny_truthy_bool ?_
 cases k with
 | false =>
   obtain ⟨k',e',q'⟩:=q3
   cases e'
   exact ite_ff ⟨H3,I3,q'⟩
 | true =>
   refine ite_tt (test_last (thn (hc pins s3 σ H3 _ I3 q3) fun w' s4 ⟨z',H4,I4,r4,q4⟩=>thn (ho' pins s4 σ H4 y z' u w' _ I4 r2 r4 q4) fun d' s5 ⟨z2,H5,I5,r5,k2,e2,q5⟩=>?_))
   subst e2
   cases r5
   exact wpAny_truthy_bool ⟨H5,I5,q5⟩
def TruV (K:PySem.W.Frag) (x:V) (H:Hp) (k:Bool):Prop :=
 match x with
 | .non=>k=false
 | .bl b=>k=b
 | .int i=>k=(i != 0)
 | .str y=>y.length ≤ sizeLine ∧ k=((y.length:Int) != 0)
 | .byt y=>y.size ≤ sizeLine ∧ k=((y.size:Int) != 0)
 | .ref p=>(∃ xs,SqL K H p xs ∧ k=!xs.isEmpty) ∨ (∃ xs,SqT K H p xs ∧ k=!xs.isEmpty) ∨ ∃ kvs,H p=some (.dK kvs) ∧ k=!kvs.isEmpty
 | _=>False
theorem isEmpty_kv {κ:Type} {kvs:List (κ × V)} {vs:List (κ × Value)} (r:KV kvs vs):(!vs.isEmpty)=!kvs.isEmpty:=by
 cases r <;> rfl
theorem isEmpty_of {xs:List V} {its:List Value} (r:Vals xs its):(!its.toArray.isEmpty)=!xs.isEmpty:=by
 cases r <;> simp
theorem line63:(sizeLine:Nat) < 2 ^ 63:=by rw [sizeLine_eq]; decide
theorem tru_ok:TruR X (fun x H Q=>∃ k,TruV X.K x H k ∧ Q k H):=by
 intro pins s σ H x v Q I rx h
 obtain ⟨k,e,q⟩:=h
 have hl:=line63
 have hs:sizeLine=16777216:=sizeLine_eq
 cases x with
 | non =>
   cases rx
   have e':k=false:=e
   subst e'
   exact truthy_none ⟨H,I,q⟩
 | bl b =>
   cases rx
   have e':k=b:=e
   subst e'
   exact wpAny_truthy_bool ⟨H,I,q⟩
 | int i =>
   obtain ⟨t,rfl⟩:=rx
   have e':k=(i != 0):=e
   subst e'
   exact PySem.P.truthy_int ⟨H,I,q⟩
 | str y =>
   obtain ⟨t,rfl⟩:=rx
   obtain ⟨hy,e'⟩:y.length ≤ sizeLine ∧ k=((y.length:Int) != 0):=e
   subst e'
   exact PySem.P.truthy_str (by omega) ⟨H,I.tok _,q⟩
 | byt y =>
   obtain ⟨t,rfl⟩:=rx
   obtain ⟨hy,e'⟩:y.size ≤ sizeLine ∧ k=((y.size:Int) != 0):=e
   subst e'
   exact PySem.W.truthy_bytes (by omega) ⟨H,I.tok _,q⟩
 | ref p =>
   cases rx
   have e':(∃ xs,SqL X.K H p xs ∧ k=!xs.isEmpty) ∨ (∃ xs,SqT X.K H p xs ∧ k=!xs.isEmpty) ∨ ∃ kvs,H p=some (.dK kvs) ∧ k=!kvs.isEmpty:=e
   rcases e' with ⟨xs,hx,e'⟩ | ⟨xs,hx,e'⟩ | ⟨kvs,hx,e'⟩
   ·subst e'
    obtain ⟨its,r,pl,hz⟩:=I.list hx
    have hlen:=r.length
    exact wpAny_truthy_list pl.isList (by simp only [List.size_toArray]; omega) ⟨H,I.tok _,by rw [isEmpty_of r]; exact q⟩
   ·subst e'
    obtain ⟨its,r,pl,hz⟩:=I.tuple hx
    have hlen:=r.length
    exact truthy_tuple pl (by simp only [List.size_toArray]; omega) ⟨H,I.tok _,by rw [isEmpty_of r]; exact q⟩
   ·subst e'
    obtain ⟨hz,hS,vs,r,m⟩:kvs.length ≤ sizeLine ∧ (p == sysModules)=false ∧ ∃ vs,KV kvs vs ∧ s.heap.DictOf (mixKind X.prog X.w) p vs:=I.hok p _ hx
    have hlen:kvs.length=vs.length:=Paired.length r
    exact wpAny_truthy_dict hS m (by omega) ⟨H,I.tok _,by rw [isEmpty_kv r]; exact q⟩
 | _=>exact (show False from e).elim
theorem pt_truth (ha:PE X a ta) (he:∀ whole,isTrue a X.env whole=(do let v ← whole; standAt a.pos; holding [v] (truthy v))) :
  PT X a (fun σ H Q=>ta σ H fun x H'=>∃ k,TruV X.K x H' k ∧ Q k H'):=by
 intro pins s σ H Q I h
 exact isTrue_plain (thn (ha pins s σ H _ I h) fun v s1 ⟨x,H1,I1,r1,q1⟩=>tru_ok pins s1 σ H1 x v Q I1 r1 q1) (he _)
theorem op_add_str:OpR X (binaryOp .Add) (fun x y H Q=>∃ i j,x=.str i ∧ y=.str j ∧ i.length + j.length ≤ sizeLine ∧ Q (.str (i ++ j)) H):=by
 intro pins s σ H x y v u Q I rx ry h
 obtain ⟨i,j,rfl,rfl,hz,q⟩:=h
 obtain ⟨t,rfl⟩:=rx
 obtain ⟨t',rfl⟩:=ry
 exact add_str (fun t' tk=>⟨.str (i ++ j),H,I.tok _,⟨_,rfl⟩,q⟩) hz
theorem vals1 {x:V} {us:List Value} (r:Vals [x] us):∃ u,us=[u] ∧ RelV x u:=by
 cases r with
 | cons r1 r2=>cases r2; exact ⟨_,rfl,r1⟩
theorem vals2 {x y:V} {us:List Value} (r:Vals [x,y] us):∃ u w',us=[u,w'] ∧ RelV x u ∧ RelV y w':=by
 cases r with
 | cons r1 r2 =>
   cases r2 with
   | cons r3 r4=>cases r4; exact ⟨_,_,rfl,r1,r3⟩
theorem call_min2 (hc:X.calm=true):CallR X (.builtin "min") (fun xs H Q=>∃ i j,xs=[.int i,.int j] ∧ Q (.int (if j < i then j else i)) H):=by
 intro pins s σ H xs us Q I r h
 obtain ⟨i,j,rfl,q⟩:=h
 obtain ⟨u,w',rfl,⟨t,rfl⟩,⟨t',rfl⟩⟩:=vals2 r
 refine min_two_ints (I.ok.hd hc) fun h' tk k=>⟨_,H,I.kept k,?_,q⟩
 by_cases hj:j < i
 ·rw [if_pos hj,if_pos hj]; exact ⟨_,rfl⟩
 ·rw [if_neg hj,if_neg hj]; exact ⟨_,rfl⟩
theorem call_str_int:CallR X (.type "str") (fun xs H Q=>∃ i,xs=[.int i] ∧ i.natAbs.log2 < 1920 ∧ Q (.str (toString i)) H):=by
 intro pins s σ H xs us Q I r h
 obtain ⟨i,rfl,hz,q⟩:=h
 obtain ⟨u,rfl,t,rfl⟩:=vals1 r
 exact PySem.P.str_of_int hz ⟨.str _,H,I.tok _,⟨_,rfl⟩,q⟩
end
end L2
namespace L2
open PySem PySem.Spec PyProof.Rows
structure ObjM (h:Heap) (x dx C:Addr) (mA:Str → Option Value):Prop where
 obj:h.get? x=some (PySem.W.instObj C dx)
 ns:h.Ns1 dx mA
 ne:dx ≠ x
section
variable {prog:Program} {w:World} {A:Around} {E:Value → Shared → Prop} {s:Shared} {K:PySem.W.Frag} {x dx C f:Addr} {mA:Str → Option Value} {name:Str} {v:Value}
end
section
variable {P:Program} {w:World} {H H':Hp} {h h':Heap} {a C dx:Addr} {fs fs':List (Str × V)}
end
structure Cls (K:PySem.W.Frag) (C:Addr):Prop where
 pg:PySem.W.plainGet K C Str.empty=true
 hd:PySem.W.hasDictIn K C=true
 po:PySem.W.plainOver K C=true
 sa:PySem.W.findIn K (.ref C) "__setattr__"=some (some (.builtin "object.__setattr__"))
structure Con (K:PySem.W.Frag) (C:Addr) (f:Str) (v:V) (u:Value):Prop where
 at_:PySem.W.findIn K (.ref C) f=some (some u)
 rel:RelV v u
 get:PySem.W.specialIn K u "__get__"=some none
 cp:PySem.W.copiedNames.contains f=false
structure Meth (K:PySem.W.Frag) (C:Addr) (m:Str) (f:Addr):Prop where
 at_:PySem.W.findIn K (.ref C) m=some (some (.ref f))
 fn:PySem.W.isFn K (.ref f)=true
 kp:PySem.W.keepIn K (.ref f)=true
section
variable {X:Cx} {pins:List (Addr × Obj)} {σ:St} {H:Hp} {s:Shared} {a C dx:Addr} {fs:List (Str × V)} {f:Str} {v:V} {A:Around} {E:Value → Shared → Prop}
end
section
variable {X:Cx} {o e value:Expr} {f:Str} {pos pos' tpos:Pos} {ta tv:TE}
end
section
variable {X:Cx} {pins:List (Addr × Obj)} {σ:St} {H:Hp} {s:Shared} {A:Around} {E:Value → Shared → Prop} {Q:Value → Shared → Prop} {c:Value} {b:Bool}
inductive TyOf (K:PySem.W.Frag) (H:Hp):V → Value → Prop where
 | non:TyOf K H .non (.type "NoneType")
 | bl (x:Bool):TyOf K H (.bl x) (.type "bool")
 | int (i:Int):TyOf K H (.int i) (.type "int")
 | str (x:Str):TyOf K H (.str x) (.type "str")
 | flt (x:UInt64):TyOf K H (.flt x) (.type "float")
 | lst {a:Addr} {xs:List V} (e:H a=some (.lst xs)):TyOf K H (.ref a) (.type "list")
 | frz {a:Addr} {o:Obj} {xs:List V} (e:H a=some (.frz o (.lst xs))):TyOf K H (.ref a) (.type "list")
 | tup {a:Addr} {xs:List V} (e:H a=some (.tup xs)):TyOf K H (.ref a) (.type "tuple")
 | dK {a:Addr} {kvs:List (Key × V)} (e:H a=some (.dK kvs)):TyOf K H (.ref a) (.type "dict")
 | dT {a:Addr} {kvs:List (List Key × V)} (e:H a=some (.dT kvs)):TyOf K H (.ref a) (.type "dict")
 | ins {a C dx:Addr} {fs:List (Str × V)} (e:H a=some (.ins C dx fs)) (cl:Cls K C) (ha:PySem.W.findIn K (.ref C) "__class__"=some (some (.builtin "object.__class__")))
   (hn:PySem.W.specialIn K (.builtin "object.__class__") "__get__"=some (some (.builtin "getset_descriptor.__get__"))) (htk:PySem.W.takesIn K (.builtin "object.__class__")=some true)
   (hm:PySem.W.mroIn K C (.type "object")=some true):TyOf K H (.ref a) (.ref C)
end
end L2
namespace L2
open PySem PySem.Spec PyProof.Rows
structure Room (k:Nat) (A:Around):Prop where
 hd:A.handled=none
 dp:A.depth + 3 * k + 5 < recursionLimit
 un:A.units + 16 * k + 200 < cLine
theorem Room.mono {j k:Nat} {A:Around} (r:Room k A) (h:j ≤ k):Room j A:=⟨r.hd,by have:=r.dp; omega,by have:=r.un; omega⟩
theorem Room.deeper {k:Nat} {A:Around} (r:Room (k + 1) A) (env:Env):Room k (A.deeper env) :=
 ⟨r.hd,by have:=r.dp; show A.depth + 1 + 3 * k + 5 < _; omega,by have:=r.un; show A.units + 3 + 16 * k + 200 < _; omega⟩
theorem Room.depth {k:Nat} {A:Around} (r:Room k A):A.depth < recursionLimit:=by have:=r.dp; omega
theorem Room.units {k:Nat} {A:Around} (r:Room k A):A.units + 64 < cLine:=by have:=r.un; omega
def tNil:TA:=fun _ H Q=>Q [] H
def tCons (ta:TE) (tr:TA):TA:=fun σ H Q=>ta σ H fun x H1=>tr σ H1 fun xs H2=>Q (x :: xs) H2
section
variable {X:Cx} {e:Expr} {es:List Expr} {te:TE} {t:TA} {pos:Pos}
theorem pa_nil:PA X [] tNil:=fun _ _ _ _ H Q I h=>Calls.spliced_nil ⟨[],H,I,.nil,h⟩
theorem pa_cons (ha:PE X e te) (hr:PA X es t) (hs:starEach (e :: es) X.env=(false,eval e X.env) :: starEach es X.env:=by rfl):PA X (e :: es) (tCons te t):=by
 intro pos pins s σ H Q I h
 rw [hs]
 show wpAny _ _ (spliced ((false,eval e X.env) :: backTo pos (starEach es X.env))) _ _ s
 refine Calls.spliced_cons (thn (ha pins s σ H _ I h) fun u s1 ⟨x,H1,I1,r1,q1⟩=>?_)
 exact thn (hr pos pins s1 σ H1 _ I1 q1) fun us s2 ⟨xs,H2,I2,r2,q2⟩=>⟨x :: xs,H2,I2,.cons r1 r2,q2⟩
def tTup (t:TA):TE:=fun σ H Q=>t σ H fun xs H1=>xs.length ≤ sizeLine ∧ ∀ p,H1 p=none → Q (.ref p) (upd H1 p (.tup xs))
def tLst (t:TA):TE:=fun σ H Q=>t σ H fun xs H1=>xs.length ≤ sizeLine ∧ ∀ p,H1 p=none → Q (.ref p) (upd H1 p (.lst xs))
theorem pe_tup {x1} (h:PA X es t):PE X (.Tuple es x1 pos) (tTup t):=by
 intro pins s σ H Q I hq
 refine wpAny_Tuple_spliced (thn (h pos pins s σ H _ I hq) fun us s1 ⟨xs,H1,I1,r,z,q⟩=>⟨by rw [← r.length]; exact z,?_⟩)
 have hf:H1 s1.heap.objs.size=none:=I1.hok.fresh (Nat.le_refl _)
 refine ⟨.ref s1.heap.objs.size,upd H1 s1.heap.objs.size (.tup xs),I1.laid (t':=s1.toks) (fun b u e=>Heap.get?_push_of_some _ e) (Nat.le_refl _) ?_,rfl,q _ hf⟩
 exact ⟨z,us,r,⟨_,Heap.get?_push_size _ rfl,rfl,_,rfl⟩⟩
theorem pe_lst (h:PA X es t):PE X (.List es pos) (tLst t):=by
 intro pins s σ H Q I hq
 refine wpAny_List_spliced (thn (h pos pins s σ H _ I hq) fun us s1 ⟨xs,H1,I1,r,z,q⟩=>⟨by rw [← r.length]; exact z,?_⟩)
 have hf:H1 s1.heap.objs.size=none:=I1.hok.fresh (Nat.le_refl _)
 refine ⟨.ref s1.heap.objs.size,upd H1 s1.heap.objs.size (.lst xs),I1.laid (t':=s1.toks) (fun b u e=>Heap.get?_push_of_some _ e) (Nat.le_refl _) ?_,rfl,q _ hf⟩
 exact ⟨z,us,0,r,Heap.get?_push_size _ rfl⟩
end
abbrev Sp:=List V → Hp → VK → XK → Prop
abbrev CXT:=List Env → Hp → Shared → XK → Value → Shared → Prop
structure Env0 (P:Program) (w:World) (K:PySem.W.Frag) (mg:Str → Option Value) (base:Heap) (A:Around) (outer:List Env) (s:Shared) (H:Hp):Prop where
 frames:A.frames=some outer
 mod:Mod K mg base
 bs:∀ b o,base.get? b=some o → s.heap.get? b=some o ∧ H b=none
 bsz:base.objs.size ≤ s.heap.objs.size
 funs:s.heap.FunFrames base outer
 frf:∀ b ∈ frs outer,H b=none
 hok:HOk P w H s.heap
 bare:AllBare s.gens
def CE (outer:List Env) (P:Program) (w:World) (H:Hp) (s:Shared) (Q:VK) (u:Value) (s':Shared):Prop :=
 ∃ v H',s'.os=s.os ∧ AllBare s'.gens ∧ Un (frs outer) [] H H' s.heap s'.heap ∧ HOk P w H' s'.heap ∧ RelV v u ∧ Q v H'
def CR (CX:CXT) (outer:List Env) (P:Program) (w:World) (H:Hp) (s:Shared) (Q:VK) (E:XK) (r:Result) (s':Shared):Prop :=
 match r with
 | .ok (.ret u)=>CE outer P w H s Q u s'
 | .ok _=>False
 | .error e=>CX outer H s E e s'
structure FnOk (P:Program) (w:World) (K:PySem.W.Frag) (mg:Str → Option Value) (base:Heap) (CX:CXT) (k:Nat) (f:Addr) (fd:FuncData) (ps:List Str) (sp:Sp):Prop where
 len:∀ vs H Q E,sp vs H Q E → vs.length=ps.length
 run:∀ (A:Around) (outer:List Env) (s:Shared) (H:Hp) (args:Args) (us:List Value) (vs:List V) (Q:VK) (E:XK),Room k A → Env0 P w K mg base A outer s H → BindsTo s fd args (ps.zip us) → Vals vs us → sp vs H Q E →
  codeAny (model P w) A (.call (.ref f) args) (CR CX outer P w H s Q E) s
section
variable {X:Cx} {pins:List (Addr × Obj)} {σ:St} {H:Hp} {s s':Shared}
theorem Inv.env0 (I:Inv X pins σ H s):Env0 X.prog X.w X.K X.mg X.base X.A X.stack s H :=
 ⟨I.ok.frames,I.ok.mod,I.bs,Nat.le_trans I.ok.bsz I.sz,I.stack,I.stkFree,I.hok,I.bare⟩
theorem Inv.after {Q:VK} {u:Value} (I:Inv X pins σ H s) (h:CE X.stack X.prog X.w H s Q u s'):EP X pins σ Q u s':=by
 obtain ⟨v,H',os,bare,un,hok,r,q⟩:=h
 obtain ⟨hh,g,d,t,os'⟩:=s'
 obtain rfl:os'=s.os:=os
 exact ⟨v,H',I.call (h':=hh) (g':=g) (d':=d) (t':=t) (ch:=[]) un hok bare (fun b z=>absurd z (by simp)),r,q⟩
end
def tCall (sp:Sp) (dvs:List V) (E:XK) (t:TA):TE:=fun σ H Q=>t σ H fun vs H1=>sp (vs ++ dvs) H1 Q E
def Binds (K:PySem.W.Frag) (fd:FuncData) (ps:List Str) (ds:List Value):Prop :=
 ∀ (s:Shared) (us:List Value),K.In s.heap → (us ++ ds).length=ps.length → BindsTo s fd ⟨us,[]⟩ (ps.zip (us ++ ds))
theorem Binds.all {K:PySem.W.Frag} {fd:FuncData} {ps:List Str} (h:∀ us:List Value,us.length=ps.length → bindArgs fd ⟨us,[]⟩=pure (ps.zip us)):Binds K fd ps []:=fun s us _ hl=>by
 rw [List.append_nil] at hl ⊢
 exact .of_eq (h us hl)
def Passes (CX:CXT) (X:Cx) (E:XK):Prop:=∀ (pins:List (Addr × Obj)) (σ:St) (H:Hp) (s:Shared) (e:Value) (s':Shared),Inv X pins σ H s → CX X.stack H s E e s' → X.xe e s'
section
variable {X:Cx} {CX:CXT} {k:Nat} {f C:Addr} {fd:FuncData} {ps:List Str} {sp:Sp} {dvs:List V} {ds:List Value} {E:XK} {x m:Str} {p pos apos:Pos} {e o:Expr} {es:List Expr} {ta:TE} {t:TA}
theorem run_fn {pins:List (Addr × Obj)} {σ:St} {H:Hp} {s:Shared} {Q:VK} {us:List Value} {vs:List V} (F:FnOk X.prog X.w X.K X.mg X.base CX k f fd ps sp) (hr:Room k X.A) (hb:Binds X.K fd ps ds) (hd:Vals dvs ds) (hx:Passes CX X E)
  (I:Inv X pins σ H s) (r:Vals vs us) (h:sp (vs ++ dvs) H Q E):wpAny (model X.prog X.w) X.A (call (.ref f) us) (EP X pins σ Q) X.xe s:=by
 have r2:Vals (vs ++ dvs) (us ++ ds):=r.append hd
 have hl:(us ++ ds).length=ps.length:=by rw [← r2.length]; exact F.len _ _ _ _ h
 refine wpAny_call (codeAny_mono (F.run X.A X.stack s H ⟨us,[]⟩ (us ++ ds) (vs ++ dvs) Q E hr I.env0 (hb s us I.kIn hl) r2 h) fun r s' hq=>?_)
 cases r with
 | error e=>exact hx pins σ H s e s' I hq
 | ok fl =>
   cases fl with
   | ret u=>exact I.after hq
   | next=>exact False.elim hq
   | brk=>exact False.elim hq
   | cont=>exact False.elim hq
theorem pe_call (F:FnOk X.prog X.w X.K X.mg X.base CX k f fd ps sp) (hr:Room k X.A) (hg:Gl X x) (hm:X.mg x=some (.ref f)) (hk:PySem.W.keepIn X.K (.ref f)=true) (hb:Binds X.K fd ps ds) (hd:Vals dvs ds) (hx:Passes CX X E)
  (ha:PA X (e :: es) t) (hdb:(x == ("__debug__":Str))=false:=by decide) (he:starEach (e :: es) X.env=(false,eval e X.env) :: starEach es X.env:=by rfl) (hpl:(backTo pos (starEach es X.env)).any (·.1)=false:=by rfl) :
  PE X (.Call (.Name x p) (e :: es) [] pos) (tCall sp dvs E t):=by
 intro pins s σ H Q I h
 refine wpAny_Call_Name_kw (ld_glob I hg hm ?_ hdb)
 refine PySem.W.callWith_K (h₀:=X.base) I.ok.mod.kin hk (thn (ha pos pins s σ H _ I h) fun us s1 ⟨vs,H1,I1,r,q⟩=>⟨I1.kIn,?_⟩) he hpl
 exact run_fn F hr hb hd hx I1 r q
structure Mk (K:PySem.W.Frag) (C f:Addr):Prop where
 makes:PySem.W.makesIn K C=true
 init:PySem.W.findIn K (.ref C) "__init__"=some (some (.ref f))
 fn:PySem.W.isFn K (.ref f)=true
 kp:PySem.W.keepIn K (.ref C)=true
end
section
variable {X:Cx} {CX:CXT} {k:Nat} {f C:Addr} {fd:FuncData} {ps ks:List Str} {sp:Sp} {E:XK} {x m:Str} {p pos apos kpos:Pos} {e o:Expr} {es:List Expr} {kws:List Keyword} {te ta:TE} {t tk:TA} {nm:Option Str}
structure KBinds (K:PySem.W.Frag) (fd:FuncData) (ps ks:List Str) (g:List Value → List Value → List Value) (gV:List V → List V → List V):Prop where
 to:∀ (s:Shared) (us ws:List Value),K.In s.heap → (g us ws).length=ps.length → BindsTo s fd ⟨us,ks.zip ws⟩ (ps.zip (g us ws))
 rel:∀ {vs:List V} {us:List Value} {zs:List V} {ws:List Value},Vals vs us → Vals zs ws → Vals (gV vs zs) (g us ws)
variable {g:List Value → List Value → List Value} {gV:List V → List V → List V}
end
structure FnScope (N P:List Str) (sc:Scope):Prop where
 kind:sc.kind=.function
 co:sc.isCoroutine=false
 gen:sc.isGenerator=false
 nd:N.Nodup
 pre:N.take P.length=P
 par:∀ x ∈ P,sc.names.lookup x=some .local ∨ sc.names.lookup x=some .cell
 nofree:∀ y ∈ sc.names,y.2 ≠ .free
theorem bindL_out {kindOf:Str → Option NameKind} {x:Str}:∀ {binds:List (Str × Value)} {m:Str → Option Value},(∀ v,(x,v) ∉ binds) → bindL kindOf binds m x=m x
 | [],_,_=>rfl
 | (n,v) :: r,m,h=>by
   unfold bindL
   rw [bindL_out fun w hw=>h w (List.mem_cons_of_mem _ hw)]
   split
   ·have:x ≠ n:=by rintro rfl; exact h v List.mem_cons_self
    simp [this]
   ·rfl
theorem bindC_out {kindOf:Str → Option NameKind} {x:Str}:∀ {binds:List (Str × Value)} {m:Str → Option Value},(∀ v,(x,v) ∉ binds) → bindC kindOf binds m x=m x
 | [],_,_=>rfl
 | (n,v) :: r,m,h=>by
   unfold bindC
   rw [bindC_out fun w hw=>h w (List.mem_cons_of_mem _ hw)]
   split
   ·rfl
   ·have:x ≠ n:=by rintro rfl; exact h v List.mem_cons_self
    simp [this]
theorem bindL_get {kindOf:Str → Option NameKind} {x:Str} {v:Value}:∀ {P:List Str} {vs:List Value} {i:Nat} {m:Str → Option Value},P.Nodup → P[i]?=some x → vs[i]?=some v → kindOf x=some .local →
  bindL kindOf (P.zip vs) m x=some v
 | [],_,_,_,_,h,_,_=>by simp at h
 | _ :: _,[],_,_,_,_,h,_=>by simp at h
 | p :: P,w :: vs,0,m,nd,h1,h2,hk=>by
   simp at h1 h2; subst h1; subst h2
   show bindL kindOf ((p,w) :: P.zip vs) m p=_
   unfold bindL
   rw [bindL_out fun v hv=>(List.nodup_cons.mp nd).1 (List.of_mem_zip hv).1,if_pos hk]
   simp
 | p :: P,w :: vs,i + 1,m,nd,h1,h2,hk=>by
   show bindL kindOf ((p,w) :: P.zip vs) m x=_
   unfold bindL
   exact bindL_get (i:=i) (List.nodup_cons.mp nd).2 (by simpa using h1) (by simpa using h2) hk
theorem bindC_get {kindOf:Str → Option NameKind} {x:Str} {v:Value}:∀ {P:List Str} {vs:List Value} {i:Nat} {m:Str → Option Value},P.Nodup → P[i]?=some x → vs[i]?=some v → kindOf x ≠ some .local →
  bindC kindOf (P.zip vs) m x=some v
 | [],_,_,_,_,h,_,_=>by simp at h
 | _ :: _,[],_,_,_,_,h,_=>by simp at h
 | p :: P,w :: vs,0,m,nd,h1,h2,hk=>by
   simp at h1 h2; subst h1; subst h2
   show bindC kindOf ((p,w) :: P.zip vs) m p=_
   unfold bindC
   rw [bindC_out fun v hv=>(List.nodup_cons.mp nd).1 (List.of_mem_zip hv).1,if_neg hk]
   simp
 | p :: P,w :: vs,i + 1,m,nd,h1,h2,hk=>by
   show bindC kindOf ((p,w) :: P.zip vs) m x=_
   unfold bindC
   exact bindC_get (i:=i) (List.nodup_cons.mp nd).2 (by simpa using h1) (by simpa using h2) hk
def start (N:List Str) (vs:List V):St:=vs.map some ++ List.replicate (N.length - vs.length) none
def cxOf (CX:CXT) (P:Program) (w:World) (K:PySem.W.Frag) (mg:Str → Option Value) (base:Heap) (N:List Str) (qual:Str) (scope:Scope) (f:Addr) (cd:Value) (A:Around) (outer:List Env) (s:Shared) (H:Hp) (E:XK):Cx where
 prog:=P
 w:=w
 K:=K
 mg:=mg
 base:=base
 A:=A.deeper (envOfC qual scope s.heap.objs.size f cd)
 N:=N
 s₀:=s
 H₀:=H
 env:=envOfC qual scope s.heap.objs.size f cd
 outer:=outer
 stack:=envOfC qual scope s.heap.objs.size f cd :: outer
 ex:=[]
 calm:=true
 fn:=fun _=>true
 pn:=[]
 xe:=fun e s'=>wpAny (model P w) (A.deeper (envOfC qual scope s.heap.objs.size f cd)) (leaving (envOfC qual scope s.heap.objs.size f cd) e) (fun _ s''=>CX outer H s E e s'') (fun e' s''=>CX outer H s E e' s'') s'
theorem cell_has {sc:Scope} {n:Nat} {x:Str} (h:sc.names.lookup x=some .cell):∃ c,(cellsFrom n sc.names []).lookup x=some c:=by
 have q:=PySem.W.cellsFrom_some sc.names n [] (.inl h)
 exact Option.isSome_iff_exists.mp q
theorem inv_start {CX:CXT} {P:Program} {w:World} {K:PySem.W.Frag} {mg:Str → Option Value} {base:Heap} {N ps:List Str} {qual:Str} {scope:Scope} {f:Addr} {cd:Value} {A:Around} {outer:List Env} {s s1:Shared} {H:Hp} {E:XK} {us:List Value} {vs:List V}
  (S:FnScope N ps scope) (hd:A.handled=none) (e0:Env0 P w K mg base A outer s H) (hl:vs.length=ps.length) (r:Vals vs us)
  (x:InCallC s s.heap.objs.size (bindL (envOfC qual scope s.heap.objs.size f cd).kindOf (ps.zip us) fun _=>none) (cellsFrom (s.heap.objs.size + 1) scope.names []) (bindC (envOfC qual scope s.heap.objs.size f cd).kindOf (ps.zip us) fun _=>none) s1) :
  Inv (cxOf CX P w K mg base N qual scope f cd A outer s H E) [] (start N vs) H s1:=by
 have hpl:ps.length ≤ N.length:=by have:=congrArg List.length S.pre; rw [List.length_take] at this; omega
 obtain ⟨h1,tk,rfl,hk⟩:=x.done
 have noA:∀ b:Addr,b ∉ (cxOf CX P w K mg base N qual scope f cd A outer s H E).ex:=fun b z=>absurd (show b ∈ ([]:List Addr) from z) (by simp)
 refine ⟨⟨e0.mod,S.kind,rfl,rfl,Nat.le_refl _,fun y z c h1 h2=>?_,fun y hy=>?_,fun y c _ h=>?_,fun _=>hd,Around.frames_deeper e0.frames,.inr ⟨rfl,rfl⟩,fun b z=>absurd z (noA b),e0.bs,e0.bsz,fun b _ _=>noA b,fun b z=>absurd z (noA b),e0.funs,e0.frf⟩,
  rfl,e0.bare,Un.kept hk,⟨_,x.toInCall.ns,fun i y v h1 h2 h3=>?_⟩,fun y c h=>⟨_,x.cell y c h⟩,e0.hok.fresh (Nat.le_refl _),fun y c h=>?_,fun p hp=>absurd (show p ∈ ([]:List (Addr × Obj)) from hp) (by simp),e0.hok.kept hk,?_⟩
 ·exact name_of_addr x.apart (PySem.mem_of_lookup h1) (PySem.mem_of_lookup h2)
 ·have hy:scope.names.lookup y=some .cell ∨ scope.names.lookup y=some .free:=hy
  rcases hy with hy | hy
  ·exact cell_has hy
  ·exact absurd rfl (S.nofree _ (PySem.mem_of_lookup hy))
 ·exact Nat.le_of_lt (x.above y c (PySem.mem_of_lookup h))
 ·have hi:i < vs.length:=by
   unfold start at h2
   by_cases hi:i < vs.length
   ·exact hi
   ·rw [List.getElem?_append_right (by simpa using hi)] at h2
    rw [List.getElem?_replicate] at h2
    split at h2 <;> cases h2
  have ha:vs[i]?=some v:=by
   unfold start at h2
   rw [List.getElem?_append_left (by simpa using hi),List.getElem?_map] at h2
   cases e:vs[i]? with
   | none=>rw [e] at h2; cases h2
   | some a=>rw [e] at h2; cases h2; rfl
  obtain ⟨u,hu,rv⟩:=r.get ha
  have hp:ps[i]?=some y:=by
   rw [← S.pre,List.getElem?_take_of_lt (by omega)]; exact h1
  have ndP:ps.Nodup:=by rw [← S.pre]; exact S.nd.sublist (List.take_sublist _ _)
  refine ⟨u,rv,?_⟩
  rcases S.par y (List.mem_of_getElem? hp) with k | k
  ·exact .inl ⟨k,bindL_get ndP hp hu k⟩
  ·obtain ⟨c,e⟩:=cell_has (n:=s.heap.objs.size + 1) k
   refine .inr ⟨.inl k,c,e,?_⟩
   have q:=x.cell y c e
   rw [bindC_get ndP hp hu (by show scope.names.lookup y ≠ _; rw [k]; decide)] at q
   exact q
 ·exact e0.hok.fresh (Nat.le_of_lt (x.above y c (PySem.mem_of_lookup h)))
 ·unfold start
  show _=N.length
  rw [List.length_append,List.length_map,List.length_replicate]
  omega
theorem fn_of {CX:CXT} {P:Program} {w:World} {K:PySem.W.Frag} {mg:Str → Option Value} {base:Heap} {k:Nat} {f:Addr} {name qual:Str} {params:Arguments} {body:List Stmt} {scope:Scope} {dV kV doc pm cdv ct oc:Value} {an od:Option Addr}
  {osl:Array (Option Value)} {N ps:List Str} {sp:Sp} (lk:K.lookup f=some ⟨oc,od,.func (PySem.W.fnOf name qual params body scope dV kV doc pm an cdv ct),osl⟩) (hcd:PySem.W.codeIn K cdv qual=true) (S:FnScope N ps scope)
  (len:∀ vs H Q E,sp vs H Q E → vs.length=ps.length)
  (hbody:∀ (A:Around) (outer:List Env) (s:Shared) (H:Hp) (vs:List V) (Q:VK) (E:XK),Room k (A.deeper (envOfC qual scope s.heap.objs.size f cdv)) → sp vs H Q E →
   ∃ t,PSs (cxOf CX P w K mg base N qual scope f cdv A outer s H E) body t ∧ t { nx:=fun _ H'=>Q .non H',rt:=Q } (start N vs) H) :
  FnOk P w K mg base CX (k + 1) f (PySem.W.fnOf name qual params body scope dV kV doc pm an cdv ct) ps sp:=by
 refine ⟨len,fun A outer s H args us vs Q E hr e0 hb r hsp=>?_⟩
 have hl:=len _ _ _ _ hsp
 have KX:K.In s.heap:=e0.mod.kin.keeps fun b o e=>(e0.bs b o e).1
 have lim:s.heap.NoLimit:=e0.mod.nolimit.keeps fun b o e=>(e0.bs b o e).1
 have hkind:∀ y ∈ ps.zip us,scope.names.lookup y.1=some .local ∨ (scope.names.lookup y.1=some .cell ∧ ((cellsFrom (s.heap.objs.size + 1) scope.names []).lookup y.1).isSome=true):=fun ⟨n,v⟩ hy=>by
  rcases S.par n (List.of_mem_zip hy).1 with q | q
  ·exact .inl q
  ·exact .inr ⟨q,PySem.W.cellsFrom_some _ _ _ (.inl q)⟩
 refine codeAny_call_function hr.depth (KX _ _ lk) rfl S.co S.gen rfl (PySem.W.codeRec_of KX hcd) (hb _ _ _ _ ?_)
 refine wpAny_newFunctionEnv_cells S.kind hkind fun env he s1 x=>?_
 subst he
 refine ⟨lim.keeps x.toInCall.keep,codeAny_func ?_⟩
 obtain ⟨t,ht,hq⟩:=hbody A outer s H vs Q E (hr.deeper _) hsp
 have I:Inv (cxOf CX P w K mg base N qual scope f cdv A outer s H E) [] (start N vs) H s1:=inv_start S hr.hd e0 hl r x
 refine wpAny_mono (ht [] s1 (start N vs) H _ I hq) (fun fl s' hs=>?_) fun e s' hs=>hs
 have fin:∀ {σ':St} {H':Hp} {v:V} {u:Value},Inv (cxOf CX P w K mg base N qual scope f cdv A outer s H E) [] σ' H' s' → RelV v u → Q v H' → CE outer P w H s Q u s' :=
  fun {σ' H' v u} J rv q=>⟨v,H',J.os,J.bare,J.base,J.hok,rv,q⟩
 cases fl with
 | ret u =>
   obtain ⟨v,σ',H',J,rv,q⟩:=hs
   exact fin J rv q
 | next =>
   obtain ⟨σ',H',J,q⟩:=hs
   exact fin (v:=V.non) (u:=Value.none) J rfl q
 | brk =>
   obtain ⟨_,_,_,q⟩:=hs
   exact False.elim q
 | cont =>
   obtain ⟨_,_,_,q⟩:=hs
   exact False.elim q
end L2
namespace L2
open PySem PySem.Spec PyProof.Rows
section
variable {X:Cx} {x:Str} {p pos:Pos} {e:Expr} {es:List Expr} {t:TA} {id T:String} {r:List V → Hp → VK → Prop}
def tCB (r:List V → Hp → VK → Prop) (t:TA):TE:=fun σ H Q=>t σ H fun vs H1=>r vs H1 Q
theorem pe_callB (hc:CallR X (.builtin id) r) (hg:Gl X x) (hm:X.mg x=none) (hv:bootBuiltins x=some (.builtin id)) (ha:PA X (e :: es) t) (hn:x ≠ "__name__":=by decide) (hdb:(x == ("__debug__":Str))=false:=by decide)
  (he:starEach (e :: es) X.env=(false,eval e X.env) :: starEach es X.env:=by rfl) (hpl:(backTo pos (starEach es X.env)).any (·.1)=false:=by rfl):PE X (.Call (.Name x p) (e :: es) [] pos) (tCB r t):=by
 intro pins s σ H Q I h
 refine wpAny_Call_Name_kw (ld_blt I hg hm hv ?_ hn hdb)
 exact PyProof.Rows.callWith_builtin1 (thn (ha pos pins s σ H _ I h) fun us s1 ⟨vs,H1,I1,r1,q1⟩=>hc pins s1 σ H1 vs us Q I1 r1 q1) he hpl
theorem pe_callTy (hc:CallR X (.type T) r) (hg:Gl X x) (hm:X.mg x=none) (hv:bootBuiltins x=some (.type T)) (ha:PA X (e :: es) t) (hn:x ≠ "__name__":=by decide) (hdb:(x == ("__debug__":Str))=false:=by decide)
  (he:starEach (e :: es) X.env=(false,eval e X.env) :: starEach es X.env:=by rfl) (hpl:(backTo pos (starEach es X.env)).any (·.1)=false:=by rfl):PE X (.Call (.Name x p) (e :: es) [] pos) (tCB r t):=by
 intro pins s σ H Q I h
 refine wpAny_Call_Name_kw (ld_blt I hg hm hv ?_ hn hdb)
 exact PyProof.Rows.callWith_type1 (thn (ha pos pins s σ H _ I h) fun us s1 ⟨vs,H1,I1,r1,q1⟩=>hc pins s1 σ H1 vs us Q I1 r1 q1) he hpl
end
end L2
namespace HT
open PySem PyProof.Rows
section
open PySem.SeqAt
open PySem.AutoSeq1 (wpAny_loadPart')
open PySem.MeetsSeq PySem.MeetsSeq2 PySem.MeetsSeq3
end
section
variable {prog:Program} {w:World} {A:Around} {E:Value → Shared → Prop} {s:Shared}
theorem cat_tup {t b:Addr} {vs ws:List Value} {Q:Value → Shared → Prop} (ht:IsTup s.heap t vs.toArray) (hb:IsTup s.heap b ws.toArray) (hv:vs ≠ [])
  (h1:ws=[] → Q (.ref t) s) (h2:ws ≠ [] → Q (.ref s.heap.objs.size) { s with heap:=s.heap.push { cls:=.type "tuple",data:=.seq (vs ++ ws).toArray } })
  (hsz:vs.length + ws.length ≤ sizeLine):wpAny (model prog w) A (binaryOp .Add (.ref t) (.ref b)) Q E s:=by
 obtain ⟨⟨cls,dd,data,sl⟩,ho,hc,n,hd⟩:=id ht
 obtain ⟨⟨cls2,dd2,data2,sl2⟩,ho2,hc2,n2,hd2⟩:=id hb
 simp only at hc hd hc2 hd2
 subst hc hd hc2 hd2
 have e:vs.toArray ++ ws.toArray=(vs ++ ws).toArray:=by simp
 by_cases hw:ws=[]
 ·exact concat_meets ⟨_,ho,rfl⟩ ⟨_,ho2,rfl⟩ noFill_tuple_add seq_tuple_add PySem.F.slot_tuple_add PySem.F.entry_tuple_add (PySem.F.args_tuple_add_2 _ _)
   (tuple_addW1 t b vs.toArray ws.toArray n n2 dd dd2 sl sl2 (by simpa using hv) (by simp [hw])) ⟨ho,ho2,h1 hw⟩
 ·refine concat_meets ⟨_,ho,rfl⟩ ⟨_,ho2,rfl⟩ noFill_tuple_add seq_tuple_add PySem.F.slot_tuple_add PySem.F.entry_tuple_add (PySem.F.args_tuple_add_2 _ _)
   (tuple_addW2 t b vs.toArray ws.toArray n n2 dd dd2 sl sl2 (by simpa using hv) (by simpa using hw) (by rw [List.size_toArray,List.size_toArray]; exact hsz)) ⟨ho,ho2,?_⟩
  rw [e]
  exact h2 hw
def sIx (n d:Nat):Option Int → Nat
 | none=>d
 | some v=>if v < 0 then (v + (n:Int)).toNat else min v.toNat n
theorem sIx_none (n d:Nat):sIx n d none=d:=rfl
theorem sIx_nat (n d k:Nat):sIx n d (some (k:Int))=min k n:=by
 show (if (k:Int) < 0 then ((k:Int) + (n:Int)).toNat else min (k:Int).toNat n)=min k n
 rw [if_neg (by omega),Int.toNat_natCast]
theorem sIx_le (n d:Nat) (hd:d ≤ n) (o:Option Int):sIx n d o ≤ n:=by
 cases o with
 | none=>exact hd
 | some v =>
   show (if v < 0 then (v + (n:Int)).toNat else min v.toNat n) ≤ n
   by_cases hv:v < 0
   ·rw [if_pos hv]; omega
   ·rw [if_neg hv]; exact Nat.min_le_right _ _
theorem clip_eq (v:Int) (n d:Nat):(if v < 0 then max (v + (n:Int)) 0 else min v (n:Int))=((sIx n d (some v):Nat):Int):=by
 show (if v < 0 then max (v + (n:Int)) 0 else min v (n:Int))=(((if v < 0 then (v + (n:Int)).toNat else min v.toNat n):Nat):Int)
 by_cases hv:v < 0
 ·simp only [if_pos hv]; omega
 ·simp only [if_neg hv]; omega
theorem adjust_gen (lo hi:Option Int) (n:Nat):Builtin.Slice.sliceAdjust lo hi 1 (n:Int)=(((sIx n 0 lo:Nat):Int),((sIx n n hi:Nat):Int)):=by
 have h1:¬ ((1:Int) < 0):=by omega
 unfold Builtin.Slice.sliceAdjust
 simp only [h1,if_false]
 refine Prod.ext ?_ ?_
 ·cases lo with
  | none=>rfl
  | some v=>exact clip_eq v n 0
 ·cases hi with
  | none=>rfl
  | some v=>exact clip_eq v n n
theorem places_gen (i j:Nat):Builtin.Slice.slicePlaces (i:Int) (j:Int) 1=j - i:=by
 unfold Builtin.Slice.slicePlaces
 have h1:(1:Int) > 0:=by omega
 simp only [h1,if_true,Int.ediv_one]
 split <;> omega
theorem slicePart_ {v:Value} {o:Option Int} {Q:Option Int → Shared → Prop} (p:IsPart v o) (h:Q o s):wpAny (model prog w) A (Builtin.Slice.slicePartIndex v) Q E s:=by
 cases p with
 | none=>exact slicePart_none h
 | int i t=>exact slicePart_int h
theorem sliceApplied_gen {sl:Addr} {vl vu:Value} {lo hi:Option Int} {n:Nat} {Q:Int × Int × Nat → Shared → Prop} (hs:s.heap.IsSliceOf sl vl vu .none) (pl:IsPart vl lo) (pu:IsPart vu hi)
  (h:Q (((sIx n 0 lo:Nat):Int),1,sIx n n hi - sIx n 0 lo) s):wpAny (model prog w) A (Builtin.Slice.sliceApplied (.ref sl) (pure (n:Int))) Q E s:=by
 obtain ⟨os,hos,hcs,hds⟩:=id hs
 unfold Builtin.Slice.sliceApplied Builtin.Slice.sliceFields
 refine wpAny_bind (wpAny_bind (wpAny_field hos hds (x:=vl) rfl (wpAny_bind (wpAny_field hos hds (x:=vu) rfl (wpAny_bind (wpAny_field hos hds (x:=.none) rfl (wpAny_pure ?_)))))))
 refine wpAny_bind (slicePart_none ?_)
 show wpAny _ _ (if ((1:Int) == 0)=true then _ else _) _ _ s
 rw [if_neg (by decide)]
 refine wpAny_bind (slicePart_ pl (wpAny_bind (slicePart_ pu (wpAny_bind (wpAny_pure ?_)))))
 show wpAny _ _ (match Builtin.Slice.sliceAdjust lo hi 1 (n:Int) with | (lo,hi)=>pure (lo,(1:Int),Builtin.Slice.slicePlaces lo hi 1)) _ _ s
 rw [adjust_gen lo hi n]
 show wpAny _ _ (pure (((sIx n 0 lo:Nat):Int),(1:Int),Builtin.Slice.slicePlaces ((sIx n 0 lo:Nat):Int) ((sIx n n hi:Nat):Int) 1)) _ _ s
 rw [places_gen]
 exact wpAny_pure h
theorem pick_gen (xs:Array Value) (i k:Nat):((List.range k).filterMap fun (m:Nat)=>xs[((i:Int) + (m:Int) * 1).toNat]?).toArray=((xs.toList.drop i).take k).toArray:=by
 have e:(fun (m:Nat)=>xs[((i:Int) + (m:Int) * 1).toNat]?)=fun m=>xs[i + m]?:=by
  funext m
  have:((i:Int) + (m:Int) * 1).toNat=i + m:=by omega
  rw [this]
 rw [e]
 have:=pick_run xs i k
 rw [List.filterMap_map] at this
 have e2:((fun x=>xs[x]?) ∘ fun x=>i + x)=fun m=>xs[i + m]?:=rfl
 rw [e2] at this
 rw [this]
theorem getItem_tuple_cut {t sl:Addr} {items:Array Value} {vl vu:Value} {lo hi:Option Int} {Q:Value → Shared → Prop} (ht:IsTup s.heap t items) (hs:s.heap.IsSliceOf sl vl vu .none) (pl:IsPart vl lo) (pu:IsPart vu hi)
  (hw:¬ (sIx items.size 0 lo=0 ∧ sIx items.size items.size hi=items.size))
  (h:Q (.ref s.heap.objs.size) { s with heap:=s.heap.push { cls:=.type "tuple",data:=.seq ((items.toList.drop (sIx items.size 0 lo)).take (sIx items.size items.size hi - sIx items.size 0 lo)).toArray } })
  (hsz:items.size ≤ sizeLine):wpAny (model prog w) A (getItem (.ref t) (.ref sl)) Q E s:=by
 have htake:sizeOk (.seq ((items.toList.drop (sIx items.size 0 lo)).take (sIx items.size items.size hi - sIx items.size 0 lo)).toArray):=by
  show ((items.toList.drop (sIx items.size 0 lo)).take (sIx items.size items.size hi - sIx items.size 0 lo)).toArray.size ≤ sizeLine
  rw [List.size_toArray,List.length_take,List.length_drop,Array.length_toList]
  omega
 have hj:sIx items.size items.size hi ≤ items.size:=sIx_le _ _ (Nat.le_refl _) hi
 obtain ⟨os,hos,hcs,hds⟩:=id hs
 have hTs:s.TypeIs (.ref sl) "slice":=⟨os,hos,hcs⟩
 unfold getItem
 try with_reducible refine wpAny_holding ?_
 first | refine wpAny_bind (wpAny_pure ?_) | skip
 refine wpAny_bind (wpAny_sequenceKey ht.typeIs (by decide) ?_)
 refine wpAny_bind (wpAny_callSpecial?_slot (name:=Str.ofString "__getitem__") ht.typeIs PyProof.Rows.slot_tuple_getitem
  (wpAny_call_entry PyProof.Rows.slot_tuple_getitem ht.typeIs entry_tuple_getitem ?_ (args_tuple_getitem _ _)))
 show wpAny _ _ (Builtin.Tuple.tupleItemsOf (.ref t) >>= _) _ _ s
 refine wpAny_bind (tupleItemsOf_ ht ?_)
 refine wpAny_bind (wpAny_typeOf hTs ?_)
 rw [if_pos (by decide)]
 refine wpAny_bind (sliceApplied_gen hs pl pu ?_)
 have hno:¬ ((((sIx items.size 0 lo:Nat):Int) == 0 && (1:Int) == 1 && (sIx items.size items.size hi - sIx items.size 0 lo) == items.size)=true):=by
  intro q
  rw [Bool.and_eq_true,Bool.and_eq_true] at q
  have q1:((sIx items.size 0 lo:Nat):Int)=0:=eq_of_beq q.1.1
  have q2:sIx items.size items.size hi - sIx items.size 0 lo=items.size:=eq_of_beq q.2
  exact hw ⟨by omega,by omega⟩
 show wpAny _ _ (if (((sIx items.size 0 lo:Nat):Int) == 0 && (1:Int) == 1 && (sIx items.size items.size hi - sIx items.size 0 lo) == items.size)=true then _ else _) _ _ s
 rw [if_neg hno,pick_gen]
 first
  | exact wpAny_bind (m:=Builtin.Tuple.tupleExact _) (wpAny_newObj_type (wpAny_pure ⟨_,rfl,wpAny_pure h⟩) htake)
  | exact wpAny_bind (m:=Builtin.Tuple.tupleExact _) (wpAny_newObj_type (wpAny_bind (wpAny_pure (wpAny_pure ⟨_,rfl,wpAny_pure h⟩))) htake)
  | exact wpAny_bind (wpAny_bind (m:=Builtin.Tuple.tupleExact _) (wpAny_newObj_type (wpAny_pure (wpAny_pure ⟨_,rfl,wpAny_pure h⟩)) htake))
  | exact wpAny_bind (wpAny_bind (m:=Builtin.Tuple.tupleExact _) (wpAny_newObj_type (wpAny_pure ⟨_,rfl,wpAny_pure h⟩) htake))
end
end HT
namespace L2
open PySem PySem.Spec PyProof.Rows
abbrev TO:=St → Hp → (Option Int → Hp → Prop) → Prop
def PO (X:Cx) (e:Option Expr) (t:TO):Prop :=
 ∀ (pins:List (Addr × Obj)) (s:Shared) (σ:St) (H:Hp) (Q:Option Int → Hp → Prop),Inv X pins σ H s → t σ H Q →
   wpAny (model X.prog X.w) X.A (evalPart e X.env) (fun u s'=>∃ o H',Inv X pins σ H' s' ∧ IsPart u o ∧ Q o H') X.xe s
def tNoPart:TO:=fun _ H Q=>Q none H
def tPart (t:TE):TO:=fun σ H Q=>t σ H fun x H1=>∃ i,x=.int i ∧ Q (some i) H1
section
variable {X:Cx} {e:Expr} {te:TE} {lo hi:Option Expr} {tl th:TO} {pos p2:Pos}
theorem po_none:PO X none tNoPart:=by
 intro pins s σ H Q I h
 rw [evalPart_none]
 exact wpAny_pure ⟨none,H,I,.none,h⟩
theorem po_some (h:PE X e te):PO X (some e) (tPart te):=by
 intro pins s σ H Q I hw
 rw [evalPart_some]
 refine thn (h pins s σ H _ I hw) fun u s1 ⟨x,H1,I1,r1,q1⟩=>?_
 obtain ⟨i,rfl,q⟩:=q1
 obtain ⟨t,rfl⟩:=r1
 exact ⟨some i,H1,I1,.int i t,q⟩
def SlR (X:Cx) (r:V → Option Int → Option Int → Hp → VK → Prop):Prop :=
 ∀ (pins:List (Addr × Obj)) (s:Shared) (σ:St) (H:Hp) (x:V) (v vl vu:Value) (lo hi:Option Int) (sl:Addr) (Q:VK),Inv X pins σ H s → RelV x v → s.heap.IsSliceOf sl vl vu .none → IsPart vl lo → IsPart vu hi → r x lo hi H Q →
   ∃ T id,typeLookup (.type T) "__getitem__"=pure (some (.builtin id)) ∧ s.TypeIs v T ∧ wpAny (model X.prog X.w) X.A (getItem v (.ref sl)) (EP X pins σ Q) X.xe s
def tSl (r:V → Option Int → Option Int → Hp → VK → Prop) (te:TE) (tl th:TO):TE:=fun σ H Q=>te σ H fun x H1=>tl σ H1 fun l H2=>th σ H2 fun u H3=>r x l u H3 Q
theorem pe_slice {r:V → Option Int → Option Int → Hp → VK → Prop} (hr:SlR X r) (he:PE X e te) (hl:PO X lo tl) (hu:PO X hi th):PE X (.Subscript e (.Slice lo hi none p2) pos) (tSl r te tl th):=by
 intro pins s σ H Q I h
 refine Subscript_ (thn (he pins s σ H _ I h) fun v s1 ⟨x,H1,I1,r1,q1⟩=>?_)
 refine wpAny_Slice (thn (hl pins s1 σ H1 _ I1 q1) fun vl s2 ⟨l,H2,I2,pl,q2⟩=>thn (hu pins s2 σ H2 _ I2 q2) fun vu s3 ⟨u,H3,I3,pu,q3⟩=>?_)
 rw [evalPart_none]
 refine wpAny_pure ?_
 have I4:Inv X pins σ H3 { s3 with heap:=s3.heap.push { cls:=.type "slice",data:=.fields #[vl,vu,.none] } }:=I3.kept (t':=s3.toks) fun b ob q=>Heap.get?_push_of_some _ q
 obtain ⟨T,id,hT,ht,hg⟩:=hr pins { s3 with heap:=s3.heap.push { cls:=.type "slice",data:=.fields #[vl,vu,.none] } } σ H3 x v vl vu l u s3.heap.objs.size Q I4 r1 (Heap.IsSliceOf.new ..) pl pu q3
 show wpAny (model X.prog X.w) X.A (subscriptTail e (.Slice lo hi none p2) v (.ref s3.heap.objs.size)) (EP X pins σ Q) X.xe { s3 with heap:=s3.heap.push { cls:=.type "slice",data:=.fields #[vl,vu,.none] } }
 exact tail_any (ops:=[.ref s3.heap.objs.size,v]) ht hT hg (by with_unfolding_all rfl)
def cutV (xs:List V) (lo hi:Option Int):List V:=(xs.drop (HT.sIx xs.length 0 lo)).take (HT.sIx xs.length xs.length hi - HT.sIx xs.length 0 lo)
theorem cutV_length (xs:List V) (lo hi:Option Int):(cutV xs lo hi).length ≤ xs.length:=by
 unfold cutV
 rw [List.length_take,List.length_drop]
 omega
def rSlT (K:PySem.W.Frag):V → Option Int → Option Int → Hp → VK → Prop:=fun x lo hi H Q=>∃ a xs,x=.ref a ∧ SqT K H a xs ∧
 ¬ (HT.sIx xs.length 0 lo=0 ∧ HT.sIx xs.length xs.length hi=xs.length) ∧ ∀ p,H p=none → Q (.ref p) (upd H p (.tup (cutV xs lo hi)))
theorem sl_tup:SlR X (rSlT X.K):=by
 intro pins s σ H x v vl vu lo hi sl Q I rx hs pl pu h
 obtain ⟨a,xs,rfl,hx,hw,q⟩:=h
 cases rx
 obtain ⟨its,r,ht,hz⟩:=I.tuple hx
 have hlen:its.toArray.size=xs.length:=by rw [List.size_toArray]; exact r.length.symm
 refine ⟨"tuple",_,PyProof.Rows.slot_tuple_getitem.lookup,ht.typeIs,?_⟩
 refine HT.getItem_tuple_cut ht hs pl pu (by rw [hlen]; exact hw) ?_ (by rw [hlen]; exact hz)
 rw [hlen]
 refine ⟨.ref s.heap.objs.size,_,I.laid (t':=s.toks) (o:=.tup (cutV xs lo hi)) (fun b ob q=>Heap.get?_push_of_some _ q) (Nat.le_refl _) ?_,rfl,q _ (I.hok.fresh (Nat.le_refl _))⟩
 exact ⟨Nat.le_trans (cutV_length xs lo hi) hz,_,(r.drop (HT.sIx xs.length 0 lo)).take (HT.sIx xs.length xs.length hi - HT.sIx xs.length 0 lo),IsTup.new _ _⟩
end
end L2
namespace L2
open PySem PySem.Spec PyProof.Rows
def ixN (n:Nat) (i:Int):Option Nat:=if 0 ≤ i then (if i < n then some i.toNat else none) else if -(n:Int) ≤ i then some (i + n).toNat else none
def atI {α:Type} (xs:List α) (i:Int):Option α:=(ixN xs.length i).bind fun j=>xs[j]?
theorem ixN_seq {n:Nat} {i:Int} {j:Nat} (h:ixN n i=some j):seqIndex? i n=some j ∧ j < n ∧ -(n:Int) ≤ i ∧ i < n:=by
 unfold ixN at h
 by_cases h0:0 ≤ i
 ·rw [if_pos h0] at h
  by_cases h1:i < n
  ·rw [if_pos h1] at h
   have e:i.toNat=j:=Option.some.inj h
   exact ⟨by rw [seqIndex_of h0 h1,e],by omega,by omega,h1⟩
  ·rw [if_neg h1] at h; cases h
 ·rw [if_neg h0] at h
  by_cases h1:-(n:Int) ≤ i
  ·rw [if_pos h1] at h
   have e:(i + n).toNat=j:=Option.some.inj h
   exact ⟨by rw [seqIndex_neg (by omega) h1,e],by omega,h1,by omega⟩
  ·rw [if_neg h1] at h; cases h
theorem atI_get {α:Type} {xs:List α} {i:Int} {v:α} (h:atI xs i=some v):∃ j,seqIndex? i xs.length=some j ∧ xs[j]?=some v ∧ j < xs.length ∧ -(xs.length:Int) ≤ i ∧ i < xs.length:=by
 unfold atI at h
 cases e:ixN xs.length i with
 | none=>rw [e] at h; cases h
 | some j =>
   rw [e] at h
   obtain ⟨h1,h2,h3,h4⟩:=ixN_seq e
   exact ⟨j,h1,h,h2,h3,h4⟩
def PlainIx (b:Expr):Prop:=∀ o i,subscripted b false o i=operate [o,i] (getItem o i)
def IxR (X:Cx) (r:R2):Prop :=
 ∀ (value slice:Expr) (pins:List (Addr × Obj)) (s:Shared) (σ:St) (H:Hp) (x y:V) (v u:Value) (Q:VK),Inv X pins σ H s → RelV x v → RelV y u → r x y H Q →
   subscripted slice false v u=operate [v,u] (getItem v u) → wpAny (model X.prog X.w) X.A (subscriptTail value slice v u) (EP X pins σ Q) X.xe s
def MtR (X:Cx) (id:String) (r:V → List V → Hp → VK → Prop):Prop :=
 ∀ (pins:List (Addr × Obj)) (s:Shared) (σ:St) (H:Hp) (x:V) (xs:List V) (v:Value) (us:List Value) (Q:VK),Inv X pins σ H s → RelV x v → Vals xs us → r x xs H Q →
   wpAny (model X.prog X.w) X.A (call (.builtin id) (v :: us)) (EP X pins σ Q) X.xe s
section
variable {X:Cx} {a b:Expr} {ta tb:TE} {pos:Pos}
theorem IxR.or {r r':R2} (h:IxR X r) (h':IxR X r'):IxR X (fun x y H Q=>r x y H Q ∨ r' x y H Q):=by
 intro value slice pins s σ H x y v u Q I rx ry q hs
 rcases q with q | q
 ·exact h value slice pins s σ H x y v u Q I rx ry q hs
 ·exact h' value slice pins s σ H x y v u Q I rx ry q hs
theorem pe_ix {r:R2} (hr:IxR X r) (ha:PE X a ta) (hb:PE X b tb) (hs:PlainIx b):PE X (.Subscript a b pos) (tOp r ta tb):=by
 intro pins s σ H Q I h
 exact Subscript_ (binT ha hb I h fun v u s2 x y H2 I2 rx ry q=>hr a b pins s2 σ H2 x y v u Q I2 rx ry q (hs _ _))
def rIxL (K:PySem.W.Frag):R2:=fun x y H Q=>∃ p xs i v,x=.ref p ∧ y=.int i ∧ SqL K H p xs ∧ atI xs i=some v ∧ Q v H
def rIxT (K:PySem.W.Frag):R2:=fun x y H Q=>∃ p xs i v,x=.ref p ∧ y=.int i ∧ SqT K H p xs ∧ atI xs i=some v ∧ Q v H
def rIxS:R2:=fun x y H Q=>∃ z i c,x=.str z ∧ y=.int i ∧ z.length ≤ sizeLine ∧ atI z.cps.toList i=some c ∧ Q (.str ⟨#[c]⟩) H
theorem ix_list:IxR X (rIxL X.K):=by
 intro value slice pins s σ H x y v u Q I rx ry h hs
 obtain ⟨p,xs,i,z,rfl,rfl,hq,he,q⟩:=h
 cases rx
 obtain ⟨t,rfl⟩:=ry
 obtain ⟨its,r,pl,hz⟩:=I.list hq
 obtain ⟨j,h1,h2,h3,h4,h5⟩:=atI_get he
 obtain ⟨w,ew,rw'⟩:=r.get h2
 have hl:=r.length
 have hn:=line63
 have fin:EP X pins σ Q w s:=⟨z,H,I,rw',q⟩
 by_cases h0:0 ≤ i
 ·have hj:i.toNat=j:=by
   rw [seqIndex_of h0 h5] at h1
   exact Option.some.inj h1
  exact item_listR pl.isList h0 (by omega) (by rw [hj]; simpa using ew) fin hs
 ·have hj:(i + (its.toArray.size:Int)).toNat=j:=by
   rw [seqIndex_neg (by omega) h4] at h1
   rw [List.size_toArray,← hl]
   exact Option.some.inj h1
  exact subscriptTail_builtinR (x:=w) pl.isList.typeIs slot_list_getitem.lookup
   (wpAny_getItem_list_neg (Q:=fun r s'=>r=w ∧ EP X pins σ Q r s') pl.isList (by omega) (by rw [List.size_toArray] <;> omega) (by omega) (by rw [hj]; simpa using ew) ⟨rfl,fin⟩) hs
theorem ix_tup:IxR X (rIxT X.K):=by
 intro value slice pins s σ H x y v u Q I rx ry h hs
 obtain ⟨p,xs,i,z,rfl,rfl,hq,he,q⟩:=h
 cases rx
 obtain ⟨t,rfl⟩:=ry
 obtain ⟨its,r,pl,hz⟩:=I.tuple hq
 obtain ⟨j,h1,h2,h3,h4,h5⟩:=atI_get he
 obtain ⟨w,ew,rw'⟩:=r.get h2
 have hl:=r.length
 have hn:=line63
 have fin:EP X pins σ Q w s:=⟨z,H,I,rw',q⟩
 exact subscriptTail_builtinR (x:=w) pl.typeIs slot_tuple_getitem.lookup
  (getItem_tuple (j:=j) (Q:=fun r s'=>r=w ∧ EP X pins σ Q r s') pl (by omega) (by omega) (by rw [List.size_toArray,← hl]; exact h1) (by simpa using ew) ⟨rfl,fin⟩) hs
theorem ix_str:IxR X rIxS:=by
 intro value slice pins s σ H x y v u Q I rx ry h hs
 obtain ⟨z,i,c,rfl,rfl,hz,he,q⟩:=h
 obtain ⟨t,rfl⟩:=rx
 obtain ⟨t',rfl⟩:=ry
 obtain ⟨j,h1,h2,h3,h4,h5⟩:=atI_get he
 have hl:z.cps.toList.length=z.length:=by simp [Str.length]
 rw [hl] at h1 h4 h5
 have hn:=line63
 exact tail_any (typeIs_str s z t) slot_str_getitem.lookup (getItem_str (c:=c) (by
  have e1:decide (i < -(2 ^ 63:Int))=false:=decide_eq_false (by omega)
  have e2:decide (i ≥ 2 ^ 63)=false:=decide_eq_false (by omega)
  rw [e1,e2,Bool.or_false]) (by rw [h1]; simpa using h2) ⟨.str ⟨#[c]⟩,H,I.tok _,⟨_,rfl⟩,q⟩) hs
def rIx (K:PySem.W.Frag):R2:=fun x y H Q=>rIxL K x y H Q ∨ rIxT K x y H Q ∨ rIxS x y H Q
theorem ix_seq:IxR X (rIx X.K):=ix_list.or (ix_tup.or ix_str)
theorem slice_bounds (lo hi:Option Int) (n:Nat):(sliceBounds lo hi none n).1=((HT.sIx n 0 lo:Nat):Int) ∧ (sliceBounds lo hi none n).2.1=((HT.sIx n n hi:Nat):Int) ∧ (sliceBounds lo hi none n).2.2=1:=by
 refine ⟨?_,?_,rfl⟩
 ·cases lo with
  | none=>simp [sliceBounds,HT.sIx]
  | some i =>
    simp only [sliceBounds,HT.sIx,Option.getD_none,show (1:Int) > 0 by decide,if_true]
    by_cases h:i < 0
    ·simp only [h,if_true] <;> omega
    ·simp only [h,if_false] <;> omega
 ·cases hi with
  | none=>simp [sliceBounds,HT.sIx]
  | some i =>
    simp only [sliceBounds,HT.sIx,Option.getD_none,show (1:Int) > 0 by decide,if_true]
    by_cases h:i < 0
    ·simp only [h,if_true] <;> omega
    ·simp only [h,if_false] <;> omega
theorem slicePick_cut (its:List Value) (lo hi:Option Int):slicePick its.toArray lo hi none=((its.drop (HT.sIx its.length 0 lo)).take (HT.sIx its.length its.length hi - HT.sIx its.length 0 lo)).toArray:=by
 obtain ⟨h1,h2,h3⟩:=slice_bounds lo hi its.toArray.size
 unfold slicePick
 rw [h1,h2,h3]
 simp only [sliceRange_one,pick_run,List.size_toArray] <;> rfl
def rSlL (K:PySem.W.Frag):V → Option Int → Option Int → Hp → VK → Prop:=fun x lo hi H Q=>∃ a xs,x=.ref a ∧ SqL K H a xs ∧ ∀ p,H p=none → Q (.ref p) (upd H p (.lst (cutV xs lo hi)))
theorem sl_list:SlR X (rSlL X.K):=by
 intro pins s σ H x v vl vu lo hi sl Q I rx hs pl pu h
 obtain ⟨a,xs,rfl,hx,q⟩:=h
 cases rx
 obtain ⟨its,r,ht,hz⟩:=I.list hx
 have hlen:=r.length
 refine ⟨"list",_,slot_list_getitem.lookup,ht.isList.typeIs,?_⟩
 refine wpAny_getItem_list_slice ht.isList hs pl pu .none (by simp) ?_ (by rw [List.size_toArray] <;> omega)
 rw [slicePick_cut,← hlen]
 refine ⟨.ref s.heap.objs.size,_,I.laid (t':=s.toks) (o:=.lst (cutV xs lo hi)) (fun b ob q=>Heap.get?_push_of_some _ q) (Nat.le_refl _) ?_,rfl,q _ (I.hok.fresh (Nat.le_refl _))⟩
 exact ⟨Nat.le_trans (cutV_length xs lo hi) hz,_,0,(r.drop (HT.sIx xs.length 0 lo)).take (HT.sIx xs.length xs.length hi - HT.sIx xs.length 0 lo),Heap.get?_push_size _ rfl⟩
theorem call_len_seq:CallR X (.builtin "len") (fun xs H Q=>∃ p ys,xs=[.ref p] ∧ (SqL X.K H p ys ∨ SqT X.K H p ys) ∧ Q (.int ys.length) H):=by
 intro pins s σ H xs us Q I r h
 obtain ⟨p,ys,rfl,hq,q⟩:=h
 obtain ⟨u,rfl,rx⟩:=vals1 r
 cases rx
 have hn:=line63
 rcases hq with hq | hq
 ·obtain ⟨its,r',pl,hz⟩:=I.list hq
  have hlen:=r'.length
  exact Calls.call_len_list pl.isList (by simp only [List.size_toArray] <;> omega) ⟨.int ys.length,H,I.tok _,⟨s.toks + 1,by rw [List.size_toArray,hlen]⟩,q⟩
 ·obtain ⟨its,r',pl,hz⟩:=I.tuple hq
  have hlen:=r'.length
  exact len_tuple pl (by simp only [List.size_toArray] <;> omega) ⟨.int ys.length,H,I.tok _,⟨s.toks + 1,by rw [List.size_toArray,hlen]⟩,q⟩
theorem call_len_str:CallR X (.builtin "len") (fun xs H Q=>∃ z,xs=[.str z] ∧ z.length ≤ sizeLine ∧ Q (.int z.length) H):=by
 intro pins s σ H xs us Q I r h
 obtain ⟨z,rfl,hz,q⟩:=h
 obtain ⟨u,rfl,t,rfl⟩:=vals1 r
 have hn:=line63
 exact len_str (by omega) ⟨.int z.length,H,I.tok _,⟨_,rfl⟩,q⟩
theorem call_tuple_of:CallR X (.type "tuple") (fun xs H Q=>∃ p ys,xs=[.ref p] ∧ ((SqL X.K H p ys ∧ ∀ l,H l=none → Q (.ref l) (upd H l (.tup ys))) ∨ (SqT X.K H p ys ∧ Q (.ref p) H))):=by
 intro pins s σ H xs us Q I r h
 obtain ⟨p,ys,rfl,h⟩:=h
 obtain ⟨u,rfl,rx⟩:=vals1 r
 cases rx
 rcases h with ⟨hq,q⟩ | ⟨hq,q⟩
 ·obtain ⟨its,r',pl,hz⟩:=I.list hq
  have hlen:=r'.length
  refine call_tuple_list pl.isList (fun h' kp=>?_) (by simp only [List.size_toArray] <;> omega)
  have I1:Inv X pins σ H { s with heap:=h' }:=I.kept (t':=s.toks) kp
  have I2:Inv X pins σ (upd H h'.objs.size (.tup ys)) { s with heap:=h'.push { cls:=.type "tuple",data:=.seq its.toArray } } :=
   I1.laid (t':=s.toks) (fun b o e=>Heap.get?_push_of_some _ e) (Nat.le_refl _) (show ObjOk X.prog X.w _ _ _ (.tup ys) from ⟨hz,its,r',IsTup.new _ _⟩)
  exact ⟨.ref h'.objs.size,_,I2,rfl,q _ (I1.hok.fresh (Nat.le_refl _))⟩
 ·obtain ⟨its,r',pl,hz⟩:=I.tuple hq
  exact call_tuple_same pl ⟨.ref p,H,I,rfl,q⟩
def tyV (K:PySem.W.Frag) (T:String) (x:V) (H:Hp):Prop:=match x with
 | .str _=>T="str"
 | .int _=>T="int"
 | .ref p=>(T="list" ∧ ∃ xs,SqL K H p xs) ∨ (T="tuple" ∧ ∃ o,K.lookup p=some o ∧ o.cls=.type "tuple" ∧ o.dict=none) ∨
   (T="dict" ∧ ((∃ kvs,H p=some (.dK kvs)) ∨ ∃ kvs,H p=some (.dT kvs))) ∨ (T="set" ∧ ∃ S n,H p=some (.set S n))
 | _=>False
theorem tyV_is {pins:List (Addr × Obj)} {σ:St} {H:Hp} {s:Shared} {T:String} {x:V} {v:Value} (I:Inv X pins σ H s) (r:RelV x v) (ty:tyV X.K T x H) :
  s.TypeIs v T ∧ ∀ a,v=.ref a → ∃ ob,s.heap.get? a=some ob ∧ ob.dict=none:=by
 cases x with
 | str z =>
   obtain ⟨t,rfl⟩:=r
   cases (show T="str" from ty)
   exact ⟨typeIs_str s z t,fun _ e=>nomatch e⟩
 | int i =>
   obtain ⟨t,rfl⟩:=r
   cases (show T="int" from ty)
   exact ⟨typeIs_int s i t,fun _ e=>nomatch e⟩
 | ref p =>
   cases r
   rcases ty with ⟨rfl,xs,hq⟩ | ⟨rfl,o,hk,hc,hd⟩ | ⟨rfl,hk⟩ | ⟨rfl,S,n,hk⟩
   ·obtain ⟨its,_,pl,_⟩:=I.list hq
    refine ⟨pl.isList.typeIs,fun a e=>?_⟩
    cases e
    obtain ⟨o,n,e,c,hd,_⟩:=pl
    exact ⟨o,e,hd⟩
   ·refine ⟨⟨o,I.kIn p o hk,hc⟩,fun a e=>?_⟩
    cases e
    exact ⟨o,I.kIn _ o hk,hd⟩
   ·have z:∃ o,s.heap.get? p=some o ∧ o.ExactDict:=by
     rcases hk with ⟨kvs,hk⟩ | ⟨kvs,hk⟩
     ·obtain ⟨_,_,_,_,o,_,_,e,ex,_⟩:=I.hok p _ hk
      exact ⟨o,e,ex⟩
     ·obtain ⟨_,_,_,_,o,_,_,e,ex,_⟩:=I.hok p _ hk
      exact ⟨o,e,ex⟩
    obtain ⟨o,e,ex⟩:=z
    refine ⟨⟨o,e,ex.1⟩,fun a e2=>?_⟩
    cases e2
    exact ⟨o,e,ex.2.1⟩
   ·obtain ⟨o,_,_,_,e,ex,_⟩:=I.hok p _ hk
    refine ⟨⟨o,e,ex.1⟩,fun a e2=>?_⟩
    cases e2
    exact ⟨o,e,ex.2.1⟩
 | _=>exact False.elim ty
def tBM (K:PySem.W.Frag) (T:String) (r:V → List V → Hp → VK → Prop) (to:TE) (t:TA):TE:=fun σ H Q=>to σ H fun x H1=>tyV K T x H1 ∧ t σ H1 fun xs H2=>r x xs H2 Q
variable {o e:Expr} {es:List Expr} {to:TE} {t:TA} {name:Str} {apos cpos:Pos} {T id:String} {r:V → List V → Hp → VK → Prop}
theorem pe_bm (pa:PlainAttrs T) (slot:Slot T name id) (hty:typeOf (.builtin id)=pure (.type "method_descriptor")) (hm:MtR X id r) (ho:PE X o to) (ha:PA X (e :: es) t)
  (hbase:attributeBase o name X.env (eval o X.env)=eval o X.env:=by rfl)
  (hfew:((backTo cpos (starEach (e :: es) X.env)).all (fun x=>!x.1) && (backToKw cpos (keywordEach [] X.env)).all (fun x=>x.1.isSome)
   && decide ((e :: es).length + ([]:List Keyword).length + (if ([]:List Keyword).isEmpty then 0 else 1) < 30))=true:=by rfl)
  (hline:(apos.endLine == cpos.line)=true:=by rfl) (hs:starEach (e :: es) X.env=(false,eval e X.env) :: starEach es X.env:=by rfl) (hplain:(backTo cpos (starEach es X.env)).any (·.1)=false:=by rfl) :
  PE X (.Call (.Attribute o name apos) (e :: es) [] cpos) (tBM X.K T r to t):=by
 intro pins s σ H Q I h
 refine wpAny_Call_method_late hbase hfew hline rfl (thn (ho pins s σ H _ I h) fun v s1 ⟨x,H1,I1,r1,ty,q1⟩=>?_)
 obtain ⟨h1,h2⟩:=tyV_is I1 r1 ty
 refine ⟨T,id,pa,slot,hty,h1,h2,?_⟩
 have hA:=ha cpos pins s1 σ H1 _ I1 q1
 rw [hs] at hA ⊢
 refine Calls.callWith_builtin (by show (false || (backTo cpos (starEach es X.env)).any (·.1))=false; rw [hplain] <;> rfl) (Calls.evalArgs_plain ?_)
 exact thn hA fun us s2 ⟨vs,H2,I2,r2,q2⟩=>hm pins s2 σ H2 x vs v us Q I2 r1 r2 q2
end
end L2
namespace L2
open PySem PySem.Spec PyProof.Rows
def MtM (X:Cx) (id:String) (r:V → List V → Hp → VK → Prop):Prop :=
 ∀ (pins:List (Addr × Obj)) (s:Shared) (σ:St) (H:Hp) (x:V) (xs:List V) (v:Value) (us:List Value) (Q:VK),Inv X pins σ H s → RelV x v → Vals xs us → r x xs H Q →
   wpAny (model X.prog X.w) X.A (call (.builtin id) (v :: us)) (EP X pins σ Q) X.xe s
theorem Vals.one:∀ {x:V} {us:List Value},Vals [x] us → ∃ u,us=[u] ∧ RelV x u
 | _,_,.cons r .nil=>⟨_,rfl,r⟩
theorem Vals.rep {xs:List V} {us:List Value} (h:Vals xs us):∀ k:Nat,Vals (List.replicate k xs).flatten (List.replicate k us).flatten
 | 0=>.nil
 | k + 1=>by
   rw [List.replicate_succ,List.replicate_succ,List.flatten_cons,List.flatten_cons]
   exact Vals.append h (Vals.rep h k)
theorem foldl_rep (its:List Value):∀ (k:Nat) (acc:List Value),
  List.foldl (fun x1 x2=>x1 ++ x2) acc.toArray (List.replicate k its.toArray)=(acc ++ (List.replicate k its).flatten).toArray
 | 0,acc=>by simp
 | k + 1,acc=>by
   have e:acc.toArray ++ its.toArray=(acc ++ its).toArray:=by simp
   have e2:(acc ++ its) ++ (List.replicate k its).flatten=acc ++ (List.replicate (k + 1) its).flatten:=by
    rw [List.replicate_succ,List.flatten_cons,List.append_assoc]
   rw [← e2,← foldl_rep its k (acc ++ its),← e,List.replicate_succ,List.foldl_cons]
section
variable {X:Cx} {pins:List (Addr × Obj)} {σ:St} {H:Hp} {s:Shared} {l b:Addr} {xs ys zs:List V}
theorem Inv.lset {its its':List Value} {n:Nat} {f:Array Value → Array Value} {t':Nat} (I:Inv X pins σ H s) (hH:H l=some (.lst xs))
  (e:s.heap.get? l=some { cls:=.type "list",data:=.seq its.toArray n }) (hf:f its.toArray=its'.toArray) (hv:Vals ys its') (hz:ys.length ≤ sizeLine) :
  Inv X pins σ (upd H l (.lst ys)) { s with heap:=s.heap.update l (Obj.mapSeq f),toks:=t' }:=by
 have q:=PySem.IsL.update e f
 rw [hf] at q
 refine I.write (x:=l) (e:=l) (by rw [hH]; exact trivial) (.inl rfl) (fun b' u hb hu=>(Heap.get?_update_other s.heap (Obj.mapSeq f) (Ne.symm hb)).trans hu) ⟨_,q⟩ ?_
 exact ⟨hz,its',_,hv,q⟩
theorem Inv.lnew {its:List Value} {t':Nat} (I:Inv X pins σ H s) (hv:Vals ys its) (hz:ys.length ≤ sizeLine) :
  Inv X pins σ (upd H s.heap.objs.size (.lst ys)) { s with heap:=s.heap.push { cls:=.type "list",data:=.seq its.toArray },toks:=t' } :=
 I.laid (fun _ _ q=>Heap.get?_push_of_some _ q) (Nat.le_refl _) ⟨hz,its,0,hv,Heap.get?_push_size _ rfl⟩
theorem Inv.fresh (I:Inv X pins σ H s):H s.heap.objs.size=none:=I.hok.fresh (Nat.le_refl _)
theorem Inv.lstM (I:Inv X pins σ H s) (hH:H l=some (.lst xs)):xs.length ≤ sizeLine ∧ ∃ (its:List Value) (n:Nat),Vals xs its ∧ xs.length=its.length ∧ s.heap.get? l=some { cls:=.type "list",data:=.seq its.toArray n }:=by
 obtain ⟨z,its,n,r,e⟩:=I.hok l _ hH
 exact ⟨z,its,n,r,r.length,e⟩
end
section
variable {X:Cx}
def rAppend:V → List V → Hp → VK → Prop:=fun x vs H Q=>∃ l xs y,x=.ref l ∧ vs=[y] ∧ H l=some (.lst xs) ∧ xs.length < sizeLine ∧ Q .non (upd H l (.lst (xs ++ [y])))
theorem mt_append:MtM X "list.append" rAppend:=by
 intro pins s σ H x vs v us Q I rx rv h
 obtain ⟨l,xs,y,rfl,rfl,hH,hz,q⟩:=h
 cases rx
 obtain ⟨u,rfl,ru⟩:=rv.one
 obtain ⟨z,its,n,r,hl,e⟩:=I.lstM hH
 refine call_meets F.slot_list_append ⟨_,e,rfl⟩ F.entry_list_append (F.args_list_append_2 _ _) (PySem.list_append l its.toArray n u (by rw [List.size_toArray]; omega)) ⟨e,?_⟩
 refine ⟨.non,_,I.lset (its':=its ++ [u]) hH e (by simp) (r.append (.cons ru .nil)) ?_,rfl,q⟩
 rw [List.length_append,List.length_singleton]
 omega
theorem len_rep {α:Type} (xs:List α) (k:Nat):(List.replicate k xs).flatten.length=k * xs.length:=by
 induction k with
 | zero=>simp
 | succ k ih=>rw [List.replicate_succ,List.flatten_cons,List.length_append,ih,Nat.succ_mul,Nat.add_comm]
end
section
variable {prog:Program} {w:World} {A:Around} {E:Value → Shared → Prop} {s:Shared}
end
section
variable {X:Cx}
end
end L2
namespace Att
open PySem PySem.W PySem.Calls PyProof.Rows
theorem ints_of_wellAll {P:Params} {h:Heap}:∀ (ns:List Int) (vs:List Value),WellAll P h vs (ns.map WData.int) → IntsAre vs ns:=by
 intro ns
 induction ns with
 | nil =>
   intro vs w
   rw [List.map_nil] at w
   cases w
   exact .nil
 | cons n ns ih =>
   intro vs w
   rw [List.map_cons] at w
   cases w with
   | cons a b =>
     cases a
     exact .cons _ _ (ih _ b)
theorem script_of {l:OpenLaw} {n:Nat} (hn:l.most=some n) {P:Params} {h:Heap} {args:List WData} {vals:List Value}
  (hpre:l.row.toRowW.claim.pre args=true) (hwl:WellAll P h vals args) :
  ∃ a vs ns,vals=[Value.ref a] ∧ args=[WData.list (ns.map WData.int)] ∧ h.get? a=some { cls:=.type "list",data:=.seq vs.toArray } ∧ IntsAre vs ns ∧ ns.length ≤ n:=by
 have hsh:WShape.hasAll [] args [.list .int]=true:=(pre_splitW hpre).1
 have hc:l.pre.holds [] { args:=args }=true:=(pre_splitW hpre).2
 obtain ⟨d,r,rfl,h1,h2⟩:=hasAllW_cons hsh
 obtain rfl:=hasAllW_nil h2
 obtain ⟨xs,rfl,h3⟩:=hasW_list h1
 obtain ⟨ns,rfl⟩:=items_int h3
 have hlen:ns.length ≤ n:=by
  unfold OpenLaw.pre at hc
  have h4:(WTm.not (.lt (.lit (.int (n:Int))) (.len (.arg 0)))).holds [] { args:=[.list (ns.map .int)] }=true:=by
   have h4:=(holds_andW hc).1
   rw [hn] at h4
   exact h4
  have h5:=condW_of h4 (w_not (w_lt w_lit (w_len_list (w_arg rfl))))
  rw [List.length_map] at h5
  refine Nat.le_of_not_lt fun q=>?_
  have q':(n:Int) < ((ns.length:Nat):Int):=by omega
  first
   | (rw [decide_eq_true q'] at h5; exact absurd h5 (by decide))
   | (simp at h5; omega)
 cases hwl with
 | cons w1 w2 =>
   cases w2
   cases w1 with
   | list ho hall=>exact ⟨_,_,ns,rfl,rfl,ho,ints_of_wellAll ns _ hall,hlen⟩
theorem post_true (l:OpenLaw) (args:List WData):l.row.toRowW.claim.post args (.bool true) args=true :=
 postW_of (r:=l.row.toRowW) (X:=(true == true))
  (show WShape.has [] (.bool true) .bool=true by first | rfl | decide | simp [WShape.has,WShape.arms,WShape.armsAll])
  (show (WTm.eq .res (.lit (.bool true))).value [] { args:=args,res:=some (.bool true),after:=args }=some (.bool (true == true)) from w_eq_bool (w_res rfl) w_lit) rfl
theorem attach_call {l:OpenLaw} {n:Nat} {q:Program} {loose:List Str} {XP:(Str → Option Value) → Heap → Prop} {YP:World → Heap → Prop} {d:DefRec}
  (hn:l.most=some n) (hdf:d.params.defaults=[])
  (call:∀ (w:World) (s₀ s₁:Shared) (mg mb:Str → Option Value) (fa:Addr) (o:Obj) (pm cd doc:Value) (a:Addr) (vs:List Value) (ns:List Int),
   Ground q loose [] XP w s₀ mg mb s₁.heap → YP w s₁.heap →
   s₁.heap.get? fa=some o → o.data=.func (docDef d.name d.params d.body d.scope pm cd doc) → s₁.heap.CodeRec cd d.name → mg d.name=some (.ref fa) →
   s₁.heap.get? a=some { cls:=.type "list",data:=.seq vs.toArray } → IntsAre vs ns → ns.length ≤ n → s₁.gens=#[] →
   codeAny (model l.prog w) callerA (.call (.ref fa) ⟨[.ref a],[]⟩) (fun r s'=>r=.ok (.ret (.bool true)) ∧ OldK s₁.heap s'.heap ∧ s'.os=s₁.os ∧ AllBare s'.gens) s₁) :
  WalkO q loose XP YP l.row.toRowW d [] (fun f vs=>PySem.call f vs):=by
 intro w s₀ s₁ mg mb G Y fa o pm cd doc dV kV ho hd hcd hD hmg hg args vals as hpre hlay hrd hwl hlo
 obtain rfl:dV=.none:=Dflts.none hD hdf
 obtain rfl:kV=.none:=Dflts.noKw hD
 obtain ⟨a,vs,ns,rfl,rfl,hobj,hints,hlen⟩:=script_of hn hpre hwl
 refine enter_call (codeAny_mono (call w s₀ s₁ mg mb fa o pm cd doc a vs ns G Y ho (fd_plain hd) hcd hmg hobj hints hlen hg) fun r s' hq=>?_)
 obtain ⟨rfl,h2,h3,h4⟩:=hq
 exact ⟨.inl ⟨.bool true,.bool true,[],rfl,fun _=>rfl,.bool true,post_true l _,fun _=>⟨List.Pairwise.nil,fun _ hm=>(nomatch hm)⟩⟩,h2,h3,h4⟩
section
variable {prog:Program} {w:World} {A:Around} {E:Value → Shared → Prop} {s:Shared} {K:Frag}
end
end Att
namespace L2
open PySem PySem.Spec PyProof.Rows
theorem vals_ints:∀ {vs:List Value} {ns:List Int},IntsAre vs ns → Vals (ns.map V.int) vs
 | _,_,.nil=>.nil
 | _,_,.cons n t h=>.cons ⟨t,rfl⟩ (vals_ints h)
def Only (H:Hp):Prop:=∀ b,H b=none ∨ ∃ o xs,H b=some (.frz o (.lst xs))
theorem law_call {P:Program} {w:World} {K:PySem.W.Frag} {mg mb:Str → Option Value} {CX:CXT} {k:Nat} {fa a:Addr} {fd:FuncData} {x:Str} {sp:Sp} {s₁:Shared} {vs:List Value} {ns:List Int}
  (KX:K.In s₁.heap) (hns:s₁.heap.Ns mainGlobals mg) (hb:s₁.heap.Ns builtinsNs mb) (hbb:∀ x:Str,x ≠ "__name__" → mb x=bootBuiltins x) (hlim:s₁.heap.NoLimit) (hg:s₁.gens=#[])
  (ha:s₁.heap.get? a=some { cls:=.type "list",data:=.seq vs.toArray }) (hi:IntsAre vs ns) (hl:ns.length ≤ sizeLine) (hr:Room k callerA)
  (F:∀ base:Heap,K.In base → base.Ns mainGlobals mg → FnOk P w K mg base CX k fa fd [x] sp) (hbind:∀ (s:Shared) (u:Value),BindsTo s fd ⟨[u],[]⟩ [(x,u)])
  (hsp:∀ H:Hp,Only H → SqL K H a (ns.map V.int) → sp [.ref a] H (fun v _=>v=.bl true) fun _ _ _=>False)
  (hCX:∀ H e s',CX [] H s₁ (fun _ _ _=>False) e s' → False) :
  codeAny (model P w) callerA (.call (.ref fa) ⟨[.ref a],[]⟩) (fun r s'=>r=.ok (.ret (.bool true)) ∧ OldK s₁.heap s'.heap ∧ s'.os=s₁.os ∧ AllBare s'.gens) s₁:=by
 have rv:=vals_ints hi
 have lenV:=hi.length
 have core:∀ H:Hp,Only H → SqL K H a (ns.map V.int) → HOk P w H s₁.heap → (∀ b,H b ≠ none → b=a) → (H a ≠ none → K.lookup a=none) →
   codeAny (model P w) callerA (.call (.ref fa) ⟨[.ref a],[]⟩) (fun r s'=>r=.ok (.ret (.bool true)) ∧ OldK s₁.heap s'.heap ∧ s'.os=s₁.os ∧ AllBare s'.gens) s₁:=by
  intro H hO hS hok hA hK
  have base_of:∀ {b:Addr} {o:Obj},s₁.heap.get? b=some o → H b=none → (hidT s₁.heap H).get? b=some o:=fun e n=>hidT_get e n
  have noA:∀ {b:Addr} {o:Obj} {es:Array DictEntry} {ep:Nat},s₁.heap.get? b=some o → o.data=.dict es ep → H b=none:=fun {b o es ep} e d=>by
   cases q:H b with
   | none=>rfl
   | some u =>
     have e':b=a:=hA b (by rw [q]; simp)
     subst e'
     rw [ha] at e; cases e
     have d':Data.seq vs.toArray _=Data.dict es ep:=d
     cases d'
  have nsK:∀ {b:Addr} {m:Str → Option Value},s₁.heap.Ns b m → (hidT s₁.heap H).Ns b m:=fun {b m} ⟨o,es,ep,e,d,r⟩=>⟨o,es,ep,base_of e (noA e d),d,r⟩
  have hKb:K.In (hidT s₁.heap H):=fun b o e=>base_of (KX b o e) (by
   cases q:H b with
   | none=>rfl
   | some u =>
     have e':b=a:=hA b (by rw [q]; simp)
     subst e'
     rw [hK (by rw [q]; simp)] at e; cases e)
  have hM:Mod K mg (hidT s₁.heap H):=⟨hKb,nsK hns,⟨mb,nsK hb,hbb⟩,let ⟨mc,h1,h2⟩:=hlim; ⟨mc,nsK h1,h2⟩⟩
  have e0:Env0 P w K mg (hidT s₁.heap H) callerA [] s₁ H:=⟨rfl,hM,fun b o e=>of_hidT e,Nat.le_of_eq (hidT_size _ _),trivial,fun b hb=>absurd (show b ∈ ([]:List Addr) from hb) (by simp),hok,.of_eq hg⟩
  refine codeAny_mono ((F _ hKb (nsK hns)).run callerA [] s₁ H ⟨[.ref a],[]⟩ [.ref a] [.ref a] _ _ hr e0 (hbind s₁ (.ref a)) (.cons rfl .nil) (hsp H hO hS)) fun r s' h=>?_
  cases r with
  | error e=>exact (hCX H e s' h).elim
  | ok fl =>
    cases fl with
    | next=>exact False.elim h
    | brk=>exact False.elim h
    | cont=>exact False.elim h
    | ret u =>
      obtain ⟨v,H',os,bare,un,hok',r',q⟩:=h
      have q':v=.bl true:=q
      subst q'
      obtain rfl:u=Value.bool true:=r'
      refine ⟨rfl,OldK.of_keep fun b o e=>?_,os,bare⟩
      cases q:H b with
      | none=>exact un.keep b o e q (by intro z; exact absurd (show b ∈ ([]:List Addr) from z) (by simp)) (by simp)
      | some u =>
        rcases hO b with z | ⟨ob,xs,z⟩
        ·rw [q] at z; cases z
        ·have z2:=un.frzs b ob _ z
         obtain ⟨e1,_⟩:=hok b _ z
         obtain ⟨e2,_⟩:=hok' b _ z2
         rw [e] at e1; cases e1
         exact e2
 cases hk:K.lookup a with
 | some o =>
   have e:=KX a o hk
   rw [ha] at e
   cases e
   refine core (fun _=>none) (fun _=>.inl rfl) (.inr ⟨_,vs.toArray,_,hk,rfl,rfl,rfl,by rw [List.size_toArray,lenV]; exact hl,by simpa using rv⟩) (fun b u z=>by have z':(none:Option HO)=some u:=z; cases z') (fun b z=>absurd rfl z) fun z=>absurd rfl z
 | none =>
   refine core (fun b=>if b=a then some (.frz { cls:=.type "list",data:=.seq vs.toArray } (.lst (ns.map V.int))) else none) (fun b=>?_) (.inl (.inr ⟨{ cls:=.type "list",data:=.seq vs.toArray },if_pos rfl⟩)) (fun b u z=>?_) (fun b z=>?_) fun _=>hk
   ·by_cases hb:b=a
    ·exact .inr ⟨_,_,if_pos hb⟩
    ·exact .inl (if_neg hb)
   ·by_cases hb:b=a
    ·have z':=(if_pos hb).symm.trans z
     cases z'
     subst hb
     exact ⟨ha,by rw [List.length_map]; exact hl,vs,_,rv,ha⟩
    ·have z':=(if_neg hb).symm.trans z
     cases z'
   ·by_cases hb:b=a
    ·exact hb
    ·exact absurd (if_neg hb) z
end L2
namespace L2
open PySem PySem.Spec PyProof.Rows
theorem walk_of {l:PySem.W.OpenLaw} {n k:Nat} {q:Program} {loose:List Str} {XP:(Str → Option Value) → Heap → Prop} {YP:World → Heap → Prop} {d:DefRec} {K:Params → PySem.W.Frag} {CX:World → CXT} {sp:World → Sp} {x:Str}
  (hn:l.most=some n) (hn2:n ≤ sizeLine) (hdf:d.params.defaults=[]) (hr:Room k callerA)
  (hY:∀ (w:World) (h:Heap),YP w h → (K w.params).In h)
  (F:∀ (w:World) (mg:Str → Option Value) (fa:Addr) (h:Heap),(K w.params).In h → h.Ns mainGlobals mg → mg d.name=some (.ref fa) →
   ∃ fd:FuncData,(∀ (s:Shared) (u:Value),BindsTo s fd ⟨[u],[]⟩ [(x,u)]) ∧
     ∀ base:Heap,(K w.params).In base → base.Ns mainGlobals mg → FnOk l.prog w (K w.params) mg base (CX w) k fa fd [x] (sp w))
  (hsp:∀ (w:World) (H:Hp) (a:Addr) (ns:List Int),ns.length ≤ n → Only H → SqL (K w.params) H a (ns.map V.int) → sp w [.ref a] H (fun v _=>v=.bl true) fun _ _ _=>False)
  (hCX:∀ (w:World) (H:Hp) (s:Shared) (e:Value) (s':Shared),CX w [] H s (fun _ _ _=>False) e s' → False) :
  PySem.W.WalkO q loose XP YP l.row.toRowW d [] (fun f vs=>PySem.call f vs):=by
 refine Att.attach_call hn hdf fun w s₀ s₁ mg mb fa o pm cd doc a vs ns G Y ho hd hcd hmg hobj hints hlen hg=>?_
 have KX:=hY w _ Y
 obtain ⟨fd,hb,hF⟩:=F w mg fa _ KX G.T.g hmg
 exact law_call KX G.T.g G.T.b G.T.builtins G.T.nolimit hg hobj hints (Nat.le_trans hlen hn2) hr hF hb (fun H hO hS=>hsp w H a ns hlen hO hS) fun H e s'=>hCX w H s₁ e s'
theorem walk_ofK {l:PySem.W.OpenLaw} {n k:Nat} {q:Program} {loose:List Str} {XP:(Str → Option Value) → Heap → Prop} {YP:World → Heap → Prop} {d:DefRec} {K:Params → PySem.W.Frag} {CX:CXT} {sp:PySem.W.Frag → Sp} {x:Str}
  (hn:l.most=some n) (hn2:n ≤ sizeLine) (hdf:d.params.defaults=[]) (hr:Room k callerA)
  (hY:∀ (w:World) (h:Heap),YP w h → (K w.params).In h)
  (F:∀ (w:World) (mg:Str → Option Value) (fa:Addr) (h:Heap),(K w.params).In h → h.Ns mainGlobals mg → mg d.name=some (.ref fa) →
   ∃ fd:FuncData,(∀ (s:Shared) (u:Value),BindsTo s fd ⟨[u],[]⟩ [(x,u)]) ∧
     ∀ base:Heap,(K w.params).In base → base.Ns mainGlobals mg → FnOk l.prog w (K w.params) mg base CX k fa fd [x] (sp (K w.params)))
  (hsp:∀ (K:PySem.W.Frag) (H:Hp) (a:Addr) (ns:List Int),ns.length ≤ n → Only H → SqL K H a (ns.map V.int) → sp K [.ref a] H (fun v _=>v=.bl true) fun _ _ _=>False)
  (hCX:∀ (H:Hp) (s:Shared) (e:Value) (s':Shared),CX [] H s (fun _ _ _=>False) e s' → False) :
  PySem.W.WalkO q loose XP YP l.row.toRowW d [] (fun f vs=>PySem.call f vs) :=
 walk_of (K:=K) (CX:=fun _=>CX) (sp:=fun w=>sp (K w.params)) hn hn2 hdf hr hY F (fun w H a ns h1 h2 h3=>hsp (K w.params) H a ns h1 h2 h3) fun _ H s e s'=>hCX H s e s'
end L2
namespace L2
open PySem PySem.Spec PyProof.Rows
def defArgs (s:Stmt):Arguments:=match s with
 | .FunctionDef _ a _ _ _ _ _ _ _ _=>a
 | _=>{ posonlyargs:=[],args:=[],vararg:=none,kwonlyargs:=[],kw_defaults:=[],kwarg:=none,defaults:=[] }
def defBody (s:Stmt):List Stmt:=match s with
 | .FunctionDef _ _ b _ _ _ _ _ _ _=>b
 | _=>[]
def defScope (s:Stmt):Scope:=match s with
 | .FunctionDef _ _ _ _ _ _ sc _ _ _=>sc
 | _=>{ kind:=.function,names:=[],isGenerator:=false,isCoroutine:=false }
abbrev CX0:CXT:=fun _ _ _ _ _ _=>False
abbrev E0:XK:=fun _ _ _=>False
theorem pass0 {X:Cx}:Passes CX0 X E0:=fun _ _ _ _ _ _ _ h=>h.elim
structure Fun (K:PySem.W.Frag) (x qual:Str) (st:Stmt) (f:Addr) (fd:FuncData):Prop where
 ex:∃ (oc:Value) (od:Option Addr) (kV doc pm:Value) (an:Option Addr) (cdv ct:Value) (osl:Array (Option Value)),
  fd=PySem.W.fnOf x qual (defArgs st) (defBody st) (defScope st) .none kV doc pm an cdv ct ∧ K.lookup f=some ⟨oc,od,.func fd,osl⟩ ∧ PySem.W.codeIn K cdv qual=true
 kp:PySem.W.keepIn K (.ref f)=true
section
variable {P:Program} {w:World} {K:PySem.W.Frag} {mg:Str → Option Value} {base:Heap}
theorem Fun.ok {x qual:Str} {st:Stmt} {f:Addr} {fd:FuncData} {N ps:List Str} {k:Nat} {sp:Sp} (F:Fun K x qual st f fd) (S:FnScope N ps (defScope st)) (len:∀ vs H Q E,sp vs H Q E → vs.length=ps.length)
  (hbody:∀ (cdv:Value) (A:Around) (outer:List Env) (s:Shared) (H:Hp) (vs:List V) (Q:VK) (E:XK),Room k (A.deeper (envOfC qual (defScope st) s.heap.objs.size f cdv)) → sp vs H Q E →
   ∃ t,PSs (cxOf CX0 P w K mg base N qual (defScope st) f cdv A outer s H E).nox (defBody st) t ∧ t { nx:=fun _ H'=>Q .non H',rt:=Q } (start N vs) H):FnOk P w K mg base CX0 (k + 1) f fd ps sp:=by
 obtain ⟨oc,od,kV,doc,pm,an,cdv,ct,osl,rfl,lk,hcd⟩:=F.ex
 refine fn_of lk hcd S len fun A outer s H vs Q E hr hsp=>?_
 obtain ⟨t,h,q⟩:=hbody cdv A outer s H vs Q E hr hsp
 exact ⟨t,h.nox,q⟩
theorem Fun.binds {x qual:Str} {st:Stmt} {f:Addr} {fd:FuncData} {ps:List Str} (F:Fun K x qual st f fd)
  (h:∀ (kV doc pm:Value) (an:Option Addr) (cdv ct:Value) (us:List Value),us.length=ps.length → bindArgs (PySem.W.fnOf x qual (defArgs st) (defBody st) (defScope st) .none kV doc pm an cdv ct) ⟨us,[]⟩=pure (ps.zip us)):Binds K fd ps []:=by
 obtain ⟨oc,od,kV,doc,pm,an,cdv,ct,osl,rfl,lk,hcd⟩:=F.ex
 exact .all (h kV doc pm an cdv ct)
theorem fun_mk {x qual:Str} {st:Stmt} {f:Addr} {oc:Value} {od an:Option Addr} {osl:Array (Option Value)} {kV doc pm cdv ct:Value} (l:K.lookup f=some ⟨oc,od,.func (PySem.W.fnOf x qual (defArgs st) (defBody st) (defScope st) .none kV doc pm an cdv ct),osl⟩)
  (c:PySem.W.codeIn K cdv qual=true) (k:PySem.W.keepIn K (.ref f)=true):Fun K x qual st f (PySem.W.fnOf x qual (defArgs st) (defBody st) (defScope st) .none kV doc pm an cdv ct):=⟨⟨oc,od,kV,doc,pm,an,cdv,ct,osl,rfl,l,c⟩,k⟩
end
section
variable {X:Cx}
theorem pv (i:Nat) {x:Str} {pos:Pos} (hN:X.N[i]?=some x:=by rfl) (hv:Vis X.env.scope x:=by first | exact Or.inl rfl | exact Or.inr (Or.inl rfl) | exact Or.inr (Or.inr rfl)) (hd:(x == ("__debug__":Str))=false:=by decide)
  (hcd:(x == ("__classdict__":Str))=false:=by decide):PE X (.Name x pos) (tVar i):=pe_var hN hv hd hcd
end
theorem iteF {A B:Prop} (h:B):if false=true then A else B:=by
 rw [if_neg Bool.false_ne_true]
 exact h
theorem iteT {A B:Prop} (h:A):if true=true then A else B:=by
 rw [if_pos rfl]
 exact h
def Same (H H':Hp):Prop:=∀ b o,H b=some o → H' b=some o
theorem Same.refl (H:Hp):Same H H:=fun _ _ h=>h
theorem Same.trans {H H1 H2:Hp} (a:Same H H1) (b:Same H1 H2):Same H H2:=fun c o h=>b c o (a c o h)
theorem Same.free {H H':Hp} (e:Same H H') {l:Addr} (h:H' l=Option.none):H l=Option.none:=by
 cases q:H l with
 | none=>rfl
 | some o =>
   rw [e l o q] at h
   cases h
theorem Same.seq {K:PySem.W.Frag} {H H':Hp} {a:Addr} {xs:List V} (e:Same H H') (h:SqL K H a xs):SqL K H' a xs:=by
 rcases h with (h | ⟨o,h⟩) | h
 ·exact .inl (.inl (e _ _ h))
 ·exact .inl (.inr ⟨o,e _ _ h⟩)
 ·exact .inr h
end L2
namespace L2
open PySem PySem.Spec PyProof.Rows
theorem HOk.track {P:Program} {w:World} {H:Hp} {h:Heap} {a:Addr} {o:HO} (x:HOk P w H h) (hn:H a=none) (new:ObjOk P w (upd H a o) h a o):HOk P w (upd H a o) h:=fun b u e=>by
 by_cases hb:b=a
 ·subst hb; rw [upd_same] at e; cases e; exact new
 ·rw [upd_ne hb] at e
  exact (x b u e).stay (fun c v _ q=>q) (fun c q=>by rw [upd_ne (ne_of_none q hn)]; exact q) fun c xs q=>by rw [upd_ne (ne_of_none q hn)]; exact q
def clGo (env:Env):List (Str × NameKind) → List (Str × Addr) → List (Str × Addr)
 | [],cs=>cs
 | (n,k) :: r,cs=>if (k == .free)=true then (match env.cells.lookup n with | some c=>clGo env r ((n,c) :: cs) | none=>clGo env r cs) else clGo env r cs
def clOf (scope:Scope) (env:Env):List (Str × Addr):=clGo env scope.names []
theorem closureGo {env:Env}:∀ (l:List (Str × NameKind)) (cs:List (Str × Addr)),(∀ x ∈ l,x.2=.free → ∃ c,env.cells.lookup x.1=some c) →
  (forIn l cs (fun (x:Str × NameKind) (r:List (Str × Addr))=>if (x.2 == NameKind.free)=true then (do let c ← cellOf env x.1; pure (ForInStep.yield ((x.1,c) :: r)):Sem _) else pure (ForInStep.yield r)):Sem (List (Str × Addr)))=pure (clGo env l cs):=by
 intro l
 induction l with
 | nil=>intro cs _; rfl
 | cons x r ih =>
   intro cs h
   obtain ⟨n,k⟩:=x
   rw [List.forIn_cons]
   by_cases hk:(k == NameKind.free)=true
   ·have hk':k=.free:=by simpa using hk
    obtain ⟨c,hc⟩:=h (n,k) List.mem_cons_self hk'
    simp only [hk,if_true]
    have e1:cellOf env n=pure c:=by unfold cellOf; rw [hc]
    rw [e1]
    have e2:clGo env ((n,k) :: r) cs=clGo env r ((n,c) :: cs):=by
     show (if (k == .free)=true then _ else _)=_
     rw [if_pos hk,hc]
    rw [e2]
    exact ih _ fun y hy=>h y (List.mem_cons_of_mem _ hy)
   ·simp only [hk]
    have e2:clGo env ((n,k) :: r) cs=clGo env r cs:=by
     show (if (k == .free)=true then _ else _)=_
     rw [if_neg hk]
    rw [e2]
    exact ih _ fun y hy=>h y (List.mem_cons_of_mem _ hy)
theorem closureFor_all {scope:Scope} {env:Env} (h:∀ x ∈ scope.names,x.2=.free → ∃ c,env.cells.lookup x.1=some c):closureFor scope env=pure (clOf scope env):=by
 have:=closureGo (env:=env) scope.names [] h
 unfold closureFor clOf
 show (forIn scope.names [] _ >>= fun cs=>pure cs)=_
 exact Eq.trans (congrArg (fun t=>t >>= fun cs=>pure cs) this) rfl
theorem clGo_sub {env:Env}:∀ (l:List (Str × NameKind)) (cs:List (Str × Addr)),(∀ x c,cs.lookup x=some c → env.cells.lookup x=some c) → ∀ x c,(clGo env l cs).lookup x=some c → env.cells.lookup x=some c
 | [],_,h=>h
 | (n,k) :: r,cs,h=>by
   intro x c e
   unfold clGo at e
   split at e
   ·split at e
    ·rename_i c' hc
     refine clGo_sub r _ (fun y d q=>?_) x c e
     rw [List.lookup_cons] at q
     split at q
     ·rename_i hy
      have:y=n:=by simpa using hy
      subst this; cases q; exact hc
     ·exact h y d q
    ·exact clGo_sub r cs h x c e
   ·exact clGo_sub r cs h x c e
theorem clGo_more {env:Env}:∀ (l:List (Str × NameKind)) (cs:List (Str × Addr)) (x:Str) (c:Addr),cs.lookup x=some c → ∃ c,(clGo env l cs).lookup x=some c
 | [],_,_,c,h=>⟨c,h⟩
 | (n,k) :: r,cs,x,c,h=>by
   unfold clGo
   split
   ·split
    ·rename_i c' hc
     cases hx:x == n with
     | true=>exact clGo_more r _ x c' (by rw [List.lookup_cons,hx])
     | false=>exact clGo_more r _ x c (by rw [List.lookup_cons,hx]; exact h)
    ·exact clGo_more r cs x c h
   ·exact clGo_more r cs x c h
theorem clGo_has {env:Env}:∀ (l:List (Str × NameKind)) (cs:List (Str × Addr)) (x:Str),(x,NameKind.free) ∈ l → (∃ c,env.cells.lookup x=some c) → ∃ c,(clGo env l cs).lookup x=some c
 | [],_,_,h,_=>nomatch h
 | (n,k) :: r,cs,x,h,hc=>by
   obtain ⟨c,hc⟩:=hc
   rcases List.mem_cons.mp h with e | h
   ·cases e
    unfold clGo
    rw [if_pos (by rfl),hc]
    exact clGo_more r _ _ c (by rw [List.lookup_cons]; simp)
   ·unfold clGo
    split
    ·split
     ·exact clGo_has r _ x h ⟨c,hc⟩
     ·exact clGo_has r _ x h ⟨c,hc⟩
    ·exact clGo_has r _ x h ⟨c,hc⟩
theorem lookup_mem {β:Type}:∀ {l:List (Str × β)} {x:Str} {k:β},l.lookup x=some k → (x,k) ∈ l
 | [],_,_,h=>by simp at h
 | (n,j) :: r,x,k,h=>by
   rw [List.lookup_cons] at h
   split at h
   ·rename_i hx
    have:x=n:=by simpa using hx
    subst this; cases h; exact List.mem_cons_self
   ·exact List.mem_cons_of_mem _ (lookup_mem h)
theorem relabel_lookup {env:Env}:∀ {names:List (Str × NameKind)} {x:Str} {k:NameKind},
  (names.map fun (n,k)=>if (k == NameKind.free && env.scope.kind == .function && env.kindOf n == some .cell) then (n,NameKind.cell) else (n,k)).lookup x=some k →
  names.lookup x=some k ∨ (names.lookup x=some .free ∧ k=.cell)
 | [],_,_,h=>by simp at h
 | (n,j) :: r,x,k,h=>by
   have ih:=@relabel_lookup env r x k
   have h':List.lookup x ((if (j == NameKind.free && env.scope.kind == .function && env.kindOf n == some .cell)=true then (n,NameKind.cell) else (n,j)) :: r.map fun (n,k)=>if (k == NameKind.free && env.scope.kind == .function && env.kindOf n == some .cell) then (n,NameKind.cell) else (n,k))=some k:=h
   cases hx:x == n with
   | true =>
     by_cases hc:(j == NameKind.free && env.scope.kind == .function && env.kindOf n == some .cell)=true
     ·rw [if_pos hc,List.lookup_cons,hx] at h'
      have hj:j=.free:=by
       simp only [Bool.and_eq_true] at hc
       simpa using hc.1.1
      refine .inr ⟨by rw [List.lookup_cons,hx,hj],?_⟩
      cases h'; rfl
     ·rw [if_neg hc,List.lookup_cons,hx] at h'
      exact .inl (by rw [List.lookup_cons,hx]; exact h')
   | false =>
     have h2:(r.map fun (n,k)=>if (k == NameKind.free && env.scope.kind == .function && env.kindOf n == some .cell) then (n,NameKind.cell) else (n,k)).lookup x=some k:=by
      by_cases hc:(j == NameKind.free && env.scope.kind == .function && env.kindOf n == some .cell)=true
      ·rw [if_pos hc,List.lookup_cons,hx] at h'; exact h'
      ·rw [if_neg hc,List.lookup_cons,hx] at h'; exact h'
     rcases ih h2 with z | z
     ·exact .inl (by rw [List.lookup_cons,hx]; exact z)
     ·exact .inr ⟨by rw [List.lookup_cons,hx]; exact z.1,z.2⟩
def compCx (X:Cx) (scope:Scope) (N':List Str) (C:Addr) (s:Shared) (H:Hp) (fp:List Addr):Cx :=
 { X with N:=N',s₀:=s,H₀:=H,env:=compEnvC scope (cellsFrom (C + 1) scope.names (clOf scope X.env)) C X.env,outer:=X.stack,ex:=fp,fn:=fun x=>scope.names.lookup x == some .cell,pn:=[],xe:=fun _ _=>False }
theorem cf_mem:∀ {names:List (Str × NameKind)} {n:Nat} {acc:List (Str × Addr)} {x:Str} {c:Addr},(x,c) ∈ cellsFrom n names acc → (x,c) ∈ acc ∨ ((x,NameKind.cell) ∈ names ∧ n ≤ c)
 | [],_,_,_,_,h=>.inl h
 | (y,k) :: r,n,acc,x,c,h=>by
   unfold cellsFrom at h
   split at h
   ·rename_i hk
    have hk':k=.cell:=by simpa using hk
    rcases cf_mem h with z | ⟨z,hz⟩
    ·rcases List.mem_cons.mp z with e | z
     ·cases e
      exact .inr ⟨by rw [hk']; exact List.mem_cons_self,Nat.le_refl _⟩
     ·exact .inl z
    ·exact .inr ⟨List.mem_cons_of_mem _ z,Nat.le_of_succ_le hz⟩
   ·rcases cf_mem h with z | ⟨z,hz⟩
    ·exact .inl z
    ·exact .inr ⟨List.mem_cons_of_mem _ z,hz⟩
theorem cf_keep:∀ {names:List (Str × NameKind)} {n:Nat} {acc:List (Str × Addr)} {x:Str},(x,NameKind.cell) ∉ names → (cellsFrom n names acc).lookup x=acc.lookup x
 | [],_,_,_,_=>rfl
 | (y,k) :: r,n,acc,x,h=>by
   unfold cellsFrom
   split
   ·rename_i hk
    have hk':k=.cell:=by simpa using hk
    rw [cf_keep fun z=>h (List.mem_cons_of_mem _ z),List.lookup_cons]
    cases hx:x == y with
    | true =>
      have:x=y:=by simpa using hx
      exact absurd (by rw [this,hk']; exact List.mem_cons_self) h
    | false=>rfl
   ·exact cf_keep fun z=>h (List.mem_cons_of_mem _ z)
theorem cf_new:∀ (names:List (Str × NameKind)) (h:Heap) (acc:List (Str × Addr)) (x:Str) (c:Addr),(x,c) ∈ cellsFrom h.objs.size names acc → (x,c) ∈ acc ∨ (pushCells h names).IsCell c none
 | [],_,_,_,_,h=>.inl h
 | (y,k) :: r,hp,acc,x,c,h=>by
   unfold cellsFrom at h
   unfold pushCells
   split at h
   ·rename_i hk
    rw [if_pos hk]
    rw [show hp.objs.size + 1=(hp.push { cls:=.type "cell",data:=.cell none }).objs.size from (Heap.size_push ..).symm] at h
    rcases cf_new r _ _ x c h with z | z
    ·rcases List.mem_cons.mp z with e | z
     ·cases e
      exact .inr ⟨_,pushCells_keeps _ _ _ _ (Heap.get?_push_size _ rfl),rfl⟩
     ·exact .inl z
    ·exact .inr z
   ·rename_i hk
    rw [if_neg hk]
    exact cf_new r hp acc x c h
theorem cl_mem {env:Env}:∀ (l:List (Str × NameKind)) (cs:List (Str × Addr)) (x:Str) (c:Addr),(x,c) ∈ clGo env l cs → (x,c) ∈ cs ∨ env.cells.lookup x=some c
 | [],_,_,_,h=>.inl h
 | (n,k) :: r,cs,x,c,h=>by
   unfold clGo at h
   split at h
   ·split at h
    ·rename_i c' hc
     rcases cl_mem r _ x c h with z | z
     ·rcases List.mem_cons.mp z with e | z
      ·cases e; exact .inr hc
      ·exact .inl z
     ·exact .inr z
    ·exact cl_mem r cs x c h
   ·exact cl_mem r cs x c h
theorem clOf_mem {env:Env} {scope:Scope} {x:Str} {c:Addr} (h:(x,c) ∈ clOf scope env):env.cells.lookup x=some c:=by
 rcases cl_mem scope.names [] x c h with z | z
 ·exact nomatch z
 ·exact z
theorem cf_more:∀ {names:List (Str × NameKind)} {n:Nat} {acc:List (Str × Addr)} {x:Str} {c:Addr},acc.lookup x=some c → ∃ c,(cellsFrom n names acc).lookup x=some c
 | [],_,_,_,c,h=>⟨c,h⟩
 | (y,k) :: r,n,acc,x,c,h=>by
   unfold cellsFrom
   split
   ·cases hx:x == y with
    | true=>exact cf_more (c:=n) (by rw [List.lookup_cons,hx])
    | false=>exact cf_more (c:=c) (by rw [List.lookup_cons,hx]; exact h)
   ·exact cf_more h
theorem cf_has:∀ {names:List (Str × NameKind)} {n:Nat} {acc:List (Str × Addr)} {x:Str},(x,NameKind.cell) ∈ names → ∃ c,(cellsFrom n names acc).lookup x=some c
 | [],_,_,_,h=>nomatch h
 | (y,k) :: r,n,acc,x,h=>by
   unfold cellsFrom
   rcases List.mem_cons.mp h with e | h
   ·cases e
    rw [if_pos (by rfl)]
    exact cf_more (c:=n) (by rw [List.lookup_cons]; simp)
   ·split
    ·exact cf_has h
    ·exact cf_has h
theorem cf_apart:∀ {names:List (Str × NameKind)} {n:Nat} {acc:List (Str × Addr)},(∀ x c,(x,c) ∈ acc → c < n) → (∀ x y c,(x,c) ∈ acc → (y,c) ∈ acc → x=y) → ∀ x y c,(x,c) ∈ cellsFrom n names acc → (y,c) ∈ cellsFrom n names acc → x=y
 | [],_,_,_,hi=>hi
 | (y,k) :: r,n,acc,hl,hi=>by
   unfold cellsFrom
   split
   ·refine cf_apart (fun x c h=>?_) fun a b c h1 h2=>?_
    ·rcases List.mem_cons.mp h with e | h
     ·cases e; exact Nat.lt_succ_self _
     ·exact Nat.lt_succ_of_lt (hl x c h)
    ·rcases List.mem_cons.mp h1 with e | h1
     ·cases e
      rcases List.mem_cons.mp h2 with e | h2
      ·cases e; rfl
      ·exact absurd (hl b n h2) (Nat.lt_irrefl _)
     ·rcases List.mem_cons.mp h2 with e | h2
      ·cases e; exact absurd (hl a n h1) (Nat.lt_irrefl _)
      ·exact hi a b c h1 h2
   ·exact cf_apart hl hi
theorem wpAny_compEnv {M:Model} {A:Around} {E:Value → Shared → Prop} {s:Shared} {scope:Scope} {globals:Addr} {closure:List (Str × Addr)} {qual:Str} {func:Option Addr} {code:Value} {env:Env} {Q:Env → Shared → Prop}
  (hQ:∀ h',h'.Ns s.heap.objs.size (fun _=>none) → (∀ b o,s.heap.get? b=some o → h'.get? b=some o) → (∀ x c,(x,c) ∈ cellsFrom (s.heap.objs.size + 1) scope.names closure → (x,c) ∈ closure ∨ h'.IsCell c none) →
   Q (newEnv scope s.heap.objs.size globals (cellsFrom (s.heap.objs.size + 1) scope.names closure) qual func code (some env) builtinsNs) { s with heap:=h' }) :
  wpAny M A (newFunctionEnv scope globals closure [] qual func code (some env)) Q E s:=by
 simp only [newFunctionEnv,Option.isSome_some,if_true]
 refine wpAny_bind (wpAny_alloc ?_)
 refine wpAny_bind (wpAny_layCells _ (fun name kind cells=>by cases hkc:kind == NameKind.cell <;> simp [hkc]) _ _ _ _ ?_)
 rw [List.forIn_nil]
 refine wpAny_bind (wpAny_pure (wpAny_pure ?_))
 have e:({ s with heap:=s.heap.push { cls:=.type "dict",data:=.dict #[] } }:Shared).heap.objs.size=s.heap.objs.size + 1:=Heap.size_push ..
 rw [e]
 refine hQ _ ((Heap.Ns.new s.heap (.type "dict")).keeps (pushCells_keeps _ _)) (fun b o z=>pushCells_keeps _ _ b o (Heap.get?_push_of_some _ z)) fun x c z=>?_
 rw [show s.heap.objs.size + 1=(s.heap.push { cls:=.type "dict",data:=.dict #[] }).objs.size from e.symm] at z
 exact cf_new _ _ _ x c z
def subSt (ix:List (Option Nat)) (σ:St):St:=ix.map fun o=>o.bind fun i=>(σ[i]?).join
structure IxOk (N:List Str) (sc scope:Scope) (N':List Str) (ix:List (Option Nat)):Prop where
 len:ix.length=N'.length
 at':∀ (j i:Nat) (x:Str),ix[j]?=some (some i) → N'[j]?=some x → N[i]?=some x ∧ Vis sc x
def PIfs (X:Cx) (ifs:List Expr) (t:TT):Prop :=
 ∀ (pins:List (Addr × Obj)) (s:Shared) (σ:St) (H:Hp) (Q:Bool → Hp → Prop),Inv X pins σ H s → t σ H Q →
   wpAny (model X.prog X.w) X.A (forIn ifs true fun c r=>if r=true then do let ok ← isTrue c X.env (eval c X.env); pure (ForInStep.yield ok) else pure (ForInStep.yield r)) (TP X pins σ Q) X.xe s
def tYes:TT:=fun _ H Q=>Q true H
theorem pifs_nil {X:Cx}:PIfs X [] tYes:=fun _ _ _ H _ I h=>wpAny_tests_nil ⟨H,I,h⟩
theorem pifs_one {X:Cx} {c:Expr} {t:TT} (h:PT X c t):PIfs X [c] t:=fun pins s σ H Q I hw=>wpAny_tests_one (h pins s σ H Q I hw)
theorem codeAny_compLoop_gen {prog:Program} {w:World} {A:Around} {s:Shared} {elt target iter:Expr} {ifs:List Expr} {scope:Scope} {pos:Pos} {it acc:Value} {env:Env} {R:Result → Shared → Prop} (I:Nat → Shared → Prop)
  (turn:∀ n s,I n s → wpAny (model prog w) A (pyNext it) (fun r s₁=>match r with
   | none=>R (.ok .next) s₁
   | some v=>wpAny (model prog w) A (letOwnedTupleGo target it v) (fun _ s₁'=>wpAny (model prog w) A (assign target env v) (fun _ s₂ =>
     wpAny (model prog w) A (forIn ifs true fun c r=>if r=true then do let ok ← isTrue c env (eval c env); pure (ForInStep.yield ok) else pure (ForInStep.yield r)) (fun ok s₃ =>
      if ok=true then wpAny (model prog w) A (eval elt env) (fun x s₄ =>
       wpAny (model prog w) A (call (.builtin "list.append") [acc,x]) (fun _ s₅=>∃ m,m < n ∧ I m s₅) (fun _ _=>False) s₄) (fun _ _=>False) s₃
      else ∃ m,m < n ∧ I m s₃) (fun _ _=>False) s₂) (fun _ _=>False) s₁') (fun _ _=>False) s₁) (fun _ _=>False) s)
  (n:Nat) (h:I n s) :
  codeAny (model prog w) A (.compLoop (.ListComp elt [⟨target,iter,ifs,0⟩] scope pos) 0 it acc env) R s:=by
 refine codeAny_loop rfl I (fun n s hI=>?_) n h
 show wpAny _ A ((compTurn (.ListComp elt [⟨target,iter,ifs,0⟩] scope pos) 0 it acc env).onRaise (fun x=>do noteFrame x env; theTreesLotGoes x)) _ _ s
 refine wpAny_noted ?_
 rw [compTurn_list]
 refine wpAny_bind (wpAny_standAt (wpAny_bind (wpAny_mono (turn n s hI) (fun r s₁ h₁=>?_) fun _ _ h'=>h'.elim)))
 cases r with
 | none=>exact wpAny_pure h₁
 | some v =>
   refine wpAny_bind (wpAny_mono h₁ (fun _ s₁' h₁'=>?_) fun _ _ h'=>h'.elim)
   refine wpAny_bind (wpAny_mono h₁' (fun _ s₂ h₂=>wpAny_bind (wpAny_mono h₂ (fun ok s₃ h₃=>?_) fun _ _ h'=>h'.elim)) fun _ _ h'=>h'.elim)
   cases ok with
   | false=>exact wpAny_pure ⟨rfl,h₃⟩
   | true =>
     exact wpAny_bind (wpAny_bind (wpAny_mono h₃ (fun x s₄ h₄=>wpAny_bind (wpAny_mono h₄ (fun _ s₅ h₅=>wpAny_pure (wpAny_pure ⟨rfl,h₅⟩)) fun _ _ h'=>h'.elim)) fun _ _ h'=>h'.elim))
def tComp (ix:List (Option Nat)) (wi:TI) (g:TG) (tc:TT) (te:TE):TE:=fun σ H Q=>wi σ H fun J H1=>∃ W:Nat → Nat → List V → Hp → Prop,(∃ m,W 0 m [] H1) ∧ ∀ i m ys H,W i m ys H →
 (J.stop i H ∧ ys.length ≤ sizeLine ∧ ∀ p,H p=none → Q (.ref p) (upd H p (.lst ys))) ∨
 (J.go i H ∧ ys.length < sizeLine ∧ ∀ x H',J.yld i H x H' → g x (subSt ix σ) H' fun σ2 H2=>(∀ (i:Nat) (v:V),(subSt ix σ)[i]?=some (some v) → σ2[i]?=some (some v)) ∧ tc σ2 H2 fun c H3 =>
  if c=true then te σ2 H3 fun y H4=>∃ m',m' < m ∧ W (i + 1) m' (ys ++ [y]) H4 else ∃ m',m' < m ∧ W (i + 1) m' ys H3)
section
variable {X:Cx} {elt iter tg:Expr} {ifs:List Expr} {scope:Scope} {pos:Pos} {N':List Str} {ix:List (Option Nat)} {wi:TI} {g:TG} {tc:TT} {te:TE}
theorem subSt_len (ix:List (Option Nat)) (σ:St):(subSt ix σ).length=ix.length:=by unfold subSt; rw [List.length_map]
theorem block_start {pins:List (Addr × Obj)} {σ:St} {H:Hp} {s:Shared} {fp:List Addr} {h₁:Heap} {t':Nat} (I:Inv X pins σ H s) (hkind:scope.kind=.function) (hcell:∀ y ∈ scope.names,y.2=.cell → scope.names.lookup y.1=some .cell)
  (hdis:∀ x,(x,NameKind.cell) ∈ scope.names → (x,NameKind.free) ∉ scope.names) (hfr:∀ x ∈ scope.names,x.2=.free → X.env.kindOf x.1=some .cell ∨ X.env.kindOf x.1=some .free) (hix:IxOk X.N X.env.scope scope N' ix) (hfree:∀ (j i:Nat) (x:Str),ix[j]?=some (some i) → N'[j]?=some x → scope.names.lookup x=some .free)
  (hf:∀ b ∈ fp,FpOk X pins H b) (hfs:∀ b ∈ fp,b < s.heap.objs.size)
  (kp:∀ b o,s.heap.get? b=some o → h₁.get? b=some o) {C:Addr} (hC:s.heap.objs.size ≤ C) (hns:h₁.Ns C fun _=>none)
  (hnew:∀ x c,(x,c) ∈ cellsFrom (C + 1) scope.names (clOf scope X.env) → (x,c) ∈ clOf scope X.env ∨ h₁.IsCell c none) :
  Inv (compCx X scope N' C s H fp) [] (subSt ix σ) H { s with heap:=h₁,toks:=t' }:=by
 have has:∀ x,(X.env.kindOf x=some .cell ∨ X.env.kindOf x=some .free) → ∃ c,X.env.cells.lookup x=some c:=I.ok.has
 have kindE:(compCx X scope N' C s H fp).env.scope.kind=.function:=by show (relabel scope X.env).kind=_; exact hkind
 have look:∀ x k,(compCx X scope N' C s H fp).env.kindOf x=some k → scope.names.lookup x=some k ∨ (scope.names.lookup x=some .free ∧ k=.cell):=fun x k e=>relabel_lookup e
 have isfree:∀ x,((compCx X scope N' C s H fp).env.kindOf x=some .cell ∨ (compCx X scope N' C s H fp).env.kindOf x=some .free) → scope.names.lookup x=some .free ∨ scope.names.lookup x=some .cell:=fun x e=>by
  rcases e with e | e
  ·rcases look x _ e with z | z
   ·exact .inr z
   ·exact .inl z.1
  ·rcases look x _ e with z | z
   ·exact .inl z
   ·exact .inl z.1
 have nocell:∀ x,scope.names.lookup x=some .free → (x,NameKind.cell) ∉ scope.names:=fun x e z=>by
  have:=hcell _ z rfl
  rw [e] at this; cases this
 have clt:∀ x c,X.env.cells.lookup x=some c → c < s.heap.objs.size:=fun x c e=>by
  obtain ⟨v,o,ho,hd⟩:=I.cell x c e
  exact Heap.lt_size ho
 have two:∀ x c,(cellsFrom (C + 1) scope.names (clOf scope X.env)).lookup x=some c → X.env.cells.lookup x=some c ∨ ((x,NameKind.cell) ∈ scope.names ∧ C + 1 ≤ c):=fun x c e=>by
  rcases cf_mem (mem_of_lookup e) with z | z
  ·exact .inl (clOf_mem z)
  ·exact .inr z
 refine ⟨⟨I.ok.mod,kindE,I.ok.glob,I.ok.blt,hC,?_,?_,?_,I.ok.hd,I.ok.frames,.inl rfl,?_,?_,?_,?_,?_,?_,?_⟩,rfl,I.bare,?_,?_,?_,?_,?_,?_,?_,?_⟩
 ·intro x y c e1 e2
  refine cf_apart (names:=scope.names) (n:=C + 1) (acc:=clOf scope X.env) (fun x c h=>?_) (fun x y c h1 h2=>I.ok.inj x y c (clOf_mem h1) (clOf_mem h2)) x y c (mem_of_lookup e1) (mem_of_lookup e2)
  exact Nat.lt_succ_of_lt (Nat.lt_of_lt_of_le (clt x c (clOf_mem h)) hC)
 ·intro x e
  rcases isfree x e with z | z
  ·show ∃ c,(cellsFrom (C + 1) scope.names (clOf scope X.env)).lookup x=some c
   rw [cf_keep (nocell x z)]
   exact clGo_has scope.names [] x (lookup_mem z) (has x (hfr _ (lookup_mem z) rfl))
  ·exact cf_has (lookup_mem z)
 ·intro x c e1 e2
  have e1':scope.names.lookup x=some .cell:=by simpa [compCx] using e1
  rcases two x c e2 with z | z
  ·-- an own cell hides an elder one: its name is not free here
   rcases cf_mem (mem_of_lookup e2) with w | w
   ·exfalso
    have:(x,NameKind.free) ∈ scope.names:=by
     have key:∀ (l:List (Str × NameKind)) (cs:List (Str × Addr)),(∀ p ∈ cs,(p.1,NameKind.free) ∈ scope.names) → (∀ p ∈ l,p ∈ scope.names) → ∀ p ∈ clGo X.env l cs,(p.1,NameKind.free) ∈ scope.names:=by
      intro l
      induction l with
      | nil=>intro cs h1 _; exact h1
      | cons q r ih =>
        intro cs h1 h2
        obtain ⟨n,k⟩:=q
        unfold clGo
        split
        ·rename_i hk
         split
         ·refine ih _ (fun p hp=>?_) fun p hp=>h2 p (List.mem_cons_of_mem _ hp)
          rcases List.mem_cons.mp hp with e | hp
          ·have hk':k=.free:=by simpa using hk
           subst e hk'
           exact h2 _ List.mem_cons_self
          ·exact h1 p hp
         ·exact ih _ h1 fun p hp=>h2 p (List.mem_cons_of_mem _ hp)
        ·exact ih _ h1 fun p hp=>h2 p (List.mem_cons_of_mem _ hp)
     exact key scope.names [] (fun p hp=>nomatch hp) (fun p hp=>hp) (x,c) w
    exact hdis x (lookup_mem e1') this
   ·exact Nat.le_trans hC (Nat.le_of_succ_le w.2)
  ·exact Nat.le_trans hC (Nat.le_of_succ_le z.2)
 ·intro b hb
  refine ⟨?_,fun x c e=>?_⟩
  ·exact Nat.ne_of_lt (Nat.lt_of_lt_of_le (hfs b hb) hC)
  ·rcases two x c e with z | z
   ·exact (hf b hb).2.2.2.2.1 x c z
   ·exact Nat.ne_of_gt (Nat.lt_of_lt_of_le (Nat.lt_of_lt_of_le (hfs b hb) hC) (Nat.le_of_succ_le z.2))
 ·exact fun b o e=>I.bs b o e
 ·exact Nat.le_trans I.ok.bsz I.sz
 ·intro b o e hb
  rcases (hf b hb).2.2.2.1 with z | z
  ·exact I.ok.noex b o e z
  ·exact absurd (Nat.lt_of_lt_of_le (Heap.lt_size e) I.ok.bsz) (Nat.not_lt.mpr z)
 ·intro b hb z
  rcases List.mem_cons.mp (I.stkSub b z) with e | e
  ·exact (hf b hb).2.1 e
  ·exact (hf b hb).2.2.1 e
 ·exact I.stack
 ·exact fun b hb=>I.stkFree b hb
 ·exact Un.kept kp
 ·refine ⟨_,hns,fun j x v e1 e2 e3=>?_⟩
  have e2':(ix.map fun o=>o.bind fun i=>(σ[i]?).join)[j]?=some (some v):=e2
  rw [List.getElem?_map] at e2'
  cases hj:ix[j]? with
  | none=>rw [hj] at e2'; cases e2'
  | some oi =>
    rw [hj] at e2'
    cases oi with
    | none=>cases e2'
    | some i =>
      have e4:(σ[i]?).join=some v:=Option.some.inj e2'
      have e5:σ[i]?=some (some v):=by
       cases q:σ[i]? with
       | none=>rw [q] at e4; cases e4
       | some z=>rw [q] at e4; exact congrArg some e4
      obtain ⟨hN,hv⟩:=hix.at' j i x hj e1
      obtain ⟨m,_,hl⟩:=I.loc
      obtain ⟨u,r,l⟩:=hl i x v hN e5 hv
      refine ⟨u,r,.inr ⟨?_,?_⟩⟩
      ·rcases e3 with z | z | z
       ·have:=look x _ z
        rw [hfree j i x hj e1] at this
        rcases this with w | w
        ·cases w
        ·cases w.2
       ·exact .inl z
       ·exact .inr z
      ·have hkk:=hfr _ (lookup_mem (hfree j i x hj e1)) rfl
       obtain ⟨c,hc⟩:=clGo_has (env:=X.env) scope.names [] x (lookup_mem (hfree j i x hj e1)) (has x hkk)
       refine ⟨c,(cf_keep (nocell x (hfree j i x hj e1))).trans hc,?_⟩
       rcases l with ⟨k1,_⟩ | ⟨_,c',hc',o,ho,hd⟩
       ·rw [k1] at hkk; rcases hkk with z | z <;> cases z
       ·have:c'=c:=Option.some.inj (hc'.symm.trans (clGo_sub scope.names [] (fun x c e=>by simp at e) x c hc))
        subst this
        exact ⟨o,kp _ o ho,hd⟩
 ·intro x c e
  rcases hnew x c (mem_of_lookup e) with z | z
  ·obtain ⟨v,o,ho,hd⟩:=I.cell x c (clOf_mem z)
   exact ⟨v,o,kp c o ho,hd⟩
  ·exact ⟨_,z⟩
 ·exact I.hok.fresh hC
 ·intro x c e
  rcases two x c e with z | z
  ·exact I.freeC x c z
  ·exact I.hok.fresh (Nat.le_trans hC (Nat.le_of_succ_le z.2))
 ·intro p hp; exact absurd hp (by simp [compCx])
 ·exact I.hok.kept kp
 ·exact (subSt_len ix σ).trans hix.len
theorem comp_gen (hc:X.calm=true) (hkind:scope.kind=.function) (hcell:∀ y ∈ scope.names,y.2=.cell → scope.names.lookup y.1=some .cell) (hdis:∀ x,(x,NameKind.cell) ∈ scope.names → (x,NameKind.free) ∉ scope.names) (hnames:∀ y ∈ scope.names,y.2=.local → scope.names.lookup y.1=some .local)
  (hfr:∀ x ∈ scope.names,x.2=.free → X.env.kindOf x.1=some .cell ∨ X.env.kindOf x.1=some .free) (hix:IxOk X.N X.env.scope scope N' ix) (hfree:∀ (j i:Nat) (x:Str),ix[j]?=some (some i) → N'[j]?=some x → scope.names.lookup x=some .free)
  (hi:PI X tg iter wi) (hg:∀ C s H fp,PG (compCx X scope N' C s H fp) tg g) (ht:∀ C s H fp,PIfs (compCx X scope N' C s H fp) ifs tc) (he:∀ C s H fp,PE (compCx X scope N' C s H fp) elt te)
  (hs:∀ x,foldedSetIterable iter X.env x=pure x:=by intro _; rfl)
  {pins:List (Addr × Obj)} {s:Shared} {σ:St} {H:Hp} {Q:VK} (I:Inv X pins σ H s) (h:tComp ix wi g tc te σ H Q) {use:Option (Value → Sem Unit)} {Q0:Value → Shared → Prop}
  (fin:∀ (D C:Addr) (s4:Shared) m4 H' f,s4.heap.Ns C m4 → (∀ h',Heap.SameBut C s4.heap h' → Inv X pins σ H' { s4 with heap:=h' }) → FpOk X pins H' C → Q (.ref D) H' → compPost (model X.prog X.w) X.A X.xe use Q0 (.ref D) C (.ok f) s4) :
  wpAny (model X.prog X.w) X.A (comprehension (.ListComp elt [⟨tg,iter,ifs,0⟩] scope pos) scope X.env (firstIterPos [⟨tg,iter,ifs,0⟩] pos) (newList []) (firstAsync [⟨tg,iter,ifs,0⟩]) (firstIter [⟨tg,iter,ifs,0⟩] X.env) use) Q0 X.xe s:=by
 refine wpAny_comprehension_free (use:=use) rfl hs (closureFor_all fun x hx hf=>I.ok.has x.1 (hfr x hx hf)) hkind hnames (thn (hi pins s σ H _ I h) fun v s1 h1=>thn h1 fun itv s2 h2=>?_)
 obtain ⟨it,fp,tn,J,H2,e,I2,T,st2,f2,W,⟨m0,w0⟩,turn⟩:=h2
 subst e
 have hfs:∀ b ∈ fp,b < s2.heap.objs.size:=fun b hb=>let ⟨o,e,_⟩:=T.obj _ _ st2 b hb; Heap.lt_size e
 refine wpAny_newObj_type (wpAny_compEnv fun h₁ hns₁ hsb₁ hnew₁=>?_)
 dsimp only at hns₁ hsb₁ hnew₁ ⊢
 generalize hH2:s2.heap.push { cls:=.type "list",dict:=none,data:=.seq ([]:List Value).toArray }=K2 at hns₁ hsb₁ hnew₁ ⊢
 have hCs:K2.objs.size=s2.heap.objs.size + 1:=by rw [← hH2,Heap.size_push]
 have hDC:s2.heap.objs.size ≠ K2.objs.size:=by rw [hCs]; exact Nat.ne_of_lt (Nat.lt_succ_self _)
 have hCle:s2.heap.objs.size ≤ K2.objs.size:=by rw [hCs]; exact Nat.le_succ _
 have below:∀ b,b < s2.heap.objs.size → b ≠ K2.objs.size:=fun b hb=>by rw [hCs]; exact Nat.ne_of_lt (Nat.lt_succ_of_lt hb)
 have kp:∀ b o,s2.heap.get? b=some o → h₁.get? b=some o:=fun b o e=>hsb₁ b o (hH2 ▸ Heap.get?_push_of_some _ e)
 have hacc:h₁.PlainList s2.heap.objs.size ([]:List Value).toArray:=⟨_,hsb₁ _ _ (hH2 ▸ Heap.get?_push_size _ rfl)⟩
 have hns:h₁.Ns K2.objs.size fun _=>none:=hns₁
 have X':=compCx X scope N' K2.objs.size s2 H2 fp
 have I3:Inv (compCx X scope N' K2.objs.size s2 H2 fp) [] (subSt ix σ) H2 { s2 with heap:=h₁,toks:=s2.toks }:=block_start I2 hkind hcell hdis hfr hix hfree f2 hfs kp hCle hns hnew₁
 have accFs:s2.heap.objs.size ∉ frs X.stack:=fun z=>by
  obtain ⟨_,o,ho,_⟩:=I2.stack.mem z
  exact absurd (Heap.lt_size ho) (Nat.lt_irrefl _)
 have stat:∀ {H':Hp} {o:Obj},(∀ b ∈ fp,H' b=none) → ∀ b ∈ fp,FpOk (compCx X scope N' K2.objs.size s2 H2 fp) [(s2.heap.objs.size,o)] H' b:=fun {H' o} hn b hb=>by
  refine ⟨hn b hb,below b (hfs b hb),fun z=>?_,.inl hb,fun x c e=>?_,fun p hp=>?_⟩
  ·exact I3.ok.exfs b hb z
  ·exact (I3.ok.exf b hb).2 x c e
  ·have:p=(s2.heap.objs.size,o):=by simpa [compCx] using hp
   subst this
   exact Nat.ne_of_gt (hfs b hb)
 have loop:∀ s₃:Shared,s₃={ s2 with heap:=h₁,toks:=s2.toks } →
   codeAny (model X.prog X.w) X.A (.compLoop (.ListComp elt [⟨tg,iter,ifs,0⟩] scope pos) 0 (.ref it) (.ref s2.heap.objs.size) (compEnvC scope (cellsFrom (K2.objs.size + 1) scope.names (clOf scope X.env)) K2.objs.size X.env))
    (compPost (model X.prog X.w) X.A X.xe use Q0 (.ref s2.heap.objs.size) K2.objs.size) s₃:=by
  rintro s₃ rfl
  refine codeAny_compLoop_gen (fun n s'=>∃ i ys its Hc,Inv (compCx X scope N' K2.objs.size s2 H2 fp) [] (subSt ix σ) Hc s' ∧ tn i s'.heap ∧ (∀ b ∈ fp,Hc b=none) ∧ Hc s2.heap.objs.size=none ∧ s'.heap.PlainList s2.heap.objs.size (its:List Value).toArray ∧ Vals ys its ∧ W i n ys Hc) ?_ m0
   ⟨0,[],[],H2,I3,T.keep _ _ _ st2 fun b _ o e=>kp b o e,fun b hb=>(f2 b hb).1,I2.hok.fresh (Nat.le_refl _),hacc,.nil,w0⟩
  rintro n s3 ⟨i,ys,its,H3,J3,st3,fr3,fa3,⟨nn,pl3⟩,rv3,w3⟩
  have P3:Inv (compCx X scope N' K2.objs.size s2 H2 fp) [(s2.heap.objs.size,{ cls:=.type "list",data:=.seq its.toArray nn })] (subSt ix σ) H3 s3:=J3.pins_of fun p hp=>by
   have:p=(s2.heap.objs.size,{ cls:=.type "list",data:=.seq its.toArray nn }):=by simpa using hp
   subst this
   exact ⟨pl3,fa3,hDC,accFs,fun v z=>by cases z⟩
  rcases turn i n ys H3 w3 with ⟨stop,hlen,qn⟩ | ⟨go,hlen,step⟩
  ·refine thn (T.done (compCx X scope N' K2.objs.size s2 H2 fp) rfl rfl rfl hc i _ s3 (subSt ix σ) H3 _ P3 (stat fr3) st3 stop) fun r s4 ⟨hr,I4⟩=>?_
   subst hr
   have a4:=(I4.pin (s2.heap.objs.size,_) (List.mem_append_right _ (List.mem_singleton.mpr rfl))).1
   obtain ⟨m4,hn4,_⟩:=I4.loc
   have inv4:∀ h',Heap.SameBut K2.objs.size s4.heap h' → Inv X pins σ (upd H3 s2.heap.objs.size (.lst ys)) { s4 with heap:=h' }:=fun h' hsb=>by
    have old:∀ b o,b ≠ K2.objs.size → s4.heap.get? b=some o → h'.get? b=some o:=fun b o hb e=>(hsb.2 b hb).trans e
    have new:ObjOk X.prog X.w (upd H3 s2.heap.objs.size (.lst ys)) h' s2.heap.objs.size (.lst ys):=⟨hlen,its,nn,rv3,old _ _ hDC a4⟩
    have hokH:HOk X.prog X.w H3 h':=fun b u e=>by
     refine (I4.hok b u e).stay (fun c v hcc q=>old c v ?_ q) (fun _ q=>q) fun _ _ q=>q
     have f4:H3 K2.objs.size=none:=I4.free
     intro z
     rcases hcc with w | w
     ·rw [← w,z,f4] at e; cases e
     ·rw [z,f4] at w; cases w
    have un:Un (frs X.stack) fp H2 (upd H3 s2.heap.objs.size (.lst ys)) s2.heap h':=by
     have B:=I4.base
     refine ⟨fun b o e n hb hx=>old b o (below b (Heap.lt_size e)) (B.keep b o e n hb hx),fun b o e n hb hx=>?_,fun b o e n hx=>?_,fun b o e hx=>?_,fun b xs e=>?_,fun b o u e=>?_,fun b ps e=>?_⟩
     ·obtain ⟨sl,z⟩:=B.slot b o e n hb hx
      exact ⟨sl,old b _ (below b (Heap.lt_size e)) z⟩
     ·rw [upd_ne (Nat.ne_of_lt (Heap.lt_size e))]; exact B.free b o e n hx
     ·obtain ⟨o',z⟩:=B.there b o e hx
      exact ⟨o',old b _ (below b (Heap.lt_size e)) z⟩
     ·rw [upd_ne (ne_of_none e (I2.hok.fresh (Nat.le_refl _)))]; exact B.tups b xs e
     ·rw [upd_ne (ne_of_none e (I2.hok.fresh (Nat.le_refl _)))]; exact B.frzs b o u e
     ·rw [upd_ne (ne_of_none e (I2.hok.fresh (Nat.le_refl _)))]; exact B.tbls b ps e
    exact I2.call' (s':={ s4 with heap:=h' }) (ch:=fp) I4.os un (hokH.track fa3 new) I4.bare fun b hb=>⟨(f2 b hb).2.2.2.1,(f2 b hb).2.1,(f2 b hb).2.2.2.2.1,(f2 b hb).2.2.2.2.2⟩
   have fpC:FpOk X pins (upd H3 s2.heap.objs.size (.lst ys)) K2.objs.size:=I2.fpOk hCle (by rw [upd_ne (Ne.symm hDC)]; exact I4.free)
   exact fin _ _ _ _ _ _ hn4 inv4 fpC (qn _ fa3)
  ·refine thn (T.item (compCx X scope N' K2.objs.size s2 H2 fp) rfl rfl rfl hc i _ s3 (subSt ix σ) H3 _ P3 (stat fr3) st3 go) fun r s4 ⟨u,hr,h4⟩=>?_
   subst hr
   refine thn h4 fun _ s5 ⟨x,H5,I5,r5,y5,st5,fr5⟩=>?_
   have I5':=I5.pinned (stat fr5) (T.obj _ _ st5)
   refine thn (hg _ _ _ _ _ s5 _ H5 x u _ I5' r5 (step x H5 y5)) fun _ s6 ⟨σ6,H6,I6,wk,q6⟩=>?_
   refine thn (ht _ _ _ _ _ s6 σ6 H6 _ I6 q6) fun ok s7 ⟨H7,I7,q7⟩=>?_
   have pinA:∀ {s8:Shared} {H8:Hp},Inv (compCx X scope N' K2.objs.size s2 H2 fp) ([(s2.heap.objs.size,{ cls:=.type "list",data:=.seq its.toArray nn })] ++ pinsAt fp s5.heap) σ6 H8 s8 → s8.heap.get? s2.heap.objs.size=some { cls:=.type "list",data:=.seq its.toArray nn } ∧ H8 s2.heap.objs.size=none:=fun {s8 H8} I8=>by
    have z:=I8.pin (s2.heap.objs.size,_) (List.mem_append_right _ (List.mem_append_left _ (List.mem_singleton.mpr rfl)))
    exact ⟨z.1,z.2.1⟩
   have again:∀ {s8:Shared} {H8:Hp} {ys8:List V} {its8:List Value} {m':Nat},Inv (compCx X scope N' K2.objs.size s2 H2 fp) (pinsAt fp s5.heap) σ6 H8 s8 → H8 s2.heap.objs.size=none → s8.heap.PlainList s2.heap.objs.size its8.toArray → Vals ys8 its8 → m' < n → W (i + 1) m' ys8 H8 →
     ∃ m,m < n ∧ ∃ i ys its Hc,Inv (compCx X scope N' K2.objs.size s2 H2 fp) [] (subSt ix σ) Hc s8 ∧ tn i s8.heap ∧ (∀ b ∈ fp,Hc b=none) ∧ Hc s2.heap.objs.size=none ∧ s8.heap.PlainList s2.heap.objs.size (its:List Value).toArray ∧ Vals ys its ∧ W i m ys Hc:=fun {s8 H8 ys8 its8 m'} I8 fa8 pl8 rv8 hm w8=>by
    refine ⟨m',hm,i + 1,ys8,its8,H8,?_,T.keep _ _ _ st5 fun b hb o e=>(I8.pin (b,o) (List.mem_append_right _ (mem_pinsAt hb e))).1,fun b hb=>?_,fa8,pl8,rv8,w8⟩
    ·exact (I8.weak (by rw [I8.len]; exact I3.len) wk).pins_of fun p hp=>nomatch hp
    ·obtain ⟨o,e,d⟩:=T.obj _ _ st5 b hb
     exact (I8.pin (b,o) (List.mem_append_right _ (mem_pinsAt hb e))).2.1
   have dropA:∀ {s8:Shared} {H8:Hp} {P:List (Addr × Obj)},Inv (compCx X scope N' K2.objs.size s2 H2 fp) (P ++ pinsAt fp s5.heap) σ6 H8 s8 → Inv (compCx X scope N' K2.objs.size s2 H2 fp) (pinsAt fp s5.heap) σ6 H8 s8:=fun {s8 H8 P} I8 =>
    I8.pins_of fun p hp=>I8.pin p (List.mem_append_right _ (List.mem_append_right _ hp))
   cases ok with
   | false =>
     have q7':∃ m',m' < n ∧ W (i + 1) m' ys H7:=q7
     obtain ⟨m',hm,w7⟩:=q7'
     obtain ⟨a7,fa7⟩:=pinA I7
     exact again (dropA I7) fa7 ⟨nn,a7⟩ rv3 hm w7
   | true =>
     refine thn (he _ _ _ _ _ s7 σ6 H7 _ I7 q7) fun u8 s8 ⟨y8,H8,I8,r8,m',hm,w8⟩=>?_
     obtain ⟨a8,fa8⟩:=pinA I8
     have hz:its.toArray.size ≤ sizeLine:=by rw [List.size_toArray,← rv3.length]; exact Nat.le_of_lt hlen
     refine wpAny_list_append_plain ⟨nn,a8⟩ (fun h' pl' hsb=>?_) hz
     have I9:Inv (compCx X scope N' K2.objs.size s2 H2 fp) (pinsAt fp s5.heap) σ6 H8 { s8 with heap:=h' }:=by
      refine (dropA I8).turned (t':=s8.toks) (it:=s2.heap.objs.size) (fun b o hb e=>(hsb.2 b hb).trans e) fa8 hDC (.inr (Nat.le_refl _)) (fun x c e z=>?_) fun p hp z=>?_
      ·rcases cf_mem (mem_of_lookup e) with w | w
       ·obtain ⟨v,o,ho,_⟩:=I2.cell x c (clOf_mem w)
        exact absurd (Heap.lt_size ho) (by rw [z]; exact Nat.lt_irrefl _)
       ·have:=w.2
        rw [z,hCs] at this
        omega
      ·have hp':p ∈ pinsAt fp s5.heap:=by simpa [compCx] using hp
       have:=hfs p.1 (of_pinsAt hp').1
       rw [z] at this
       exact Nat.lt_irrefl _ this
     have pl'':h'.PlainList s2.heap.objs.size (its ++ [u8]).toArray:=by
      have e:its.toArray.push u8=(its ++ [u8]).toArray:=by simp
      rw [← e]; exact pl'
     exact again I9 fa8 pl'' (rv3.append (.cons r8 .nil)) hm w8
 exact codeAny_compStart_list (loop _ rfl) (T.self _ 0 _ _ _ (T.keep _ _ _ st2 fun b _ o e=>kp b o e) (loop _ rfl))
theorem pe_comp (hc:X.calm=true) (hkind:scope.kind=.function) (hcell:∀ y ∈ scope.names,y.2=.cell → scope.names.lookup y.1=some .cell) (hdis:∀ x,(x,NameKind.cell) ∈ scope.names → (x,NameKind.free) ∉ scope.names) (hnames:∀ y ∈ scope.names,y.2=.local → scope.names.lookup y.1=some .local)
  (hfr:∀ x ∈ scope.names,x.2=.free → X.env.kindOf x.1=some .cell ∨ X.env.kindOf x.1=some .free) (hix:IxOk X.N X.env.scope scope N' ix) (hfree:∀ (j i:Nat) (x:Str),ix[j]?=some (some i) → N'[j]?=some x → scope.names.lookup x=some .free)
  (hi:PI X tg iter wi) (hg:∀ C s H fp,PG (compCx X scope N' C s H fp) tg g) (ht:∀ C s H fp,PIfs (compCx X scope N' C s H fp) ifs tc) (he:∀ C s H fp,PE (compCx X scope N' C s H fp) elt te)
  (hs:∀ x,foldedSetIterable iter X.env x=pure x:=by intro _; rfl):PE X (.ListComp elt [⟨tg,iter,ifs,0⟩] scope pos) (tComp ix wi g tc te):=by
 intro pins s σ H Q I h
 rw [eval_ListComp]
 exact comp_gen hc hkind hcell hdis hnames hfr hix hfree hi hg ht he hs I h (use:=none) fun D C s4 m4 H' f hn inv fp q=>⟨m4,hn,fun h' hsb=>⟨.ref D,H',inv h' hsb,rfl,q⟩⟩
theorem ps_setC (hc:X.calm=true) (hkind:scope.kind=.function) (hcell:∀ y ∈ scope.names,y.2=.cell → scope.names.lookup y.1=some .cell) (hdis:∀ x,(x,NameKind.cell) ∈ scope.names → (x,NameKind.free) ∉ scope.names) (hnames:∀ y ∈ scope.names,y.2=.local → scope.names.lookup y.1=some .local)
  (hfr:∀ x ∈ scope.names,x.2=.free → X.env.kindOf x.1=some .cell ∨ X.env.kindOf x.1=some .free) (hix:IxOk X.N X.env.scope scope N' ix) (hfree:∀ (j i:Nat) (x:Str),ix[j]?=some (some i) → N'[j]?=some x → scope.names.lookup x=some .free)
  (hi:PI X tg iter wi) (hg:∀ C s H fp,PG (compCx X scope N' C s H fp) tg g) (ht:∀ C s H fp,PIfs (compCx X scope N' C s H fp) ifs tc) (he:∀ C s H fp,PE (compCx X scope N' C s H fp) elt te)
  (hs:∀ x,foldedSetIterable iter X.env x=pure x:=by intro _; rfl)
  {i:Nat} {x:Str} {pos' pos2:Pos} (hN:X.N.Nodup) (hxi:X.N[i]?=some x) (hx:Loc X.env.scope x) (hsw:swapsWith (.ListComp elt [⟨tg,iter,ifs,0⟩] scope pos) (some (.Name x pos')) pos2.line X.env=pure true)
  (hf:X.fn x=true ∨ X.env.scope.names.lookup x=some .local):PS X (.Assign [.Name x pos'] (.ListComp elt [⟨tg,iter,ifs,0⟩] scope pos) pos2) (tAsg (tComp ix wi g tc te) (gName i)):=by
 intro pins s σ H D I h
 rw [exec_Assign_Name_used _ _ _ _ hsw]
 refine wpAny_bind (wpAny_standAt (wpAny_bind ?_))
 show wpAny _ _ (comprehension (.ListComp elt [⟨tg,iter,ifs,0⟩] scope pos) scope X.env _ (newList []) _ _ (some (assign (.Name x pos') X.env)) >>= fun _=>pure ()) _ _ _
 refine wpAny_bind (comp_gen hc hkind hcell hdis hnames hfr hix hfree hi hg ht he hs I h (use:=some (assign (.Name x pos') X.env)) fun L C s4 m4 H' f hn inv fp q=>?_)
 have I4:Inv X pins σ H' s4:=inv s4.heap (Heap.SameBut.refl C s4.heap)
 obtain ⟨o,es,ep,ho,hr⟩:=id hn
 have P4:=I4.pinned (fp:=[C]) (fun b hb=>by rw [List.mem_singleton] at hb; subst hb; exact fp) (fun b hb=>by rw [List.mem_singleton] at hb; subst hb; exact ⟨o,ho,fun v z=>by rw [hr.1] at z; cases z⟩)
 show wpAny _ _ (standAt pos' >>= fun _=>bindName X.env x (.ref L)) _ _ s4
 refine wpAny_bind (wpAny_standAt (wpAny_bindName ?_))
 refine store_ok P4 hN hxi hx (v:=.ref L) (u:=.ref L) rfl (fun s5 I5=>?_) hf
 have hp:=mem_pinsAt (fp:=[C]) List.mem_cons_self ho
 have h5:s5.heap.get? C=some o:=(I5.pin _ (List.mem_append_right _ (List.mem_append_right _ hp))).1
 refine ⟨m4,⟨o,es,ep,h5,hr⟩,fun h' hsb=>wpAny_pure (wpAny_pure ?_)⟩
 have I6:=I5.unpinned
 exact ⟨_,H',I6.turned (t':=s5.toks) (it:=C) (fun b o hb e=>(hsb.2 b hb).trans e) fp.1 fp.2.1 fp.2.2.2.1 fp.2.2.2.2.1 fp.2.2.2.2.2,q⟩
end
end L2
namespace PySem.SeqAt
open AutoSeq1 (wpAny_loadPart')
open MeetsSeq
section
variable {M:Model} {A:Around} {E:Value → Shared → Prop} {s:Shared}
def DictAt (h:Heap) (l:Addr):Prop:=∃ es ep,h.get? l=some { cls:=.type "dict",data:=.dict es ep }
theorem dict_eq_declines_none (l:Addr) (es:Array DictEntry) (ep:Nat) :
  Meets (Builtin.«dict.__eq__» ⟨[.ref l,.none],[]⟩) (fun _ R s=>s.heap.get? l=some { cls:=.type "dict",data:=.dict es ep } ∧ R (.ok (.ret .notImplemented)) s) :=
 .of_wp fun prog w A R s h=>by obtain ⟨hp,g,d,tk,os⟩:=s; obtain ⟨hl,h⟩:=h; have f1:=F.sub_NoneType_dict; wp_walk using wpAny_loadPart' hl; exact ⟨_,rfl,h⟩
theorem RcAt.none_dict {l:Addr} (hl:DictAt s.heap l) (hu:A.units < cLine):RcAt A s (.none) (.ref l) false:=fun prog w E Q h=>by
 obtain ⟨es,ep,ho⟩:=id hl
 exact rc_eq_decline_or (k:=false) rfl ⟨_,ho,rfl⟩ (by decide) F.sub_dict_NoneType F.slot_NoneType_eq F.slot_dict_eq_refl
  (fun _ hq=>call_gives F.slot_NoneType_eq rfl F.entry_NoneType_eq (F.args_NoneType_eq_2 _ _) (NoneType___eq___none_ref_0 l) hq)
  (fun _ hq=>call_meets F.slot_dict_eq_refl ⟨_,ho,rfl⟩ F.entry_dict_eq (F.args_dict_eq_2 _ _) (dict_eq_declines_none l es ep) ⟨ho,hq⟩)
  (fun _ hq=>wpAny_of_eq (rfl:isSame (.none) (.ref l)=pure false) hq) (.inr hu) h
theorem EqAt.none_dict {l:Addr} (hl:DictAt s.heap l) (hu:A.units < cLine):EqAt A s (.none) (.ref l) false:=fun prog w E Q h=>by
 unfold eqBool
 refine wpAny_holding ?_
 refine wpAny_ite_split (fun hab=>absurd (eq_of_beq hab) nofun) (fun _=>?_)
 exact wpAny_bind (RcAt.none_dict hl hu prog w E _ (wpAny_truthy_bool h))
theorem dict_eq_declines_bool (l:Addr) (es:Array DictEntry) (ep:Nat) (b:Bool) :
  Meets (Builtin.«dict.__eq__» ⟨[.ref l,.bool b],[]⟩) (fun _ R s=>s.heap.get? l=some { cls:=.type "dict",data:=.dict es ep } ∧ R (.ok (.ret .notImplemented)) s) :=
 .of_wp fun prog w A R s h=>by obtain ⟨hp,g,d,tk,os⟩:=s; obtain ⟨hl,h⟩:=h; have f1:=F.sub_bool_dict; wp_walk using wpAny_loadPart' hl; exact ⟨_,rfl,h⟩
theorem bool_eq_declines_dict (l:Addr) (es:Array DictEntry) (ep:Nat) (b:Bool) :
  Meets (Builtin.«int.__eq__» ⟨[.bool b,.ref l],[]⟩) (fun _ R s=>s.heap.get? l=some { cls:=.type "dict",data:=.dict es ep } ∧ R (.ok (.ret .notImplemented)) s) :=
 .of_wp fun prog w A R s h=>by obtain ⟨hp,g,d,tk,os⟩:=s; obtain ⟨hl,h⟩:=h; wp_walk using wpAny_loadPart' hl,wpAny_load hl; exact ⟨_,rfl,h⟩
theorem RcAt.bool_dict {l:Addr} (b:Bool) (hl:DictAt s.heap l) (hu:A.units < cLine):RcAt A s (.bool b) (.ref l) false:=fun prog w E Q h=>by
 obtain ⟨es,ep,ho⟩:=id hl
 exact rc_eq_decline_or (k:=false) rfl ⟨_,ho,rfl⟩ (by decide) F.sub_dict_bool F.slot_bool_eq F.slot_dict_eq_refl
  (fun _ hq=>call_meets F.slot_bool_eq rfl F.entry_int_eq (F.args_int_eq_2 _ _) (bool_eq_declines_dict l es ep b) ⟨ho,hq⟩)
  (fun _ hq=>call_meets F.slot_dict_eq_refl ⟨_,ho,rfl⟩ F.entry_dict_eq (F.args_dict_eq_2 _ _) (dict_eq_declines_bool l es ep b) ⟨ho,hq⟩)
  (fun _ hq=>wpAny_of_eq (rfl:isSame (.bool b) (.ref l)=pure false) hq) (.inr hu) h
theorem EqAt.bool_dict {l:Addr} (b:Bool) (hl:DictAt s.heap l) (hu:A.units < cLine):EqAt A s (.bool b) (.ref l) false:=fun prog w E Q h=>by
 unfold eqBool
 refine wpAny_holding ?_
 refine wpAny_ite_split (fun hab=>absurd (eq_of_beq hab) nofun) (fun _=>?_)
 exact wpAny_bind (RcAt.bool_dict b hl hu prog w E _ (wpAny_truthy_bool h))
theorem dict_eq_declines_int (l:Addr) (es:Array DictEntry) (ep:Nat) (b:Int) (u:Tok) :
  Meets (Builtin.«dict.__eq__» ⟨[.ref l,.int b u],[]⟩) (fun _ R s=>s.heap.get? l=some { cls:=.type "dict",data:=.dict es ep } ∧ R (.ok (.ret .notImplemented)) s) :=
 .of_wp fun prog w A R s h=>by obtain ⟨hp,g,d,tk,os⟩:=s; obtain ⟨hl,h⟩:=h; have f1:=F.sub_int_dict; wp_walk using wpAny_loadPart' hl; exact ⟨_,rfl,h⟩
theorem int_eq_declines_dict (l:Addr) (es:Array DictEntry) (ep:Nat) (b:Int) (u:Tok) :
  Meets (Builtin.«int.__eq__» ⟨[.int b u,.ref l],[]⟩) (fun _ R s=>s.heap.get? l=some { cls:=.type "dict",data:=.dict es ep } ∧ R (.ok (.ret .notImplemented)) s) :=
 .of_wp fun prog w A R s h=>by obtain ⟨hp,g,d,tk,os⟩:=s; obtain ⟨hl,h⟩:=h; wp_walk using wpAny_loadPart' hl,wpAny_load hl; exact ⟨_,rfl,h⟩
theorem RcAt.int_dict {l:Addr} (b:Int) (u:Tok) (hl:DictAt s.heap l) (hu:A.units < cLine):RcAt A s (.int b u) (.ref l) false:=fun prog w E Q h=>by
 obtain ⟨es,ep,ho⟩:=id hl
 exact rc_eq_decline_or (k:=false) rfl ⟨_,ho,rfl⟩ (by decide) F.sub_dict_int F.slot_int_eq F.slot_dict_eq_refl
  (fun _ hq=>call_meets F.slot_int_eq rfl F.entry_int_eq (F.args_int_eq_2 _ _) (int_eq_declines_dict l es ep b u) ⟨ho,hq⟩)
  (fun _ hq=>call_meets F.slot_dict_eq_refl ⟨_,ho,rfl⟩ F.entry_dict_eq (F.args_dict_eq_2 _ _) (dict_eq_declines_int l es ep b u) ⟨ho,hq⟩)
  (fun _ hq=>wpAny_of_eq (rfl:isSame (.int b u) (.ref l)=pure false) hq) (.inr hu) h
theorem EqAt.int_dict {l:Addr} (b:Int) (u:Tok) (hl:DictAt s.heap l) (hu:A.units < cLine):EqAt A s (.int b u) (.ref l) false:=fun prog w E Q h=>by
 unfold eqBool
 refine wpAny_holding ?_
 refine wpAny_ite_split (fun hab=>absurd (eq_of_beq hab) nofun) (fun _=>?_)
 exact wpAny_bind (RcAt.int_dict b u hl hu prog w E _ (wpAny_truthy_bool h))
theorem dict_eq_declines_str (l:Addr) (es:Array DictEntry) (ep:Nat) (b:Str) (u:Tok) :
  Meets (Builtin.«dict.__eq__» ⟨[.ref l,.str b u],[]⟩) (fun _ R s=>s.heap.get? l=some { cls:=.type "dict",data:=.dict es ep } ∧ R (.ok (.ret .notImplemented)) s) :=
 .of_wp fun prog w A R s h=>by obtain ⟨hp,g,d,tk,os⟩:=s; obtain ⟨hl,h⟩:=h; have f1:=F.sub_str_dict; wp_walk using wpAny_loadPart' hl; exact ⟨_,rfl,h⟩
theorem str_eq_declines_dict (l:Addr) (es:Array DictEntry) (ep:Nat) (b:Str) (u:Tok) :
  Meets (Builtin.«str.__eq__» ⟨[.str b u,.ref l],[]⟩) (fun _ R s=>s.heap.get? l=some { cls:=.type "dict",data:=.dict es ep } ∧ R (.ok (.ret .notImplemented)) s) :=
 .of_wp fun prog w A R s h=>by obtain ⟨hp,g,d,tk,os⟩:=s; obtain ⟨hl,h⟩:=h; wp_walk using wpAny_loadPart' hl,wpAny_load hl; exact ⟨_,rfl,h⟩
theorem RcAt.str_dict {l:Addr} (b:Str) (u:Tok) (hl:DictAt s.heap l) (hu:A.units < cLine):RcAt A s (.str b u) (.ref l) false:=fun prog w E Q h=>by
 obtain ⟨es,ep,ho⟩:=id hl
 exact rc_eq_decline_or (k:=false) rfl ⟨_,ho,rfl⟩ (by decide) F.sub_dict_str F.slot_str_eq F.slot_dict_eq_refl
  (fun _ hq=>call_meets F.slot_str_eq rfl F.entry_str_eq (F.args_str_eq_2 _ _) (str_eq_declines_dict l es ep b u) ⟨ho,hq⟩)
  (fun _ hq=>call_meets F.slot_dict_eq_refl ⟨_,ho,rfl⟩ F.entry_dict_eq (F.args_dict_eq_2 _ _) (dict_eq_declines_str l es ep b u) ⟨ho,hq⟩)
  (fun _ hq=>wpAny_of_eq (rfl:isSame (.str b u) (.ref l)=pure false) hq) (.inr hu) h
theorem EqAt.str_dict {l:Addr} (b:Str) (u:Tok) (hl:DictAt s.heap l) (hu:A.units < cLine):EqAt A s (.str b u) (.ref l) false:=fun prog w E Q h=>by
 unfold eqBool
 refine wpAny_holding ?_
 refine wpAny_ite_split (fun hab=>absurd (eq_of_beq hab) nofun) (fun _=>?_)
 exact wpAny_bind (RcAt.str_dict b u hl hu prog w E _ (wpAny_truthy_bool h))
theorem tuple_eq_declines_dict (l b:Addr) (items:Array Value) (es:Array DictEntry) (ep:Nat) (n:Nat) (dd:Option Addr) (sl:Array (Option Value)) :
  Meets (Builtin.«tuple.__eq__» ⟨[.ref l,.ref b],[]⟩) (fun _ R s=>s.heap.get? l=some { cls:=.type "tuple",dict:=dd,data:=.seq items n,slots:=sl } ∧ s.heap.get? b=some { cls:=.type "dict",data:=.dict es ep } ∧ R (.ok (.ret .notImplemented)) s) :=
 .of_wp fun prog w A R s h=>by obtain ⟨hp,g,d,tk,os⟩:=s; obtain ⟨hl,hb,h⟩:=h; have f1:=F.sub_dict_tuple; wp_walk using wpAny_loadPart' hl,wpAny_loadPart' hb; exact ⟨_,rfl,h⟩
theorem dict_eq_declines_tuple (b l:Addr) (items:Array Value) (es:Array DictEntry) (ep:Nat) (n:Nat) (dd:Option Addr) (sl:Array (Option Value)) :
  Meets (Builtin.«dict.__eq__» ⟨[.ref b,.ref l],[]⟩) (fun _ R s=>s.heap.get? b=some { cls:=.type "dict",data:=.dict es ep } ∧ s.heap.get? l=some { cls:=.type "tuple",dict:=dd,data:=.seq items n,slots:=sl } ∧ R (.ok (.ret .notImplemented)) s) :=
 .of_wp fun prog w A R s h=>by obtain ⟨hp,g,d,tk,os⟩:=s; obtain ⟨hb,hl,h⟩:=h; have f1:=F.sub_tuple_dict; wp_walk using wpAny_loadPart' hb,wpAny_loadPart' hl; exact ⟨_,rfl,h⟩
theorem ne_tuple_dict {l b:Addr} {items:Array Value} (hl:s.heap.IsTuple l items) (hb:DictAt s.heap b):l ≠ b:=by
 rintro rfl
 obtain ⟨o,ho,hc,_⟩:=hl
 obtain ⟨es,ep,ho2⟩:=hb
 rw [ho] at ho2; cases ho2; injection hc with z; exact absurd z (by decide)
theorem RcAt.tuple_dict {l b:Addr} {items:Array Value} (hl:s.heap.IsTuple l items) (hb:DictAt s.heap b) (hu:A.units < cLine):RcAt A s (.ref l) (.ref b) false:=fun prog w E Q h=>by
 have hne:l ≠ b:=ne_tuple_dict hl hb
 obtain ⟨⟨cls,dd,data,sl⟩,ho,hc,n,hd⟩:=id hl
 obtain ⟨es,ep,ho2⟩:=id hb
 simp only at hc hd
 subst hc hd
 exact (rc_eq_decline_or (k:=false) ⟨_,ho,rfl⟩ ⟨_,ho2,rfl⟩ (by decide) F.sub_dict_tuple F.slot_tuple_eq F.slot_dict_eq_refl
  (fun _ hq=>call_meets F.slot_tuple_eq ⟨_,ho,rfl⟩ F.entry_tuple_eq (F.args_tuple_eq_2 _ _) (tuple_eq_declines_dict l b items es ep n dd sl) ⟨ho,ho2,hq⟩)
  (fun _ hq=>call_meets F.slot_dict_eq_refl ⟨_,ho2,rfl⟩ F.entry_dict_eq (F.args_dict_eq_2 _ _) (dict_eq_declines_tuple b l items es ep n dd sl) ⟨ho2,ho,hq⟩)
  (fun _ hq=>wpAny_isSame_ref_other' hne ho ho2 (by simp) hq) (.inr hu) h)
theorem EqAt.tuple_dict {l b:Addr} {items:Array Value} (hl:s.heap.IsTuple l items) (hb:DictAt s.heap b) (hu:A.units < cLine):EqAt A s (.ref l) (.ref b) false:=.of_refs (ne_tuple_dict hl hb) (.tuple_dict hl hb hu)
theorem list_eq_declines_dict (l b:Addr) (items:Array Value) (es:Array DictEntry) (ep:Nat) (n:Nat) (dd:Option Addr) (sl:Array (Option Value)) :
  Meets (Builtin.«list.__eq__» ⟨[.ref l,.ref b],[]⟩) (fun _ R s=>s.heap.get? l=some { cls:=.type "list",dict:=dd,data:=.seq items n,slots:=sl } ∧ s.heap.get? b=some { cls:=.type "dict",data:=.dict es ep } ∧ R (.ok (.ret .notImplemented)) s) :=
 .of_wp fun prog w A R s h=>by obtain ⟨hp,g,d,tk,os⟩:=s; obtain ⟨hl,hb,h⟩:=h; have f1:=F.sub_dict_list; wp_walk using wpAny_loadPart' hl,wpAny_loadPart' hb; exact ⟨_,rfl,h⟩
theorem dict_eq_declines_list (b l:Addr) (items:Array Value) (es:Array DictEntry) (ep:Nat) (n:Nat) (dd:Option Addr) (sl:Array (Option Value)) :
  Meets (Builtin.«dict.__eq__» ⟨[.ref b,.ref l],[]⟩) (fun _ R s=>s.heap.get? b=some { cls:=.type "dict",data:=.dict es ep } ∧ s.heap.get? l=some { cls:=.type "list",dict:=dd,data:=.seq items n,slots:=sl } ∧ R (.ok (.ret .notImplemented)) s) :=
 .of_wp fun prog w A R s h=>by obtain ⟨hp,g,d,tk,os⟩:=s; obtain ⟨hb,hl,h⟩:=h; have f1:=F.sub_list_dict; wp_walk using wpAny_loadPart' hb,wpAny_loadPart' hl; exact ⟨_,rfl,h⟩
theorem ne_list_dict {l b:Addr} {items:Array Value} (hl:s.heap.IsList l items) (hb:DictAt s.heap b):l ≠ b:=by
 rintro rfl
 obtain ⟨o,ho,hc,_⟩:=hl
 obtain ⟨es,ep,ho2⟩:=hb
 rw [ho] at ho2; cases ho2; injection hc with z; exact absurd z (by decide)
theorem RcAt.list_dict {l b:Addr} {items:Array Value} (hl:s.heap.IsList l items) (hb:DictAt s.heap b) (hu:A.units < cLine):RcAt A s (.ref l) (.ref b) false:=fun prog w E Q h=>by
 have hne:l ≠ b:=ne_list_dict hl hb
 obtain ⟨⟨cls,dd,data,sl⟩,ho,hc,n,hd⟩:=id hl
 obtain ⟨es,ep,ho2⟩:=id hb
 simp only at hc hd
 subst hc hd
 exact (rc_eq_decline_or (k:=false) ⟨_,ho,rfl⟩ ⟨_,ho2,rfl⟩ (by decide) F.sub_dict_list F.slot_list_eq F.slot_dict_eq_refl
  (fun _ hq=>call_meets F.slot_list_eq ⟨_,ho,rfl⟩ F.entry_list_eq (F.args_list_eq_2 _ _) (list_eq_declines_dict l b items es ep n dd sl) ⟨ho,ho2,hq⟩)
  (fun _ hq=>call_meets F.slot_dict_eq_refl ⟨_,ho2,rfl⟩ F.entry_dict_eq (F.args_dict_eq_2 _ _) (dict_eq_declines_list b l items es ep n dd sl) ⟨ho2,ho,hq⟩)
  (fun _ hq=>wpAny_isSame_ref_other' hne ho ho2 (by simp) hq) (.inr hu) h)
theorem EqAt.list_dict {l b:Addr} {items:Array Value} (hl:s.heap.IsList l items) (hb:DictAt s.heap b) (hu:A.units < cLine):EqAt A s (.ref l) (.ref b) false:=.of_refs (ne_list_dict hl hb) (.list_dict hl hb hu)
theorem dict_ne_declines_none (l:Addr) (es:Array DictEntry) (ep:Nat) :
  Meets (Builtin.«dict.__ne__» ⟨[.ref l,.none],[]⟩) (fun _ R s=>s.heap.get? l=some { cls:=.type "dict",data:=.dict es ep } ∧ R (.ok (.ret .notImplemented)) s) :=
 .of_wp fun prog w A R s h=>by obtain ⟨hp,g,d,tk,os⟩:=s; obtain ⟨hl,h⟩:=h; have f1:=F.sub_NoneType_dict; wp_walk using wpAny_loadPart' hl; exact ⟨_,rfl,h⟩
theorem RcNeAt.none_dict {l:Addr} (hl:DictAt s.heap l) (hu:A.units < cLine):RcNeAt A s (.none) (.ref l) true:=fun prog w E Q h=>by
 obtain ⟨es,ep,ho⟩:=id hl
 exact rc_ne_decline_or (k:=false) rfl ⟨_,ho,rfl⟩ (by decide) F.sub_dict_NoneType F.slot_NoneType_ne F.slot_dict_ne_refl
  (fun _ hq=>call_gives F.slot_NoneType_ne rfl F.entry_NoneType_ne (F.args_NoneType_ne_2 _ _) (NoneType___ne___none_ref_0 l) hq)
  (fun _ hq=>call_meets F.slot_dict_ne_refl ⟨_,ho,rfl⟩ F.entry_dict_ne (F.args_dict_ne_2 _ _) (dict_ne_declines_none l es ep) ⟨ho,hq⟩)
  (fun _ hq=>wpAny_of_eq (rfl:isSame (.none) (.ref l)=pure false) hq) (.inr hu) h
theorem dict_ne_declines_bool (l:Addr) (es:Array DictEntry) (ep:Nat) (b:Bool) :
  Meets (Builtin.«dict.__ne__» ⟨[.ref l,.bool b],[]⟩) (fun _ R s=>s.heap.get? l=some { cls:=.type "dict",data:=.dict es ep } ∧ R (.ok (.ret .notImplemented)) s) :=
 .of_wp fun prog w A R s h=>by obtain ⟨hp,g,d,tk,os⟩:=s; obtain ⟨hl,h⟩:=h; have f1:=F.sub_bool_dict; wp_walk using wpAny_loadPart' hl; exact ⟨_,rfl,h⟩
theorem bool_ne_declines_dict (l:Addr) (es:Array DictEntry) (ep:Nat) (b:Bool) :
  Meets (Builtin.«int.__ne__» ⟨[.bool b,.ref l],[]⟩) (fun _ R s=>s.heap.get? l=some { cls:=.type "dict",data:=.dict es ep } ∧ R (.ok (.ret .notImplemented)) s) :=
 .of_wp fun prog w A R s h=>by obtain ⟨hp,g,d,tk,os⟩:=s; obtain ⟨hl,h⟩:=h; wp_walk using wpAny_loadPart' hl,wpAny_load hl; exact ⟨_,rfl,h⟩
theorem RcNeAt.bool_dict {l:Addr} (b:Bool) (hl:DictAt s.heap l) (hu:A.units < cLine):RcNeAt A s (.bool b) (.ref l) true:=fun prog w E Q h=>by
 obtain ⟨es,ep,ho⟩:=id hl
 exact rc_ne_decline_or (k:=false) rfl ⟨_,ho,rfl⟩ (by decide) F.sub_dict_bool F.slot_bool_ne F.slot_dict_ne_refl
  (fun _ hq=>call_meets F.slot_bool_ne rfl F.entry_int_ne (F.args_int_ne_2 _ _) (bool_ne_declines_dict l es ep b) ⟨ho,hq⟩)
  (fun _ hq=>call_meets F.slot_dict_ne_refl ⟨_,ho,rfl⟩ F.entry_dict_ne (F.args_dict_ne_2 _ _) (dict_ne_declines_bool l es ep b) ⟨ho,hq⟩)
  (fun _ hq=>wpAny_of_eq (rfl:isSame (.bool b) (.ref l)=pure false) hq) (.inr hu) h
theorem dict_ne_declines_int (l:Addr) (es:Array DictEntry) (ep:Nat) (b:Int) (u:Tok) :
  Meets (Builtin.«dict.__ne__» ⟨[.ref l,.int b u],[]⟩) (fun _ R s=>s.heap.get? l=some { cls:=.type "dict",data:=.dict es ep } ∧ R (.ok (.ret .notImplemented)) s) :=
 .of_wp fun prog w A R s h=>by obtain ⟨hp,g,d,tk,os⟩:=s; obtain ⟨hl,h⟩:=h; have f1:=F.sub_int_dict; wp_walk using wpAny_loadPart' hl; exact ⟨_,rfl,h⟩
theorem int_ne_declines_dict (l:Addr) (es:Array DictEntry) (ep:Nat) (b:Int) (u:Tok) :
  Meets (Builtin.«int.__ne__» ⟨[.int b u,.ref l],[]⟩) (fun _ R s=>s.heap.get? l=some { cls:=.type "dict",data:=.dict es ep } ∧ R (.ok (.ret .notImplemented)) s) :=
 .of_wp fun prog w A R s h=>by obtain ⟨hp,g,d,tk,os⟩:=s; obtain ⟨hl,h⟩:=h; wp_walk using wpAny_loadPart' hl,wpAny_load hl; exact ⟨_,rfl,h⟩
theorem RcNeAt.int_dict {l:Addr} (b:Int) (u:Tok) (hl:DictAt s.heap l) (hu:A.units < cLine):RcNeAt A s (.int b u) (.ref l) true:=fun prog w E Q h=>by
 obtain ⟨es,ep,ho⟩:=id hl
 exact rc_ne_decline_or (k:=false) rfl ⟨_,ho,rfl⟩ (by decide) F.sub_dict_int F.slot_int_ne F.slot_dict_ne_refl
  (fun _ hq=>call_meets F.slot_int_ne rfl F.entry_int_ne (F.args_int_ne_2 _ _) (int_ne_declines_dict l es ep b u) ⟨ho,hq⟩)
  (fun _ hq=>call_meets F.slot_dict_ne_refl ⟨_,ho,rfl⟩ F.entry_dict_ne (F.args_dict_ne_2 _ _) (dict_ne_declines_int l es ep b u) ⟨ho,hq⟩)
  (fun _ hq=>wpAny_of_eq (rfl:isSame (.int b u) (.ref l)=pure false) hq) (.inr hu) h
theorem dict_ne_declines_str (l:Addr) (es:Array DictEntry) (ep:Nat) (b:Str) (u:Tok) :
  Meets (Builtin.«dict.__ne__» ⟨[.ref l,.str b u],[]⟩) (fun _ R s=>s.heap.get? l=some { cls:=.type "dict",data:=.dict es ep } ∧ R (.ok (.ret .notImplemented)) s) :=
 .of_wp fun prog w A R s h=>by obtain ⟨hp,g,d,tk,os⟩:=s; obtain ⟨hl,h⟩:=h; have f1:=F.sub_str_dict; wp_walk using wpAny_loadPart' hl; exact ⟨_,rfl,h⟩
theorem str_ne_declines_dict (l:Addr) (es:Array DictEntry) (ep:Nat) (b:Str) (u:Tok) :
  Meets (Builtin.«str.__ne__» ⟨[.str b u,.ref l],[]⟩) (fun _ R s=>s.heap.get? l=some { cls:=.type "dict",data:=.dict es ep } ∧ R (.ok (.ret .notImplemented)) s) :=
 .of_wp fun prog w A R s h=>by obtain ⟨hp,g,d,tk,os⟩:=s; obtain ⟨hl,h⟩:=h; wp_walk using wpAny_loadPart' hl,wpAny_load hl; exact ⟨_,rfl,h⟩
theorem RcNeAt.str_dict {l:Addr} (b:Str) (u:Tok) (hl:DictAt s.heap l) (hu:A.units < cLine):RcNeAt A s (.str b u) (.ref l) true:=fun prog w E Q h=>by
 obtain ⟨es,ep,ho⟩:=id hl
 exact rc_ne_decline_or (k:=false) rfl ⟨_,ho,rfl⟩ (by decide) F.sub_dict_str F.slot_str_ne F.slot_dict_ne_refl
  (fun _ hq=>call_meets F.slot_str_ne rfl F.entry_str_ne (F.args_str_ne_2 _ _) (str_ne_declines_dict l es ep b u) ⟨ho,hq⟩)
  (fun _ hq=>call_meets F.slot_dict_ne_refl ⟨_,ho,rfl⟩ F.entry_dict_ne (F.args_dict_ne_2 _ _) (dict_ne_declines_str l es ep b u) ⟨ho,hq⟩)
  (fun _ hq=>wpAny_of_eq (rfl:isSame (.str b u) (.ref l)=pure false) hq) (.inr hu) h
theorem tuple_ne_declines_dict (l b:Addr) (items:Array Value) (es:Array DictEntry) (ep:Nat) (n:Nat) (dd:Option Addr) (sl:Array (Option Value)) :
  Meets (Builtin.«tuple.__ne__» ⟨[.ref l,.ref b],[]⟩) (fun _ R s=>s.heap.get? l=some { cls:=.type "tuple",dict:=dd,data:=.seq items n,slots:=sl } ∧ s.heap.get? b=some { cls:=.type "dict",data:=.dict es ep } ∧ R (.ok (.ret .notImplemented)) s) :=
 .of_wp fun prog w A R s h=>by obtain ⟨hp,g,d,tk,os⟩:=s; obtain ⟨hl,hb,h⟩:=h; have f1:=F.sub_dict_tuple; wp_walk using wpAny_loadPart' hl,wpAny_loadPart' hb; exact ⟨_,rfl,h⟩
theorem dict_ne_declines_tuple (b l:Addr) (items:Array Value) (es:Array DictEntry) (ep:Nat) (n:Nat) (dd:Option Addr) (sl:Array (Option Value)) :
  Meets (Builtin.«dict.__ne__» ⟨[.ref b,.ref l],[]⟩) (fun _ R s=>s.heap.get? b=some { cls:=.type "dict",data:=.dict es ep } ∧ s.heap.get? l=some { cls:=.type "tuple",dict:=dd,data:=.seq items n,slots:=sl } ∧ R (.ok (.ret .notImplemented)) s) :=
 .of_wp fun prog w A R s h=>by obtain ⟨hp,g,d,tk,os⟩:=s; obtain ⟨hb,hl,h⟩:=h; have f1:=F.sub_tuple_dict; wp_walk using wpAny_loadPart' hb,wpAny_loadPart' hl; exact ⟨_,rfl,h⟩
theorem RcNeAt.tuple_dict {l b:Addr} {items:Array Value} (hl:s.heap.IsTuple l items) (hb:DictAt s.heap b) (hu:A.units < cLine):RcNeAt A s (.ref l) (.ref b) true:=fun prog w E Q h=>by
 have hne:l ≠ b:=ne_tuple_dict hl hb
 obtain ⟨⟨cls,dd,data,sl⟩,ho,hc,n,hd⟩:=id hl
 obtain ⟨es,ep,ho2⟩:=id hb
 simp only at hc hd
 subst hc hd
 exact (rc_ne_decline_or (k:=false) ⟨_,ho,rfl⟩ ⟨_,ho2,rfl⟩ (by decide) F.sub_dict_tuple F.slot_tuple_ne F.slot_dict_ne_refl
  (fun _ hq=>call_meets F.slot_tuple_ne ⟨_,ho,rfl⟩ F.entry_tuple_ne (F.args_tuple_ne_2 _ _) (tuple_ne_declines_dict l b items es ep n dd sl) ⟨ho,ho2,hq⟩)
  (fun _ hq=>call_meets F.slot_dict_ne_refl ⟨_,ho2,rfl⟩ F.entry_dict_ne (F.args_dict_ne_2 _ _) (dict_ne_declines_tuple b l items es ep n dd sl) ⟨ho2,ho,hq⟩)
  (fun _ hq=>wpAny_isSame_ref_other' hne ho ho2 (by simp) hq) (.inr hu) h)
theorem list_ne_declines_dict (l b:Addr) (items:Array Value) (es:Array DictEntry) (ep:Nat) (n:Nat) (dd:Option Addr) (sl:Array (Option Value)) :
  Meets (Builtin.«list.__ne__» ⟨[.ref l,.ref b],[]⟩) (fun _ R s=>s.heap.get? l=some { cls:=.type "list",dict:=dd,data:=.seq items n,slots:=sl } ∧ s.heap.get? b=some { cls:=.type "dict",data:=.dict es ep } ∧ R (.ok (.ret .notImplemented)) s) :=
 .of_wp fun prog w A R s h=>by obtain ⟨hp,g,d,tk,os⟩:=s; obtain ⟨hl,hb,h⟩:=h; have f1:=F.sub_dict_list; wp_walk using wpAny_loadPart' hl,wpAny_loadPart' hb; exact ⟨_,rfl,h⟩
theorem dict_ne_declines_list (b l:Addr) (items:Array Value) (es:Array DictEntry) (ep:Nat) (n:Nat) (dd:Option Addr) (sl:Array (Option Value)) :
  Meets (Builtin.«dict.__ne__» ⟨[.ref b,.ref l],[]⟩) (fun _ R s=>s.heap.get? b=some { cls:=.type "dict",data:=.dict es ep } ∧ s.heap.get? l=some { cls:=.type "list",dict:=dd,data:=.seq items n,slots:=sl } ∧ R (.ok (.ret .notImplemented)) s) :=
 .of_wp fun prog w A R s h=>by obtain ⟨hp,g,d,tk,os⟩:=s; obtain ⟨hb,hl,h⟩:=h; have f1:=F.sub_list_dict; wp_walk using wpAny_loadPart' hb,wpAny_loadPart' hl; exact ⟨_,rfl,h⟩
theorem RcNeAt.list_dict {l b:Addr} {items:Array Value} (hl:s.heap.IsList l items) (hb:DictAt s.heap b) (hu:A.units < cLine):RcNeAt A s (.ref l) (.ref b) true:=fun prog w E Q h=>by
 have hne:l ≠ b:=ne_list_dict hl hb
 obtain ⟨⟨cls,dd,data,sl⟩,ho,hc,n,hd⟩:=id hl
 obtain ⟨es,ep,ho2⟩:=id hb
 simp only at hc hd
 subst hc hd
 exact (rc_ne_decline_or (k:=false) ⟨_,ho,rfl⟩ ⟨_,ho2,rfl⟩ (by decide) F.sub_dict_list F.slot_list_ne F.slot_dict_ne_refl
  (fun _ hq=>call_meets F.slot_list_ne ⟨_,ho,rfl⟩ F.entry_list_ne (F.args_list_ne_2 _ _) (list_ne_declines_dict l b items es ep n dd sl) ⟨ho,ho2,hq⟩)
  (fun _ hq=>call_meets F.slot_dict_ne_refl ⟨_,ho2,rfl⟩ F.entry_dict_ne (F.args_dict_ne_2 _ _) (dict_ne_declines_list b l items es ep n dd sl) ⟨ho2,ho,hq⟩)
  (fun _ hq=>wpAny_isSame_ref_other' hne ho ho2 (by simp) hq) (.inr hu) h)
end
end PySem.SeqAt
namespace TL
open PySem L2
inductive T where
 | non | bl (b:Bool) | int (i:Int) | str (x:Str) | tup (xs:List T) | lst (xs:List T)
  
 | dct (d:List (List Nat × List Nat))
inductive Sl where
 | pu (t:T) | ow (ts:List T)
  
 | xc (c:Str)
  
 | ob (a:Addr) (c:Str) (fl:List (Str × T))
  
 | ro (c:Str) (fl:List (Str × T))
def Sl.isO:Sl → Prop
 | .ob _ _ _=>True
 | .ro _ _=>True
 | _=>False
abbrev Rho:=List (Option Sl)
def clsAt (K:PySem.W.Frag) (c:Str):Addr:=match PySem.W.nsIn K mainGlobals c with
 | some (some (.ref a))=>a
 | _=>0
def tupH (k:List Nat):Int:=reduceHash (Builtin.Tuple.tupleHashOf (k.map fun (n:Nat)=>hashInt (n:Int)))
def entD (x:List Nat × Addr × Addr):DictEntry:=⟨tupH x.1,.ref x.2.1,.ref x.2.2⟩
def DictO (a:Addr) (xs:List (List Nat × Addr × Addr)):HO:=.ext fun h=>(a == sysModules)=false ∧ ∃ ep,h.get? a=some { cls:=.type "dict",data:=.dict (xs.map entD).toArray ep }
def vInts (k:List Nat):List V:=k.map fun (n:Nat)=>V.int (n:Int)
def RepD (K:PySem.W.Frag) (H:Hp) (d:List (List Nat × List Nat)) (xs:List (List Nat × Addr × Addr)):Prop:=(d.map (·.1)).Nodup ∧ Paired (fun p x=>x.1=p.1 ∧ SqT K H x.2.1 (vInts p.1) ∧ SqT K H x.2.2 (vInts p.2)) d xs
mutual
def Rep (K:PySem.W.Frag) (H:Hp):T → V → Prop
 | .non,v=>v=.non
 | .bl b,v=>v=.bl b
 | .int i,v=>v=.int i
 | .str x,v=>v=.str x
 | .tup ts,v=>∃ a vs,v=.ref a ∧ SqT K H a vs ∧ RepL K H ts vs
 | .lst ts,v=>∃ a vs,v=.ref a ∧ SqL K H a vs ∧ RepL K H ts vs
 | .dct d,v=>∃ a xs,v=.ref a ∧ H a=some (DictO a xs) ∧ RepD K H d xs
def RepL (K:PySem.W.Frag) (H:Hp):List T → List V → Prop
 | [],vs=>vs=[]
 | t :: ts,vs=>∃ v r,vs=v :: r ∧ Rep K H t v ∧ RepL K H ts r
end
theorem sqT_mono {K:PySem.W.Frag} {H H':Hp} {a:Addr} {xs:List V} (e:Same H H') (h:SqT K H a xs):SqT K H' a xs:=by
 rcases h with (h | ⟨o,h⟩) | h
 ·exact .inl (.inl (e _ _ h))
 ·exact .inl (.inr ⟨o,e _ _ h⟩)
 ·exact .inr h
theorem RepD.mono {K:PySem.W.Frag} {H H':Hp} (e:Same H H') {d:List (List Nat × List Nat)} {xs:List (List Nat × Addr × Addr)} (h:RepD K H d xs):RepD K H' d xs:=⟨h.1,Paired.mapP h.2 fun p q ⟨h1,h2,h3⟩=>⟨h1,sqT_mono e h2,sqT_mono e h3⟩⟩
mutual
theorem Rep.mono {K:PySem.W.Frag} {H H':Hp} (e:Same H H'):∀ {t:T} {v:V},Rep K H t v → Rep K H' t v
 | .non,v,h=>by unfold Rep at h ⊢; exact h
 | .bl b,v,h=>by unfold Rep at h ⊢; exact h
 | .int b,v,h=>by unfold Rep at h ⊢; exact h
 | .str b,v,h=>by unfold Rep at h ⊢; exact h
 | .tup ts,v,h=>by
   unfold Rep at h ⊢
   obtain ⟨a,vs,h1,h2,h3⟩:=h
   exact ⟨a,vs,h1,sqT_mono e h2,RepL.mono e h3⟩
 | .lst ts,v,h=>by
   unfold Rep at h ⊢
   obtain ⟨a,vs,h1,h2,h3⟩:=h
   exact ⟨a,vs,h1,e.seq h2,RepL.mono e h3⟩
 | .dct d,v,h=>by
   unfold Rep at h ⊢
   obtain ⟨a,kvs,h1,h2,h3⟩:=h
   exact ⟨a,kvs,h1,e _ _ h2,h3.mono e⟩
theorem RepL.mono {K:PySem.W.Frag} {H H':Hp} (e:Same H H'):∀ {ts:List T} {vs:List V},RepL K H ts vs → RepL K H' ts vs
 | [],vs,h=>by unfold RepL at h ⊢; exact h
 | t :: ts,vs,h=>by
   unfold RepL at h ⊢
   obtain ⟨v,r,h1,h2,h3⟩:=h
   exact ⟨v,r,h1,Rep.mono e h2,RepL.mono e h3⟩
end
section
variable {K:PySem.W.Frag} {H:Hp}
theorem RepL.nil:RepL K H [] []:=by unfold RepL; rfl
theorem RepL.cons {t:T} {v:V} {ts:List T} {vs:List V} (h:Rep K H t v) (r:RepL K H ts vs):RepL K H (t :: ts) (v :: vs):=by unfold RepL; exact ⟨v,vs,rfl,h,r⟩
theorem RepL.one {t:T} {v:V} (h:Rep K H t v):RepL K H [t] [v]:=.cons h .nil
theorem RepL.length:∀ {ts:List T} {vs:List V},RepL K H ts vs → ts.length=vs.length
 | [],vs,h=>by unfold RepL at h; subst h; rfl
 | t :: ts,vs,h=>by
   unfold RepL at h
   obtain ⟨v,r,rfl,_,h3⟩:=h
   simp [RepL.length h3]
theorem RepL.get:∀ {ts:List T} {vs:List V} {i:Nat} {t:T},RepL K H ts vs → ts[i]?=some t → ∃ v,vs[i]?=some v ∧ Rep K H t v
 | [],vs,i,t,h,e=>by simp at e
 | t' :: ts,vs,i,t,h,e=>by
   unfold RepL at h
   obtain ⟨v,r,rfl,h2,h3⟩:=h
   cases i with
   | zero=>simp at e; subst e; exact ⟨v,rfl,h2⟩
   | succ i =>
     obtain ⟨u,h4,h5⟩:=RepL.get (i:=i) h3 (by simpa using e)
     exact ⟨u,by simpa using h4,h5⟩
theorem RepL.append:∀ {ts us:List T} {vs ws:List V},RepL K H ts vs → RepL K H us ws → RepL K H (ts ++ us) (vs ++ ws)
 | [],us,vs,ws,h,q=>by unfold RepL at h; subst h; exact q
 | t :: ts,us,vs,ws,h,q=>by
   unfold RepL at h
   obtain ⟨v,r,rfl,h2,h3⟩:=h
   exact .cons h2 (RepL.append h3 q)
theorem RepL.take:∀ {ts:List T} {vs:List V} (n:Nat),RepL K H ts vs → RepL K H (ts.take n) (vs.take n)
 | [],vs,n,h=>by unfold RepL at h; subst h; simp; exact .nil
 | t :: ts,vs,0,h=>.nil
 | t :: ts,vs,n + 1,h=>by
   unfold RepL at h
   obtain ⟨v,r,rfl,h2,h3⟩:=h
   exact .cons h2 (RepL.take n h3)
theorem RepL.drop:∀ {ts:List T} {vs:List V} (n:Nat),RepL K H ts vs → RepL K H (ts.drop n) (vs.drop n)
 | [],vs,n,h=>by unfold RepL at h; subst h; simp; exact .nil
 | t :: ts,vs,0,h=>h
 | t :: ts,vs,n + 1,h=>by
   unfold RepL at h
   obtain ⟨v,r,rfl,h2,h3⟩:=h
   exact RepL.drop n h3
theorem RepL.rep {ts:List T} {vs:List V} (h:RepL K H ts vs):∀ k:Nat,RepL K H (List.replicate k ts).flatten (List.replicate k vs).flatten
 | 0=>.nil
 | k + 1=>by
   rw [List.replicate_succ,List.replicate_succ,List.flatten_cons,List.flatten_cons]
   exact h.append (RepL.rep h k)
theorem RepL.ints:∀ {ns:List Int} {vs:List V},RepL K H (ns.map T.int) vs ↔ vs=ns.map V.int
 | [],vs=>by rw [List.map_nil,List.map_nil]; exact ⟨fun h=>by unfold RepL at h; exact h,fun h=>by unfold RepL; exact h⟩
 | n :: ns,vs=>by
   rw [List.map_cons,List.map_cons]
   constructor
   ·intro h
    unfold RepL at h
    obtain ⟨v,r,rfl,h2,h3⟩:=h
    unfold Rep at h2
    rw [h2,RepL.ints.mp h3]
   ·intro h
    subst h
    exact .cons (by unfold Rep; rfl) (RepL.ints.mpr rfl)
end
structure Ex (Hq H Hq' H':Hp):Prop where
 all:Same H H'
 q:Same Hq Hq'
 sub:Same Hq' H'
 out:∀ b,H b ≠ none → Hq b=none → Hq' b=none
theorem Ex.refl {Hq H:Hp} (h:Same Hq H):Ex Hq H Hq H:=⟨.refl _,.refl _,h,fun _ _ n=>n⟩
theorem Ex.trans {Hq H Hq1 H1 Hq2 H2:Hp} (a:Ex Hq H Hq1 H1) (b:Ex Hq1 H1 Hq2 H2):Ex Hq H Hq2 H2 :=
 ⟨a.all.trans b.all,a.q.trans b.q,b.sub,fun c h n=>b.out c (fun z=>by
  cases e:H c with
  | none=>exact h e
  | some o=>rw [a.all c o e] at z; cases z) (a.out c h n)⟩
theorem Ex.new {Hq H:Hp} (h:Same Hq H) {p:Addr} {o:HO} (hp:H p=none):Ex Hq H (upd Hq p o) (upd H p o):=by
 have hq:Hq p=none:=h.free hp
 refine ⟨fun b u e=>?_,fun b u e=>?_,fun b u e=>?_,fun b e n=>?_⟩
 ·rw [upd_ne (ne_of_none e hp)]; exact e
 ·rw [upd_ne (ne_of_none e hq)]; exact e
 ·by_cases hb:b=p
  ·subst hb; rw [upd_same] at e ⊢; exact e
  ·rw [upd_ne hb] at e ⊢; exact h b u e
 ·have:b ≠ p:=fun z=>by subst z; exact e hp
  rw [upd_ne this]; exact n
structure Z where
 K:PySem.W.Frag
 Hq:Hp
 H:Hp
def FldR (K:PySem.W.Frag) (H:Hp) (fl:List (Str × T)) (fs:List (Str × V)):Prop:=Paired (fun p q=>p.1=q.1 ∧ Rep K H p.2 q.2) fl fs
theorem FldR.mono {K:PySem.W.Frag} {H H':Hp} (e:Same H H') {fl:List (Str × T)} {fs:List (Str × V)} (h:FldR K H fl fs):FldR K H' fl fs:=Paired.mapP h fun p q ⟨h1,h2⟩=>⟨h1,h2.mono e⟩
structure Ro (z:Z) (σ:St) (ρ:Rho) (Hq H:Hp):Prop where
 ob:∀ (i:Nat) (a:Addr) (c:Str) (fl:List (Str × T)),ρ[i]?=some (some (.ob a c fl)) → σ[i]?=some (some (.ref a)) ∧ Hq a=none ∧ z.H a=none ∧ ∃ dx fs,H a=some (.ins (clsAt z.K c) dx fs) ∧ FldR z.K Hq fl fs
 on:∀ (i j:Nat) (a b:Addr) (c c':Str) (fl fl':List (Str × T)),i ≠ j → ρ[i]?=some (some (.ob a c fl)) → ρ[j]?=some (some (.ob b c' fl')) → a ≠ b
 ro:∀ (i:Nat) (c:Str) (fl:List (Str × T)),ρ[i]?=some (some (.ro c fl)) → ∃ a dx fs,σ[i]?=some (some (.ref a)) ∧ z.H a=some (.ins (clsAt z.K c) dx fs) ∧ FldR z.K z.Hq fl fs
theorem Ro.go {z:Z} {σ σ':St} {ρ ρ':Rho} {Hq H Hq' H':Hp} (r:Ro z σ ρ Hq H) (hs:∀ (j:Nat) (sl:Sl),sl.isO → ρ'[j]?=some (some sl) → ρ[j]?=some (some sl) ∧ σ'[j]?=σ[j]?)
  (hh:∀ a C dx fs,H a=some (.ins C dx fs) → Hq a=none → H' a=some (.ins C dx fs) ∧ Hq' a=none) (hq:Same Hq Hq'):Ro z σ' ρ' Hq' H':=by
 refine ⟨fun i a c fl e=>?_,fun i j a b c c' fl fl' hij e1 e2=>?_,fun i c fl e=>?_⟩
 ·obtain ⟨e,es⟩:=hs i (.ob a c fl) trivial e
  obtain ⟨h1,h2,h3,dx,fs,h4,h5⟩:=r.ob i a c fl e
  exact ⟨by rw [es]; exact h1,(hh a _ dx fs h4 h2).2,h3,dx,fs,(hh a _ dx fs h4 h2).1,h5.mono hq⟩
 ·exact r.on i j a b c c' fl fl' hij (hs i (.ob a c fl) trivial e1).1 (hs j (.ob b c' fl') trivial e2).1
 ·obtain ⟨e,es⟩:=hs i (.ro c fl) trivial e
  obtain ⟨a,dx,fs,h1,h2⟩:=r.ro i c fl e
  exact ⟨a,dx,fs,by rw [es]; exact h1,h2⟩
theorem Ro.none {z:Z} {σ:St} {ρ:Rho} {Hq H:Hp} (h:∀ (j:Nat) (sl:Sl),sl.isO → ρ[j]? ≠ some (some sl)):Ro z σ ρ Hq H :=
 ⟨fun i a c fl e=>absurd e (h i (.ob a c fl) trivial),fun i _ a _ c _ fl _ _ e=>absurd e (h i (.ob a c fl) trivial),fun i c fl e=>absurd e (h i (.ro c fl) trivial)⟩
theorem setO_hs {σ:St} {ρ:Rho} {i:Nat} {x:Option Sl} {v:Option V} (hx:∀ sl,x=some sl → ¬ sl.isO):∀ (j:Nat) (sl:Sl),sl.isO → (ρ.set i x)[j]?=some (some sl) → ρ[j]?=some (some sl) ∧ (σ.set i v)[j]?=σ[j]?:=fun j sl h e=>by
 by_cases hj:i=j
 ·subst hj
  by_cases hi:i < ρ.length
  ·rw [List.getElem?_set_self hi] at e
   exact absurd h (hx sl (Option.some.inj e))
  ·rw [List.getElem?_eq_none (by rw [List.length_set]; omega)] at e; cases e
 ·rw [List.getElem?_set_ne hj] at e ⊢
  exact ⟨e,rfl⟩
theorem setO_hs' {σ:St} {ρ:Rho} {i:Nat} {x:Option Sl} (hx:∀ sl,x=some sl → ¬ sl.isO):∀ (j:Nat) (sl:Sl),sl.isO → (ρ.set i x)[j]?=some (some sl) → ρ[j]?=some (some sl) ∧ σ[j]?=σ[j]?:=fun j sl h e =>
 ⟨(setO_hs (σ:=σ) (v:=none) hx j sl h e).1,rfl⟩
structure Rn (z:Z) (σ:St) (ρ:Rho) (Hq H:Hp):Prop where
 ex:Ex z.Hq z.H Hq H
 len:ρ.length=σ.length
 pu:∀ (i:Nat) (t:T),ρ[i]?=some (some (.pu t)) → ∃ v,σ[i]?=some (some v) ∧ Rep z.K Hq t v
 ow:∀ (i:Nat) (ts:List T),ρ[i]?=some (some (.ow ts)) → ∃ a vs,σ[i]?=some (some (.ref a)) ∧ Hq a=none ∧ z.H a=none ∧ H a=some (.lst vs) ∧ RepL z.K Hq ts vs
 ne:∀ (i j:Nat) (ts us:List T) (a:Addr),i ≠ j → ρ[i]?=some (some (.ow ts)) → ρ[j]?=some (some (.ow us)) → σ[i]?=some (some (.ref a)) → σ[j]? ≠ some (some (.ref a))
 xc:∀ (i:Nat) (C:Str),ρ[i]?=some (some (.xc C)) → ∃ a oe u,σ[i]?=some (some (.ref a)) ∧ Hq a=none ∧ H a=some (.frz oe u) ∧ oe.cls=.ref (clsAt z.K C) ∧ oe.dict=none ∧ ∃ vs,oe.data=.fields vs
 o:Ro z σ ρ Hq H
theorem Rn.sub {z:Z} {σ:St} {ρ:Rho} {Hq H:Hp} (r:Rn z σ ρ Hq H):Same Hq H:=r.ex.sub
theorem Rn.ext {z:Z} {σ:St} {ρ:Rho} {Hq H Hq' H':Hp} (r:Rn z σ ρ Hq H) (e:Ex Hq H Hq' H'):Rn z σ ρ Hq' H':=by
 refine ⟨r.ex.trans e,r.len,fun i t h=>?_,fun i ts h=>?_,r.ne,fun i C h=>?_,r.o.go (fun _ _ _ h=>⟨h,rfl⟩) (fun a C dx fs h n=>⟨e.all a _ h,e.out a (by rw [h]; simp) n⟩) e.q⟩
 ·obtain ⟨v,h1,h2⟩:=r.pu i t h
  exact ⟨v,h1,h2.mono e.q⟩
 ·obtain ⟨a,vs,h1,h2,h3,h4,h5⟩:=r.ow i ts h
  exact ⟨a,vs,h1,e.out a (by rw [h4]; simp) h2,h3,e.all a _ h4,h5.mono e.q⟩
 ·obtain ⟨a,oe,u,h1,h2,h3,h4⟩:=r.xc i C h
  exact ⟨a,oe,u,h1,e.out a (by rw [h3]; simp) h2,e.all a _ h3,h4⟩
abbrev FE:=Rho → Option T
abbrev FA:=Rho → Option (List T)
abbrev FT:=Rho → Option Bool
def tT (z:Z) (f:FE):TE:=fun σ H Q=>∃ ρ Hq t,Rn z σ ρ Hq H ∧ f ρ=some t ∧ ∀ v Hq' H',Ex Hq H Hq' H' → Rep z.K Hq' t v → Q v H'
def tA (z:Z) (f:FA):TA:=fun σ H Q=>∃ ρ Hq ts,Rn z σ ρ Hq H ∧ f ρ=some ts ∧ ∀ vs Hq' H',Ex Hq H Hq' H' → RepL z.K Hq' ts vs → Q vs H'
def tB2 (z:Z) (f:FT):TT:=fun σ H Q=>∃ ρ Hq b,Rn z σ ρ Hq H ∧ f ρ=some b ∧ ∀ Hq' H',Ex Hq H Hq' H' → Q b H'
def RepR (K:PySem.W.Frag) (Hq H:Hp) (t:T) (v:V):Prop:=Rep K Hq t v ∨ ∃ a vs ts,v=.ref a ∧ t=.lst ts ∧ H a=some (.lst vs) ∧ RepL K Hq ts vs
def tR (z:Z) (f:FE):TE:=fun σ H Q=>∃ ρ Hq t,Rn z σ ρ Hq H ∧ f ρ=some t ∧ ∀ v Hq' H',Ex Hq H Hq' H' → RepR z.K Hq' H' t v → Q v H'
def tF (z:Z) (f:FA):TE:=fun σ H Q=>∃ ρ Hq ts,Rn z σ ρ Hq H ∧ f ρ=some ts ∧ ∀ p vs Hq' H',Ex Hq H Hq' H' → H' p=none → RepL z.K Hq' ts vs → Q (.ref p) (upd H' p (.lst vs))
abbrev EV (X:Cx) (z:Z) (e:Expr) (f:FE):Prop:=PE X e (tT z f)
abbrev ER (X:Cx) (z:Z) (e:Expr) (f:FE):Prop:=PE X e (tR z f)
abbrev EF (X:Cx) (z:Z) (e:Expr) (f:FA):Prop:=PE X e (tF z f)
abbrev EA (X:Cx) (z:Z) (e:List Expr) (f:FA):Prop:=PA X e (tA z f)
abbrev ET (X:Cx) (z:Z) (e:Expr) (f:FT):Prop:=PT X e (tB2 z f)
theorem PE.imp {X:Cx} {e:Expr} {t t':TE} (h:PE X e t) (i:∀ σ H Q,t' σ H Q → t σ H Q):PE X e t':=fun pins s σ H Q I q=>h pins s σ H Q I (i σ H Q q)
theorem PT.imp {X:Cx} {e:Expr} {t t':TT} (h:PT X e t) (i:∀ σ H Q,t' σ H Q → t σ H Q):PT X e t':=fun pins s σ H Q I q=>h pins s σ H Q I (i σ H Q q)
theorem PA.imp {X:Cx} {e:List Expr} {t t':TA} (h:PA X e t) (i:∀ σ H Q,t' σ H Q → t σ H Q):PA X e t':=fun pos pins s σ H Q I q=>h pos pins s σ H Q I (i σ H Q q)
theorem PS.imp {X:Cx} {e:Stmt} {t t':TS} (h:PS X e t) (i:∀ D σ H,t' D σ H → t D σ H):PS X e t':=fun pins s σ H Q I q=>h pins s σ H Q I (i Q σ H q)
theorem PSs.imp {X:Cx} {e:List Stmt} {t t':TS} (h:PSs X e t) (i:∀ D σ H,t' D σ H → t D σ H):PSs X e t':=fun pins s σ H Q I q=>h pins s σ H Q I (i Q σ H q)
theorem RepR.ext {K:PySem.W.Frag} {Hq H Hq' H':Hp} {t:T} {v:V} (h:RepR K Hq H t v) (e:Ex Hq H Hq' H'):RepR K Hq' H' t v:=by
 rcases h with h | ⟨a,vs,ts,h1,h2,h3,h4⟩
 ·exact .inl (h.mono e.q)
 ·exact .inr ⟨a,vs,ts,h1,h2,e.all _ _ h3,h4.mono e.q⟩
theorem RepR.lst {K:PySem.W.Frag} {Hq H:Hp} {ts:List T} {v:V} (h:RepR K Hq H (.lst ts) v) (s:Same Hq H):∃ a vs,v=.ref a ∧ SqL K H a vs ∧ RepL K Hq ts vs:=by
 rcases h with h | ⟨a,vs,us,h1,h2,h3,h4⟩
 ·unfold Rep at h
  obtain ⟨a,vs,h1,h2,h3⟩:=h
  exact ⟨a,vs,h1,s.seq h2,h3⟩
 ·cases h2
  exact ⟨a,vs,h1,SqL.of h3,h4⟩
theorem RepR.tup {K:PySem.W.Frag} {Hq H:Hp} {ts:List T} {v:V} (h:RepR K Hq H (.tup ts) v) (s:Same Hq H):∃ a vs,v=.ref a ∧ SqT K H a vs ∧ RepL K Hq ts vs:=by
 rcases h with h | ⟨a,vs,us,h1,h2,h3,h4⟩
 ·unfold Rep at h
  obtain ⟨a,vs,h1,h2,h3⟩:=h
  exact ⟨a,vs,h1,sqT_mono s h2,h3⟩
 ·cases h2
theorem RepR.int {K:PySem.W.Frag} {Hq H:Hp} {i:Int} {v:V} (h:RepR K Hq H (.int i) v):v=.int i:=by
 rcases h with h | ⟨a,vs,us,h1,h2,_⟩
 ·unfold Rep at h; exact h
 ·cases h2
theorem RepR.str {K:PySem.W.Frag} {Hq H:Hp} {i:Str} {v:V} (h:RepR K Hq H (.str i) v):v=.str i:=by
 rcases h with h | ⟨a,vs,us,h1,h2,_⟩
 ·unfold Rep at h; exact h
 ·cases h2
theorem RepR.bl {K:PySem.W.Frag} {Hq H:Hp} {i:Bool} {v:V} (h:RepR K Hq H (.bl i) v):v=.bl i:=by
 rcases h with h | ⟨a,vs,us,h1,h2,_⟩
 ·unfold Rep at h; exact h
 ·cases h2
theorem rep_bl {K:PySem.W.Frag} {Hq:Hp} {b:Bool}:Rep K Hq (.bl b) (.bl b):=by unfold Rep; rfl
theorem rep_int {K:PySem.W.Frag} {Hq:Hp} {b:Int}:Rep K Hq (.int b) (.int b):=by unfold Rep; rfl
theorem rep_str {K:PySem.W.Frag} {Hq:Hp} {b:Str}:Rep K Hq (.str b) (.str b):=by unfold Rep; rfl
theorem rep_non {K:PySem.W.Frag} {Hq:Hp}:Rep K Hq .non .non:=by unfold Rep; rfl
theorem Rep.i {K:PySem.W.Frag} {Hq:Hp} {i:Int} {v:V} (h:Rep K Hq (.int i) v):v=.int i:=by unfold Rep at h; exact h
theorem Rep.b {K:PySem.W.Frag} {Hq:Hp} {i:Bool} {v:V} (h:Rep K Hq (.bl i) v):v=.bl i:=by unfold Rep at h; exact h
theorem Rep.s {K:PySem.W.Frag} {Hq:Hp} {i:Str} {v:V} (h:Rep K Hq (.str i) v):v=.str i:=by unfold Rep at h; exact h
theorem Rep.n {K:PySem.W.Frag} {Hq:Hp} {v:V} (h:Rep K Hq .non v):v=.non:=by unfold Rep at h; exact h
theorem rep_tupNew {K:PySem.W.Frag} {Hq:Hp} {p:Addr} {ts:List T} {vs:List V} (hp:Hq p=none) (h:RepL K Hq ts vs):Rep K (upd Hq p (.tup vs)) (.tup ts) (.ref p):=by
 unfold Rep
 exact ⟨p,vs,rfl,SqT.of upd_same,h.mono fun b o e=>by rw [upd_ne (ne_of_none e hp)]; exact e⟩
theorem rep_lstNew {K:PySem.W.Frag} {Hq:Hp} {p:Addr} {ts:List T} {vs:List V} (hp:Hq p=none) (h:RepL K Hq ts vs):Rep K (upd Hq p (.lst vs)) (.lst ts) (.ref p):=by
 unfold Rep
 exact ⟨p,vs,rfl,SqL.of upd_same,h.mono fun b o e=>by rw [upd_ne (ne_of_none e hp)]; exact e⟩
section
variable {X:Cx} {z:Z} {e:Expr} {f:FE}
theorem er_of (h:EV X z e f):ER X z e f:=PE.imp h fun σ H Q ⟨ρ,Hq,t,r,e,k⟩=>⟨ρ,Hq,t,r,e,fun v Hq' H' x p=>k v Hq' H' x (.inl p)⟩
def fNew (f:FA):FE:=fun ρ=>(f ρ).map T.lst
theorem ev_new {f:FA} (h:EF X z e f):EV X z e (fNew f):=PE.imp h fun σ H Q ⟨ρ,Hq,t,r,e,k⟩=>by
 unfold fNew at e
 cases q:f ρ with
 | none=>rw [q] at e; cases e
 | some ts =>
   rw [q] at e
   cases e
   refine ⟨ρ,Hq,ts,r,q,fun p vs Hq' H' x hp hr=>k _ _ _ (x.trans (.new x.sub hp)) (rep_lstNew (x.sub.free hp) hr)⟩
def gv (i:Nat):FE:=fun ρ=>match ρ[i]? with | some (some (.pu t))=>some t | _=>none
def go (i:Nat):FE:=fun ρ=>match ρ[i]? with | some (some (.ow ts))=>some (.lst ts) | _=>none
theorem ev_var (i:Nat) {x:Str} {pos:Pos} (hN:X.N[i]?=some x:=by rfl) (hv:Vis X.env.scope x:=by first | exact Or.inl rfl | exact Or.inr (Or.inl rfl) | exact Or.inr (Or.inr rfl)) (hd:(x == ("__debug__":Str))=false:=by decide)
  (hcd:(x == ("__classdict__":Str))=false:=by decide):EV X z (.Name x pos) (gv i):=PE.imp (pe_var hN hv hd hcd) fun σ H Q ⟨ρ,Hq,t,r,e,k⟩=>by
 unfold gv at e
 split at e
 ·rename_i t' h
  cases e
  obtain ⟨v,h1,h2⟩:=r.pu i t h
  exact ⟨v,h1,k v Hq H (.refl r.sub) h2⟩
 ·cases e
theorem er_own (i:Nat) {x:Str} {pos:Pos} (hN:X.N[i]?=some x:=by rfl) (hv:Vis X.env.scope x:=by first | exact Or.inl rfl | exact Or.inr (Or.inl rfl) | exact Or.inr (Or.inr rfl)) (hd:(x == ("__debug__":Str))=false:=by decide)
  (hcd:(x == ("__classdict__":Str))=false:=by decide):ER X z (.Name x pos) (go i):=PE.imp (pe_var hN hv hd hcd) fun σ H Q ⟨ρ,Hq,t,r,e,k⟩=>by
 unfold go at e
 split at e
 ·rename_i ts h
  cases e
  obtain ⟨a,vs,h1,h2,h3,h4,h5⟩:=r.ow i ts h
  exact ⟨_,h1,k _ Hq H (.refl r.sub) (.inr ⟨a,vs,ts,rfl,rfl,h4,h5⟩)⟩
 ·cases e
def kc (t:T):FE:=fun _=>some t
theorem ev_int {i:Int} {j pos}:EV X z (.Constant (.int i) j pos) (kc (.int i)):=PE.imp pe_int fun σ H Q ⟨ρ,Hq,t,r,e,k⟩=>by
 cases e; exact k _ Hq H (.refl r.sub) rep_int
theorem ev_bl {b j pos}:EV X z (.Constant (.bool b) j pos) (kc (.bl b)):=PE.imp pe_bl fun σ H Q ⟨ρ,Hq,t,r,e,k⟩=>by
 cases e; exact k _ Hq H (.refl r.sub) rep_bl
theorem ev_non {j pos}:EV X z (.Constant .none j pos) (kc .non):=PE.imp pe_non fun σ H Q ⟨ρ,Hq,t,r,e,k⟩=>by
 cases e; exact k _ Hq H (.refl r.sub) rep_non
theorem ev_str {x j pos}:EV X z (.Constant (.str x) j pos) (kc (.str x)):=PE.imp pe_str fun σ H Q ⟨ρ,Hq,t,r,e,k⟩=>by
 cases e; exact k _ Hq H (.refl r.sub) rep_str
theorem ev_globI {x:Str} {i:Int} {tk:Tok} {pos:Pos} (hg:Gl X x) (hm:X.mg x=some (.int i tk)) (hd:(x == ("__debug__":Str))=false:=by decide):EV X z (.Name x pos) (kc (.int i)) :=
 PE.imp (pe_glob (v:=.int i) hg hm ⟨tk,rfl⟩ hd) fun σ H Q ⟨ρ,Hq,t,r,e,k⟩=>by
  cases e; exact k _ Hq H (.refl r.sub) rep_int
end
section
variable {X:Cx} {z:Z} {e:Expr} {es:List Expr} {f:FE} {fa:FA}
def fNil:FA:=fun _=>some []
def fCons (f:FE) (g:FA):FA:=fun ρ=>match f ρ with | some t=>(match g ρ with | some ts=>some (t :: ts) | none=>none) | none=>none
theorem fCons_some {f:FE} {g:FA} {ρ:Rho} {ts:List T} (h:fCons f g ρ=some ts):∃ t r,f ρ=some t ∧ g ρ=some r ∧ ts=t :: r:=by
 unfold fCons at h
 split at h
 ·rename_i t e
  split at h
  ·rename_i r e2
   cases h
   exact ⟨t,r,e,e2,rfl⟩
  ·cases h
 ·cases h
theorem ea_nil:EA X z [] fNil:=PA.imp pa_nil fun σ H Q ⟨ρ,Hq,ts,r,e,k⟩=>by
 cases e; exact k [] Hq H (.refl r.sub) .nil
theorem ea_cons (h:EV X z e f) (hr:EA X z es fa) (hs:starEach (e :: es) X.env=(false,eval e X.env) :: starEach es X.env:=by rfl):EA X z (e :: es) (fCons f fa) :=
 PA.imp (pa_cons h hr hs) fun σ H Q ⟨ρ,Hq,ts,r,e,k⟩=>by
  obtain ⟨t,us,e1,e2,rfl⟩:=fCons_some e
  exact ⟨ρ,Hq,t,r,e1,fun v Hq1 H1 x1 r1=>⟨ρ,Hq1,us,r.ext x1,e2,fun vs Hq2 H2 x2 r2=>k _ Hq2 H2 (x1.trans x2) (.cons (r1.mono x2.q) r2)⟩⟩
def fTup (fa:FA):FE:=fun ρ=>match fa ρ with | some ts=>if ts.length ≤ sizeLine then some (.tup ts) else none | none=>none
def fLst (fa:FA):FA:=fun ρ=>match fa ρ with | some ts=>if ts.length ≤ sizeLine then some ts else none | none=>none
theorem ev_tup {x1 pos} (h:EA X z es fa):EV X z (.Tuple es x1 pos) (fTup fa) :=
 PE.imp (pe_tup h) fun σ H Q ⟨ρ,Hq,t,r,e,k⟩=>by
  unfold fTup at e
  split at e
  ·rename_i ts e1
   split at e
   ·rename_i hl
    cases e
    exact ⟨ρ,Hq,ts,r,e1,fun vs Hq1 H1 x1 r1=>⟨by rw [← r1.length]; exact hl,fun p hp=>k _ _ _ (x1.trans (.new x1.sub hp)) (rep_tupNew (x1.sub.free hp) r1)⟩⟩
   ·cases e
  ·cases e
theorem ef_lst {pos} (h:EA X z es fa):EF X z (.List es pos) (fLst fa) :=
 PE.imp (pe_lst h) fun σ H Q ⟨ρ,Hq,t,r,e,k⟩=>by
  unfold fLst at e
  split at e
  ·rename_i ts e1
   split at e
   ·rename_i hl
    cases e
    exact ⟨ρ,Hq,_,r,e1,fun vs Hq1 H1 x1 r1=>⟨by rw [← r1.length]; exact hl,fun p hp=>k _ _ _ _ x1 hp r1⟩⟩
   ·cases e
  ·cases e
end
def Op2 (X:Cx) (f:Value → Value → Sem Value) (fn:T → T → Option T):Prop :=
 ∀ (pins:List (Addr × Obj)) (s:Shared) (σ:St) (Hq H:Hp) (t u w:T) (x y:V) (v v':Value) (Q:VK),Inv X pins σ H s → RelV x v → RelV y v' → Same Hq H → RepR X.K Hq H t x → RepR X.K Hq H u y → fn t u=some w →
   (∀ q Hq' H',Ex Hq H Hq' H' → Rep X.K Hq' w q → Q q H') → wpAny (model X.prog X.w) X.A (f v v') (EP X pins σ Q) X.xe s
def rT (K:PySem.W.Frag) (fn:T → T → Option T):R2:=fun x y H Q=>∃ Hq t u w,Same Hq H ∧ RepR K Hq H t x ∧ RepR K Hq H u y ∧ fn t u=some w ∧ ∀ q Hq' H',Ex Hq H Hq' H' → Rep K Hq' w q → Q q H'
theorem Op2.r {X:Cx} {f:Value → Value → Sem Value} {fn:T → T → Option T} (h:Op2 X f fn):OpR X f (rT X.K fn):=fun pins s σ H x y v u Q I rx ry ⟨Hq,t,t',w,sb,r1,r2,e,k⟩=>h pins s σ Hq H t t' w x y v u Q I rx ry sb r1 r2 e k
def f2 (fn:T → T → Option T) (f g:FE):FE:=fun ρ=>match f ρ with | some t=>(match g ρ with | some u=>fn t u | none=>none) | none=>none
theorem f2_some {fn:T → T → Option T} {f g:FE} {ρ:Rho} {w:T} (h:f2 fn f g ρ=some w):∃ t u,f ρ=some t ∧ g ρ=some u ∧ fn t u=some w:=by
 unfold f2 at h
 split at h
 ·rename_i t e
  split at h
  ·rename_i u e2
   exact ⟨t,u,e,e2,h⟩
  ·cases h
 ·cases h
section
variable {X:Cx} {z:Z} {a b:Expr} {f g:FE} {fn:T → T → Option T} {pos:Pos}
theorem read2 (hK:z.K=X.K):∀ σ H Q,tT z (f2 fn f g) σ H Q → tOp (rT X.K fn) (tR z f) (tR z g) σ H Q:=fun σ H Q ⟨ρ,Hq,w,r,e,k⟩=>by
 obtain ⟨t,u,e1,e2,e3⟩:=f2_some e
 rw [← hK]
 exact ⟨ρ,Hq,t,r,e1,fun v Hq1 H1 x1 r1=>⟨ρ,Hq1,u,r.ext x1,e2,fun v2 Hq2 H2 x2 r2=>⟨Hq2,t,u,w,x2.sub,r1.ext x2,r2,e3,fun q Hq3 H3 x3 r3=>k q Hq3 H3 ((x1.trans x2).trans x3) r3⟩⟩⟩
theorem ev_op (hK:z.K=X.K) {op:Operator} (ho:Op2 X (binaryOp op) fn) (ha:ER X z a f) (hb:ER X z b g):EV X z (.BinOp a op b pos) (f2 fn f g):=PE.imp (pe_op ho.r ha hb) (read2 hK)
theorem ev_cmp (hK:z.K=X.K) {op:CmpOp} (ho:Op2 X (compareOp op) fn) (ha:ER X z a f) (hb:ER X z b g) (hm:behindInMarks op b=false):EV X z (.Compare a [op] [b] pos) (f2 fn f g):=PE.imp (pe_cmpR ho.r ha hb hm) (read2 hK)
def fChain (fn fn':T → T → Option T) (f g h:FE):FE:=fun ρ=>match f ρ with | some t=>(match g ρ with | some u=>(match fn t u with | some (.bl true)=>(match h ρ with | some w=>fn' u w | none=>none) | some (.bl false)=>some (.bl false) | _=>none) | none=>none) | none=>none
end
section
variable {X:Cx} {z:Z} {a b e:Expr} {f g:FE} {ft gt:FT} {pos:Pos}
def fB (f:FE):FT:=fun ρ=>match f ρ with | some (.bl b)=>some b | _=>none
theorem fB_some {f:FE} {ρ:Rho} {b:Bool} (h:fB f ρ=some b):f ρ=some (.bl b):=by
 unfold fB at h
 split at h
 ·rename_i b' e; cases h; exact e
 ·cases h
theorem readB:∀ σ H Q,tB2 z (fB f) σ H Q → tB (tT z f) σ H Q:=fun σ H Q ⟨ρ,Hq,b,r,e,k⟩ =>
 ⟨ρ,Hq,.bl b,r,fB_some e,fun v Hq' H' x p=>⟨b,p.b,k Hq' H' x⟩⟩
theorem et_val (h:EV X z e f) (he:∀ whole,isTrue e X.env whole=(do let v ← whole; standAt e.pos; holding [v] (truthy v)):=by intro _; rfl):ET X z e (fB f):=PT.imp (pt_val h he) readB
theorem et_cmp (hK:z.K=X.K) {fn:T → T → Option T} {op:CmpOp} (ho:Op2 X (compareOp op) fn) (ha:ER X z a f) (hb:ER X z b g) (hm:behindInMarks op b=false):ET X z (.Compare a [op] [b] pos) (fB (f2 fn f g)) :=
 PT.imp (pt_cmpR ho.r ha hb hm) fun σ H Q ⟨ρ,Hq,b,r,e,k⟩=>by
  have q:=read2 (X:=X) (fn:=fn) (f:=f) (g:=g) hK σ H (fun x H'=>∃ k,x=.bl k ∧ Q k H') ⟨ρ,Hq,.bl b,r,fB_some e,fun v Hq' H' x p=>⟨b,p.b,k Hq' H' x⟩⟩
  exact q
def fNot (f:FT):FT:=fun ρ=>(f ρ).map (!·)
theorem et_not (h:ET X z a ft):ET X z (.UnaryOp .Not a pos) (fNot ft):=PT.imp (pt_not h) fun σ H Q ⟨ρ,Hq,b,r,e,k⟩=>by
 unfold fNot at e
 cases q:ft ρ with
 | none=>rw [q] at e; cases e
 | some c =>
   rw [q] at e
   cases e
   exact ⟨ρ,Hq,c,r,q,k⟩
def fAnd (f g:FT):FT:=fun ρ=>match f ρ with | some true=>g ρ | some false=>some false | none=>none
def fOr (f g:FT):FT:=fun ρ=>match f ρ with | some false=>g ρ | some true=>some true | none=>none
theorem readAnd:∀ σ H Q,tB2 z (fAnd ft gt) σ H Q → tAnd (tB2 z ft) (tB2 z gt) σ H Q:=fun σ H Q ⟨ρ,Hq,b,r,e,k⟩=>by
 unfold fAnd at e
 split at e
 ·rename_i q
  exact ⟨ρ,Hq,true,r,q,fun Hq1 H1 x1=>iteT ⟨ρ,Hq1,b,r.ext x1,e,fun Hq2 H2 x2=>k Hq2 H2 (x1.trans x2)⟩⟩
 ·rename_i q
  cases e
  exact ⟨ρ,Hq,false,r,q,fun Hq1 H1 x1=>iteF (k Hq1 H1 x1)⟩
 ·cases e
theorem readOr:∀ σ H Q,tB2 z (fOr ft gt) σ H Q → tOr (tB2 z ft) (tB2 z gt) σ H Q:=fun σ H Q ⟨ρ,Hq,b,r,e,k⟩=>by
 unfold fOr at e
 split at e
 ·rename_i q
  exact ⟨ρ,Hq,false,r,q,fun Hq1 H1 x1=>iteF ⟨ρ,Hq1,b,r.ext x1,e,fun Hq2 H2 x2=>k Hq2 H2 (x1.trans x2)⟩⟩
 ·rename_i q
  cases e
  exact ⟨ρ,Hq,true,r,q,fun Hq1 H1 x1=>iteT (k Hq1 H1 x1)⟩
 ·cases e
abbrev EW (X:Cx) (z:Z) (e:Expr) (f:FT):Prop:=PW X e (tB2 z f)
theorem PW.imp {X:Cx} {e:Expr} {t t':TT} (h:PW X e t) (i:∀ σ H Q,t' σ H Q → t σ H Q):PW X e t':=fun wh pins s σ H Q I q=>h wh pins s σ H Q I (i σ H Q q)
variable {rest:List Expr}
theorem ew_and1 (h:ET X z a ft):EW X z (.BoolOp .And [a] pos) ft:=pw_and1 h
theorem ew_or1 (h:ET X z a ft):EW X z (.BoolOp .Or [a] pos) ft:=pw_or1 h
theorem ew_and (h:ET X z a ft) (hb:EW X z (.BoolOp .And (b :: rest) pos) gt):EW X z (.BoolOp .And (a :: b :: rest) pos) (fAnd ft gt):=PW.imp (pw_and h hb) readAnd
theorem ew_or (h:ET X z a ft) (hb:EW X z (.BoolOp .Or (b :: rest) pos) gt):EW X z (.BoolOp .Or (a :: b :: rest) pos) (fOr ft gt):=PW.imp (pw_or h hb) readOr
theorem et_w (h:EW X z e ft):ET X z e ft:=h.pt
def fAndV (f g:FE):FE:=fun ρ=>match f ρ with | some (.bl true)=>g ρ | some (.bl false)=>some (.bl false) | _=>none
def fOrV (f g:FE):FE:=fun ρ=>match f ρ with | some (.bl false)=>g ρ | some (.bl true)=>some (.bl true) | _=>none
def fNotV (f:FE):FE:=fun ρ=>match f ρ with | some (.bl b)=>some (.bl (!b)) | _=>none
theorem ev_one {op} (h:EV X z a f):EV X z (.BoolOp op [a] pos) f:=pe_one h
theorem ev_and (h:EV X z a f) (hb:EV X z (.BoolOp .And (b :: rest) pos) g):EV X z (.BoolOp .And (a :: b :: rest) pos) (fAndV f g):=PE.imp (pe_and h hb) fun σ H Q ⟨ρ,Hq,t,r,e,k⟩=>by
 unfold fAndV at e
 split at e
 ·rename_i q
  exact ⟨ρ,Hq,_,r,q,fun v Hq1 H1 x1 p1=>⟨true,p1.b,iteT ⟨ρ,Hq1,t,r.ext x1,e,fun v2 Hq2 H2 x2=>k v2 Hq2 H2 (x1.trans x2)⟩⟩⟩
 ·rename_i q
  cases e
  exact ⟨ρ,Hq,_,r,q,fun v Hq1 H1 x1 p1=>⟨false,p1.b,iteF (k _ Hq1 H1 x1 rep_bl)⟩⟩
 ·cases e
theorem ev_not (h:EV X z a f):EV X z (.UnaryOp .Not a pos) (fNotV f):=PE.imp (pe_not h) fun σ H Q ⟨ρ,Hq,t,r,e,k⟩=>by
 unfold fNotV at e
 split at e
 ·rename_i b q
  cases e
  exact ⟨ρ,Hq,_,r,q,fun v Hq1 H1 x1 p1=>⟨b,p1.b,k _ Hq1 H1 x1 rep_bl⟩⟩
 ·cases e
def fIf (c:FT) (f g:FE):FE:=fun ρ=>match c ρ with | some true=>f ρ | some false=>g ρ | none=>none
end
def spT (K:PySem.W.Frag) (n:Nat) (F:List T → Option T):Sp:=fun vs H Q _=>∃ Hq ts t,ts.length=n ∧ Same Hq H ∧ RepL K Hq ts vs ∧ F ts=some t ∧ ∀ v Hq' H',Ex Hq H Hq' H' → Rep K Hq' t v → Q v H'
def fCall (n:Nat) (F:List T → Option T) (fa:FA):FE:=fun ρ=>match fa ρ with | some ts=>if ts.length=n then F ts else none | none=>none
section
variable {X:Cx} {z:Z} {k n:Nat} {f:Addr} {fd:FuncData} {ps:List Str} {x:Str} {p pos:Pos} {e:Expr} {es:List Expr} {fa:FA} {F:List T → Option T}
theorem ev_call (hK:z.K=X.K) (G:FnOk X.prog X.w X.K X.mg X.base CX0 k f fd ps (spT X.K n F)) (hr:Room k X.A) (hg:Gl X x) (hm:X.mg x=some (.ref f)) (hk:PySem.W.keepIn X.K (.ref f)=true) (hb:Binds X.K fd ps [])
  (hl:ps.length=n) (ha:EA X z (e :: es) fa)
  (hd:(x == ("__debug__":Str))=false:=by decide) (hs:starEach (e :: es) X.env=(false,eval e X.env) :: starEach es X.env:=by rfl) (hpl:(backTo pos (starEach es X.env)).any (·.1)=false:=by rfl) :
  EV X z (.Call (.Name x p) (e :: es) [] pos) (fCall n F fa) :=
 PE.imp (pe_call (E:=E0) (dvs:=[]) G hr hg hm hk hb .nil pass0 ha hd hs hpl) fun σ H Q ⟨ρ,Hq,t,r,e,k⟩=>by
  unfold fCall at e
  split at e
  ·rename_i ts e1
   split at e
   ·rename_i hl
    refine ⟨ρ,Hq,ts,r,e1,fun vs Hq1 H1 x1 r1=>?_⟩
    show spT X.K n F (vs ++ []) H1 Q E0
    rw [List.append_nil]
    exact ⟨Hq1,ts,t,hl,x1.sub,hK ▸ r1,e,fun v Hq2 H2 x2 r2=>k v Hq2 H2 (x1.trans x2) (hK ▸ r2)⟩
   ·cases e
  ·cases e
end
end TL
namespace TL
open PySem L2
def b2 (b:Bool):Int:=if b then 1 else 0
mutual
def teq:T → T → Bool
 | .non,.non=>true
 | .bl a,.bl b=>a == b
 | .int a,.int b=>a == b
 | .bl a,.int b=>b2 a == b
 | .int a,.bl b=>a == b2 b
 | .str a,.str b=>a == b
 | .tup as,.tup bs=>teqL as bs
 | .lst as,.lst bs=>teqL as bs
 | .dct a,.dct b=>a == b
 | _,_=>false
def teqL:List T → List T → Bool
 | [],[]=>true
 | a :: as,b :: bs=>teq a b && teqL as bs
 | _,_=>false
end
mutual
def dep:T → Nat
 | .tup as=>depL as + 1
 | .lst as=>depL as + 1
 | .dct _=>100000
 | _=>0
def depL:List T → Nat
 | []=>0
 | a :: as=>max (dep a) (depL as)
end
mutual
theorem teq_refl:∀ t:T,teq t t=true
 | .non=>rfl
 | .bl a=>by simp [teq]
 | .int a=>by simp [teq]
 | .str a=>by simp [teq]
 | .tup as=>by simp only [teq]; exact teqL_refl as
 | .lst as=>by simp only [teq]; exact teqL_refl as
 | .dct d=>by simp [teq]
theorem teqL_refl:∀ t:List T,teqL t t=true
 | []=>rfl
 | a :: as=>by simp only [teqL,teq_refl a,teqL_refl as]; rfl
end
section
variable {X:Cx} {pins:List (Addr × Obj)} {σ:St} {H:Hp} {s:Shared}
theorem get_len_ne {α:Type} {as bs:List α} (h:as.length ≠ bs.length):(as.length != bs.length)=true:=by simpa using h
theorem rep_dict (I:Inv X pins σ H s) {a:Addr} {xs:List (List Nat × Addr × Addr)} (h:H a=some (DictO a xs)):(a == sysModules)=false ∧ ∃ ep,s.heap.get? a=some { cls:=.type "dict",data:=.dict (xs.map entD).toArray ep }:=(I.hok a _ h).1
theorem rep_dictAt (I:Inv X pins σ H s) {a:Addr} {xs:List (List Nat × Addr × Addr)} (h:H a=some (DictO a xs)):PySem.SeqAt.DictAt s.heap a:=by
 obtain ⟨_,ep,ho⟩:=rep_dict I h
 exact ⟨_,ep,ho⟩
theorem vInts_inj {k l:List Nat} (h:vInts k=vInts l):k=l :=
 List.map_inj_right (f:=fun (n:Nat)=>V.int (n:Int)) (fun x y z=>by injection z with z; omega) |>.mp h
theorem repD_inj' (I:Inv X pins σ H s):∀ {d e:List (List Nat × List Nat)} {xs ys:List (List Nat × Addr × Addr)},Paired (fun p x=>x.1=p.1 ∧ SqT X.K H x.2.1 (vInts p.1) ∧ SqT X.K H x.2.2 (vInts p.2)) d xs →
  Paired (fun p x=>x.1=p.1 ∧ SqT X.K H x.2.1 (vInts p.1) ∧ SqT X.K H x.2.2 (vInts p.2)) e ys → xs.map entD=ys.map entD → d=e
 | _,_,_,_,.nil,.nil,_=>rfl
 | _,_,_,_,.nil,.cons _ _,h=>by simp at h
 | _,_,_,_,.cons _ _,.nil,h=>by simp at h
 | (a,b) :: d,(a',b') :: e,(x,y,z) :: xs,(x',y',z') :: ys,.cons ⟨h1,h2,h3⟩ r,.cons ⟨g1,g2,g3⟩ r',h=>by
   rw [List.map_cons,List.map_cons] at h
   injection h with hh ht
   rw [repD_inj' I r r' ht]
   unfold entD at hh
   injection hh with e1 e2 e3
   injection e2 with e2
   injection e3 with e3
   simp only at e2 e3 h2 h3 g2 g3
   subst e2 e3
   rw [vInts_inj (I.tuple_inj h2 g2),vInts_inj (I.tuple_inj h3 g3)]
mutual
theorem rep_inj (I:Inv X pins σ H s):∀ {t u:T} {v:V},Rep X.K H t v → Rep X.K H u v → teq t u=true
 | .non,u,v,h,q=>by
   unfold Rep at h; subst h
   cases u <;> unfold Rep at q <;> first | rfl | (exact absurd q (fun z=>nomatch z)) | (exact absurd q.choose_spec.choose_spec.1 (fun z=>nomatch z))
 | .bl b,u,v,h,q=>by
   unfold Rep at h; subst h
   cases u <;> unfold Rep at q <;> first | (cases q; simp [teq]; done) | (exact absurd q (fun z=>nomatch z)) | (exact absurd q.choose_spec.choose_spec.1 (fun z=>nomatch z))
 | .int b,u,v,h,q=>by
   unfold Rep at h; subst h
   cases u <;> unfold Rep at q <;> first | (cases q; simp [teq]; done) | (exact absurd q (fun z=>nomatch z)) | (exact absurd q.choose_spec.choose_spec.1 (fun z=>nomatch z))
 | .str b,u,v,h,q=>by
   unfold Rep at h; subst h
   cases u <;> unfold Rep at q <;> first | (cases q; simp [teq]; done) | (exact absurd q (fun z=>nomatch z)) | (exact absurd q.choose_spec.choose_spec.1 (fun z=>nomatch z))
 | .tup ts,u,v,h,q=>by
   unfold Rep at h
   obtain ⟨a,vs,rfl,h2,h3⟩:=h
   cases u with
   | tup us =>
     unfold Rep at q
     obtain ⟨b,ws,e,q2,q3⟩:=q
     cases e
     rw [I.tuple_inj q2 h2] at q3
     unfold teq
     exact repL_inj I h3 q3
   | lst us =>
     unfold Rep at q
     obtain ⟨b,ws,e,q2,q3⟩:=q
     cases e
     obtain ⟨its,_,⟨o,e1,c1,_⟩,_⟩:=I.tuple h2
     obtain ⟨its2,_,⟨o2,n2,e2,c2,_⟩,_⟩:=I.list q2
     rw [e1] at e2; cases e2; rw [c1] at c2; injection c2 with z; exact absurd z (by decide)
   | non=>unfold Rep at q; cases q
   | bl _=>unfold Rep at q; cases q
   | int _=>unfold Rep at q; cases q
   | str _=>unfold Rep at q; cases q
   | dct d =>
     unfold Rep at q
     obtain ⟨b,kvs,e,q2,q3⟩:=q
     cases e
     obtain ⟨its,_,p,_⟩:=I.tuple h2
     exact absurd rfl (PySem.SeqAt.ne_tuple_dict p (rep_dictAt I q2))
 | .lst ts,u,v,h,q=>by
   unfold Rep at h
   obtain ⟨a,vs,rfl,h2,h3⟩:=h
   cases u with
   | lst us =>
     unfold Rep at q
     obtain ⟨b,ws,e,q2,q3⟩:=q
     cases e
     rw [I.list_inj q2 h2] at q3
     unfold teq
     exact repL_inj I h3 q3
   | tup us =>
     unfold Rep at q
     obtain ⟨b,ws,e,q2,q3⟩:=q
     cases e
     obtain ⟨its,_,⟨o,e1,c1,_⟩,_⟩:=I.tuple q2
     obtain ⟨its2,_,⟨o2,n2,e2,c2,_⟩,_⟩:=I.list h2
     rw [e1] at e2; cases e2; rw [c1] at c2; injection c2 with z; exact absurd z (by decide)
   | non=>unfold Rep at q; cases q
   | bl _=>unfold Rep at q; cases q
   | int _=>unfold Rep at q; cases q
   | str _=>unfold Rep at q; cases q
   | dct d =>
     unfold Rep at q
     obtain ⟨b,kvs,e,q2,q3⟩:=q
     cases e
     obtain ⟨its,_,p,_⟩:=I.list h2
     exact absurd rfl (PySem.SeqAt.ne_list_dict p.isList (rep_dictAt I q2))
 | .dct d,u,v,h,q=>by
   unfold Rep at h
   obtain ⟨a,kvs,rfl,h2,h3⟩:=h
   cases u with
   | tup us =>
     unfold Rep at q
     obtain ⟨b,ws,e,q2,q3⟩:=q
     cases e
     obtain ⟨its,_,p,_⟩:=I.tuple q2
     exact absurd rfl (PySem.SeqAt.ne_tuple_dict p (rep_dictAt I h2))
   | lst us =>
     unfold Rep at q
     obtain ⟨b,ws,e,q2,q3⟩:=q
     cases e
     obtain ⟨its,_,p,_⟩:=I.list q2
     exact absurd rfl (PySem.SeqAt.ne_list_dict p.isList (rep_dictAt I h2))
   | dct e =>
     unfold Rep at q
     obtain ⟨b,kvs',e',q2,q3⟩:=q
     cases e'
     obtain ⟨_,ep,o1⟩:=rep_dict I h2
     obtain ⟨_,ep',o2⟩:=rep_dict I q2
     rw [o1] at o2
     injection o2 with o2
     injection o2 with _ _ o3 _
     injection o3 with o3 _
     have o4:=congrArg Array.toList o3
     simp only at o4
     rw [repD_inj' I h3.2 q3.2 o4]
     simp [teq]
   | non=>unfold Rep at q; cases q
   | bl _=>unfold Rep at q; cases q
   | int _=>unfold Rep at q; cases q
   | str _=>unfold Rep at q; cases q
theorem repL_inj (I:Inv X pins σ H s):∀ {t u:List T} {v:List V},RepL X.K H t v → RepL X.K H u v → teqL t u=true
 | [],u,v,h,q=>by
   unfold RepL at h; subst h
   cases u with
   | nil=>rfl
   | cons a as=>unfold RepL at q; obtain ⟨_,_,z,_⟩:=q; cases z
 | t :: ts,u,v,h,q=>by
   unfold RepL at h
   obtain ⟨x,r,rfl,h2,h3⟩:=h
   cases u with
   | nil=>unfold RepL at q; cases q
   | cons a as =>
     unfold RepL at q
     obtain ⟨y,r',e,q2,q3⟩:=q
     cases e
     unfold teqL
     rw [rep_inj I h2 q2,repL_inj I h3 q3]; rfl
end
theorem RepR.rep {K:PySem.W.Frag} {Hq H:Hp} {t:T} {v:V} (h:RepR K Hq H t v) (sb:Same Hq H):Rep K H t v:=by
 rcases h with h | ⟨a,vs,ts,rfl,rfl,h3,h4⟩
 ·exact h.mono sb
 ·unfold Rep
  exact ⟨a,vs,rfl,SqL.of h3,h4.mono sb⟩
open SeqAt
def eqJ (ts us:List T) (j:Nat):Bool:=match ts[j]?,us[j]? with | some x,some y=>teq x y | _,_=>true
theorem eqJ_all:∀ (ts us:List T),ts.length=us.length → (List.range ts.length).all (eqJ ts us)=teqL ts us
 | [],[],_=>rfl
 | [],_ :: _,h=>by simp at h
 | _ :: _,[],h=>by simp at h
 | t :: ts,u :: us,h=>by
   have ih:=eqJ_all ts us (by simpa using h)
   rw [List.length_cons,List.range_succ_eq_map,List.all_cons,List.all_map]
   have e1:eqJ (t :: ts) (u :: us) 0=teq t u:=rfl
   have e2:(eqJ (t :: ts) (u :: us) ∘ Nat.succ)=eqJ ts us:=by funext j; simp [eqJ]
   rw [e1,e2,ih]
   simp only [teqL]
theorem teqL_len:∀ {ts us:List T},teqL ts us=true → ts.length=us.length
 | [],[],_=>rfl
 | [],_ :: _,h=>by simp [teqL] at h
 | _ :: _,[],h=>by simp [teqL] at h
 | t :: ts,u :: us,h=>by
   simp only [teqL,Bool.and_eq_true] at h
   simp [teqL_len h.2]
theorem teqL_ne {ts us:List T} (h:ts.length ≠ us.length):teqL ts us=false:=by
 cases e:teqL ts us with
 | false=>rfl
 | true=>exact absurd (teqL_len e) h
theorem eqJ_tup (ts us:List T):((List.range (min ts.length us.length)).all (eqJ ts us) && ts.length == us.length)=teqL ts us:=by
 by_cases h:ts.length=us.length
 ·rw [← h,Nat.min_self,eqJ_all ts us h]; simp
 ·rw [teqL_ne h]
  have:(ts.length == us.length)=false:=by simpa using h
  rw [this,Bool.and_false]
theorem dep_mem:∀ {ts:List T} {j:Nat} {t:T},ts[j]?=some t → dep t ≤ depL ts
 | [],_,_,h=>by simp at h
 | a :: as,0,t,h=>by simp at h; subst h; simp only [depL]; exact Nat.le_max_left _ _
 | a :: as,j + 1,t,h=>by
   have:=dep_mem (ts:=as) (j:=j) (t:=t) (by simpa using h)
   simp only [depL]; exact Nat.le_trans this (Nat.le_max_right _ _)
theorem sz_mem:∀ {ts:List T} {j:Nat} {t:T},ts[j]?=some t → sizeOf t < sizeOf ts
 | [],_,_,h=>by simp at h
 | a :: as,0,t,h=>by simp at h; subst h; simp; omega
 | a :: as,j + 1,t,h=>by
   have:=sz_mem (ts:=as) (j:=j) (t:=t) (by simpa using h)
   simp; omega
theorem rel_at {xs:List V} {its:List Value} (r:Vals xs its) {j:Nat} (h:j < its.toArray.size) {x:V} (e:xs[j]?=some x):RelV x its.toArray[j]:=by
 obtain ⟨u,h1,h2⟩:=r.get e
 have:its.toArray[j]=u:=by
  rw [List.getElem_toArray]
  exact Option.some.inj ((List.getElem?_eq_getElem _).symm.trans h1)
 rw [this]; exact h2
theorem eq_all (I:Inv X pins σ H s):∀ (n:Nat) (t u:T) (x y:V) (a b:Value) (A:Around),sizeOf t < n → RelV x a → RelV y b → Rep X.K H t x → Rep X.K H u y → A.units + dep t < cLine →
  RcAt A s a b (teq t u) ∧ EqAt A s a b (teq t u):=by
 intro n
 induction n with
 | zero=>intro t u x y a b A h; exact absurd h (Nat.not_lt_zero _)
 | succ n ih =>
   intro t u x y a b A hn rx ry hx hy hu
   have hu0:A.units < cLine:=by omega
   have seqT:∀ {ts us:List T} {l m:Addr} {vs ws:List V},sizeOf ts < n → A.units + depL ts + 1 < cLine → SqT X.K H l vs → SqT X.K H m ws → RepL X.K H ts vs → RepL X.K H us ws → RcAt A s (.ref l) (.ref m) (teqL ts us):=fun {ts us l m vs ws} h0 h1 h2 h3 h4 h5=>by
    obtain ⟨its,r1,p1,_⟩:=I.tuple h2
    obtain ⟨its2,r2,p2,_⟩:=I.tuple h3
    have l1:its.toArray.size=ts.length:=by rw [List.size_toArray,← r1.length,h4.length]
    have l2:its2.toArray.size=us.length:=by rw [List.size_toArray,← r2.length,h5.length]
    have:=RcAt.tuples (A:=A) (e:=eqJ ts us) p1 p2 hu0 fun j j1 j2=>by
     have e1:ts[j]?=some (ts[j]'(by omega)):=List.getElem?_eq_getElem _
     have e2:us[j]?=some (us[j]'(by omega)):=List.getElem?_eq_getElem _
     obtain ⟨v,ev,hv⟩:=h4.get e1
     obtain ⟨w,ew,hw⟩:=h5.get e2
     have e3:eqJ ts us j=teq (ts[j]'(by omega)) (us[j]'(by omega)):=by unfold eqJ; rw [e1,e2]
     rw [e3]
     exact (ih _ _ v w _ _ A.in1 (Nat.lt_of_lt_of_le (sz_mem e1) (Nat.le_of_lt h0)) (rel_at r1 j1 ev) (rel_at r2 j2 ew) hv hw (by have:=dep_mem e1; show A.units + 1 + _ < cLine; omega)).2
    rw [l1,l2,eqJ_tup] at this
    exact this
   have seqL:∀ {ts us:List T} {l m:Addr} {vs ws:List V},sizeOf ts < n → A.units + depL ts + 1 < cLine → SqL X.K H l vs → SqL X.K H m ws → RepL X.K H ts vs → RepL X.K H us ws → RcAt A s (.ref l) (.ref m) (teqL ts us):=fun {ts us l m vs ws} h0 h1 h2 h3 h4 h5=>by
    obtain ⟨its,r1,p1,_⟩:=I.list h2
    obtain ⟨its2,r2,p2,_⟩:=I.list h3
    have l1:its.toArray.size=ts.length:=by rw [List.size_toArray,← r1.length,h4.length]
    have l2:its2.toArray.size=us.length:=by rw [List.size_toArray,← r2.length,h5.length]
    by_cases hl:ts.length=us.length
    ·have:=RcAt.lists (A:=A) (e:=eqJ ts us) p1.isList p2.isList (by rw [l1,l2,hl]) hu0 fun j j1 j2=>by
      have e1:ts[j]?=some (ts[j]'(by omega)):=List.getElem?_eq_getElem _
      have e2:us[j]?=some (us[j]'(by omega)):=List.getElem?_eq_getElem _
      obtain ⟨v,ev,hv⟩:=h4.get e1
      obtain ⟨w,ew,hw⟩:=h5.get e2
      have e3:eqJ ts us j=teq (ts[j]'(by omega)) (us[j]'(by omega)):=by unfold eqJ; rw [e1,e2]
      rw [e3]
      exact (ih _ _ v w _ _ A.in1 (Nat.lt_of_lt_of_le (sz_mem e1) (Nat.le_of_lt h0)) (rel_at r1 j1 ev) (rel_at r2 j2 ew) hv hw (by have:=dep_mem e1; show A.units + 1 + _ < cLine; omega)).2
     rw [l1,eqJ_all ts us hl] at this
     exact this
    ·rw [teqL_ne hl]
     exact RcAt.lists_lengths p1.isList p2.isList (by rw [l1,l2]; exact get_len_ne hl) hu0
   have both:∀ {l m:Addr} {k:Bool},x=.ref l → y=.ref m → teq t u=k → RcAt A s (.ref l) (.ref m) k → RcAt A s (.ref l) (.ref m) k ∧ EqAt A s (.ref l) (.ref m) k:=fun {l m k} ex ey ek h=>by
    refine ⟨h,?_⟩
    by_cases e:l=m
    ·subst e
     subst ex ey
     have:k=true:=by rw [← ek]; exact rep_inj I hx hy
     rw [this]; exact EqAt.same _
    ·exact EqAt.of_refs e h
   cases t with
   | non =>
     cases hx.n; cases rx
     cases u with
     | non=>cases hy.n; cases ry; exact ⟨.none_none,.same _⟩
     | bl c=>cases hy.b; cases ry; exact ⟨.none_bool c,.none_bool c⟩
     | int c=>cases hy.i; obtain ⟨k,rfl⟩:=ry; exact ⟨.none_int c k,.none_int c k⟩
     | str c=>cases hy.s; obtain ⟨k,rfl⟩:=ry; exact ⟨.none_str c k,.none_str c k⟩
     | tup us=>unfold Rep at hy; obtain ⟨m,ws,rfl,q2,q3⟩:=hy; cases ry; obtain ⟨_,_,p,_⟩:=I.tuple q2; exact ⟨.none_tuple p hu0,.none_tuple p hu0⟩
     | lst us=>unfold Rep at hy; obtain ⟨m,ws,rfl,q2,q3⟩:=hy; cases ry; obtain ⟨_,_,p,_⟩:=I.list q2; exact ⟨.none_list p.isList hu0,.none_list p.isList hu0⟩
     | dct us=>unfold Rep at hy; obtain ⟨m,ws,rfl,q2,q3⟩:=hy; cases ry; exact ⟨.none_dict (rep_dictAt I q2) hu0,.none_dict (rep_dictAt I q2) hu0⟩
   | bl d =>
     cases hx.b; cases rx
     cases u with
     | non=>cases hy.n; cases ry; exact ⟨.bool_none d,.bool_none d⟩
     | bl c=>cases hy.b; cases ry; exact ⟨.bool_bool d c,.bool_bool d c⟩
     | int c=>cases hy.i; obtain ⟨k,rfl⟩:=ry; exact ⟨.bool_int d c k,.bool_int d c k⟩
     | str c=>cases hy.s; obtain ⟨k,rfl⟩:=ry; exact ⟨.bool_str d c k,.bool_str d c k⟩
     | tup us=>unfold Rep at hy; obtain ⟨m,ws,rfl,q2,q3⟩:=hy; cases ry; obtain ⟨_,_,p,_⟩:=I.tuple q2; exact ⟨.bool_tuple d p hu0,.bool_tuple d p hu0⟩
     | lst us=>unfold Rep at hy; obtain ⟨m,ws,rfl,q2,q3⟩:=hy; cases ry; obtain ⟨_,_,p,_⟩:=I.list q2; exact ⟨.bool_list d p.isList hu0,.bool_list d p.isList hu0⟩
     | dct us=>unfold Rep at hy; obtain ⟨m,ws,rfl,q2,q3⟩:=hy; cases ry; exact ⟨.bool_dict d (rep_dictAt I q2) hu0,.bool_dict d (rep_dictAt I q2) hu0⟩
   | int d =>
     cases hx.i; obtain ⟨kk,rfl⟩:=rx
     cases u with
     | non=>cases hy.n; cases ry; exact ⟨.int_none d kk,.int_none d kk⟩
     | bl c=>cases hy.b; cases ry; exact ⟨.int_bool d kk c,.int_bool d kk c⟩
     | int c=>cases hy.i; obtain ⟨k,rfl⟩:=ry; exact ⟨.int_int d kk c k,.int_int d kk c k⟩
     | str c=>cases hy.s; obtain ⟨k,rfl⟩:=ry; exact ⟨.int_str d kk c k,.int_str d kk c k⟩
     | tup us=>unfold Rep at hy; obtain ⟨m,ws,rfl,q2,q3⟩:=hy; cases ry; obtain ⟨_,_,p,_⟩:=I.tuple q2; exact ⟨.int_tuple d kk p hu0,.int_tuple d kk p hu0⟩
     | lst us=>unfold Rep at hy; obtain ⟨m,ws,rfl,q2,q3⟩:=hy; cases ry; obtain ⟨_,_,p,_⟩:=I.list q2; exact ⟨.int_list d kk p.isList hu0,.int_list d kk p.isList hu0⟩
     | dct us=>unfold Rep at hy; obtain ⟨m,ws,rfl,q2,q3⟩:=hy; cases ry; exact ⟨.int_dict d kk (rep_dictAt I q2) hu0,.int_dict d kk (rep_dictAt I q2) hu0⟩
   | str d =>
     cases hx.s; obtain ⟨kk,rfl⟩:=rx
     cases u with
     | non=>cases hy.n; cases ry; exact ⟨.str_none d kk,.str_none d kk⟩
     | bl c=>cases hy.b; cases ry; exact ⟨.str_bool d kk c,.str_bool d kk c⟩
     | int c=>cases hy.i; obtain ⟨k,rfl⟩:=ry; exact ⟨.str_int d kk c k,.str_int d kk c k⟩
     | str c=>cases hy.s; obtain ⟨k,rfl⟩:=ry; exact ⟨.str_str d kk c k,.str_str d kk c k⟩
     | tup us=>unfold Rep at hy; obtain ⟨m,ws,rfl,q2,q3⟩:=hy; cases ry; obtain ⟨_,_,p,_⟩:=I.tuple q2; exact ⟨.str_tuple d kk p hu0,.str_tuple d kk p hu0⟩
     | lst us=>unfold Rep at hy; obtain ⟨m,ws,rfl,q2,q3⟩:=hy; cases ry; obtain ⟨_,_,p,_⟩:=I.list q2; exact ⟨.str_list d kk p.isList hu0,.str_list d kk p.isList hu0⟩
     | dct us=>unfold Rep at hy; obtain ⟨m,ws,rfl,q2,q3⟩:=hy; cases ry; exact ⟨.str_dict d kk (rep_dictAt I q2) hu0,.str_dict d kk (rep_dictAt I q2) hu0⟩
   | tup ts =>
     have hx':=hx
     unfold Rep at hx'; obtain ⟨l,vs,ex,q2,q3⟩:=hx'
     have rx':a=.ref l:=by rw [ex] at rx; exact rx
     subst rx'
     obtain ⟨_,_,p,_⟩:=I.tuple q2
     cases u with
     | non=>cases hy.n; cases ry; exact ⟨.tuple_none p hu0,.tuple_none p hu0⟩
     | bl c=>cases hy.b; cases ry; exact ⟨.tuple_bool c p hu0,.tuple_bool c p hu0⟩
     | int c=>cases hy.i; obtain ⟨k,rfl⟩:=ry; exact ⟨.tuple_int c k p hu0,.tuple_int c k p hu0⟩
     | str c=>cases hy.s; obtain ⟨k,rfl⟩:=ry; exact ⟨.tuple_str c k p hu0,.tuple_str c k p hu0⟩
     | tup us =>
       have hy':=hy
       unfold Rep at hy'; obtain ⟨m,ws,ey,w2,w3⟩:=hy'
       have ry':b=.ref m:=by rw [ey] at ry; exact ry
       subst ry'
       exact both ex ey rfl (seqT (by simp at hn; omega) (by simp only [dep] at hu; omega) q2 w2 q3 w3)
     | lst us =>
       have hy':=hy
       unfold Rep at hy'; obtain ⟨m,ws,ey,w2,w3⟩:=hy'
       have ry':b=.ref m:=by rw [ey] at ry; exact ry
       subst ry'
       obtain ⟨_,_,p',_⟩:=I.list w2
       exact ⟨.tuple_list p p'.isList hu0,.tuple_list p p'.isList hu0⟩
     | dct us =>
       have hy':=hy
       unfold Rep at hy'; obtain ⟨m,ws,ey,w2,w3⟩:=hy'
       have ry':b=.ref m:=by rw [ey] at ry; exact ry
       subst ry'
       exact ⟨.tuple_dict p (rep_dictAt I w2) hu0,.tuple_dict p (rep_dictAt I w2) hu0⟩
   | lst ts =>
     have hx':=hx
     unfold Rep at hx'; obtain ⟨l,vs,ex,q2,q3⟩:=hx'
     have rx':a=.ref l:=by rw [ex] at rx; exact rx
     subst rx'
     obtain ⟨_,_,p,_⟩:=I.list q2
     cases u with
     | non=>cases hy.n; cases ry; exact ⟨.list_none p.isList hu0,.list_none p.isList hu0⟩
     | bl c=>cases hy.b; cases ry; exact ⟨.list_bool c p.isList hu0,.list_bool c p.isList hu0⟩
     | int c=>cases hy.i; obtain ⟨k,rfl⟩:=ry; exact ⟨.list_int c k p.isList hu0,.list_int c k p.isList hu0⟩
     | str c=>cases hy.s; obtain ⟨k,rfl⟩:=ry; exact ⟨.list_str c k p.isList hu0,.list_str c k p.isList hu0⟩
     | lst us =>
       have hy':=hy
       unfold Rep at hy'; obtain ⟨m,ws,ey,w2,w3⟩:=hy'
       have ry':b=.ref m:=by rw [ey] at ry; exact ry
       subst ry'
       exact both ex ey rfl (seqL (by simp at hn; omega) (by simp only [dep] at hu; omega) q2 w2 q3 w3)
     | tup us =>
       have hy':=hy
       unfold Rep at hy'; obtain ⟨m,ws,ey,w2,w3⟩:=hy'
       have ry':b=.ref m:=by rw [ey] at ry; exact ry
       subst ry'
       obtain ⟨_,_,p',_⟩:=I.tuple w2
       exact ⟨.list_tuple p.isList p' hu0,.list_tuple p.isList p' hu0⟩
     | dct us =>
       have hy':=hy
       unfold Rep at hy'; obtain ⟨m,ws,ey,w2,w3⟩:=hy'
       have ry':b=.ref m:=by rw [ey] at ry; exact ry
       subst ry'
       exact ⟨.list_dict p.isList (rep_dictAt I w2) hu0,.list_dict p.isList (rep_dictAt I w2) hu0⟩
   | dct d=>simp only [dep] at hu; exact absurd hu (by simp [cLine])
end
end TL
namespace TL
open PySem L2
mutual
def nrm:T → T
 | .bl b=>.int (b2 b)
 | .tup as=>.tup (nrmL as)
 | .lst as=>.lst (nrmL as)
 | t=>t
def nrmL:List T → List T
 | []=>[]
 | a :: as=>nrm a :: nrmL as
end
theorem b2_inj {a b:Bool} (h:b2 a=b2 b):a=b:=by cases a <;> cases b <;> first | rfl | (exact absurd h (by decide))
mutual
theorem teq_iff:∀ t u:T,teq t u=true ↔ nrm t=nrm u
 | .non,u=>by cases u <;> simp [teq,nrm]
 | .bl a,u=>by
   cases u <;> simp [teq,nrm]
   exact ⟨fun h=>by rw [h],b2_inj⟩
 | .int a,u=>by cases u <;> simp [teq,nrm]
 | .str a,u=>by cases u <;> simp [teq,nrm]
 | .tup as,u=>by
   cases u with
   | tup bs=>simp only [teq,nrm]; rw [teqL_iff as bs]; exact ⟨fun h=>by rw [h],fun h=>by injection h⟩
   | _=>simp [teq,nrm]
 | .lst as,u=>by
   cases u with
   | lst bs=>simp only [teq,nrm]; rw [teqL_iff as bs]; exact ⟨fun h=>by rw [h],fun h=>by injection h⟩
   | _=>simp [teq,nrm]
 | .dct a,u=>by cases u <;> simp [teq,nrm]
theorem teqL_iff:∀ t u:List T,teqL t u=true ↔ nrmL t=nrmL u
 | [],[]=>by simp [teqL,nrmL]
 | [],_ :: _=>by simp [teqL,nrmL]
 | _ :: _,[]=>by simp [teqL,nrmL]
 | a :: as,b :: bs=>by
   simp only [teqL,nrmL,Bool.and_eq_true]
   rw [teq_iff a b,teqL_iff as bs]
   exact ⟨fun h=>by rw [h.1,h.2],fun h=>by injection h with h1 h2; exact ⟨h1,h2⟩⟩
end
theorem teq_trans {t u w:T} (h:teq t u=true):teq t w=teq u w:=by
 rw [Bool.eq_iff_iff,teq_iff,teq_iff,(teq_iff t u).mp h]
def tAdd:T → T → Option T
 | .int i,.int j=>some (.int (i + j))
 | .str x,.str y=>if x.length + y.length ≤ sizeLine then some (.str (x ++ y)) else none
 | .tup a,.tup b=>if a.length + b.length ≤ sizeLine then some (.tup (a ++ b)) else none
 | .lst a,.lst b=>if a.length + b.length ≤ sizeLine then some (.lst (a ++ b)) else none
 | _,_=>none
def tSub:T → T → Option T
 | .int i,.int j=>some (.int (i - j))
 | _,_=>none
def mulOk (i j:Int):Bool:=(decide (-(2 ^ 64) < i) && decide (i < 2 ^ 64)) || (decide (-(2 ^ 64) < j) && decide (j < 2 ^ 64))
def tMul:T → T → Option T
 | .int i,.int j=>if mulOk i j=true then some (.int (i * j)) else none
 | .tup a,.int k=>if 0 ≤ k ∧ k < 1000000 ∧ a.length * k.toNat ≤ sizeLine then some (.tup (List.replicate k.toNat a).flatten) else none
 | _,_=>none
def tFd:T → T → Option T
 | .int i,.int j=>if 0 < j ∧ j < 1073741824 then some (.int (i / j)) else none
 | _,_=>none
def tMd:T → T → Option T
 | .int i,.int j=>if 0 < j then some (.int (i % j)) else none
 | _,_=>none
def tLtI:T → T → Option T
 | .int i,.int j=>some (.bl (decide (i < j)))
 | _,_=>none
def tLeI:T → T → Option T
 | .int i,.int j=>some (.bl (decide (i ≤ j)))
 | _,_=>none
def tGtI:T → T → Option T
 | .int i,.int j=>some (.bl (decide (j < i)))
 | _,_=>none
def tGeI:T → T → Option T
 | .int i,.int j=>some (.bl (decide (j ≤ i)))
 | _,_=>none
def tEqq (t u:T):Option T:=if dep t ≤ 60 then some (.bl (teq t u)) else none
def tNee (t u:T):Option T:=if dep t ≤ 60 then some (.bl (!teq t u)) else none
def tInn (neg:Bool) (x:T):T → Option T
 | .tup ts=>if (ts.all fun y=>decide (dep y ≤ 60))=true then some (.bl (if neg then !(ts.any fun y=>teq y x) else ts.any fun y=>teq y x)) else none
 | .lst ts=>if (ts.all fun y=>decide (dep y ≤ 60))=true then some (.bl (if neg then !(ts.any fun y=>teq y x) else ts.any fun y=>teq y x)) else none
 | _=>none
section
variable {X:Cx}
theorem oI {f:Value → Value → Sem Value} {C:Int → Int → Prop} {g:Int → Int → T} {gv:Int → Int → V} {fn:T → T → Option T} (hg:∀ i j K H,Rep K H (g i j) (gv i j)) (h:OpR X f (rI C gv))
  (hf:∀ t u w,fn t u=some w → ∃ i j,t=.int i ∧ u=.int j ∧ C i j ∧ w=g i j):Op2 X f fn:=by
 intro pins s σ Hq H t u w x y v v' Q I rx ry sb r1 r2 e k
 obtain ⟨i,j,rfl,rfl,hc,rfl⟩:=hf t u w e
 cases r1.int; cases r2.int
 exact h pins s σ H _ _ v v' Q I rx ry ⟨i,j,rfl,rfl,hc,k _ Hq H (.refl sb) (hg i j _ _)⟩
theorem oI0 {f:Value → Value → Sem Value} {g:Int → Int → T} {gv:Int → Int → V} {fn:T → T → Option T} (hg:∀ i j K H,Rep K H (g i j) (gv i j)) (h:OpR X f (rI0 gv))
  (hf:∀ t u w,fn t u=some w → ∃ i j,t=.int i ∧ u=.int j ∧ w=g i j):Op2 X f fn:=by
 intro pins s σ Hq H t u w x y v v' Q I rx ry sb r1 r2 e k
 obtain ⟨i,j,rfl,rfl,rfl⟩:=hf t u w e
 cases r1.int; cases r2.int
 exact h pins s σ H _ _ v v' Q I rx ry ⟨i,j,rfl,rfl,k _ Hq H (.refl sb) (hg i j _ _)⟩
theorem o_sub:Op2 X (binaryOp .Sub) tSub:=oI0 (g:=fun i j=>.int (i - j)) (fun _ _ _ _=>rep_int) op_sub fun t u w e=>by
 cases t <;> cases u <;> simp [tSub] at e; exact ⟨_,_,rfl,rfl,e.symm⟩
theorem o_fd:Op2 X (binaryOp .FloorDiv) tFd:=oI (g:=fun i j=>.int (i / j)) (fun _ _ _ _=>rep_int) op_fdiv fun t u w e=>by
 cases t <;> cases u <;> simp [tFd] at e; exact ⟨_,_,rfl,rfl,e.1,e.2.symm⟩
theorem o_md:Op2 X (binaryOp .Mod) tMd:=oI (g:=fun i j=>.int (i % j)) (fun _ _ _ _=>rep_int) op_mod fun t u w e=>by
 cases t <;> cases u <;> simp [tMd] at e; exact ⟨_,_,rfl,rfl,e.1,e.2.symm⟩
theorem o_lt:Op2 X (compareOp .Lt) tLtI:=oI0 (g:=fun i j=>.bl (decide (i < j))) (fun _ _ _ _=>rep_bl) op_lt fun t u w e=>by
 cases t <;> cases u <;> simp [tLtI] at e; exact ⟨_,_,rfl,rfl,e.symm⟩
theorem o_le:Op2 X (compareOp .LtE) tLeI:=oI0 (g:=fun i j=>.bl (decide (i ≤ j))) (fun _ _ _ _=>rep_bl) op_le fun t u w e=>by
 cases t <;> cases u <;> simp [tLeI] at e; exact ⟨_,_,rfl,rfl,e.symm⟩
theorem o_gt:Op2 X (compareOp .Gt) tGtI:=oI0 (g:=fun i j=>.bl (decide (j < i))) (fun _ _ _ _=>rep_bl) op_gt fun t u w e=>by
 cases t <;> cases u <;> simp [tGtI] at e; exact ⟨_,_,rfl,rfl,e.symm⟩
theorem o_ge:Op2 X (compareOp .GtE) tGeI:=oI0 (g:=fun i j=>.bl (decide (j ≤ i))) (fun _ _ _ _=>rep_bl) op_ge fun t u w e=>by
 cases t <;> cases u <;> simp [tGeI] at e; exact ⟨_,_,rfl,rfl,e.symm⟩
theorem tuple_add_all {prog:Program} {w:World} {A:Around} {E:Value → Shared → Prop} {s:Shared} {t b:Addr} {vs ws:List Value} {Q:Value → Shared → Prop} (ht:PyProof.Rows.IsTup s.heap t vs.toArray) (hb:PyProof.Rows.IsTup s.heap b ws.toArray)
  (h0:vs=[] → Q (.ref b) s) (h1:ws=[] → Q (.ref t) s) (h2:Q (.ref s.heap.objs.size) { s with heap:=s.heap.push { cls:=.type "tuple",data:=.seq (vs ++ ws).toArray } })
  (hsz:vs.length + ws.length ≤ sizeLine):wpAny (model prog w) A (binaryOp .Add (.ref t) (.ref b)) Q E s:=by
 by_cases hv:vs=[]
 ·obtain ⟨⟨cls,dd,data,sl⟩,ho,hc,n,hd⟩:=id ht
  obtain ⟨⟨cls2,dd2,data2,sl2⟩,ho2,hc2,n2,hd2⟩:=id hb
  simp only at hc hd hc2 hd2
  subst hc hd hc2 hd2
  exact PySem.concat_meets ⟨_,ho,rfl⟩ ⟨_,ho2,rfl⟩ noFill_tuple_add seq_tuple_add PySem.F.slot_tuple_add PySem.F.entry_tuple_add (PySem.F.args_tuple_add_2 _ _)
   (PyProof.Rows.tuple_addW0 t b vs.toArray ws.toArray n n2 dd dd2 sl sl2 (by simp [hv])) ⟨ho,ho2,h0 hv⟩
 ·exact HT.cat_tup ht hb hv h1 (fun _=>h2) hsz
theorem o_add:Op2 X (binaryOp .Add) tAdd:=by
 intro pins s σ Hq H t u w x y v v' Q I rx ry sb r1 r2 e k
 cases t with
 | dct d=>simp [tAdd] at e
 | int i =>
   cases u with
   | int j =>
     cases r1.int; cases r2.int
     simp only [tAdd,Option.some.injEq] at e
     subst e
     exact op_add pins s σ H _ _ v v' Q I rx ry ⟨i,j,rfl,rfl,k _ Hq H (.refl sb) rep_int⟩
   | _=>simp [tAdd] at e
 | str i =>
   cases u with
   | str j =>
     cases r1.str; cases r2.str
     simp only [tAdd] at e
     split at e
     ·rename_i hl
      cases e
      exact op_add_str pins s σ H _ _ v v' Q I rx ry ⟨i,j,rfl,rfl,hl,k _ Hq H (.refl sb) rep_str⟩
     ·cases e
   | _=>simp [tAdd] at e
 | tup as =>
   cases u with
   | tup bs =>
     simp only [tAdd] at e
     split at e
     ·rename_i hl
      cases e
      obtain ⟨a,vs,rfl,q1,q2⟩:=r1.tup sb
      obtain ⟨b,ws,rfl,q3,q4⟩:=r2.tup sb
      cases rx; cases ry
      obtain ⟨its,r1',p1,_⟩:=I.tuple q1
      obtain ⟨its2,r2',p2,_⟩:=I.tuple q3
      have hl':vs.length + ws.length ≤ sizeLine:=by rw [← q2.length,← q4.length]; exact hl
      refine tuple_add_all p1 p2 (fun z=>?_) (fun z=>?_) ?_ (by rw [← r1'.length,← r2'.length]; exact hl')
      ·have:as=[]:=List.eq_nil_of_length_eq_zero (by rw [q2.length,r1'.length,z]; rfl)
       subst this
       rcases r2 with r2 | ⟨_,_,_,_,z,_⟩
       ·exact ⟨.ref b,H,I,rfl,k _ Hq H (.refl sb) r2⟩
       ·cases z
      ·have:bs=[]:=List.eq_nil_of_length_eq_zero (by rw [q4.length,r2'.length,z]; rfl)
       subst this
       rw [List.append_nil] at k
       rcases r1 with r1 | ⟨_,_,_,_,z,_⟩
       ·exact ⟨.ref a,H,I,rfl,k _ Hq H (.refl sb) r1⟩
       ·cases z
      ·refine ⟨.ref s.heap.objs.size,_,I.laid (t':=s.toks) (o:=.tup (vs ++ ws)) (fun b ob q=>Heap.get?_push_of_some _ q) (Nat.le_refl _) ⟨by rw [List.length_append]; exact hl',_,r1'.append r2',PyProof.Rows.IsTup.new _ _⟩,rfl,k _ _ _ (.new sb I.fresh) (rep_tupNew (sb.free I.fresh) (q2.append q4))⟩
     ·cases e
   | _=>simp [tAdd] at e
 | lst as =>
   cases u with
   | lst bs =>
     simp only [tAdd] at e
     split at e
     ·rename_i hl
      cases e
      obtain ⟨a,vs,rfl,q1,q2⟩:=r1.lst sb
      obtain ⟨b,ws,rfl,q3,q4⟩:=r2.lst sb
      cases rx; cases ry
      obtain ⟨its,r1',p1,_⟩:=I.list q1
      obtain ⟨its2,r2',p2,_⟩:=I.list q3
      have hl':vs.length + ws.length ≤ sizeLine:=by rw [← q2.length,← q4.length]; exact hl
      obtain ⟨⟨cls,dd,data,sl⟩,ho,hc,n,hd⟩:=id p1.isList
      obtain ⟨⟨cls2,dd2,data2,sl2⟩,ho2,hc2,n2,hd2⟩:=id p2.isList
      simp only at hc hd hc2 hd2
      subst hc hd hc2 hd2
      refine PySem.concat_meets ⟨_,ho,rfl⟩ ⟨_,ho2,rfl⟩ noFill_list_add seq_list_add PySem.F.slot_list_add PySem.F.entry_list_add (PySem.F.args_list_add_2 _ _)
       (PyProof.Rows.list_addW a b its.toArray its2.toArray n n2 dd dd2 sl sl2 (by rw [List.size_toArray,List.size_toArray,← r1'.length,← r2'.length]; exact hl')) ⟨ho,ho2,?_⟩
      have ea:its.toArray ++ its2.toArray=(its ++ its2).toArray:=by simp
      rw [ea]
      exact ⟨.ref _,_,I.lnew (t':=s.toks) (r1'.append r2') (by rw [List.length_append]; exact hl'),rfl,k _ _ _ (.new sb I.fresh) (rep_lstNew (sb.free I.fresh) (q2.append q4))⟩
     ·cases e
   | _=>simp [tAdd] at e
 | non=>simp [tAdd] at e
 | bl _=>simp [tAdd] at e
theorem o_eq (hu:X.A.units + 64 < cLine):Op2 X (compareOp .Eq) tEqq:=by
 intro pins s σ Hq H t u w x y v v' Q I rx ry sb r1 r2 e k
 simp only [tEqq] at e
 split at e
 ·rename_i hd
  cases e
  have:=(eq_all I (sizeOf t + 1) t u x y v v' X.A (by omega) rx ry (r1.rep sb) (r2.rep sb) (by omega)).1
  exact this X.prog X.w X.xe _ ⟨.bl (teq t u),H,I,rfl,k _ Hq H (.refl sb) rep_bl⟩
 ·cases e
end
end TL
namespace TL
open PySem L2 SeqAt
section
variable {X:Cx} {pins:List (Addr × Obj)} {σ:L2.St} {H:Hp} {s:Shared}
theorem ne_all (I:Inv X pins σ H s) (t u:T) (x y:V) (a b:Value) (A:Around) (rx:RelV x a) (ry:RelV y b) (hx:Rep X.K H t x) (hy:Rep X.K H u y) (hu:A.units + dep t < cLine) :
  RcNeAt A s a b (!teq t u):=by
 have hu0:A.units < cLine:=by omega
 have el:∀ {ts us:List T} {vs ws:List V} {its its2:List Value},A.units + depL ts + 1 < cLine → Vals vs its → Vals ws its2 → RepL X.K H ts vs → RepL X.K H us ws →
   ∀ j (h1:j < its.toArray.size) (h2:j < its2.toArray.size),EqAt A.in1 s its.toArray[j] its2.toArray[j] (eqJ ts us j):=fun {ts us vs ws its its2} h1 r1 r2 h4 h5 j j1 j2=>by
  have l1:its.toArray.size=ts.length:=by rw [List.size_toArray,← r1.length,h4.length]
  have l2:its2.toArray.size=us.length:=by rw [List.size_toArray,← r2.length,h5.length]
  have e1:ts[j]?=some (ts[j]'(by omega)):=List.getElem?_eq_getElem _
  have e2:us[j]?=some (us[j]'(by omega)):=List.getElem?_eq_getElem _
  obtain ⟨v,ev,hv⟩:=h4.get e1
  obtain ⟨w,ew,hw⟩:=h5.get e2
  have e3:eqJ ts us j=teq (ts[j]'(by omega)) (us[j]'(by omega)):=by unfold eqJ; rw [e1,e2]
  rw [e3]
  exact (eq_all I _ _ _ v w _ _ A.in1 (Nat.lt_succ_self _) (rel_at r1 j1 ev) (rel_at r2 j2 ew) hv hw (by have:=dep_mem e1; show A.units + 1 + _ < cLine; omega)).2
 have seqT:∀ {ts us:List T} {l m:Addr} {vs ws:List V},A.units + depL ts + 1 < cLine → SqT X.K H l vs → SqT X.K H m ws → RepL X.K H ts vs → RepL X.K H us ws → RcNeAt A s (.ref l) (.ref m) (!teqL ts us):=fun {ts us l m vs ws} h1 h2 h3 h4 h5=>by
  obtain ⟨its,r1,p1,_⟩:=I.tuple h2
  obtain ⟨its2,r2,p2,_⟩:=I.tuple h3
  have l1:its.toArray.size=ts.length:=by rw [List.size_toArray,← r1.length,h4.length]
  have l2:its2.toArray.size=us.length:=by rw [List.size_toArray,← r2.length,h5.length]
  have:=RcNeAt.tuples (A:=A) (e:=eqJ ts us) p1 p2 hu0 (el h1 r1 r2 h4 h5)
  rw [l1,l2,eqJ_tup] at this
  exact this
 have seqL:∀ {ts us:List T} {l m:Addr} {vs ws:List V},A.units + depL ts + 1 < cLine → SqL X.K H l vs → SqL X.K H m ws → RepL X.K H ts vs → RepL X.K H us ws → RcNeAt A s (.ref l) (.ref m) (!teqL ts us):=fun {ts us l m vs ws} h1 h2 h3 h4 h5=>by
  obtain ⟨its,r1,p1,_⟩:=I.list h2
  obtain ⟨its2,r2,p2,_⟩:=I.list h3
  have l1:its.toArray.size=ts.length:=by rw [List.size_toArray,← r1.length,h4.length]
  have l2:its2.toArray.size=us.length:=by rw [List.size_toArray,← r2.length,h5.length]
  by_cases hl:ts.length=us.length
  ·have:=RcNeAt.lists (A:=A) (e:=eqJ ts us) p1.isList p2.isList (by rw [l1,l2,hl]) hu0 (el h1 r1 r2 h4 h5)
   rw [l1,eqJ_all ts us hl] at this
   exact this
  ·rw [teqL_ne hl]
   exact RcNeAt.lists_lengths p1.isList p2.isList (by rw [l1,l2]; exact get_len_ne hl) hu0
 cases t with
 | non  =>
   cases hx.n; cases rx
   cases u with
   | non =>cases hy.n; cases ry; exact .none_none
   | bl c=>cases hy.b; cases ry; exact .none_bool c
   | int c=>cases hy.i; obtain ⟨k,rfl⟩:=ry; exact .none_int c k
   | str c=>cases hy.s; obtain ⟨k,rfl⟩:=ry; exact .none_str c k
   | tup us=>unfold Rep at hy; obtain ⟨m,ws,rfl,w2,w3⟩:=hy; cases ry; obtain ⟨_,_,p',_⟩:=I.tuple w2; exact .none_tuple p' hu0
   | lst us=>unfold Rep at hy; obtain ⟨m,ws,rfl,w2,w3⟩:=hy; cases ry; obtain ⟨_,_,p',_⟩:=I.list w2; exact .none_list p'.isList hu0
   | dct us=>unfold Rep at hy; obtain ⟨m,ws,rfl,w2,w3⟩:=hy; cases ry; exact .none_dict (rep_dictAt I w2) hu0
 | bl d =>
   cases hx.b; cases rx
   cases u with
   | non =>cases hy.n; cases ry; exact .bool_none d
   | bl c=>cases hy.b; cases ry; exact .bool_bool d c
   | int c=>cases hy.i; obtain ⟨k,rfl⟩:=ry; exact .bool_int d c k
   | str c=>cases hy.s; obtain ⟨k,rfl⟩:=ry; exact .bool_str d c k
   | tup us=>unfold Rep at hy; obtain ⟨m,ws,rfl,w2,w3⟩:=hy; cases ry; obtain ⟨_,_,p',_⟩:=I.tuple w2; exact .bool_tuple d p' hu0
   | lst us=>unfold Rep at hy; obtain ⟨m,ws,rfl,w2,w3⟩:=hy; cases ry; obtain ⟨_,_,p',_⟩:=I.list w2; exact .bool_list d p'.isList hu0
   | dct us=>unfold Rep at hy; obtain ⟨m,ws,rfl,w2,w3⟩:=hy; cases ry; exact .bool_dict d (rep_dictAt I w2) hu0
 | int d =>
   cases hx.i; obtain ⟨kk,rfl⟩:=rx
   cases u with
   | non =>cases hy.n; cases ry; exact .int_none d kk
   | bl c=>cases hy.b; cases ry; exact .int_bool d kk c
   | int c=>cases hy.i; obtain ⟨k,rfl⟩:=ry; exact .int_int d kk c k
   | str c=>cases hy.s; obtain ⟨k,rfl⟩:=ry; exact .int_str d kk c k
   | tup us=>unfold Rep at hy; obtain ⟨m,ws,rfl,w2,w3⟩:=hy; cases ry; obtain ⟨_,_,p',_⟩:=I.tuple w2; exact .int_tuple d kk p' hu0
   | lst us=>unfold Rep at hy; obtain ⟨m,ws,rfl,w2,w3⟩:=hy; cases ry; obtain ⟨_,_,p',_⟩:=I.list w2; exact .int_list d kk p'.isList hu0
   | dct us=>unfold Rep at hy; obtain ⟨m,ws,rfl,w2,w3⟩:=hy; cases ry; exact .int_dict d kk (rep_dictAt I w2) hu0
 | str d =>
   cases hx.s; obtain ⟨kk,rfl⟩:=rx
   cases u with
   | non =>cases hy.n; cases ry; exact .str_none d kk
   | bl c=>cases hy.b; cases ry; exact .str_bool d kk c
   | int c=>cases hy.i; obtain ⟨k,rfl⟩:=ry; exact .str_int d kk c k
   | str c=>cases hy.s; obtain ⟨k,rfl⟩:=ry; exact .str_str d kk c k
   | tup us=>unfold Rep at hy; obtain ⟨m,ws,rfl,w2,w3⟩:=hy; cases ry; obtain ⟨_,_,p',_⟩:=I.tuple w2; exact .str_tuple d kk p' hu0
   | lst us=>unfold Rep at hy; obtain ⟨m,ws,rfl,w2,w3⟩:=hy; cases ry; obtain ⟨_,_,p',_⟩:=I.list w2; exact .str_list d kk p'.isList hu0
   | dct us=>unfold Rep at hy; obtain ⟨m,ws,rfl,w2,w3⟩:=hy; cases ry; exact .str_dict d kk (rep_dictAt I w2) hu0
 | tup ts =>
   unfold Rep at hx; obtain ⟨l,vs,rfl,q2,q3⟩:=hx; cases rx
   obtain ⟨_,_,p,_⟩:=I.tuple q2
   cases u with
   | non =>cases hy.n; cases ry; exact .tuple_none p hu0
   | bl c=>cases hy.b; cases ry; exact .tuple_bool c p hu0
   | int c=>cases hy.i; obtain ⟨k,rfl⟩:=ry; exact .tuple_int c k p hu0
   | str c=>cases hy.s; obtain ⟨k,rfl⟩:=ry; exact .tuple_str c k p hu0
   | tup us=>unfold Rep at hy; obtain ⟨m,ws,rfl,w2,w3⟩:=hy; cases ry; obtain ⟨_,_,p',_⟩:=I.tuple w2; exact seqT (by simp only [dep] at hu; omega) q2 w2 q3 w3
   | lst us=>unfold Rep at hy; obtain ⟨m,ws,rfl,w2,w3⟩:=hy; cases ry; obtain ⟨_,_,p',_⟩:=I.list w2; exact .tuple_list p p'.isList hu0
   | dct us=>unfold Rep at hy; obtain ⟨m,ws,rfl,w2,w3⟩:=hy; cases ry; exact .tuple_dict p (rep_dictAt I w2) hu0
 | lst ts =>
   unfold Rep at hx; obtain ⟨l,vs,rfl,q2,q3⟩:=hx; cases rx
   obtain ⟨_,_,p,_⟩:=I.list q2
   cases u with
   | non =>cases hy.n; cases ry; exact .list_none p.isList hu0
   | bl c=>cases hy.b; cases ry; exact .list_bool c p.isList hu0
   | int c=>cases hy.i; obtain ⟨k,rfl⟩:=ry; exact .list_int c k p.isList hu0
   | str c=>cases hy.s; obtain ⟨k,rfl⟩:=ry; exact .list_str c k p.isList hu0
   | tup us=>unfold Rep at hy; obtain ⟨m,ws,rfl,w2,w3⟩:=hy; cases ry; obtain ⟨_,_,p',_⟩:=I.tuple w2; exact .list_tuple p.isList p' hu0
   | lst us=>unfold Rep at hy; obtain ⟨m,ws,rfl,w2,w3⟩:=hy; cases ry; obtain ⟨_,_,p',_⟩:=I.list w2; exact seqL (by simp only [dep] at hu; omega) q2 w2 q3 w3
   | dct us=>unfold Rep at hy; obtain ⟨m,ws,rfl,w2,w3⟩:=hy; cases ry; exact .list_dict p.isList (rep_dictAt I w2) hu0
 | dct d=>simp only [dep] at hu; exact absurd hu (by simp [cLine])
end
section
variable {X:Cx}
theorem o_ne (hu:X.A.units + 64 < cLine):Op2 X (compareOp .NotEq) tNee:=by
 intro pins s σ Hq H t u w x y v v' Q I rx ry sb r1 r2 e k
 simp only [tNee] at e
 split at e
 ·rename_i hd
  cases e
  have:=ne_all I t u x y v v' X.A rx ry (r1.rep sb) (r2.rep sb) (by omega)
  exact this X.prog X.w X.xe _ ⟨.bl (!teq t u),H,I,rfl,k _ Hq H (.refl sb) rep_bl⟩
 ·cases e
theorem in_at {pins:List (Addr × Obj)} {σ:L2.St} {H:Hp} {s:Shared} {A:Around} (I:Inv X pins σ H s) {ts:List T} {vs:List V} {its:List Value} {u:T} {y:V} {b:Value} (hu:A.units + 62 < cLine) (hd:(ts.all fun y=>decide (dep y ≤ 60))=true)
  (r:Vals vs its) (q:RepL X.K H ts vs) (ry:RelV y b) (hy:Rep X.K H u y):∃ e:Value → Bool,(∀ w,w ∈ its.toArray → EqAt A.in1 s w b (e w)) ∧ its.toArray.any e=ts.any fun t=>teq t u:=by
 classical
 let e:Value → Bool:=fun w=>decide (∃ (j:Nat) (t:T),its[j]?=some w ∧ ts[j]?=some t ∧ teq t u=true)
 have len:its.length=ts.length:=by rw [← r.length,q.length]
 have key:∀ (j:Nat) (w:Value) (t:T),its[j]?=some w → ts[j]?=some t → e w=teq t u:=fun j w t h1 h2=>by
  cases h:teq t u with
  | true=>exact decide_eq_true ⟨j,t,h1,h2,h⟩
  | false =>
    refine decide_eq_false ?_
    rintro ⟨j',t',h1',h2',h'⟩
    obtain ⟨v1,e1,g1⟩:=q.get h2
    obtain ⟨v2,e2,g2⟩:=q.get h2'
    obtain ⟨w1,f1,k1⟩:=r.get e1
    obtain ⟨w2,f2,k2⟩:=r.get e2
    rw [h1] at f1; cases f1
    rw [h1'] at f2; cases f2
    have:v1=v2:=k1.inj k2
    subst this
    have:=teq_trans (w:=u) (rep_inj I g1 g2)
    rw [h,h'] at this; cases this
 refine ⟨e,fun w hw=>?_,?_⟩
 ·obtain ⟨j,hj,rfl⟩:=Array.mem_iff_getElem.mp hw
  have hj':j < its.length:=by simpa using hj
  have e1:its[j]?=some its.toArray[j]:=by rw [List.getElem_toArray]; exact List.getElem?_eq_getElem _
  have e2:ts[j]?=some (ts[j]'(by omega)):=List.getElem?_eq_getElem _
  obtain ⟨v,ev,hv⟩:=q.get e2
  rw [key j _ _ e1 e2]
  have hdt:dep (ts[j]'(by omega)) ≤ 60:=by
   have:=List.all_eq_true.mp hd _ (List.getElem_mem (by omega:j < ts.length))
   exact of_decide_eq_true this
  exact (eq_all I _ _ _ v y _ _ A.in1 (Nat.lt_succ_self _) (rel_at r hj ev) ry hv hy (by show A.units + 1 + _ < cLine; omega)).2
 ·rw [Bool.eq_iff_iff]
  rw [Array.any_eq_true]
  rw [List.any_eq_true]
  constructor
  ·rintro ⟨j,hj,h⟩
   have hj':j < its.length:=by simpa using hj
   have e1:its[j]?=some its.toArray[j]:=by rw [List.getElem_toArray]; exact List.getElem?_eq_getElem _
   have e2:ts[j]?=some (ts[j]'(by omega)):=List.getElem?_eq_getElem _
   rw [key j _ _ e1 e2] at h
   exact ⟨_,List.getElem_mem _,h⟩
  ·rintro ⟨t,ht,h⟩
   obtain ⟨j,hj,rfl⟩:=List.mem_iff_getElem.mp ht
   have hj':j < its.length:=by omega
   have e1:its[j]?=some its.toArray[j]:=by rw [List.getElem_toArray]; exact List.getElem?_eq_getElem _
   refine ⟨j,by simpa using hj',?_⟩
   rw [key j _ _ e1 (List.getElem?_eq_getElem hj)]; exact h
theorem o_in (hu:X.A.units + 64 < cLine):Op2 X (compareOp .In) (tInn false):=by
 intro pins s σ Hq H t u w x y v v' Q I rx ry sb r1 r2 e k
 have hx:=r1.rep sb
 cases u with
 | tup ts =>
   simp only [tInn] at e
   split at e
   ·rename_i hd
    cases e
    obtain ⟨a,vs,rfl,q1,q2⟩:=r2.tup sb
    cases ry
    obtain ⟨its,r,p,_⟩:=I.tuple q1
    obtain ⟨ee,h1,h2⟩:=in_at (A:=X.A) I (by omega) hd r (q2.mono sb) rx hx
    refine in_tupleAt ee p h1 ?_
    rw [h2]
    exact ⟨.bl _,H,I,rfl,k _ Hq H (.refl sb) rep_bl⟩
   ·cases e
 | lst ts =>
   simp only [tInn] at e
   split at e
   ·rename_i hd
    cases e
    obtain ⟨a,vs,rfl,q1,q2⟩:=r2.lst sb
    cases ry
    obtain ⟨its,r,p,_⟩:=I.list q1
    obtain ⟨ee,h1,h2⟩:=in_at (A:=X.A) I (by omega) hd r (q2.mono sb) rx hx
    refine in_listAt ee p.isList h1 ?_
    rw [h2]
    exact ⟨.bl _,H,I,rfl,k _ Hq H (.refl sb) rep_bl⟩
   ·cases e
 | _=>simp [tInn] at e
theorem o_notin (hu:X.A.units + 64 < cLine):Op2 X (compareOp .NotIn) (tInn true):=by
 intro pins s σ Hq H t u w x y v v' Q I rx ry sb r1 r2 e k
 have hx:=r1.rep sb
 cases u with
 | tup ts =>
   simp only [tInn] at e
   split at e
   ·rename_i hd
    cases e
    obtain ⟨a,vs,rfl,q1,q2⟩:=r2.tup sb
    cases ry
    obtain ⟨its,r,p,_⟩:=I.tuple q1
    obtain ⟨ee,h1,h2⟩:=in_at (A:=X.A) I (by omega) hd r (q2.mono sb) rx hx
    refine notIn_tupleAt ee p h1 ?_
    rw [h2]
    exact ⟨.bl _,H,I,rfl,k _ Hq H (.refl sb) rep_bl⟩
   ·cases e
 | lst ts =>
   simp only [tInn] at e
   split at e
   ·rename_i hd
    cases e
    obtain ⟨a,vs,rfl,q1,q2⟩:=r2.lst sb
    cases ry
    obtain ⟨its,r,p,_⟩:=I.list q1
    obtain ⟨ee,h1,h2⟩:=in_at (A:=X.A) I (by omega) hd r (q2.mono sb) rx hx
    refine notIn_listAt ee p.isList h1 ?_
    rw [h2]
    exact ⟨.bl _,H,I,rfl,k _ Hq H (.refl sb) rep_bl⟩
   ·cases e
 | _=>simp [tInn] at e
end
end TL
namespace TL
open PySem L2
section
variable {prog:Program} {w:World} {A:Around} {E:Value → Shared → Prop} {s:Shared}
theorem tupExact {t:Addr} {items:Array Value} {Q:Bool → Shared → Prop} (ht:PyProof.Rows.IsTup s.heap t items) (h:Q true s):wpAny (model prog w) A (Builtin.Tuple.tupleIsExact (.ref t)) Q E s:=by
 unfold Builtin.Tuple.tupleIsExact
 exact wpAny_bind (wpAny_typeOf ht.typeIs (wpAny_pure h))
theorem getItem_tuple_whole {t sl:Addr} {items:Array Value} {vl vu:Value} {lo hi:Option Int} {Q:Value → Shared → Prop} (ht:PyProof.Rows.IsTup s.heap t items) (hs:s.heap.IsSliceOf sl vl vu .none) (pl:IsPart vl lo) (pu:IsPart vu hi)
  (hw:HT.sIx items.size 0 lo=0 ∧ HT.sIx items.size items.size hi=items.size) (h:Q (.ref t) s):wpAny (model prog w) A (getItem (.ref t) (.ref sl)) Q E s:=by
 obtain ⟨os,hos,hcs,hds⟩:=id hs
 have hTs:s.TypeIs (.ref sl) "slice":=⟨os,hos,hcs⟩
 unfold getItem
 try with_reducible refine wpAny_holding ?_
 first | refine wpAny_bind (wpAny_pure ?_) | skip
 refine wpAny_bind (wpAny_sequenceKey ht.typeIs (by decide) ?_)
 refine wpAny_bind (wpAny_callSpecial?_slot (name:=Str.ofString "__getitem__") ht.typeIs PyProof.Rows.slot_tuple_getitem
  (wpAny_call_entry PyProof.Rows.slot_tuple_getitem ht.typeIs PyProof.Rows.entry_tuple_getitem ?_ (PyProof.Rows.args_tuple_getitem _ _)))
 show wpAny _ _ (Builtin.Tuple.tupleItemsOf (.ref t) >>= _) _ _ s
 refine wpAny_bind (PyProof.Rows.tupleItemsOf_ ht ?_)
 refine wpAny_bind (wpAny_typeOf hTs ?_)
 rw [if_pos (by decide)]
 refine wpAny_bind (HT.sliceApplied_gen hs pl pu ?_)
 rw [hw.1,hw.2,Nat.sub_zero]
 show wpAny _ _ (if ((((0:Nat):Int) == 0 && (1:Int) == 1 && items.size == items.size)=true) then _ else _) _ _ s
 rw [if_pos (by simp)]
 refine wpAny_bind (tupExact ht ?_)
 show wpAny _ _ (if true=true then _ else _) _ _ s
 rw [if_pos rfl]
 exact wpAny_bind (wpAny_rule (wpAny_pure ⟨_,rfl,wpAny_pure h⟩))
theorem noFill_tuple_mul:fillsNumberSlot (.type "tuple") "mul"=pure false :=
 fillsNumberSlot_seq (id:="tuple.__mul__") (r:=some (.builtin "tuple.__rmul__")) F.slot_tuple_mul.lookup (by decide +kernel) F.slot_tuple_rmul.lookup (by decide +kernel)
theorem repeat_tuple:seqRepeat? (.type "tuple")=pure (some (.builtin "tuple.__mul__")):=by
 unfold seqRepeat?
 rw [seqSlot_of (T:="tuple") (name:="__mul__") (id:="tuple.__mul__") F.slot_tuple_mul.lookup (by decide +kernel),seqSlot_of (T:="tuple") (name:="__rmul__") (id:="tuple.__rmul__") F.slot_tuple_rmul.lookup (by decide +kernel)]
 rfl
theorem int_rmul_tuple (a:Int) (t:Tok) (l:Addr) (items:Array Value) (n:Nat) (dd:Option Addr) (sl:Array (Option Value)) :
  Meets (Builtin.«int.__rmul__» ⟨[.int a t,.ref l],[]⟩) (fun _ R s=>s.heap.get? l=some { cls:=.type "tuple",dict:=dd,data:=.seq items n,slots:=sl } ∧ R (.ok (.ret Value.notImplemented)) s) :=
 .of_wp fun prog w A R s h=>by obtain ⟨hp,g,d,tk,os⟩:=s; obtain ⟨hl,h⟩:=h; wp_walk; exact ⟨_,rfl,h⟩
theorem tuple_mulSame (l:Addr) (items:Array Value) (n:Nat) (dd:Option Addr) (sl:Array (Option Value)) (k:Int) (t:Tok) (h1:-(2 ^ 63) ≤ k) (h2:k < 2 ^ 63) (hc:(items.isEmpty || k == 1)=true) :
  Meets (Builtin.«tuple.__mul__» ⟨[.ref l,.int k t],[]⟩) (fun _ R s=>s.heap.get? l=some { cls:=.type "tuple",dict:=dd,data:=.seq items n,slots:=sl } ∧ R (.ok (.ret (.ref l))) s) :=
 .of_wp fun prog w A R s h=>by
  obtain ⟨hp,g,d,tk,os⟩:=s; obtain ⟨hl,h⟩:=h
  have ht:PyProof.Rows.IsTup hp l items:=⟨_,hl,rfl,n,rfl⟩
  have f1:=AutoSeq1.idx_int
  have f2:(decide (k < -(2 ^ 63)) || decide (k ≥ 2 ^ 63))=false:=by
   rw [decide_eq_false (by omega),decide_eq_false (by omega)]; rfl
  wp_walk using AutoSeq1.wpAny_loadPart' hl
  show wpAny _ _ (if (decide (k < -(2 ^ 63)) || decide (k ≥ 2 ^ 63))=true then _ else _) _ _ _
  rw [f2,if_neg Bool.false_ne_true]
  refine wpAny_bind (PyProof.Rows.tupleItemsOf_ ht ?_)
  show wpAny _ _ (if (items.isEmpty || k == 1)=true then _ else _) _ _ _
  rw [if_pos hc]
  refine wpAny_bind (tupExact ht ?_)
  show wpAny _ _ (if true=true then _ else _) _ _ _
  rw [if_pos rfl]
  exact wpAny_bind (wpAny_rule (wpAny_pure ⟨_,rfl,h⟩))
theorem tuple_mulZero (l:Addr) (items:Array Value) (n:Nat) (dd:Option Addr) (sl:Array (Option Value)) (k:Int) (t:Tok) (hk:k=0) (hc:items.isEmpty=false) :
  Meets (Builtin.«tuple.__mul__» ⟨[.ref l,.int k t],[]⟩) (fun _ R s=>s.heap.get? l=some { cls:=.type "tuple",dict:=dd,data:=.seq items n,slots:=sl } ∧ R (.ok (.ret (.ref s.heap.objs.size))) { s with heap:=s.heap.push { cls:=.type "tuple",data:=.seq #[] } }) :=
 .of_wp fun prog w A R s h=>by
  obtain ⟨hp,g,d,tk,os⟩:=s; obtain ⟨hl,h⟩:=h
  have ht:PyProof.Rows.IsTup hp l items:=⟨_,hl,rfl,n,rfl⟩
  have f1:=AutoSeq1.idx_int
  have f2:(decide (k < -(2 ^ 63)) || decide (k ≥ 2 ^ 63))=false:=by
   rw [decide_eq_false (by omega),decide_eq_false (by omega)]; rfl
  wp_walk using AutoSeq1.wpAny_loadPart' hl
  exact ⟨_,rfl,h⟩
theorem tuple_mulMore (l:Addr) (items:Array Value) (n:Nat) (dd:Option Addr) (sl:Array (Option Value)) (k:Int) (t:Tok) (h1:1 < k) (h2:k < 2 ^ 63) (hc:items.isEmpty=false) (hz:(items.size:Int) * k ≤ sizeLine)
  (hsz:(List.foldl (fun x1 x2=>x1 ++ x2) #[] (List.replicate k.toNat items)).size ≤ sizeLine) :
  Meets (Builtin.«tuple.__mul__» ⟨[.ref l,.int k t],[]⟩) (fun _ R s=>s.heap.get? l=some { cls:=.type "tuple",dict:=dd,data:=.seq items n,slots:=sl } ∧ R (.ok (.ret (.ref s.heap.objs.size))) { s with heap:=s.heap.push { cls:=.type "tuple",data:=.seq (List.foldl (fun x1 x2=>x1 ++ x2) #[] (List.replicate k.toNat items)) } }) :=
 .of_wp fun prog w A R s h=>by
  obtain ⟨hp,g,d,tk,os⟩:=s; obtain ⟨hl,h⟩:=h
  have ht:PyProof.Rows.IsTup hp l items:=⟨_,hl,rfl,n,rfl⟩
  have f1:=AutoSeq1.idx_int
  have f2:(decide (k < -(2 ^ 63)) || decide (k ≥ 2 ^ 63))=false:=by
   rw [decide_eq_false (by omega),decide_eq_false (by omega)]; rfl
  wp_walk using AutoSeq1.wpAny_loadPart' hl
  show wpAny _ _ (if (decide (k < -(2 ^ 63)) || decide (k ≥ 2 ^ 63))=true then _ else _) _ _ _
  rw [f2,if_neg Bool.false_ne_true]
  refine wpAny_bind (PyProof.Rows.tupleItemsOf_ ht ?_)
  show wpAny _ _ (if (items.isEmpty || k == 1)=true then _ else _) _ _ _
  rw [if_neg (by rw [hc,Bool.false_or]; simp; omega)]
  show wpAny _ _ (if (decide (k ≤ 0) || items.isEmpty)=true then _ else _) _ _ _
  rw [if_neg (by rw [hc,Bool.or_false]; simp; omega)]
  have hl0:(sizeLine:Int)=16777216:=by rw [sizeLine_eq]; rfl
  show wpAny _ _ (if (items.size:Int) * k > (2 ^ 63 - 1) / 8 then _ else _) _ _ _
  rw [if_neg (by omega)]
  show wpAny _ _ (if Builtin.Tuple.tupleTooMany ((items.size:Int) * k)=true then _ else _) _ _ _
  rw [if_neg (by unfold Builtin.Tuple.tupleTooMany; simp; omega)]
  exact wpAny_bind (m:=Builtin.Tuple.tupleExact _) (wpAny_newObj_type (wpAny_pure ⟨_,rfl,h⟩) hsz)
end
section
variable {X:Cx}
theorem o_mul:Op2 X (binaryOp .Mult) tMul:=by
 intro pins s σ Hq H t u w x y v v' Q I rx ry sb r1 r2 e k
 cases t with
 | int i =>
   cases u with
   | int j =>
     cases r1.int; cases r2.int
     simp only [tMul] at e
     split at e
     ·rename_i hm
      cases e
      refine op_mul pins s σ H _ _ v v' Q I rx ry ⟨i,j,rfl,rfl,?_,k _ Hq H (.refl sb) rep_int⟩
      simp only [mulOk,Bool.or_eq_true,Bool.and_eq_true,decide_eq_true_eq] at hm
      exact hm
     ·cases e
   | _=>simp [tMul] at e
 | tup as =>
   cases u with
   | int j =>
     simp only [tMul] at e
     split at e
     ·rename_i hm
      cases e
      obtain ⟨a,vs,rfl,q1,q2⟩:=r1.tup sb
      cases r2.int
      cases rx
      obtain ⟨tt,rfl⟩:=ry
      obtain ⟨its,r,p,_⟩:=I.tuple q1
      have hlen:its.length=as.length:=by rw [← r.length,q2.length]
      obtain ⟨⟨cls,dd,data,sl⟩,ho,hc,n,hd⟩:=id p
      simp only at hc hd
      subst hc hd
      refine wpAny_binaryOp_repeat_ref (T:="tuple") (U:="int") (by decide) ⟨_,ho,rfl⟩ (fun s'=>typeIs_int s' j tt) noFill_tuple_mul F.fills_int_mul F.slot_int_rmul repeat_tuple F.slot_int_index.lookup
       (call_meets F.slot_int_rmul (typeIs_int s j tt) F.entry_int_rmul (F.args_int_rmul_2 _ _) (int_rmul_tuple j tt a its.toArray n dd sl) ⟨ho,rfl,⟨_,ho,rfl⟩,?_⟩)
      by_cases h0:(its.toArray.isEmpty || j == 1)=true
      ·refine call_meets F.slot_tuple_mul ⟨_,ho,rfl⟩ F.entry_tuple_mul (F.args_tuple_mul_2 _ _) (tuple_mulSame a its.toArray n dd sl j tt (by omega) (by omega) h0) ⟨ho,?_⟩
       refine ⟨.ref a,H,I,rfl,k _ Hq H (.refl sb) ?_⟩
       have ee:(List.replicate j.toNat as).flatten=as:=by
        rw [Bool.or_eq_true] at h0
        rcases h0 with z | z
        ·have:as=[]:=List.eq_nil_of_length_eq_zero (by rw [← hlen]; simpa using z)
         subst this; simp
        ·have:j=1:=by simpa using z
         subst this; simp
       rw [ee]
       rcases r1 with r1 | ⟨_,_,_,_,z,_⟩
       ·exact r1
       ·cases z
      ·rw [Bool.not_eq_true,Bool.or_eq_false_iff] at h0
       by_cases hz:j=0
       ·subst hz
        refine call_meets F.slot_tuple_mul ⟨_,ho,rfl⟩ F.entry_tuple_mul (F.args_tuple_mul_2 _ _) (tuple_mulZero a its.toArray n dd sl 0 tt rfl h0.1) ⟨ho,?_⟩
        exact ⟨.ref s.heap.objs.size,_,I.laid (t':=s.toks) (o:=.tup []) (fun b ob q=>Heap.get?_push_of_some _ q) (Nat.le_refl _) ⟨Nat.zero_le _,[],.nil,PyProof.Rows.IsTup.new _ _⟩,rfl,k _ _ _ (.new sb I.fresh) (rep_tupNew (sb.free I.fresh) .nil)⟩
       ·have h1:1 < j:=by
         have:j ≠ 1:=by simpa using h0.2
         omega
        have hnew:List.foldl (fun x1 x2=>x1 ++ x2) #[] (List.replicate j.toNat its.toArray)=(List.replicate j.toNat its).flatten.toArray:=by
         have:=foldl_rep its j.toNat []
         rw [List.nil_append] at this
         exact this
        have hsz:(List.replicate j.toNat its).flatten.length ≤ sizeLine:=by rw [len_rep,Nat.mul_comm,hlen]; exact hm.2.2
        refine call_meets F.slot_tuple_mul ⟨_,ho,rfl⟩ F.entry_tuple_mul (F.args_tuple_mul_2 _ _) (tuple_mulMore a its.toArray n dd sl j tt h1 (by omega) h0.1 ?_ (by rw [hnew,List.size_toArray]; exact hsz)) ⟨ho,?_⟩
        ·rw [List.size_toArray,hlen]
         have h3:=hm.2.2
         have:((as.length * j.toNat:Nat):Int) ≤ (sizeLine:Int):=by exact_mod_cast h3
         rw [Int.natCast_mul,Int.toNat_of_nonneg hm.1] at this
         exact this
        ·rw [hnew]
         exact ⟨.ref s.heap.objs.size,_,I.laid (t':=s.toks) (o:=.tup (List.replicate j.toNat vs).flatten) (fun b ob q=>Heap.get?_push_of_some _ q) (Nat.le_refl _) ⟨by rw [(r.rep j.toNat).length]; exact hsz,_,r.rep j.toNat,PyProof.Rows.IsTup.new _ _⟩,rfl,k _ _ _ (.new sb I.fresh) (rep_tupNew (sb.free I.fresh) (q2.rep j.toNat))⟩
     ·cases e
   | _=>simp [tMul] at e
 | _=>cases u <;> simp [tMul] at e
end
end TL
namespace TL
open PySem L2
section
variable {X:Cx} {z:Z} {a b c:Expr} {f g h:FE} {fn fn':T → T → Option T} {pos:Pos}
theorem fChain_some {ρ:Rho} {w:T} (e:fChain fn fn' f g h ρ=some w):∃ t u,f ρ=some t ∧ g ρ=some u ∧ ((∃ y,fn t u=some (.bl true) ∧ h ρ=some y ∧ fn' u y=some w) ∨ (fn t u=some (.bl false) ∧ w=.bl false)):=by
 unfold fChain at e
 split at e
 ·rename_i t e1
  split at e
  ·rename_i u e2
   split at e
   ·rename_i e3
    split at e
    ·rename_i y e4
     exact ⟨t,u,e1,e2,.inl ⟨y,e3,e4,e⟩⟩
    ·cases e
   ·rename_i e3
    cases e
    exact ⟨t,u,e1,e2,.inr ⟨e3,rfl⟩⟩
   ·cases e
  ·cases e
 ·cases e
theorem readC (hK:z.K=X.K):∀ σ H Q,tT z (fChain fn fn' f g h) σ H Q → tChain (rT X.K fn) (rT X.K fn') (tR z f) (tR z g) (tR z h) σ H Q:=fun σ H Q ⟨ρ,Hq,w,r,e,k⟩=>by
 obtain ⟨t,u,e1,e2,e3⟩:=fChain_some e
 rw [← hK]
 refine ⟨ρ,Hq,t,r,e1,fun v Hq1 H1 x1 r1=>⟨ρ,Hq1,u,r.ext x1,e2,fun v2 Hq2 H2 x2 r2=>?_⟩⟩
 rcases e3 with ⟨y,e3,e4,e5⟩ | ⟨e3,rfl⟩
 ·exact ⟨Hq2,t,u,.bl true,x2.sub,r1.ext x2,r2,e3,fun q Hq3 H3 x3 r3=>⟨true,r3.b,iteT ⟨ρ,Hq3,y,((r.ext x1).ext x2).ext x3,e4,fun v4 Hq4 H4 x4 r4=>⟨Hq4,u,y,w,x4.sub,(r2.ext x3).ext x4,r4,e5,fun q5 Hq5 H5 x5 r5=>k q5 Hq5 H5 ((((x1.trans x2).trans x3).trans x4).trans x5) r5⟩⟩⟩⟩
 ·exact ⟨Hq2,t,u,.bl false,x2.sub,r1.ext x2,r2,e3,fun q Hq3 H3 x3 r3=>⟨false,r3.b,iteF (k _ Hq3 H3 ((x1.trans x2).trans x3) rep_bl)⟩⟩
theorem ev_chain (hK:z.K=X.K) {op op':CmpOp} (ho:Op2 X (compareOp op) fn) (ho':Op2 X (compareOp op') fn') (ha:ER X z a f) (hb:ER X z b g) (hc:ER X z c h)
  (hm:lastMarks [op,op'] [b,c]=false:=by with_unfolding_all rfl):EV X z (.Compare a [op,op'] [b,c] pos) (fChain fn fn' f g h):=PE.imp (pe_chain ho.r ho'.r ha hb hc hm) (readC hK)
theorem et_chain (hK:z.K=X.K) {op op':CmpOp} (ho:Op2 X (compareOp op) fn) (ho':Op2 X (compareOp op') fn') (ha:ER X z a f) (hb:ER X z b g) (hc:ER X z c h)
  (hm:lastMarks [op,op'] [b,c]=false:=by with_unfolding_all rfl):ET X z (.Compare a [op,op'] [b,c] pos) (fB (fChain fn fn' f g h)) :=
 PT.imp (pt_chain ho.r ho'.r ha hb hc hm) fun σ H Q ⟨ρ,Hq,b,r,e,k⟩ =>
  readC (X:=X) hK σ H (fun x H'=>∃ k,x=.bl k ∧ Q k H') ⟨ρ,Hq,.bl b,r,fB_some e,fun v Hq' H' x p=>⟨b,p.b,k Hq' H' x⟩⟩
end
def f1 (fn:T → Option T) (f:FE):FE:=fun ρ=>match f ρ with | some t=>fn t | none=>none
theorem f1_some {fn:T → Option T} {f:FE} {ρ:Rho} {w:T} (h:f1 fn f ρ=some w):∃ t,f ρ=some t ∧ fn t=some w:=by
 unfold f1 at h
 split at h
 ·rename_i t e; exact ⟨t,e,h⟩
 ·cases h
def tNeg:T → Option T
 | .int i=>some (.int (-i))
 | _=>none
section
variable {X:Cx} {z:Z} {a b e:Expr} {f g:FE} {pos:Pos}
def tIx:T → T → Option T
 | .tup ts,.int i=>atI ts i
 | .lst ts,.int i=>atI ts i
 | _,_=>none
theorem repL_atI {K:PySem.W.Frag} {H:Hp} {ts:List T} {vs:List V} (h:RepL K H ts vs) {i:Int} {t:T} (e:atI ts i=some t):∃ v,atI vs i=some v ∧ Rep K H t v:=by
 unfold atI at e ⊢
 rw [← h.length]
 cases q:ixN ts.length i with
 | none=>rw [q] at e; cases e
 | some j =>
   rw [q] at e
   exact h.get e
theorem ev_ix (hK:z.K=X.K) (ha:ER X z a f) (hb:EV X z b g) (hs:PlainIx b):EV X z (.Subscript a b pos) (f2 tIx f g):=PE.imp (pe_ix ix_seq ha hb hs) fun σ H Q ⟨ρ,Hq,w,r,e,k⟩=>by
 obtain ⟨t,u,e1,e2,e3⟩:=f2_some e
 refine ⟨ρ,Hq,t,r,e1,fun v Hq1 H1 x1 r1=>⟨ρ,Hq1,u,r.ext x1,e2,fun v2 Hq2 H2 x2 r2=>?_⟩⟩
 cases t with
 | tup ts =>
   cases u with
   | int i =>
     obtain ⟨p,vs,rfl,q1,q2⟩:=(r1.ext x2).tup x2.sub
     obtain ⟨y,h1,h2⟩:=repL_atI q2 e3
     exact .inr (.inl ⟨p,vs,i,y,rfl,r2.i,hK ▸ q1,h1,k y Hq2 H2 (x1.trans x2) h2⟩)
   | _=>simp [tIx] at e3
 | lst ts =>
   cases u with
   | int i =>
     obtain ⟨p,vs,rfl,q1,q2⟩:=(r1.ext x2).lst x2.sub
     obtain ⟨y,h1,h2⟩:=repL_atI q2 e3
     exact .inl ⟨p,vs,i,y,rfl,r2.i,hK ▸ q1,h1,k y Hq2 H2 (x1.trans x2) h2⟩
   | _=>simp [tIx] at e3
 | _=>simp [tIx] at e3
def cutT {α:Type} (xs:List α) (lo hi:Option Int):List α:=(xs.drop (HT.sIx xs.length 0 lo)).take (HT.sIx xs.length xs.length hi - HT.sIx xs.length 0 lo)
def FO:=Rho → Option (Option Int)
def foN:FO:=fun _=>some none
def foS (f:FE):FO:=fun ρ=>match f ρ with | some (.int i)=>some (some i) | _=>none
def tO (z:Z) (f:FO):TO:=fun σ H Q=>∃ ρ Hq o,Rn z σ ρ Hq H ∧ f ρ=some o ∧ ∀ Hq' H',Ex Hq H Hq' H' → Q o H'
theorem PO.imp {X:Cx} {e:Option Expr} {t t':TO} (h:PO X e t) (i:∀ σ H Q,t' σ H Q → t σ H Q):PO X e t':=fun pins s σ H Q I q=>h pins s σ H Q I (i σ H Q q)
theorem eo_none:PO X none (tO z foN):=PO.imp po_none fun σ H Q ⟨ρ,Hq,o,r,e,k⟩=>by
 cases e; exact k Hq H (.refl r.sub)
theorem eo_some (h:EV X z e f):PO X (some e) (tO z (foS f)):=PO.imp (po_some h) fun σ H Q ⟨ρ,Hq,o,r,e,k⟩=>by
 unfold foS at e
 split at e
 ·rename_i i e1
  cases e
  exact ⟨ρ,Hq,_,r,e1,fun v Hq1 H1 x1 r1=>⟨i,r1.i,k Hq1 H1 x1⟩⟩
 ·cases e
theorem RepL.cut {K:PySem.W.Frag} {H:Hp} {ts:List T} {vs:List V} (h:RepL K H ts vs) (lo hi:Option Int):RepL K H (cutT ts lo hi) (cutV vs lo hi):=by
 unfold cutT cutV
 rw [h.length]
 exact (h.drop _).take _
def tCut (t:T) (lo hi:Option Int):Option T:=match t with
 | .tup ts=>some (.tup (cutT ts lo hi))
 | .lst ts=>some (.lst (cutT ts lo hi))
 | _=>none
def rCut (K:PySem.W.Frag):V → Option Int → Option Int → Hp → VK → Prop:=fun x lo hi H Q=>∃ Hq t w,Same Hq H ∧ RepR K Hq H t x ∧ tCut t lo hi=some w ∧ ∀ q Hq' H',Ex Hq H Hq' H' → Rep K Hq' w q → Q q H'
theorem sl_cut:SlR X (rCut X.K):=by
 intro pins s σ H x v vl vu lo hi sl Q I rx hs pl pu h
 obtain ⟨Hq,t,w,sb,r1,e,k⟩:=h
 cases t with
 | tup ts =>
   simp only [tCut,Option.some.injEq] at e
   subst e
   obtain ⟨a,vs,rfl,q1,q2⟩:=r1.tup sb
   by_cases hw:HT.sIx vs.length 0 lo=0 ∧ HT.sIx vs.length vs.length hi=vs.length
   ·cases rx
    obtain ⟨its,r,ht,hz⟩:=I.tuple q1
    have hlen:its.toArray.size=vs.length:=by rw [List.size_toArray]; exact r.length.symm
    refine ⟨"tuple",_,PyProof.Rows.slot_tuple_getitem.lookup,ht.typeIs,getItem_tuple_whole ht hs pl pu (by rw [hlen]; exact hw) ?_⟩
    refine ⟨.ref a,H,I,rfl,k _ Hq H (.refl sb) ?_⟩
    have:cutT ts lo hi=ts:=by
     unfold cutT
     rw [q2.length,hw.1,hw.2,Nat.sub_zero,List.drop_zero,← q2.length,List.take_length]
    rw [this]
    rcases r1 with r1 | ⟨_,_,_,_,z,_⟩
    ·exact r1
    ·cases z
   ·exact sl_tup pins s σ H _ v vl vu lo hi sl Q I rx hs pl pu ⟨a,vs,rfl,q1,hw,fun p hp=>k _ _ _ (.new sb hp) (rep_tupNew (sb.free hp) (q2.cut lo hi))⟩
 | lst ts =>
   simp only [tCut,Option.some.injEq] at e
   subst e
   obtain ⟨a,vs,rfl,q1,q2⟩:=r1.lst sb
   exact sl_list pins s σ H _ v vl vu lo hi sl Q I rx hs pl pu ⟨a,vs,rfl,q1,fun p hp=>k _ _ _ (.new sb hp) (rep_lstNew (sb.free hp) (q2.cut lo hi))⟩
 | _=>simp [tCut] at e
def fCut (f:FE) (lo hi:FO):FE:=fun ρ=>match f ρ with | some t=>(match lo ρ with | some l=>(match hi ρ with | some h=>tCut t l h | none=>none) | none=>none) | none=>none
theorem ev_slice (hK:z.K=X.K) {lo hi:Option Expr} {fl fh:FO} {p2:Pos} (he:ER X z e f) (hl:PO X lo (tO z fl)) (hh:PO X hi (tO z fh)):EV X z (.Subscript e (.Slice lo hi none p2) pos) (fCut f fl fh) :=
 PE.imp (pe_slice sl_cut he hl hh) fun σ H Q ⟨ρ,Hq,w,r,e,k⟩=>by
  unfold fCut at e
  split at e
  ·rename_i t e1
   split at e
   ·rename_i l e2
    split at e
    ·rename_i h e3
     refine ⟨ρ,Hq,t,r,e1,fun v Hq1 H1 x1 r1=>⟨ρ,Hq1,l,r.ext x1,e2,fun Hq2 H2 x2=>⟨ρ,Hq2,h,(r.ext x1).ext x2,e3,fun Hq3 H3 x3=>?_⟩⟩⟩
     rw [← hK]
     exact ⟨Hq3,t,w,x3.sub,(r1.ext x2).ext x3,e,fun q Hq4 H4 x4 r4=>k q Hq4 H4 (((x1.trans x2).trans x3).trans x4) r4⟩
    ·cases e
   ·cases e
  ·cases e
def tRev:T → Option T
 | .tup ts=>some (.tup ts.reverse)
 | _=>none
end
end TL
namespace TL
open PySem L2
section
variable {X:Cx} {z:Z} {e:Expr} {f g:FE} {p p' pos:Pos}
def tAR (z:Z) (f:FE):TA:=fun σ H Q=>∃ ρ Hq t,Rn z σ ρ Hq H ∧ f ρ=some t ∧ ∀ v Hq' H',Ex Hq H Hq' H' → RepR z.K Hq' H' t v → Q [v] H'
theorem ea_r1 (h:ER X z e f) (hs:starEach [e] X.env=[(false,eval e X.env)]:=by rfl):PA X [e] (tAR z f):=PA.imp (pa_cons h pa_nil hs) fun σ H Q ⟨ρ,Hq,t,r,e,k⟩ =>
 ⟨ρ,Hq,t,r,e,fun v Hq' H' x rr=>k v Hq' H' x rr⟩
def Bi1 (X:Cx) (fv:Value) (fn:T → Option T):Prop:=CallR X fv fun xs H Q=>∃ Hq t w x,xs=[x] ∧ Same Hq H ∧ RepR X.K Hq H t x ∧ fn t=some w ∧ ∀ q Hq' H',Ex Hq H Hq' H' → Rep X.K Hq' w q → Q q H'
theorem read1 (hK:z.K=X.K) {fn:T → Option T}:∀ σ H Q,tT z (f1 fn f) σ H Q → tCB (fun xs H Q=>∃ Hq t w x,xs=[x] ∧ Same Hq H ∧ RepR X.K Hq H t x ∧ fn t=some w ∧ ∀ q Hq' H',Ex Hq H Hq' H' → Rep X.K Hq' w q → Q q H') (tAR z f) σ H Q:=fun σ H Q ⟨ρ,Hq,w,r,e,k⟩=>by
 obtain ⟨t,e1,e2⟩:=f1_some e
 rw [← hK]
 exact ⟨ρ,Hq,t,r,e1,fun v Hq1 H1 x1 r1=>⟨Hq1,t,w,v,rfl,x1.sub,r1,e2,fun q Hq2 H2 x2 r2=>k q Hq2 H2 (x1.trans x2) r2⟩⟩
theorem ev_b1 (hK:z.K=X.K) {fn:T → Option T} {x:Str} {id:String} (hb:Bi1 X (.builtin id) fn) (hg:Gl X x) (hm:X.mg x=none) (hv:bootBuiltins x=some (.builtin id)) (he:ER X z e f) (hn:x ≠ "__name__":=by decide) (hdb:(x == ("__debug__":Str))=false:=by decide)
  (hs:starEach [e] X.env=[(false,eval e X.env)]:=by rfl):EV X z (.Call (.Name x p) [e] [] pos) (f1 fn f):=PE.imp (pe_callB hb hg hm hv (ea_r1 he hs) hn hdb hs rfl) (read1 hK)
theorem ev_y1 (hK:z.K=X.K) {fn:T → Option T} {x:Str} {id:String} (hb:Bi1 X (.type id) fn) (hg:Gl X x) (hm:X.mg x=none) (hv:bootBuiltins x=some (.type id)) (he:ER X z e f) (hn:x ≠ "__name__":=by decide) (hdb:(x == ("__debug__":Str))=false:=by decide)
  (hs:starEach [e] X.env=[(false,eval e X.env)]:=by rfl):EV X z (.Call (.Name x p) [e] [] pos) (f1 fn f):=PE.imp (pe_callTy hb hg hm hv (ea_r1 he hs) hn hdb hs rfl) (read1 hK)
def tLen:T → Option T
 | .tup ts=>some (.int ts.length)
 | .lst ts=>some (.int ts.length)
 | .str x=>if x.length ≤ sizeLine then some (.int x.length) else none
 | _=>none
theorem b_len:Bi1 X (.builtin "len") tLen:=by
 intro pins s σ H xs us Q I r h
 obtain ⟨Hq,t,w,x,rfl,sb,r1,e,k⟩:=h
 cases t with
 | tup ts =>
   simp only [tLen,Option.some.injEq] at e; subst e
   obtain ⟨a,vs,rfl,q1,q2⟩:=r1.tup sb
   exact call_len_seq pins s σ H _ us Q I r ⟨a,vs,rfl,.inr q1,by rw [← q2.length]; exact k _ Hq H (.refl sb) rep_int⟩
 | lst ts =>
   simp only [tLen,Option.some.injEq] at e; subst e
   obtain ⟨a,vs,rfl,q1,q2⟩:=r1.lst sb
   exact call_len_seq pins s σ H _ us Q I r ⟨a,vs,rfl,.inl q1,by rw [← q2.length]; exact k _ Hq H (.refl sb) rep_int⟩
 | str y =>
   simp only [tLen] at e
   split at e
   ·rename_i hl
    cases e
    cases r1.str
    exact call_len_str pins s σ H _ us Q I r ⟨y,rfl,hl,k _ Hq H (.refl sb) rep_int⟩
   ·cases e
 | _=>simp [tLen] at e
def tTupOf:T → Option T
 | .tup ts=>some (.tup ts)
 | .lst ts=>some (.tup ts)
 | _=>none
theorem b_tuple:Bi1 X (.type "tuple") tTupOf:=by
 intro pins s σ H xs us Q I r h
 obtain ⟨Hq,t,w,x,rfl,sb,r1,e,k⟩:=h
 cases t with
 | tup ts =>
   simp only [tTupOf,Option.some.injEq] at e; subst e
   obtain ⟨a,vs,rfl,q1,q2⟩:=r1.tup sb
   refine call_tuple_of pins s σ H _ us Q I r ⟨a,vs,rfl,.inr ⟨q1,k _ Hq H (.refl sb) ?_⟩⟩
   rcases r1 with r1 | ⟨_,_,_,_,z,_⟩
   ·exact r1
   ·cases z
 | lst ts =>
   simp only [tTupOf,Option.some.injEq] at e; subst e
   obtain ⟨a,vs,rfl,q1,q2⟩:=r1.lst sb
   exact call_tuple_of pins s σ H _ us Q I r ⟨a,vs,rfl,.inl ⟨q1,fun l hl=>k _ _ _ (.new sb hl) (rep_tupNew (sb.free hl) q2)⟩⟩
 | _=>simp [tTupOf] at e
def tLstOf:T → Option T
 | .tup ts=>some (.lst ts)
 | .lst ts=>some (.lst ts)
 | _=>none
def tStrOf:T → Option T
 | .int i=>if i.natAbs.log2 < 1920 then some (.str (toString i)) else none
 | _=>none
theorem b_str:Bi1 X (.type "str") tStrOf:=by
 intro pins s σ H xs us Q I r h
 obtain ⟨Hq,t,w,x,rfl,sb,r1,e,k⟩:=h
 cases t with
 | int i =>
   simp only [tStrOf] at e
   split at e
   ·rename_i hl
    cases e
    cases r1.int
    exact call_str_int pins s σ H _ us Q I r ⟨i,rfl,hl,k _ Hq H (.refl sb) rep_str⟩
   ·cases e
 | _=>simp [tStrOf] at e
def tAll:T → Option T
 | .lst ts=>if (ts.all fun t=>match t with | .bl _=>true | _=>false)=true then some (.bl (ts.all fun t=>match t with | .bl b=>b | _=>true)) else none
 | _=>none
def tAny:T → Option T
 | .lst ts=>if (ts.all fun t=>match t with | .bl _=>true | _=>false)=true then some (.bl (ts.any fun t=>match t with | .bl b=>b | _=>false)) else none
 | _=>none
theorem bools_at {K:PySem.W.Frag} {H:Hp} {ts:List T} {vs:List V} {its:List Value} (r:Vals vs its) (q:RepL K H ts vs) (hb:(ts.all fun t=>match t with | .bl _=>true | _=>false)=true) :
  ∃ bs:List Bool,ts=bs.map T.bl ∧ its=bs.map Value.bool:=by
 have:∃ bs:List Bool,ts=bs.map T.bl:=by
  clear q
  induction ts with
  | nil=>exact ⟨[],rfl⟩
  | cons t ts ih =>
    rw [List.all_cons,Bool.and_eq_true] at hb
    obtain ⟨bs,e⟩:=ih hb.2
    cases t with
    | bl b=>exact ⟨b :: bs,by rw [e]; rfl⟩
    | _=>simp at hb
 obtain ⟨bs,rfl⟩:=this
 refine ⟨bs,rfl,?_⟩
 clear hb
 induction bs generalizing vs its with
 | nil=>unfold RepL at q; simp at q; subst q; cases r; rfl
 | cons b bs ih =>
   rw [List.map_cons] at q
   unfold RepL at q
   obtain ⟨v,rr,rfl,h2,h3⟩:=q
   cases h2.b
   cases r with
   | cons r1 r2 =>
     cases r1
     rw [ih r2 h3]; rfl
theorem range_all (bs:List Bool):(List.range bs.length).all (fun i=>bs.getD i true)=bs.all id:=by
 induction bs with
 | nil=>rfl
 | cons b bs ih =>
   rw [List.length_cons,List.range_succ_eq_map,List.all_cons,List.all_map,List.all_cons,← ih]
   rfl
theorem range_any (bs:List Bool):(List.range bs.length).any (fun i=>bs.getD i true)=bs.any id:=by
 induction bs with
 | nil=>rfl
 | cons b bs ih =>
   rw [List.length_cons,List.range_succ_eq_map,List.any_cons,List.any_map,List.any_cons,← ih]
   rfl
theorem truth_bools {prog:Program} {w:World} {A:Around} (bs:List Bool):TruthOf prog w A (fun i v=>(bs.map Value.bool).toArray[i]?=some v) fun i=>bs.getD i true:=by
 intro i v s Q E hv hq
 have hv':(bs.map Value.bool)[i]?=some v:=by simpa using hv
 rw [List.getElem?_map] at hv'
 cases e:bs[i]? with
 | none=>rw [e] at hv'; cases hv'
 | some b =>
   rw [e] at hv'
   cases hv'
   have:bs.getD i true=b:=by rw [List.getD_eq_getElem?_getD,e]; rfl
   dsimp only at hq
   rw [this] at hq
   exact wpAny_truthy_bool hq
theorem b_all (hc:X.calm=true):Bi1 X (.builtin "all") tAll:=by
 intro pins s σ H xs us Q I r h
 obtain ⟨Hq,t,w,x,rfl,sb,r1,e,k⟩:=h
 cases t with
 | lst ts =>
   simp only [tAll] at e
   split at e
   ·rename_i hb
    cases e
    obtain ⟨a,vs,rfl,q1,q2⟩:=r1.lst sb
    obtain ⟨u,rfl,ru⟩:=vals1 r
    cases ru
    obtain ⟨its,rv,p,hz⟩:=I.list q1
    obtain ⟨bs,rfl,rfl⟩:=bools_at rv q2 hb
    refine call_all_walk (wpAny_pyIter_list p.isList ?_)
    have hax:a < s.heap.objs.size:=let ⟨o,ho,_⟩:=p.isList; Heap.lt_size ho
    refine ⟨s.heap.objs.size,[s.heap.objs.size,a],[s.heap.objs.size],(bs.map Value.bool).toArray.size,(fun i v=>(bs.map Value.bool).toArray[i]?=some v),(fun i h=>h.IsListIter s.heap.objs.size a i ∧ h.IsList a (bs.map Value.bool).toArray),fun i=>bs.getD i true,rfl,
     Walks.list (show X.A.in1.handled=none from I.ok.hd hc) s.heap.objs.size a (Nat.ne_of_lt hax) (bs.map Value.bool).toArray,⟨⟨_,Heap.get?_push_size _ rfl,rfl,rfl⟩,p.isList.push _⟩,truth_bools bs,fun h' tk kp=>?_⟩
    have ev:(List.range (bs.map Value.bool).toArray.size).all (fun i=>bs.getD i true)=(bs.map T.bl).all fun t=>match t with | .bl b=>b | _=>true:=by
     rw [List.size_toArray,List.length_map,range_all,List.all_map]
     rfl
    rw [ev]
    exact ⟨.bl _,H,I.kept (t':=tk) fun b o e=>kp b o (by simp; exact Nat.ne_of_lt (Heap.lt_size e)) (Heap.get?_push_of_some _ e),rfl,k _ Hq H (.refl sb) rep_bl⟩
   ·cases e
 | _=>simp [tAll] at e
def isT (c:String):T → Bool
 | .non=>false
 | .bl _=>c == "bool" || c == "int"
 | .int _=>c == "int"
 | .str _=>c == "str"
 | .tup _=>c == "tuple"
 | .lst _=>c == "list"
 | .dct _=>c == "dict"
def tIs (c:String) (t:T):Option T:=some (.bl (isT c t))
structure Kit (K:PySem.W.Frag) (c:String):Prop where
 non:PySem.W.kitOne K (.type "NoneType") (.type c)=some (isT c .non)
 bl:PySem.W.kitOne K (.type "bool") (.type c)=some (isT c (.bl true))
 int:PySem.W.kitOne K (.type "int") (.type c)=some (isT c (.int 0))
 str:PySem.W.kitOne K (.type "str") (.type c)=some (isT c (.str ""))
 tup:PySem.W.kitOne K (.type "tuple") (.type c)=some (isT c (.tup []))
 lst:PySem.W.kitOne K (.type "list") (.type c)=some (isT c (.lst []))
 dct:PySem.W.kitOne K (.type "dict") (.type c)=some (isT c (.dct []))
theorem kit_int (K:PySem.W.Frag):Kit K "int":=⟨rfl,rfl,rfl,rfl,rfl,rfl,rfl⟩
theorem kit_bool (K:PySem.W.Frag):Kit K "bool":=⟨rfl,rfl,rfl,rfl,rfl,rfl,rfl⟩
theorem kit_tuple (K:PySem.W.Frag):Kit K "tuple":=⟨rfl,rfl,rfl,rfl,rfl,rfl,rfl⟩
theorem isi_ok {pins:List (Addr × Obj)} {σ:L2.St} {H:Hp} {s:Shared} {A:Around} {E:Value → Shared → Prop} {Q:Value → Shared → Prop} {c:String} (kt:Kit X.K c) {t:T} {x:V} {u:Value} (I:Inv X pins σ H s) (rx:RelV x u) (h:Rep X.K H t x)
  (hq:∀ tk,Q (.bool (isT c t)) { s with toks:=tk }):wpAny (model X.prog X.w) A (call (.builtin "isinstance") [u,.type c]) Q E s:=by
 cases t with
 | non=>cases h.n; cases rx; exact PySem.W.kia_one PySem.W.kitx_none I.kIn True.intro kt.non (fun z=>nomatch z) hq
 | bl b=>cases h.b; cases rx; exact PySem.W.kia_one PySem.W.kitx_bool I.kIn True.intro kt.bl (fun z=>nomatch z) hq
 | int b=>cases h.i; obtain ⟨k,rfl⟩:=rx; exact PySem.W.kia_one PySem.W.kitx_int I.kIn True.intro kt.int (fun z=>nomatch z) hq
 | str b=>cases h.s; obtain ⟨k,rfl⟩:=rx; exact PySem.W.kia_one PySem.W.kitx_str I.kIn True.intro kt.str (fun z=>nomatch z) hq
 | tup ts =>
   unfold Rep at h
   obtain ⟨a,vs,rfl,q1,q2⟩:=h
   cases rx
   obtain ⟨_,_,⟨o,h1,h2,_⟩,_⟩:=I.tuple q1
   exact PySem.W.kia_one PySem.W.kitx_tuple I.kIn ⟨o,h1,h2⟩ kt.tup (fun z=>nomatch z) hq
 | lst ts =>
   unfold Rep at h
   obtain ⟨a,vs,rfl,q1,q2⟩:=h
   cases rx
   obtain ⟨_,_,p,_⟩:=I.list q1
   obtain ⟨o,h1,h2,_⟩:=p.isList
   exact PySem.W.kia_one PySem.W.kitx_list I.kIn ⟨o,h1,h2⟩ kt.lst (fun z=>nomatch z) hq
 | dct d =>
   unfold Rep at h
   obtain ⟨a,kvs,rfl,q1,q2⟩:=h
   cases rx
   obtain ⟨es,ep,h1⟩:=rep_dictAt I q1
   exact PySem.W.kia_one PySem.W.kitx_dict I.kIn ⟨_,h1,rfl⟩ kt.dct (fun z=>nomatch z) hq
theorem ev_isi (hK:z.K=X.K) {c:Str} {cn:String} (kt:Kit X.K cn) (hg:Gl X "isinstance") (hm:X.mg "isinstance"=none) (hg2:Gl X c) (hm2:X.mg c=none) (hv2:bootBuiltins c=some (.type cn)) (he:ER X z e f) (hn:c ≠ "__name__":=by decide) (hdb:(c == ("__debug__":Str))=false:=by decide)
  (hs:starEach [e,.Name c p'] X.env=[(false,eval e X.env),(false,eval (.Name c p') X.env)]:=by rfl) (hs2:starEach [.Name c p'] X.env=[(false,eval (.Name c p') X.env)]:=by rfl) :
  EV X z (.Call (.Name "isinstance" p) [e,.Name c p'] [] pos) (f1 (tIs cn) f):=by
 have hb:CallR X (.builtin "isinstance") fun xs H Q=>∃ Hq t x,xs=[x,.ty cn] ∧ Same Hq H ∧ RepR X.K Hq H t x ∧ Q (.bl (isT cn t)) H:=by
  intro pins s σ H xs us Q I r h
  obtain ⟨Hq,t,x,rfl,sb,r1,k⟩:=h
  obtain ⟨u,w',rfl,ru,rw'⟩:=vals2 r
  cases rw'
  exact isi_ok kt I ru (r1.rep sb) fun tk=>⟨.bl _,H,I.tok _,rfl,k⟩
 refine PE.imp (pe_callB hb hg hm (by rfl) (pa_cons he (pa_cons (pe_bltn (v:=.ty cn) hg2 hm2 hv2 rfl hn hdb) pa_nil (by rw [hs2]; rfl)) (by rw [hs,hs2])) (by decide) (by decide) (by rw [hs,hs2]) (by rw [hs2]; rfl)) fun σ H Q ⟨ρ,Hq,w,r,e,k⟩=>?_
 obtain ⟨t,e1,e2⟩:=f1_some e
 simp only [tIs,Option.some.injEq] at e2
 subst e2
 exact ⟨ρ,Hq,t,r,e1,fun v Hq1 H1 x1 r1=>⟨Hq1,t,v,rfl,x1.sub,hK ▸ r1,k _ Hq1 H1 x1 rep_bl⟩⟩
def tMin:T → T → Option T
 | .int i,.int j=>some (.int (if j < i then j else i))
 | _,_=>none
theorem ev_min (hc:X.calm=true) {a b:Expr} (hg:Gl X "min") (hm:X.mg "min"=none) (ha:EV X z a f) (hb:EV X z b g) (hs:starEach [a,b] X.env=[(false,eval a X.env),(false,eval b X.env)]:=by rfl) (hs2:starEach [b] X.env=[(false,eval b X.env)]:=by rfl) :
  EV X z (.Call (.Name "min" p) [a,b] [] pos) (f2 tMin f g):=by
 refine PE.imp (pe_callB (call_min2 hc) hg hm (by rfl) (pa_cons ha (pa_cons hb pa_nil (by rw [hs2]; rfl)) (by rw [hs,hs2])) (by decide) (by decide) (by rw [hs,hs2]) (by rw [hs2]; rfl)) fun σ H Q ⟨ρ,Hq,w,r,e,k⟩=>?_
 obtain ⟨t,u,e1,e2,e3⟩:=f2_some e
 cases t <;> cases u <;> simp [tMin] at e3
 subst e3
 rename_i i j
 exact ⟨ρ,Hq,_,r,e1,fun v Hq1 H1 x1 r1=>⟨ρ,Hq1,_,r.ext x1,e2,fun v2 Hq2 H2 x2 r2=>⟨i,j,by rw [r1.i,r2.i],k _ Hq2 H2 (x1.trans x2) rep_int⟩⟩⟩
end
end TL
namespace TL
open PySem L2
def Walk (K:PySem.W.Frag) (J:It) (ts:List T) (Hq:Hp) (P:Hp → Prop):Prop:=∀ (i:Nat) (Hq' H':Hp),Same Hq Hq' → Same Hq' H' → P H' →
 (∀ t,ts[i]?=some t → J.go i H' ∧ ∀ x H3,J.yld i H' x H3 → ∃ Hq3,Ex Hq' H' Hq3 H3 ∧ Rep K Hq3 t x) ∧ (ts.length ≤ i → J.stop i H')
def iR (z:Z) (f:FA):TI:=fun σ H R=>∃ ρ Hq ts,Rn z σ ρ Hq H ∧ f ρ=some ts ∧ ∀ J Hq' H' P,Ex Hq H Hq' H' → P H' → (∀ a b,Same a b → P a → P b) → Walk z.K J ts Hq' P → R J H'
def iP (z:Z) (f:FA):TI:=fun σ H R=>∃ ρ Hq ts,Rn z σ ρ Hq H ∧ f ρ=some ts ∧ ∀ J Hq' H',Ex Hq H Hq' H' → Walk z.K J ts Hq' (fun _=>True) → R J H'
def fIt (f:FE):FA:=fun ρ=>match f ρ with | some (.tup ts)=>some ts | some (.lst ts)=>some ts | _=>none
section
variable {X:Cx} {z:Z} {e tg:Expr} {f g:FE} {p pos:Pos}
theorem PI.imp {t t':TI} (h:PI X tg e t) (i:∀ σ H R,t' σ H R → t σ H R):PI X tg e t':=fun pins s σ H R I q=>h pins s σ H R I (i σ H R q)
def iSq (K:PySem.W.Frag) (tl:TE):TI:=fun σ H R=>tl σ H fun x H1=>∃ a,x=.ref a ∧ ((∃ xs,SqL K H1 a xs) ∧ R (Itl K a) H1 ∨ (∃ xs,SqT K H1 a xs) ∧ R (Itt K a) H1)
theorem pi_seq {tl:TE} (hl:PE X e tl):PI X tg e (iSq X.K tl):=by
 intro pins s σ H R I h
 refine thn (hl pins s σ H _ I h) fun v s1 ⟨x,H1,I1,r1,q1⟩=>?_
 obtain ⟨a,e,q1⟩:=q1
 subst e
 cases r1
 rcases q1 with ⟨⟨xs,hq⟩,q⟩ | ⟨⟨xs,hq⟩,q⟩
 ·obtain ⟨its,rv,p,hz⟩:=I1.list hq
  refine wpAny_pyIter_list p.isList ?_
  refine ⟨s1.heap.objs.size,[s1.heap.objs.size],_,_,H1,rfl,I1.kept (t':=s1.toks) fun b o e=>Heap.get?_push_of_some _ e,turn_list a _,⟨_,Heap.get?_push_size _ rfl,rfl,rfl⟩,fun b hb=>?_,q⟩
  have e:b=s1.heap.objs.size:=by simpa using hb
  subst e
  exact I1.fpOk (Nat.le_refl _) (I1.hok.fresh (Nat.le_refl _))
 ·obtain ⟨its,rv,p,hz⟩:=I1.tuple hq
  refine wpAny_pyIter_tuple (show s1.heap.IsTuple a its.toArray from p) ?_
  refine ⟨s1.heap.objs.size,[s1.heap.objs.size],_,_,H1,rfl,I1.kept (t':=s1.toks) fun b o e=>Heap.get?_push_of_some _ e,turn_tuple a _,⟨_,Heap.get?_push_size _ rfl,rfl,rfl⟩,fun b hb=>?_,q⟩
  have e:b=s1.heap.objs.size:=by simpa using hb
  subst e
  exact I1.fpOk (Nat.le_refl _) (I1.hok.fresh (Nat.le_refl _))
theorem walk_t {K:PySem.W.Frag} {a:Addr} {ts:List T} {vs:List V} {Hq:Hp} (hr:RepL K Hq ts vs) (P:Hp → Prop) (hP:∀ Hq' H',Same Hq Hq' → Same Hq' H' → P H' → SqT K H' a vs):Walk K (Itt K a) ts Hq P:=by
 intro i Hq' H' s1 s2 p
 have q:=hP Hq' H' s1 s2 p
 refine ⟨fun t e=>?_,fun h=>⟨vs,q,by rw [← hr.length]; exact h⟩⟩
 obtain ⟨v,e1,r1⟩:=hr.get e
 refine ⟨⟨vs,v,q,e1⟩,fun x H3 y=>?_⟩
 obtain ⟨rfl,y⟩:=y
 have:=y vs q
 rw [e1] at this
 cases this
 exact ⟨Hq',.refl s2,r1.mono s1⟩
theorem walk_l {K:PySem.W.Frag} {a:Addr} {ts:List T} {vs:List V} {Hq:Hp} (hr:RepL K Hq ts vs) (P:Hp → Prop) (hP:∀ Hq' H',Same Hq Hq' → Same Hq' H' → P H' → SqL K H' a vs):Walk K (Itl K a) ts Hq P:=by
 intro i Hq' H' s1 s2 p
 have q:=hP Hq' H' s1 s2 p
 refine ⟨fun t e=>?_,fun h=>⟨vs,q,by rw [← hr.length]; exact h⟩⟩
 obtain ⟨v,e1,r1⟩:=hr.get e
 refine ⟨⟨vs,v,q,e1⟩,fun x H3 y=>?_⟩
 obtain ⟨rfl,y⟩:=y
 have:=y vs q
 rw [e1] at this
 cases this
 exact ⟨Hq',.refl s2,r1.mono s1⟩
def rangeT (lo:Int) (n:Nat):List T:=(List.range n).map fun (i:Nat)=>.int (lo + (i:Int))
theorem walk_r {K:PySem.W.Frag} {lo:Int} {n:Nat} {Hq:Hp} (P:Hp → Prop):Walk K (Itr lo n) (rangeT lo n) Hq P:=by
 intro i Hq' H' s1 s2 p
 have hl:(rangeT lo n).length=n:=by unfold rangeT; simp
 refine ⟨fun t e=>?_,fun h=>by rw [hl] at h; exact h⟩
 have hi:i < n:=by
  have:=(List.getElem?_eq_some_iff.mp e).1
  rw [hl] at this; exact this
 refine ⟨hi,fun x H3 y=>?_⟩
 obtain ⟨rfl,rfl⟩:=y
 unfold rangeT at e
 rw [List.getElem?_map,List.getElem?_range hi] at e
 cases e
 exact ⟨Hq',.refl s2,rep_int⟩
theorem ir_seq (hK:z.K=X.K) (h:ER X z e f):PI X tg e (iR z (fIt f)):=PI.imp (pi_seq h) fun σ H R ⟨ρ,Hq,ts,r,e,k⟩=>by
 unfold fIt at e
 split at e
 ·rename_i us e1
  cases e
  refine ⟨ρ,Hq,_,r,e1,fun v Hq1 H1 x1 r1=>?_⟩
  obtain ⟨a,vs,rfl,q1,q2⟩:=r1.tup x1.sub
  rw [hK] at q1 q2
  refine ⟨a,rfl,.inr ⟨⟨vs,q1⟩,?_⟩⟩
  rw [← hK]
  refine k _ Hq1 H1 (fun H'=>SqT X.K H' a vs) x1 q1 (fun a b s h=>sqT_mono s h) ?_
  rw [hK]
  exact walk_t q2 _ fun _ _ _ _ p=>p
 ·rename_i us e1
  cases e
  refine ⟨ρ,Hq,_,r,e1,fun v Hq1 H1 x1 r1=>?_⟩
  obtain ⟨a,vs,rfl,q1,q2⟩:=r1.lst x1.sub
  rw [hK] at q1 q2
  refine ⟨a,rfl,.inl ⟨⟨vs,q1⟩,?_⟩⟩
  rw [← hK]
  refine k _ Hq1 H1 (fun H'=>SqL X.K H' a vs) x1 q1 (fun a b s h=>s.seq h) ?_
  rw [hK]
  exact walk_l q2 _ fun _ _ _ _ p=>p
 ·cases e
theorem ip_seq (hK:z.K=X.K) (h:EV X z e f):PI X tg e (iP z (fIt f)):=PI.imp (pi_seq h) fun σ H R ⟨ρ,Hq,ts,r,e,k⟩=>by
 unfold fIt at e
 split at e
 ·rename_i us e1
  cases e
  refine ⟨ρ,Hq,_,r,e1,fun v Hq1 H1 x1 r1=>?_⟩
  unfold Rep at r1
  obtain ⟨a,vs,rfl,q1,q2⟩:=r1
  rw [hK] at q1 q2
  refine ⟨a,rfl,.inr ⟨⟨vs,sqT_mono x1.sub q1⟩,?_⟩⟩
  rw [← hK]
  refine k _ Hq1 H1 x1 ?_
  rw [hK]
  exact walk_t q2 _ fun _ _ s1 s2 _=>sqT_mono s2 (sqT_mono s1 q1)
 ·rename_i us e1
  cases e
  refine ⟨ρ,Hq,_,r,e1,fun v Hq1 H1 x1 r1=>?_⟩
  unfold Rep at r1
  obtain ⟨a,vs,rfl,q1,q2⟩:=r1
  rw [hK] at q1 q2
  refine ⟨a,rfl,.inl ⟨⟨vs,x1.sub.seq q1⟩,?_⟩⟩
  rw [← hK]
  refine k _ Hq1 H1 x1 ?_
  rw [hK]
  exact walk_l q2 _ fun _ _ s1 s2 _=>s2.seq (s1.seq q1)
 ·cases e
def fRng (f:FE):FA:=fun ρ=>match f ρ with | some (.int j)=>if -(2 ^ 62) ≤ j ∧ j < 2 ^ 62 then some (rangeT 0 j.toNat) else none | _=>none
def fRng2 (f g:FE):FA:=fun ρ=>match f ρ with | some (.int i)=>(match g ρ with | some (.int j)=>if -(2 ^ 62) ≤ i ∧ i < 2 ^ 62 ∧ -(2 ^ 62) ≤ j ∧ j < 2 ^ 62 then some (rangeT i (j - i).toNat) else none | _=>none) | _=>none
theorem ip_range (hg:Gl X "range") (hm:X.mg "range"=none) (h:EV X z e f) (hs:starEach [e] X.env=[(false,eval e X.env)]:=by rfl):PI X tg (.Call (.Name "range" p) [e] [] pos) (iP z (fRng f)) :=
 PI.imp (pi_range1 hg hm (pa_cons h pa_nil hs) hs) fun σ H R ⟨ρ,Hq,ts,r,e,k⟩=>by
  unfold fRng at e
  split at e
  ·rename_i j e1
   split at e
   ·rename_i hj
    cases e
    exact ⟨ρ,Hq,_,r,e1,fun v Hq1 H1 x1 r1=>⟨j,by rw [r1.i],hj.1,hj.2,k _ Hq1 H1 x1 (walk_r _)⟩⟩
   ·cases e
  ·cases e
theorem ip_range2 {a:Expr} (hg:Gl X "range") (hm:X.mg "range"=none) (ha:EV X z a f) (h:EV X z e g) (hs:starEach [a,e] X.env=[(false,eval a X.env),(false,eval e X.env)]:=by rfl) (hs2:starEach [e] X.env=[(false,eval e X.env)]:=by rfl):PI X tg (.Call (.Name "range" p) [a,e] [] pos) (iP z (fRng2 f g)) :=
 PI.imp (pi_range2 hg hm (pa_cons ha (pa_cons h pa_nil (by rw [hs2]; rfl)) (by rw [hs,hs2])) hs hs2) fun σ H R ⟨ρ,Hq,ts,r,e,k⟩=>by
  unfold fRng2 at e
  split at e
  ·rename_i i e1
   split at e
   ·rename_i j e2
    split at e
    ·rename_i hj
     cases e
     exact ⟨ρ,Hq,_,r,e1,fun v Hq1 H1 x1 r1=>⟨ρ,Hq1,_,r.ext x1,e2,fun v2 Hq2 H2 x2 r2=>⟨i,j,by rw [r1.i,r2.i],hj,k _ Hq2 H2 (x1.trans x2) (walk_r _)⟩⟩⟩
    ·cases e
   ·cases e
  ·cases e
theorem ir_of {f:FA} (h:PI X tg e (iP z f)):PI X tg e (iR z f):=PI.imp h fun σ H R ⟨ρ,Hq,ts,r,e,k⟩=>⟨ρ,Hq,ts,r,e,fun J Hq' H' x w=>k J Hq' H' (fun _=>True) x trivial (fun _ _ _ h=>h) w⟩
end
abbrev FG:=T → Rho → Option Rho
def tG (z:Z) (tc:List Nat) (g:FG):TG:=fun v σ H Q=>∃ ρ Hq t ρ',Rn z σ ρ Hq H ∧ Rep z.K Hq t v ∧ g t ρ=some ρ' ∧ ∀ σ',Rn z σ' ρ' Hq H → (∀ j,j ∉ tc → σ'[j]?=σ[j]?) → Q σ' H
theorem Rn.setP {z:Z} {σ:L2.St} {ρ:Rho} {Hq H:Hp} (r:Rn z σ ρ Hq H) (i:Nat) {t:T} {v:V} (h:Rep z.K Hq t v):Rn z (σ.set i (some v)) (ρ.set i (some (.pu t))) Hq H:=by
 have hl:=r.len
 refine ⟨r.ex,by rw [List.length_set,List.length_set]; exact hl,fun j u e=>?_,fun j u e=>?_,fun j k us ws a hjk e1 e2 e3=>?_,fun j C e=>?_,r.o.go (setO_hs (fun _ q=>by cases q; exact id)) (fun _ _ _ _ h n=>⟨h,n⟩) (.refl _)⟩
 ·by_cases hj:i=j
  ·subst hj
   by_cases hi:i < ρ.length
   ·rw [List.getElem?_set_self hi] at e
    cases e
    exact ⟨v,List.getElem?_set_self (by omega),h⟩
   ·rw [List.getElem?_eq_none (by rw [List.length_set]; omega)] at e; cases e
  ·rw [List.getElem?_set_ne hj] at e ⊢
   exact r.pu j u e
 ·by_cases hj:i=j
  ·subst hj
   by_cases hi:i < ρ.length
   ·rw [List.getElem?_set_self hi] at e; cases e
   ·rw [List.getElem?_eq_none (by rw [List.length_set]; omega)] at e; cases e
  ·rw [List.getElem?_set_ne hj] at e ⊢
   exact r.ow j u e
 ·have h1:i ≠ j:=fun z=>by
   subst z
   by_cases hi:i < ρ.length
   ·rw [List.getElem?_set_self hi] at e1; cases e1
   ·rw [List.getElem?_eq_none (by rw [List.length_set]; omega)] at e1; cases e1
  have h2:i ≠ k:=fun z=>by
   subst z
   by_cases hi:i < ρ.length
   ·rw [List.getElem?_set_self hi] at e2; cases e2
   ·rw [List.getElem?_eq_none (by rw [List.length_set]; omega)] at e2; cases e2
  rw [List.getElem?_set_ne h1] at e1 e3
  rw [List.getElem?_set_ne h2] at e2 ⊢
  exact r.ne j k us ws a hjk e1 e2 e3
 ·by_cases hj:i=j
  ·subst hj
   by_cases hi:i < ρ.length
   ·rw [List.getElem?_set_self hi] at e; cases e
   ·rw [List.getElem?_eq_none (by rw [List.length_set]; omega)] at e; cases e
  ·rw [List.getElem?_set_ne hj] at e ⊢
   exact r.xc j C e
def gNm (i:Nat):FG:=fun t ρ=>some (ρ.set i (some (.pu t)))
section
variable {X:Cx} {z:Z} {pos:Pos}
theorem PG.imp {tg:Expr} {t t':TG} (h:PG X tg t) (i:∀ v σ H Q,t' v σ H Q → t v σ H Q):PG X tg t':=fun pins s σ H v u Q I r q=>h pins s σ H v u Q I r (i v σ H Q q)
theorem eg_name (i:Nat) {x:Str} (hN:X.N.Nodup) (hi:X.N[i]?=some x:=by rfl) (hx:Loc X.env.scope x:=by first | exact Or.inl rfl | exact Or.inr rfl) (hf:X.fn x=true ∨ X.env.scope.names.lookup x=some .local:=by first | exact .inl rfl | exact .inr rfl):PG X (.Name x pos) (tG z [i] (gNm i)) :=
 PG.imp (pg_name hN hi hx hf) fun v σ H Q ⟨ρ,Hq,t,ρ',r,h,e,k⟩=>by
  cases e
  refine k _ (r.setP i h) fun j hj=>?_
  exact List.getElem?_set_ne fun z=>hj (by simp [z])
def gTp2 (i j:Nat):FG:=fun t ρ=>match t with | .tup [a,b]=>some ((ρ.set i (some (.pu a))).set j (some (.pu b))) | _=>none
theorem eg_tup2 (hK:z.K=X.K) (hc:X.calm=true) (i j:Nat) {x y:Str} {px py:Pos} {kd:Nat} (hN:X.N.Nodup) (hi:X.N[i]?=some x:=by rfl) (hj:X.N[j]?=some y:=by rfl) (hx:Loc X.env.scope x:=by first | exact Or.inl rfl | exact Or.inr rfl) (hy:Loc X.env.scope y:=by first | exact Or.inl rfl | exact Or.inr rfl)
  (hf:X.fn x=true ∨ X.env.scope.names.lookup x=some .local:=by first | exact .inl rfl | exact .inr rfl) (hf2:X.fn y=true ∨ X.env.scope.names.lookup y=some .local:=by first | exact .inl rfl | exact .inr rfl):PG X (.Tuple [.Name x px,.Name y py] kd pos) (tG z [i,j] (gTp2 i j)) :=
 PG.imp (pg_tup (n:=2) hc (pgs_cons (pg_name hN hi hx hf) (pgs_cons (pg_name hN hj hy hf2) pgs_nil))) fun v σ H Q ⟨ρ,Hq,t,ρ',r,h,e,k⟩=>by
  unfold gTp2 at e
  split at e
  ·rename_i a b
   cases e
   unfold Rep at h
   obtain ⟨p,vs,rfl,q1,q2⟩:=h
   unfold RepL at q2
   obtain ⟨v1,r1,rfl,h1,q2⟩:=q2
   unfold RepL at q2
   obtain ⟨v2,r2,rfl,h2,q2⟩:=q2
   unfold RepL at q2
   subst q2
   refine ⟨p,[v1,v2],rfl,hK ▸ sqT_mono r.sub q1,rfl,v1,[v2],rfl,v2,[],rfl,rfl,k _ ((r.setP i h1).setP j h2) fun l hl=>?_⟩
   have h1:j ≠ l:=fun z=>hl (by simp [z])
   have h2:i ≠ l:=fun z=>hl (by simp [z])
   rw [List.getElem?_set_ne h1,List.getElem?_set_ne h2]
  ·cases e
end
def compL (g:FG) (c:FT) (e:FE) (ρ:Rho):List T → Option (List T)
 | []=>some []
 | t :: ts=>match g t ρ with
   | none=>none
   | some ρ1=>match c ρ1 with
     | none=>none
     | some false=>compL g c e ρ ts
     | some true=>match e ρ1 with
       | none=>none
       | some y=>match compL g c e ρ ts with
         | none=>none
         | some ys=>some (y :: ys)
def subR (ix:List (Option Nat)) (ρ:Rho):Rho:=ix.map fun o=>o.bind fun i=>match ρ[i]? with | some (some (.pu t))=>some (.pu t) | _=>none
def fComp (ix:List (Option Nat)) (fi:FA) (g:FG) (c:FT) (e:FE):FA:=fun ρ=>match fi ρ with | some ts=>if ts.length ≤ sizeLine then compL g c e (subR ix ρ) ts else none | none=>none
def fYes:FT:=fun _=>some true
theorem Rn.subst {z:Z} {σ:L2.St} {ρ:Rho} {Hq H:Hp} (r:Rn z σ ρ Hq H) (ix:List (Option Nat)):Rn ⟨z.K,Hq,H⟩ (subSt ix σ) (subR ix ρ) Hq H:=by
 have none_ow:∀ (i:Nat) (ts:List T),(subR ix ρ)[i]? ≠ some (some (.ow ts)):=fun i ts e=>by
  unfold subR at e
  rw [List.getElem?_map] at e
  cases hj:ix[i]? with
  | none=>rw [hj] at e; cases e
  | some oi =>
    rw [hj] at e
    cases oi with
    | none=>cases e
    | some k =>
      have e':(match ρ[k]? with | some (some (.pu t))=>some (Sl.pu t) | _=>none)=some (.ow ts):=Option.some.inj e
      split at e' <;> cases e'
 have none_xc:∀ (i:Nat) (C:Str),(subR ix ρ)[i]? ≠ some (some (.xc C)):=fun i C e=>by
  unfold subR at e
  rw [List.getElem?_map] at e
  cases hj:ix[i]? with
  | none=>rw [hj] at e; cases e
  | some oi =>
    rw [hj] at e
    cases oi with
    | none=>cases e
    | some k =>
      have e':(match ρ[k]? with | some (some (.pu t))=>some (Sl.pu t) | _=>none)=some (.xc C):=Option.some.inj e
      split at e' <;> cases e'
 have none_o:∀ (i:Nat) (sl:Sl),sl.isO → (subR ix ρ)[i]? ≠ some (some sl):=fun i sl ho e=>by
  unfold subR at e
  rw [List.getElem?_map] at e
  cases hj:ix[i]? with
  | none=>rw [hj] at e; cases e
  | some oi =>
    rw [hj] at e
    cases oi with
    | none=>cases e
    | some k =>
      have e':(match ρ[k]? with | some (some (.pu t))=>some (Sl.pu t) | _=>none)=some sl:=Option.some.inj e
      split at e'
      ·cases e'; exact ho
      ·cases e'
 refine ⟨.refl r.sub,by unfold subR subSt; rw [List.length_map,List.length_map],fun i t e=>?_,fun i ts e=>absurd e (none_ow i ts),fun i j ts us a _ e _=>absurd e (none_ow i ts),fun i C e=>absurd e (none_xc i C),.none none_o⟩
 unfold subR at e
 unfold subSt
 rw [List.getElem?_map] at e ⊢
 cases hj:ix[i]? with
 | none=>rw [hj] at e; cases e
 | some oi =>
   rw [hj] at e
   cases oi with
   | none=>cases e
   | some k =>
     have e':(match ρ[k]? with | some (some (.pu t))=>some (Sl.pu t) | _=>none)=some (.pu t):=Option.some.inj e
     split at e'
     ·rename_i u h
      cases e'
      obtain ⟨v,h1,h2⟩:=r.pu k _ h
      refine ⟨v,?_,h2⟩
      show some ((σ[k]?).join)=some (some v)
      rw [h1]; rfl
     ·cases e'
section
variable {X:Cx} {z:Z} {elt iter tg:Expr} {ifs:List Expr} {scope:Scope} {pos:Pos} {N':List Str} {ix:List (Option Nat)} {fi:FA} {g:FG} {tc:List Nat} {c:FT} {fe:FE}
theorem comp_read (hK:z.K=X.K) (hix:IxOk X.N X.env.scope scope N' ix) (htc:∀ j,j ∈ tc → ∀ i,ix[j]? ≠ some (some i)):∀ σ H Q,tF z (fComp ix fi g c fe) σ H Q → tComp ix (iR z fi) (fun v σ H Q=>∃ z',z'.K=X.K ∧ tG z' tc g v σ H Q) (fun σ H Q=>∃ z',z'.K=X.K ∧ tB2 z' c σ H Q) (fun σ H Q=>∃ z',z'.K=X.K ∧ tT z' fe σ H Q) σ H Q:=by
 intro σ H Q ⟨ρ,Hq,us,r,e,k⟩
 unfold fComp at e
 split at e
 ·rename_i ts e1
  split at e
  ·rename_i hlen
   refine ⟨ρ,Hq,ts,r,e1,fun J Hq1 H1 P x1 hP hPm wk=>?_⟩
   refine ⟨fun i m ys H'=>m=ts.length - i ∧ i ≤ ts.length ∧ ys.length ≤ i ∧ ∃ Hq' pre rest,Ex Hq1 H1 Hq' H' ∧ RepL z.K Hq' pre ys ∧ compL g c fe (subR ix ρ) (ts.drop i)=some rest ∧ us=pre ++ rest,
    ⟨ts.length,rfl,Nat.zero_le _,Nat.le_refl _,Hq1,[],us,.refl x1.sub,.nil,by simpa using e,rfl⟩,?_⟩
   rintro i m ys H' ⟨rfl,hi,hy,Hq',pre,rest,x2,rp,cr,rfl⟩
   have w:=wk i Hq' H' x2.q x2.sub (hPm _ _ x2.all hP)
   by_cases hlt:i < ts.length
   ·obtain ⟨go,yl⟩:=w.1 ts[i] (List.getElem?_eq_getElem hlt)
    refine .inr ⟨go,by omega,fun x H3 y=>?_⟩
    obtain ⟨Hq3,x3,rx⟩:=yl x H3 y
    have ed:ts.drop i=ts[i] :: ts.drop (i + 1):=List.drop_eq_getElem_cons hlt
    rw [ed] at cr
    unfold compL at cr
    have rn:=(((r.ext x1).ext x2).ext x3).subst ix
    have x2:=x2.trans x3
    have rp:=rp.mono x3.q
    split at cr
    ·cases cr
    ·rename_i ρ1 eg
     refine ⟨⟨z.K,Hq3,H3⟩,hK,subR ix ρ,Hq3,_,ρ1,rn,rx,eg,fun σ' rn' un=>⟨fun j v ej=>?_,?_⟩⟩
     ·by_cases hj:j ∈ tc
      ·unfold subSt at ej
       rw [List.getElem?_map] at ej
       cases hx:ix[j]? with
       | none=>rw [hx] at ej; cases ej
       | some oi =>
         rw [hx] at ej
         cases oi with
         | none=>cases ej
         | some k=>exact absurd hx (htc j hj k)
      ·rw [un j hj]; exact ej
     ·split at cr
      ·cases cr
      ·rename_i ec
       refine ⟨⟨z.K,Hq3,H3⟩,hK,ρ1,Hq3,false,rn',ec,fun Hq4 H4 x4=>iteF ⟨ts.length - (i + 1),by omega,rfl,hlt,by omega,Hq4,pre,rest,x2.trans x4,rp.mono x4.q,cr,rfl⟩⟩
      ·rename_i ec
       split at cr
       ·cases cr
       ·rename_i y ey
        split at cr
        ·cases cr
        ·rename_i ys' er
         cases cr
         refine ⟨⟨z.K,Hq3,H3⟩,hK,ρ1,Hq3,true,rn',ec,fun Hq4 H4 x4=>iteT ⟨⟨z.K,Hq3,H3⟩,hK,ρ1,Hq4,y,rn'.ext x4,ey,fun v5 Hq5 H5 x5 r5=>?_⟩⟩
         refine ⟨ts.length - (i + 1),by omega,rfl,hlt,by rw [List.length_append]; simp; omega,Hq5,pre ++ [y],ys',(x2.trans x4).trans x5,((rp.mono x4.q).mono x5.q).append (.one r5),er,by simp⟩
   ·have hi':i=ts.length:=by omega
    subst hi'
    rw [List.drop_length] at cr
    cases cr
    refine .inl ⟨w.2 (Nat.le_refl _),by omega,fun p hp=>?_⟩
    rw [List.append_nil] at k
    exact k p ys Hq' H' (x1.trans x2) hp rp
  ·cases e
 ·cases e
theorem ef_comp (hK:z.K=X.K) (hc:X.calm=true) (hkind:scope.kind=.function) (hcell:∀ y ∈ scope.names,y.2=.cell → scope.names.lookup y.1=some .cell) (hdis:∀ x,(x,NameKind.cell) ∈ scope.names → (x,NameKind.free) ∉ scope.names) (hnames:∀ y ∈ scope.names,y.2=.local → scope.names.lookup y.1=some .local)
  (hfr:∀ x ∈ scope.names,x.2=.free → X.env.kindOf x.1=some .cell ∨ X.env.kindOf x.1=some .free) (hix:IxOk X.N X.env.scope scope N' ix) (hfree:∀ (j i:Nat) (x:Str),ix[j]?=some (some i) → N'[j]?=some x → scope.names.lookup x=some .free)
  (htc:∀ j,j ∈ tc → ∀ i,ix[j]? ≠ some (some i))
  (hi:PI X tg iter (iR z fi)) (hg:∀ C s H fp z',z'.K=X.K → PG (compCx X scope N' C s H fp) tg (tG z' tc g)) (ht:∀ C s H fp z',z'.K=X.K → PIfs (compCx X scope N' C s H fp) ifs (tB2 z' c)) (he:∀ C s H fp z',z'.K=X.K → EV (compCx X scope N' C s H fp) z' elt fe)
  (hs:∀ x,foldedSetIterable iter X.env x=pure x:=by intro _; rfl):EF X z (.ListComp elt [⟨tg,iter,ifs,0⟩] scope pos) (fComp ix fi g c fe):=by
 have big:PE X (.ListComp elt [⟨tg,iter,ifs,0⟩] scope pos) (tComp ix (iR z fi) (fun v σ H Q=>∃ z',z'.K=X.K ∧ tG z' tc g v σ H Q) (fun σ H Q=>∃ z',z'.K=X.K ∧ tB2 z' c σ H Q) (fun σ H Q=>∃ z',z'.K=X.K ∧ tT z' fe σ H Q)) :=
  pe_comp hc hkind hcell hdis hnames hfr hix hfree hi
   (fun C s H fp pins s' σ H' v u Q I r ⟨z',hz,q⟩=>hg C s H fp z' hz pins s' σ H' v u Q I r q)
   (fun C s H fp pins s' σ H' Q I ⟨z',hz,q⟩=>ht C s H fp z' hz pins s' σ H' Q I q)
   (fun C s H fp pins s' σ H' Q I ⟨z',hz,q⟩=>he C s H fp z' hz pins s' σ H' Q I q) hs
 exact PE.imp big (comp_read hK hix htc)
theorem ps_comp (hK:z.K=X.K) (hc:X.calm=true) (hkind:scope.kind=.function) (hcell:∀ y ∈ scope.names,y.2=.cell → scope.names.lookup y.1=some .cell) (hdis:∀ x,(x,NameKind.cell) ∈ scope.names → (x,NameKind.free) ∉ scope.names) (hnames:∀ y ∈ scope.names,y.2=.local → scope.names.lookup y.1=some .local)
  (hfr:∀ x ∈ scope.names,x.2=.free → X.env.kindOf x.1=some .cell ∨ X.env.kindOf x.1=some .free) (hix:IxOk X.N X.env.scope scope N' ix) (hfree:∀ (j i:Nat) (x:Str),ix[j]?=some (some i) → N'[j]?=some x → scope.names.lookup x=some .free)
  (htc:∀ j,j ∈ tc → ∀ i,ix[j]? ≠ some (some i))
  (hi:PI X tg iter (iR z fi)) (hg:∀ C s H fp z',z'.K=X.K → PG (compCx X scope N' C s H fp) tg (tG z' tc g)) (ht:∀ C s H fp z',z'.K=X.K → PIfs (compCx X scope N' C s H fp) ifs (tB2 z' c)) (he:∀ C s H fp z',z'.K=X.K → EV (compCx X scope N' C s H fp) z' elt fe)
  (hs:∀ x,foldedSetIterable iter X.env x=pure x) {i:Nat} {x:Str} {pos' pos2:Pos} (hN:X.N.Nodup) (hxi:X.N[i]?=some x) (hx:Loc X.env.scope x)
  (hsw:swapsWith (.ListComp elt [⟨tg,iter,ifs,0⟩] scope pos) (some (.Name x pos')) pos2.line X.env=pure true)
  (hf:X.fn x=true ∨ X.env.scope.names.lookup x=some .local):PS X (.Assign [.Name x pos'] (.ListComp elt [⟨tg,iter,ifs,0⟩] scope pos) pos2) (tAsg (tF z (fComp ix fi g c fe)) (gName i)) :=
 PS.imp (ps_setC hc hkind hcell hdis hnames hfr hix hfree hi
   (fun C s H fp pins s' σ H' v u Q I r ⟨z',hz,q⟩=>hg C s H fp z' hz pins s' σ H' v u Q I r q)
   (fun C s H fp pins s' σ H' Q I ⟨z',hz,q⟩=>ht C s H fp z' hz pins s' σ H' Q I q)
   (fun C s H fp pins s' σ H' Q I ⟨z',hz,q⟩=>he C s H fp z' hz pins s' σ H' Q I q) hs hN hxi hx hsw hf) fun D σ H q=>comp_read (X:=X) (scope:=scope) (N':=N') hK hix htc σ H _ q
end
end TL
namespace TL
open PySem L2
inductive Out where
 | nx (ρ:Rho) | rt (t:T) | bk (ρ:Rho) | ct (ρ:Rho)
abbrev FS:=Rho → Option Out
def Fin (z:Z) (H0:Hp) (D:Ends):Out → Prop
 | .nx ρ=>∀ σ Hq H,Rn z σ ρ Hq H → Same H0 Hq → D.nx σ H
 | .rt t=>∀ v Hq H,Ex z.Hq z.H Hq H → Rep z.K Hq t v → D.rt v H
 | .bk ρ=>∀ σ Hq H,Rn z σ ρ Hq H → Same H0 Hq → D.bk σ H
 | .ct ρ=>∀ σ Hq H,Rn z σ ρ Hq H → Same H0 Hq → D.ct σ H
theorem Fin.from {z:Z} {H0 H1:Hp} {D:Ends} {o:Out} (k:Fin z H0 D o) (h:Same H0 H1):Fin z H1 D o:=by
 cases o with
 | nx ρ=>exact fun σ Hq H r s=>k σ Hq H r (h.trans s)
 | rt t=>exact k
 | bk ρ=>exact fun σ Hq H r s=>k σ Hq H r (h.trans s)
 | ct ρ=>exact fun σ Hq H r s=>k σ Hq H r (h.trans s)
def tS (z:Z) (F:FS):TS:=fun D σ H=>∃ ρ Hq o,Rn z σ ρ Hq H ∧ F ρ=some o ∧ Fin z Hq D o
abbrev SV (X:Cx) (z:Z) (s:Stmt) (F:FS):Prop:=PS X s (tS z F)
abbrev SVs (X:Cx) (z:Z) (s:List Stmt) (F:FS):Prop:=PSs X s (tS z F)
section
variable {X:Cx} {z:Z} {st:Stmt} {rest:List Stmt} {F G:FS} {e:Expr} {f g:FE} {fa:FA} {pos:Pos}
def sNil:FS:=fun ρ=>some (.nx ρ)
theorem ss_nil:SVs X z [] sNil:=PSs.imp pss_nil fun D σ H ⟨ρ,Hq,o,r,e,k⟩=>by
 cases e; exact k σ Hq H r (.refl _)
def sSeq (F G:FS):FS:=fun ρ=>match F ρ with | some (.nx ρ')=>G ρ' | o=>o
theorem ss_cons (h1:SV X z st F) (h2:SVs X z rest G):SVs X z (st :: rest) (sSeq F G):=PSs.imp (pss_cons h1 h2) fun D σ H ⟨ρ,Hq,o,r,e,k⟩=>by
 unfold sSeq at e
 split at e
 ·rename_i ρ' e1
  exact ⟨ρ,Hq,_,r,e1,fun σ' Hq' H' r' sm=>⟨ρ',Hq',o,r',e,k.from sm⟩⟩
 ·rename_i o' hne
  refine ⟨ρ,Hq,o,r,e,?_⟩
  cases o with
  | nx ρ'=>exact absurd e (hne ρ')
  | rt t=>exact k
  | bk ρ'=>exact k
  | ct ρ'=>exact k
theorem ss_one (h1:SV X z st F):SVs X z [st] F:=pss_one h1
def sRet (f:FE):FS:=fun ρ=>(f ρ).map .rt
theorem s_ret (h:EV X z e f):SV X z (.Return (some e) pos) (sRet f):=PS.imp (ps_ret h) fun D σ H ⟨ρ,Hq,o,r,e,k⟩=>by
 unfold sRet at e
 cases q:f ρ with
 | none=>rw [q] at e; cases e
 | some t =>
   rw [q] at e
   cases e
   exact ⟨ρ,Hq,t,r,q,fun v Hq' H' x p=>k v Hq' H' (r.ex.trans x) p⟩
def sRetO (i:Nat):FS:=fun ρ=>match ρ[i]? with | some (some (.ow ts))=>some (.rt (.lst ts)) | _=>none
theorem s_retO (i:Nat) {x:Str} {p:Pos} (hN:X.N[i]?=some x:=by rfl) (hv:Vis X.env.scope x:=by first | exact Or.inl rfl | exact Or.inr (Or.inl rfl) | exact Or.inr (Or.inr rfl)) (hd:(x == ("__debug__":Str))=false:=by decide)
  (hcd:(x == ("__classdict__":Str))=false:=by decide):SV X z (.Return (some (.Name x p)) pos) (sRetO i):=PS.imp (ps_ret (pe_var hN hv hd hcd)) fun D σ H ⟨ρ,Hq,o,r,e,k⟩=>by
 unfold sRetO at e
 split at e
 ·rename_i ts h
  cases e
  obtain ⟨a,vs,h1,h2,h3,h4,h5⟩:=r.ow i ts h
  refine ⟨_,h1,k _ (upd Hq a (.lst vs)) H ?_ (rep_lstNew h2 h5)⟩
  refine ⟨r.ex.all,fun b u e=>?_,fun b u e=>?_,fun b e n=>?_⟩
  ·have:b ≠ a:=fun q=>by subst q; rw [r.ex.q b u e] at h2; cases h2
   rw [upd_ne this]; exact r.ex.q b u e
  ·by_cases hb:b=a
   ·subst hb; rw [upd_same] at e; cases e; exact h4
   ·rw [upd_ne hb] at e; exact r.sub b u e
  ·have:b ≠ a:=fun q=>by subst q; exact e h3
   rw [upd_ne this]; exact r.ex.out b e n
 ·cases e
def sSet (i:Nat) (f:FE):FS:=fun ρ=>(f ρ).map fun t=>.nx (ρ.set i (some (.pu t)))
theorem s_set (i:Nat) {x:Str} {pos':Pos} (hN:X.N.Nodup) (h:EV X z e f) (hi:X.N[i]?=some x:=by rfl) (hx:Loc X.env.scope x:=by first | exact Or.inl rfl | exact Or.inr rfl)
  (hs:swapsWith e (some (.Name x pos')) pos.line X.env=pure false:=by rfl) (hf:X.fn x=true ∨ X.env.scope.names.lookup x=some .local:=by first | exact .inl rfl | exact .inr rfl):SV X z (.Assign [.Name x pos'] e pos) (sSet i f) :=
 PS.imp (ps_set hN hi hx h hs hf) fun D σ H ⟨ρ,Hq,o,r,e,k⟩=>by
  unfold sSet at e
  cases q:f ρ with
  | none=>rw [q] at e; cases e
  | some t =>
    rw [q] at e
    cases e
    exact ⟨ρ,Hq,t,r,q,fun v Hq' H' x p=>k _ Hq' H' ((r.ext x).setP i p) x.q⟩
theorem Rn.setO {z:Z} {σ:L2.St} {ρ:Rho} {Hq H:Hp} (r:Rn z σ ρ Hq H) (i:Nat) {ts:List T} {vs:List V} {p:Addr} (hp:H p=none) (h:RepL z.K Hq ts vs):Rn z (σ.set i (some (.ref p))) (ρ.set i (some (.ow ts))) Hq (upd H p (.lst vs)):=by
 have hl:=r.len
 have hq:Hq p=none:=r.sub.free hp
 have hz:z.H p=none:=r.ex.all.free hp
 refine ⟨⟨fun b u e=>?_,r.ex.q,fun b u e=>?_,r.ex.out⟩,by rw [List.length_set,List.length_set]; exact hl,fun j u e=>?_,fun j u e=>?_,fun j k us ws a hjk e1 e2 e3=>?_,fun j C e=>?_,r.o.go (setO_hs (fun _ q=>by cases q; exact id)) (fun _ _ _ _ h n=>⟨by rw [upd_ne (ne_of_none h hp)]; exact h,n⟩) (.refl _)⟩
 ·rw [upd_ne (ne_of_none e hz)]; exact r.ex.all b u e
 ·rw [upd_ne (ne_of_none e hq)]; exact r.sub b u e
 ·by_cases hj:i=j
  ·subst hj
   by_cases hi:i < ρ.length
   ·rw [List.getElem?_set_self hi] at e; cases e
   ·rw [List.getElem?_eq_none (by rw [List.length_set]; omega)] at e; cases e
  ·rw [List.getElem?_set_ne hj] at e ⊢
   exact r.pu j u e
 ·by_cases hj:i=j
  ·subst hj
   by_cases hi:i < ρ.length
   ·rw [List.getElem?_set_self hi] at e
    cases e
    exact ⟨p,vs,List.getElem?_set_self (by omega),hq,hz,upd_same,h⟩
   ·rw [List.getElem?_eq_none (by rw [List.length_set]; omega)] at e; cases e
  ·rw [List.getElem?_set_ne hj] at e ⊢
   obtain ⟨a,ws,h1,h2,h3,h4,h5⟩:=r.ow j u e
   exact ⟨a,ws,h1,h2,h3,by rw [upd_ne (ne_of_none h4 hp)]; exact h4,h5⟩
 ·by_cases h1:i=j
  ·subst h1
   have h2:i ≠ k:=hjk
   by_cases hi:i < ρ.length
   ·rw [List.getElem?_set_self (by omega)] at e3
    cases e3
    rw [List.getElem?_set_ne h2] at e2 ⊢
    obtain ⟨b,ws',g1,g2,g3,g4,g5⟩:=r.ow k ws e2
    rw [g1]
    intro q
    cases q
    rw [hp] at g4; cases g4
   ·rw [List.getElem?_eq_none (by rw [List.length_set]; omega)] at e1; cases e1
  ·rw [List.getElem?_set_ne h1] at e1 e3
   by_cases h2:i=k
   ·subst h2
    by_cases hi:i < ρ.length
    ·rw [List.getElem?_set_self (by omega)]
     obtain ⟨b,ws',g1,g2,g3,g4,g5⟩:=r.ow j us e1
     rw [g1] at e3
     intro q
     cases q
     cases e3
     rw [hp] at g4; cases g4
    ·rw [List.getElem?_eq_none (by rw [List.length_set]; omega)] at e2; cases e2
   ·rw [List.getElem?_set_ne h2] at e2 ⊢
    exact r.ne j k us ws a hjk e1 e2 e3
 ·by_cases hj:i=j
  ·subst hj
   by_cases hi:i < ρ.length
   ·rw [List.getElem?_set_self hi] at e; cases e
   ·rw [List.getElem?_eq_none (by rw [List.length_set]; omega)] at e; cases e
  ·rw [List.getElem?_set_ne hj] at e ⊢
   obtain ⟨a,oe,u,h1,h2,h3,h4⟩:=r.xc j C e
   exact ⟨a,oe,u,h1,h2,by rw [upd_ne (ne_of_none h3 hp)]; exact h3,h4⟩
def sOwn (i:Nat) (f:FA):FS:=fun ρ=>(f ρ).map fun ts=>.nx (ρ.set i (some (.ow ts)))
theorem s_own (i:Nat) {x:Str} {pos':Pos} (hN:X.N.Nodup) (h:EF X z e fa) (hi:X.N[i]?=some x:=by rfl) (hx:Loc X.env.scope x:=by first | exact Or.inl rfl | exact Or.inr rfl)
  (hs:swapsWith e (some (.Name x pos')) pos.line X.env=pure false:=by rfl) (hf:X.fn x=true ∨ X.env.scope.names.lookup x=some .local:=by first | exact .inl rfl | exact .inr rfl):SV X z (.Assign [.Name x pos'] e pos) (sOwn i fa) :=
 PS.imp (ps_set hN hi hx h hs hf) fun D σ H ⟨ρ,Hq,o,r,e,k⟩=>by
  unfold sOwn at e
  cases q:fa ρ with
  | none=>rw [q] at e; cases e
  | some ts =>
    rw [q] at e
    cases e
    exact ⟨ρ,Hq,ts,r,q,fun p vs Hq' H' x hp rl=>k _ Hq' _ ((r.ext x).setO i hp rl) x.q⟩
theorem set_asg {i:Nat} {fa:FA} {z:Z}:∀ D σ H,tS z (sSet i (fNew fa)) D σ H → tAsg (tF z fa) (gName i) D σ H:=fun D σ H ⟨ρ,Hq,o,r,e,k⟩=>by
  unfold sSet fNew at e
  cases q:fa ρ with
  | none=>rw [q] at e; cases e
  | some ts =>
    rw [q] at e
    cases e
    refine ⟨ρ,Hq,ts,r,q,fun p vs Hq' H' x hp rl=>?_⟩
    have x2:Ex Hq H (upd Hq' p (.lst vs)) (upd H' p (.lst vs)):=x.trans (.new x.sub hp)
    exact k _ _ _ ((r.ext x2).setP i (rep_lstNew (x.sub.free hp) rl)) x2.q
theorem Rn.app {z:Z} {σ:L2.St} {ρ:Rho} {Hq H:Hp} (r:Rn z σ ρ Hq H) (i:Nat) {ts us:List T} {vs ws:List V} {a:Addr} (e0:ρ[i]?=some (some (.ow ts))) (hσ:σ[i]?=some (some (.ref a))) (hq:Hq a=none) (hz:z.H a=none) (hH:H a=some (.lst vs)) (h:RepL z.K Hq us ws) :
  Rn z σ (ρ.set i (some (.ow us))) Hq (upd H a (.lst ws)):=by
 have hi:i < ρ.length:=(List.getElem?_eq_some_iff.mp e0).1
 refine ⟨⟨fun b u e=>?_,r.ex.q,fun b u e=>?_,r.ex.out⟩,by rw [List.length_set]; exact r.len,fun j u e=>?_,fun j u e=>?_,fun j k us' ws' b hjk e1 e2 e3=>?_,fun j C e=>?_,r.o.go (setO_hs' (fun _ q=>by cases q; exact id)) (fun _ _ _ _ h n=>⟨by rw [upd_ne (ne_of h hH (fun q=>nomatch q))]; exact h,n⟩) (.refl _)⟩
 ·rw [upd_ne (ne_of_none e hz)]; exact r.ex.all b u e
 ·rw [upd_ne (ne_of_none e hq)]; exact r.sub b u e
 ·by_cases hj:i=j
  ·subst hj; rw [List.getElem?_set_self hi] at e; cases e
  ·rw [List.getElem?_set_ne hj] at e; exact r.pu j u e
 ·by_cases hj:i=j
  ·subst hj
   rw [List.getElem?_set_self hi] at e
   cases e
   exact ⟨a,ws,hσ,hq,hz,upd_same,h⟩
  ·rw [List.getElem?_set_ne hj] at e
   obtain ⟨b,ws',h1,h2,h3,h4,h5⟩:=r.ow j u e
   have:b ≠ a:=fun q=>by subst q; exact r.ne i j ts u b hj e0 e hσ h1
   exact ⟨b,ws',h1,h2,h3,by rw [upd_ne this]; exact h4,h5⟩
 ·have g1:∃ us0,ρ[j]?=some (some (.ow us0)):=by
   by_cases hj:i=j
   ·subst hj; exact ⟨ts,e0⟩
   ·rw [List.getElem?_set_ne hj] at e1; exact ⟨us',e1⟩
  have g2:∃ us0,ρ[k]?=some (some (.ow us0)):=by
   by_cases hj:i=k
   ·subst hj; exact ⟨ts,e0⟩
   ·rw [List.getElem?_set_ne hj] at e2; exact ⟨ws',e2⟩
  obtain ⟨u1,g1⟩:=g1
  obtain ⟨u2,g2⟩:=g2
  exact r.ne j k u1 u2 b hjk g1 g2 e3
 ·by_cases hj:i=j
  ·subst hj; rw [List.getElem?_set_self hi] at e; cases e
  ·rw [List.getElem?_set_ne hj] at e
   obtain ⟨b,oe,u,h1,h2,h3,h4⟩:=r.xc j C e
   exact ⟨b,oe,u,h1,h2,by rw [upd_ne (ne_of h3 hH (fun q=>nomatch q))]; exact h3,h4⟩
def sApp (i:Nat) (f:FE):FS:=fun ρ=>match ρ[i]? with
 | some (some (.ow ts))=>(match f ρ with | some t=>if ts.length < sizeLine then some (.nx (ρ.set i (some (.ow (ts ++ [t]))))) else none | none=>none)
 | _=>none
theorem s_app (i:Nat) {x:Str} {p1 p2 p3:Pos} (hb:PE X (.Call (.Attribute (.Name x p1) "append" p2) [e] [] p3) (tBM X.K "list" rAppend (tVar i) (tCons (tT z f) tNil))):SV X z (.Expr (.Call (.Attribute (.Name x p1) "append" p2) [e] [] p3) pos) (sApp i f) :=
 PS.imp (ps_expr hb) fun D σ H ⟨ρ,Hq,o,r,e,k⟩=>by
  unfold sApp at e
  split at e
  ·rename_i ts e0
   split at e
   ·rename_i t e1
    split at e
    ·rename_i hl
     cases e
     obtain ⟨a,vs,h1,h2,h3,h4,h5⟩:=r.ow i ts e0
     refine ⟨_,h1,.inl ⟨rfl,_,SqL.of h4⟩,ρ,Hq,t,r,e1,fun v Hq1 H1 x1 r1=>?_⟩
     have r':=r.ext x1
     obtain ⟨a',vs',g1,g2,g3,g4,g5⟩:=r'.ow i ts e0
     rw [h1] at g1
     cases g1
     have:vs'=vs:=by
      have:=x1.all _ _ h4
      rw [g4] at this
      cases this; rfl
     subst this
     refine ⟨a,vs',v,rfl,rfl,g4,by rw [← g5.length]; exact hl,k σ Hq1 _ (r'.app i e0 h1 g2 g3 g4 (g5.append (.one r1))) x1.q⟩
    ·cases e
   ·cases e
  ·cases e
def sIf (c:FT) (F G:FS):FS:=fun ρ=>match c ρ with | some true=>F ρ | some false=>G ρ | none=>none
theorem s_if {c:Expr} {a b:List Stmt} {ft:FT} (hc:ET X z c ft) (ha:SVs X z a F) (hb:SVs X z b G):SV X z (.If c a b pos) (sIf ft F G):=PS.imp (ps_if hc ha hb) fun D σ H ⟨ρ,Hq,o,r,e,k⟩=>by
 unfold sIf at e
 split at e
 ·rename_i q
  exact ⟨ρ,Hq,true,r,q,fun Hq1 H1 x1=>iteT ⟨ρ,Hq1,o,r.ext x1,e,k.from x1.q⟩⟩
 ·rename_i q
  exact ⟨ρ,Hq,false,r,q,fun Hq1 H1 x1=>iteF ⟨ρ,Hq1,o,r.ext x1,e,k.from x1.q⟩⟩
 ·cases e
def loopF (g:FG) (b:FS):List T → Rho → Option Out
 | [],ρ=>some (.nx ρ)
 | t :: ts,ρ=>match g t ρ with
   | none=>none
   | some ρ1=>match b ρ1 with
     | some (.nx ρ2)=>loopF g b ts ρ2
     | some (.ct ρ2)=>loopF g b ts ρ2
     | some (.bk ρ2)=>some (.nx ρ2)
     | some (.rt t)=>some (.rt t)
     | none=>none
def sFor (fi:FA) (g:FG) (b:FS):FS:=fun ρ=>match fi ρ with | some ts=>loopF g b ts ρ | none=>none
theorem s_for {iter tg:Expr} {body:List Stmt} {g:FG} {tc:List Nat} (hp:PassesOwn (model X.prog X.w) X.A X.env X.xe) (hc:X.calm=true) (hi:PI X tg iter (iP z fa)) (hg:PG X tg (tG z tc g)) (hb:SVs X z body F)
  (hs:∀ x,foldedSetIterable iter X.env x=pure x:=by intro _; rfl):SV X z (.For tg iter body [] pos) (sFor fa g F):=PS.imp (ps_for hp hc hi hg hb hs) fun D σ H ⟨ρ,Hq,o,r,e,k⟩=>by
 unfold sFor at e
 split at e
 ·rename_i ts e1
  refine ⟨ρ,Hq,ts,r,e1,fun J Hq1 H1 x1 wk=>?_⟩
  refine ⟨fun i m σ' H'=>m=ts.length - i ∧ i ≤ ts.length ∧ ∃ ρ' Hq',Rn z σ' ρ' Hq' H' ∧ Same Hq1 Hq' ∧ loopF g F (ts.drop i) ρ'=some o,⟨ts.length,rfl,Nat.zero_le _,ρ,Hq1,r.ext x1,.refl _,by simpa using e⟩,?_⟩
  rintro i m σ' H' ⟨rfl,hi,ρ',Hq',r',sq,lp⟩
  have w:=wk i Hq' H' sq r'.sub trivial
  by_cases hlt:i < ts.length
  ·obtain ⟨go,yl⟩:=w.1 ts[i] (List.getElem?_eq_getElem hlt)
   have ed:ts.drop i=ts[i] :: ts.drop (i + 1):=List.drop_eq_getElem_cons hlt
   rw [ed] at lp
   unfold loopF at lp
   refine .inr ⟨go,fun σ2 H2=>∃ ρ2 Hq2,Rn z σ2 ρ2 Hq2 H2 ∧ Same Hq1 Hq2 ∧ loopF g F (ts.drop (i + 1)) ρ2=some o,fun σ2 H2 ⟨ρ2,Hq2,h1,h2,h3⟩=>⟨ts.length - (i + 1),by omega,rfl,hlt,ρ2,Hq2,h1,h2,h3⟩,fun x H3 y=>?_⟩
   obtain ⟨Hq3,x3,rx⟩:=yl x H3 y
   have r':=r'.ext x3
   have sq:=sq.trans x3.q
   split at lp
   ·cases lp
   ·rename_i ρ1 eg
    refine ⟨ρ',Hq3,_,ρ1,r',rx,eg,fun σ1 r1 _=>?_⟩
    split at lp
    ·rename_i ρ2 eb
     exact ⟨ρ1,Hq3,_,r1,eb,fun σ2 Hq2 H2 r2 s2=>⟨ρ2,Hq2,r2,sq.trans s2,lp⟩⟩
    ·rename_i ρ2 eb
     exact ⟨ρ1,Hq3,_,r1,eb,fun σ2 Hq2 H2 r2 s2=>⟨ρ2,Hq2,r2,sq.trans s2,lp⟩⟩
    ·rename_i ρ2 eb
     cases lp
     exact ⟨ρ1,Hq3,_,r1,eb,fun σ2 Hq2 H2 r2 s2=>k σ2 Hq2 H2 r2 ((x1.q.trans sq).trans s2)⟩
    ·rename_i t eb
     cases lp
     exact ⟨ρ1,Hq3,_,r1,eb,k⟩
    ·cases lp
  ·have hi':i=ts.length:=by omega
   subst hi'
   rw [List.drop_length] at lp
   cases lp
   exact .inl ⟨w.2 (Nat.le_refl _),k σ' Hq' H' r' (x1.q.trans sq)⟩
 ·cases e
def sDrop (f:FE):FS:=fun ρ=>(f ρ).map fun _=>.nx ρ
def loopW (c:FT) (b:FS):Nat → Rho → Option Out
 | 0,_=>none
 | n + 1,ρ=>match c ρ with
   | some true=>(match b ρ with
     | some (.nx ρ2)=>loopW c b n ρ2
     | some (.ct ρ2)=>loopW c b n ρ2
     | some (.bk ρ2)=>some (.nx ρ2)
     | some (.rt t)=>some (.rt t)
     | none=>none)
   | some false=>some (.nx ρ)
   | none=>none
def sWhile (n:Nat) (c:FT) (b:FS):FS:=loopW c b n
end
def run (n:Nat) (F:FS) (ts:List T):Option T:=match F (ts.map (fun t=>some (.pu t)) ++ List.replicate (n - ts.length) none) with
 | some (.rt t)=>some t
 | some (.nx _)=>some .non
 | _=>none
theorem start_rn {K:PySem.W.Frag} {Hq H:Hp} (sb:Same Hq H) {N:List Str} {ts:List T} {vs:List V} (h:RepL K Hq ts vs):Rn ⟨K,Hq,H⟩ (start N vs) (ts.map (fun t=>some (.pu t)) ++ List.replicate (N.length - ts.length) none) Hq H:=by
 have hl:=h.length
 have no:∀ (i:Nat) (us:List T),(ts.map (fun t=>some (Sl.pu t)) ++ List.replicate (N.length - ts.length) none)[i]? ≠ some (some (.ow us)):=fun i us e=>by
  by_cases hi:i < ts.length
  ·rw [List.getElem?_append_left (by rw [List.length_map]; exact hi),List.getElem?_map,List.getElem?_eq_getElem hi] at e
   cases e
  ·rw [List.getElem?_append_right (by rw [List.length_map]; omega),List.getElem?_replicate] at e
   split at e <;> cases e
 have nox:∀ (i:Nat) (C:Str),(ts.map (fun t=>some (Sl.pu t)) ++ List.replicate (N.length - ts.length) none)[i]? ≠ some (some (.xc C)):=fun i C e=>by
  by_cases hi:i < ts.length
  ·rw [List.getElem?_append_left (by rw [List.length_map]; exact hi),List.getElem?_map,List.getElem?_eq_getElem hi] at e
   cases e
  ·rw [List.getElem?_append_right (by rw [List.length_map]; omega),List.getElem?_replicate] at e
   split at e <;> cases e
 have noo:∀ (i:Nat) (sl:Sl),sl.isO → (ts.map (fun t=>some (Sl.pu t)) ++ List.replicate (N.length - ts.length) none)[i]? ≠ some (some sl):=fun i sl ho e=>by
  by_cases hi:i < ts.length
  ·rw [List.getElem?_append_left (by rw [List.length_map]; exact hi),List.getElem?_map,List.getElem?_eq_getElem hi] at e
   cases e; exact ho
  ·rw [List.getElem?_append_right (by rw [List.length_map]; omega),List.getElem?_replicate] at e
   split at e <;> cases e
 refine ⟨.refl sb,by unfold L2.start; simp [hl],fun i t e=>?_,fun i us e=>absurd e (no i us),fun i j us ws a _ e _=>absurd e (no i us),fun i C e=>absurd e (nox i C),.none noo⟩
 by_cases hi:i < ts.length
 ·rw [List.getElem?_append_left (by rw [List.length_map]; exact hi),List.getElem?_map,List.getElem?_eq_getElem hi] at e
  cases e
  obtain ⟨v,e1,r1⟩:=h.get (List.getElem?_eq_getElem hi)
  refine ⟨v,?_,r1⟩
  unfold L2.start
  rw [List.getElem?_append_left (by rw [List.length_map]; omega),List.getElem?_map,e1]; rfl
 ·rw [List.getElem?_append_right (by rw [List.length_map]; omega),List.getElem?_replicate] at e
  split at e <;> cases e
section
variable {P:Program} {w:World} {K:PySem.W.Frag} {mg:Str → Option Value} {base:Heap}
theorem fn_ok {x qual:Str} {st:Stmt} {f:Addr} {fd:FuncData} {N ps:List Str} {k:Nat} {F:FS} (G:Fun K x qual st f fd) (S:FnScope N ps (defScope st))
  (hbody:∀ (cdv:Value) (A:Around) (outer:List Env) (s:Shared) (H:Hp) (E:XK) (z:Z),Room k (A.deeper (PyProof.Rows.envOfC qual (defScope st) s.heap.objs.size f cdv)) → z.K=K →
   SVs (cxOf CX0 P w K mg base N qual (defScope st) f cdv A outer s H E).nox z (defBody st) F):FnOk P w K mg base CX0 (k + 1) f fd ps (spT K ps.length (run N.length F)):=by
 refine G.ok S (fun vs H Q E h=>?_) fun cdv A outer s H vs Q E hr h=>?_
 ·obtain ⟨Hq,ts,t,hl,_,r,_⟩:=h
  rw [← r.length,hl]
 ·obtain ⟨Hq,ts,t,hl,sb,r,e,k⟩:=h
  refine ⟨_,hbody cdv A outer s H E ⟨K,Hq,H⟩ hr rfl,?_⟩
  unfold run at e
  split at e
  ·rename_i t' e1
   cases e
   exact ⟨_,Hq,_,start_rn sb r,e1,fun v Hq' H' x p=>k v Hq' H' x p⟩
  ·rename_i ρ' e1
   cases e
   exact ⟨_,Hq,_,start_rn sb r,e1,fun σ' Hq' H' r' _=>k .non Hq' H' r'.ex rep_non⟩
  ·cases e
end
end TL
namespace TL
open PySem L2
def Src (K:PySem.W.Frag) (mg:Str → Option Value) (x:Str) (st:Stmt) (ps:List Str):Prop:=∃ a fd,Fun K x x st a fd ∧ Binds K fd ps [] ∧ mg x=some (.ref a)
def Has (P:Program) (w:World) (K:PySem.W.Frag) (mg:Str → Option Value) (base:Heap) (x:Str) (k n:Nat) (F:List T → Option T):Prop :=
 ∃ a fd ps,ps.length=n ∧ FnOk P w K mg base CX0 k a fd ps (spT K n F) ∧ mg x=some (.ref a) ∧ PySem.W.keepIn K (.ref a)=true ∧ Binds K fd ps []
theorem ev_has {X:Cx} {z:Z} {k n:Nat} {x:Str} {p pos:Pos} {e:Expr} {es:List Expr} {fa:FA} {F:List T → Option T} (hK:z.K=X.K) (h:Has X.prog X.w X.K X.mg X.base x k n F) (hr:Room k X.A) (ha:EA X z (e :: es) fa) (hg:Gl X x:=by rfl)
  (hd:(x == ("__debug__":Str))=false:=by decide) (hs:starEach (e :: es) X.env=(false,eval e X.env) :: starEach es X.env:=by rfl) (hpl:(backTo pos (starEach es X.env)).any (·.1)=false:=by rfl) :
  EV X z (.Call (.Name x p) (e :: es) [] pos) (fCall n F fa):=by
 obtain ⟨a,fd,ps,hl,G,hm,hk,hb⟩:=h
 exact ev_call hK G hr hg hm hk hb hl ha hd hs hpl
section
variable {P:Program} {w:World} {K:PySem.W.Frag} {mg:Str → Option Value} {base:Heap}
theorem has_of {x:Str} {st:Stmt} {N ps:List Str} {k:Nat} {F:FS} (G:Src K mg x st ps) (S:FnScope N ps (defScope st))
  (hbody:∀ (f:Addr) (cdv:Value) (A:Around) (outer:List Env) (s:Shared) (H:Hp) (E:XK) (z:Z),Room k (A.deeper (PyProof.Rows.envOfC x (defScope st) s.heap.objs.size f cdv)) → z.K=K →
   SVs (cxOf CX0 P w K mg base N x (defScope st) f cdv A outer s H E).nox z (defBody st) F):Has P w K mg base x (k + 1) ps.length (run N.length F):=by
 obtain ⟨a,fd,f,b,m⟩:=G
 exact ⟨a,fd,ps,rfl,fn_ok f S (hbody a),m,f.kp,b⟩
theorem has_of' {x:Str} {st:Stmt} {N ps:List Str} {k n m:Nat} {F:FS} (hn:ps.length=n) (hm:N.length=m) (G:Src K mg x st ps) (S:FnScope N ps (defScope st))
  (hbody:∀ (f:Addr) (cdv:Value) (A:Around) (outer:List Env) (s:Shared) (H:Hp) (E:XK) (z:Z),Room k (A.deeper (PyProof.Rows.envOfC x (defScope st) s.heap.objs.size f cdv)) → z.K=K →
   SVs (cxOf CX0 P w K mg base N x (defScope st) f cdv A outer s H E).nox z (defBody st) F):Has P w K mg base x (k + 1) n (run m F):=by
 subst hn hm
 exact has_of G S hbody
theorem fn_ok' {x qual:Str} {st:Stmt} {f:Addr} {fd:FuncData} {N ps:List Str} {k n m:Nat} {F:FS} (hn:ps.length=n) (hm:N.length=m) (G:Fun K x qual st f fd) (S:FnScope N ps (defScope st))
  (hbody:∀ (cdv:Value) (A:Around) (outer:List Env) (s:Shared) (H:Hp) (E:XK) (z:Z),Room k (A.deeper (PyProof.Rows.envOfC qual (defScope st) s.heap.objs.size f cdv)) → z.K=K →
   SVs (cxOf CX0 P w K mg base N qual (defScope st) f cdv A outer s H E).nox z (defBody st) F):FnOk P w K mg base CX0 (k + 1) f fd ps (spT K n (run m F)):=by
 subst hn hm
 exact fn_ok G S hbody
theorem src_mk {h:Heap} {x:Str} {st:Stmt} {ps:List Str} {f:Addr} {oc:Value} {od an:Option Addr} {osl:Array (Option Value)} {kV doc pm cdv ct:Value} (X:K.In h) (G:h.Ns mainGlobals mg) (a:PySem.W.nsIn K mainGlobals x=some (some (.ref f)))
  (l:K.lookup f=some ⟨oc,od,.func (PySem.W.fnOf x x (defArgs st) (defBody st) (defScope st) .none kV doc pm an cdv ct),osl⟩)
  (c:PySem.W.codeIn K cdv x=true) (k:PySem.W.keepIn K (.ref f)=true)
  (hb:∀ (kV doc pm:Value) (an:Option Addr) (cdv ct:Value) (us:List Value),us.length=ps.length → bindArgs (PySem.W.fnOf x x (defArgs st) (defBody st) (defScope st) .none kV doc pm an cdv ct) ⟨us,[]⟩=pure (ps.zip us)):Src K mg x st ps :=
 ⟨f,_,fun_mk (st:=st) l c k,(fun_mk (st:=st) l c k).binds hb,PySem.W.mg_of X G a⟩
end
def compOk (N:List Str) (sc scope:Scope) (N':List Str) (ix:List (Option Nat)) (tc:List Nat):Bool :=
 scope.kind == .function && scope.names.all (fun y=>y.2 != .cell || (scope.names.lookup y.1 == some .cell && scope.names.all (fun z=>z.2 != .free || z.1 != y.1))) && scope.names.all (fun y=>y.2 != .local || scope.names.lookup y.1 == some .local) &&
 scope.names.all (fun x=>x.2 != .free || (sc.names.lookup x.1 == some .cell || sc.names.lookup x.1 == some .free)) && ix.length == N'.length &&
 (List.range ix.length).all (fun j=>match ix[j]?,N'[j]? with
  | some (some i),some x=>N[i]? == some x && (sc.names.lookup x == some .cell || sc.names.lookup x == some .free) && scope.names.lookup x == some .free
  | _,_=>true) &&
 tc.all (fun j=>match ix[j]? with | some (some _)=>false | _=>true)
theorem ef_comp' {X:Cx} {z:Z} {elt iter tg:Expr} {ifs:List Expr} {scope:Scope} {pos:Pos} {fi:FA} {g:FG} {c:FT} {fe:FE} (N:List Str) (sc:Scope) (N':List Str) (ix:List (Option Nat)) (tc:List Nat) (ok:compOk N sc scope N' ix tc=true)
  (hK:z.K=X.K) (hi:PI X tg iter (iR z fi)) (hg:∀ C s H fp z',z'.K=X.K → PG (compCx X scope N' C s H fp) tg (tG z' tc g)) (ht:∀ C s H fp z',z'.K=X.K → PIfs (compCx X scope N' C s H fp) ifs (tB2 z' c)) (he:∀ C s H fp z',z'.K=X.K → EV (compCx X scope N' C s H fp) z' elt fe)
  (hN:X.N=N:=by rfl) (hsc:X.env.scope=sc:=by rfl) (hc:X.calm=true:=by rfl) (hs:∀ x,foldedSetIterable iter X.env x=pure x:=by intro _; rfl):EF X z (.ListComp elt [⟨tg,iter,ifs,0⟩] scope pos) (fComp ix fi g c fe):=by
 simp only [compOk,Bool.and_eq_true,List.all_eq_true,Bool.or_eq_true,bne_iff_ne,beq_iff_eq] at ok
 obtain ⟨⟨⟨⟨⟨⟨o1,o2⟩,o3⟩,o4⟩,o5⟩,o6⟩,o7⟩:=ok
 subst hN
 have at6:∀ (j i:Nat) (x:Str),ix[j]?=some (some i) → N'[j]?=some x → X.N[i]?=some x ∧ (sc.names.lookup x=some .cell ∨ sc.names.lookup x=some .free) ∧ scope.names.lookup x=some .free:=fun j i x e1 e2=>by
  have hj:j < ix.length:=(List.getElem?_eq_some_iff.mp e1).1
  have:=o6 j (List.mem_range.mpr hj)
  rw [e1,e2] at this
  simp only [Bool.and_eq_true,beq_iff_eq,Bool.or_eq_true] at this
  exact ⟨this.1.1,this.1.2,this.2⟩
 refine ef_comp hK hc o1 (fun y hy e=>((o2 y hy).resolve_left fun z=>z e).1) (fun x h1 h2=>by
   have:=((o2 _ h1).resolve_left fun z=>z rfl).2 _ h2
   rcases this with z | z
   ·exact z rfl
   ·exact z rfl) (fun y hy e=>(o3 y hy).resolve_left fun z=>z e) (fun x hx e=>?_) ⟨o5,fun j i x e1 e2=>⟨(at6 j i x e1 e2).1,?_⟩⟩ (fun j i x e1 e2=>(at6 j i x e1 e2).2.2) (fun j hj i e=>?_) hi hg ht he hs
 ·have:=(o4 x hx).resolve_left fun z=>z e
  show X.env.scope.names.lookup x.1=_ ∨ X.env.scope.names.lookup x.1=_
  rw [hsc]; exact this
 ·rw [hsc]
  exact .inr (at6 j i x e1 e2).2.1
 ·have:=o7 j hj
  rw [e] at this
  cases this
theorem s_comp_gen {X:Cx} {z:Z} {elt iter tg:Expr} {ifs:List Expr} {scope:Scope} {pos:Pos} {fi:FA} {g:FG} {c:FT} {fe:FE} {x:Str} {pos' pos2:Pos} (i:Nat) (hnd:X.N.Nodup) (N:List Str) (sc:Scope) (N':List Str) (ix:List (Option Nat)) (tc:List Nat) (ok:compOk N sc scope N' ix tc=true)
  (hK:z.K=X.K) (hi:PI X tg iter (iR z fi)) (hg:∀ C s H fp z',z'.K=X.K → PG (compCx X scope N' C s H fp) tg (tG z' tc g)) (ht:∀ C s H fp z',z'.K=X.K → PIfs (compCx X scope N' C s H fp) ifs (tB2 z' c)) (he:∀ C s H fp z',z'.K=X.K → EV (compCx X scope N' C s H fp) z' elt fe)
  (hN:X.N=N:=by rfl) (hsc:X.env.scope=sc:=by rfl) (hc:X.calm=true:=by rfl) (hs:∀ x,foldedSetIterable iter X.env x=pure x:=by intro _; rfl) (hxi:X.N[i]?=some x:=by rfl) (hx:Loc X.env.scope x:=by first | exact Or.inl rfl | exact Or.inr rfl)
  (hsw:swapsWith (.ListComp elt [⟨tg,iter,ifs,0⟩] scope pos) (some (.Name x pos')) pos2.line X.env=pure true:=by rfl)
  (hf:X.fn x=true ∨ X.env.scope.names.lookup x=some .local:=by first | exact .inl rfl | exact .inr rfl):PS X (.Assign [.Name x pos'] (.ListComp elt [⟨tg,iter,ifs,0⟩] scope pos) pos2) (tAsg (tF z (fComp ix fi g c fe)) (gName i)):=by
 simp only [compOk,Bool.and_eq_true,List.all_eq_true,Bool.or_eq_true,bne_iff_ne,beq_iff_eq] at ok
 obtain ⟨⟨⟨⟨⟨⟨o1,o2⟩,o3⟩,o4⟩,o5⟩,o6⟩,o7⟩:=ok
 subst hN
 have at6:∀ (j i:Nat) (x:Str),ix[j]?=some (some i) → N'[j]?=some x → X.N[i]?=some x ∧ (sc.names.lookup x=some .cell ∨ sc.names.lookup x=some .free) ∧ scope.names.lookup x=some .free:=fun j i x e1 e2=>by
  have hj:j < ix.length:=(List.getElem?_eq_some_iff.mp e1).1
  have:=o6 j (List.mem_range.mpr hj)
  rw [e1,e2] at this
  simp only [Bool.and_eq_true,beq_iff_eq,Bool.or_eq_true] at this
  exact ⟨this.1.1,this.1.2,this.2⟩
 refine ps_comp hK hc o1 (fun y hy e=>((o2 y hy).resolve_left fun z=>z e).1) (fun x h1 h2=>by
   have:=((o2 _ h1).resolve_left fun z=>z rfl).2 _ h2
   rcases this with z | z
   ·exact z rfl
   ·exact z rfl) (fun y hy e=>(o3 y hy).resolve_left fun z=>z e) (fun x hx e=>?_) ⟨o5,fun j i x e1 e2=>⟨(at6 j i x e1 e2).1,?_⟩⟩ (fun j i x e1 e2=>(at6 j i x e1 e2).2.2) (fun j hj i e=>?_) hi hg ht he hs hnd hxi hx hsw hf
 ·have:=(o4 x hx).resolve_left fun z=>z e
  show X.env.scope.names.lookup x.1=_ ∨ X.env.scope.names.lookup x.1=_
  rw [hsc]; exact this
 ·rw [hsc]
  exact .inr (at6 j i x e1 e2).2.1
 ·have:=o7 j hj
  rw [e] at this
  cases this
theorem s_setC {X:Cx} {z:Z} {elt iter tg:Expr} {ifs:List Expr} {scope:Scope} {pos:Pos} {fi:FA} {g:FG} {c:FT} {fe:FE} {x:Str} {pos' pos2:Pos} (i:Nat) (hnd:X.N.Nodup) (N:List Str) (sc:Scope) (N':List Str) (ix:List (Option Nat)) (tc:List Nat) (ok:compOk N sc scope N' ix tc=true)
  (hK:z.K=X.K) (hi:PI X tg iter (iR z fi)) (hg:∀ C s H fp z',z'.K=X.K → PG (compCx X scope N' C s H fp) tg (tG z' tc g)) (ht:∀ C s H fp z',z'.K=X.K → PIfs (compCx X scope N' C s H fp) ifs (tB2 z' c)) (he:∀ C s H fp z',z'.K=X.K → EV (compCx X scope N' C s H fp) z' elt fe)
  (hN:X.N=N:=by rfl) (hsc:X.env.scope=sc:=by rfl) (hc:X.calm=true:=by rfl) (hs:∀ x,foldedSetIterable iter X.env x=pure x:=by intro _; rfl) (hxi:X.N[i]?=some x:=by rfl) (hx:Loc X.env.scope x:=by first | exact Or.inl rfl | exact Or.inr rfl)
  (hsw:swapsWith (.ListComp elt [⟨tg,iter,ifs,0⟩] scope pos) (some (.Name x pos')) pos2.line X.env=pure true:=by rfl)
  (hf:X.fn x=true ∨ X.env.scope.names.lookup x=some .local:=by first | exact .inl rfl | exact .inr rfl):SV X z (.Assign [.Name x pos'] (.ListComp elt [⟨tg,iter,ifs,0⟩] scope pos) pos2) (sSet i (fNew (fComp ix fi g c fe))) :=
 PS.imp (s_comp_gen i hnd N sc N' ix tc ok hK hi hg ht he hN hsc hc hs hxi hx hsw hf) set_asg
theorem et_ifs1 {X:Cx} {z:Z} {c:Expr} {f:FT} (h:ET X z c f):PIfs X [c] (tB2 z f):=pifs_one h
theorem et_ifs0 {X:Cx} {z:Z}:PIfs X [] (tB2 z fYes):=fun pins s σ H Q I ⟨ρ,Hq,b,r,e,k⟩=>pifs_nil pins s σ H Q I (by
 cases e; exact k Hq H (.refl r.sub))
end TL
namespace TL
open PySem L2
section
variable {env:Env} {r:List Expr} {pos:Pos}
theorem st_Name {x:Str}:starEach (.Name x pos :: r) env=(false,eval (.Name x pos) env) :: starEach r env:=rfl
theorem st_Constant {c:Const} {k:Nat}:starEach (.Constant c k pos :: r) env=(false,eval (.Constant c k pos) env) :: starEach r env:=rfl
theorem st_BinOp {a b:Expr} {o:Operator}:starEach (.BinOp a o b pos :: r) env=(false,eval (.BinOp a o b pos) env) :: starEach r env:=rfl
theorem st_Call {a:Expr} {vs:List Expr} {ks:List Keyword}:starEach (.Call a vs ks pos :: r) env=(false,eval (.Call a vs ks pos) env) :: starEach r env:=rfl
theorem st_Subscript {a b:Expr}:starEach (.Subscript a b pos :: r) env=(false,eval (.Subscript a b pos) env) :: starEach r env:=rfl
theorem st_List {vs:List Expr}:starEach (.List vs pos :: r) env=(false,eval (.List vs pos) env) :: starEach r env:=rfl
theorem st_Tuple {vs:List Expr} {k:Nat}:starEach (.Tuple vs k pos :: r) env=(false,eval (.Tuple vs k pos) env) :: starEach r env:=rfl
end
end TL
namespace L2
open PySem PySem.Spec PyProof.Rows
section
variable {prog:Program} {w:World} {A:Around} {E:Value → Shared → Prop} {s:Shared}
end
section
variable {prog:Program} {w:World} {A:Around} {E:Value → Shared → Prop} {s:Shared}
end
section
variable {X:Cx} {pins:List (Addr × Obj)} {σ:St} {H:Hp} {s:Shared} {h':Heap}
end
section
variable {prog:Program} {w:World} {A:Around} {E:Value → Shared → Prop} {s:Shared}
end
section
variable {X:Cx} {elts:List Expr} {kd:Nat} {ps:Pos}
end
end L2
namespace TL
open PySem L2
def enumT (ts:List T):List T:=(List.range ts.length).map fun (i:Nat)=>.tup [.int (i:Int),ts.getD i .non]
def fEnum (f:FE):FA:=fun ρ=>match f ρ with | some (.tup ts)=>some (enumT ts) | some (.lst ts)=>some (enumT ts) | _=>none
section
variable {X:Cx} {z:Z} {e:Expr} {f:FE} {p pos:Pos} {elts:List Expr} {kd:Nat} {ps:Pos}
end
end TL
namespace L2
open PySem PySem.Spec PyProof.Rows
def subs6:List (List Nat):=(List.range 64).map fun c=>(List.range 6).filter fun i=>c.testBit i
def tabOf (mask mv:Nat) (l:Bool) (ms:List Nat):SetTable:={ mask:=mask,place:=ms.toArray,dummies:=#[],finger:=0,led:=l,moves:=mv,plain:=true }
def insN (k:Nat) (ms:List Nat):List Nat:=if ms.contains k then ms else (List.range 6).filter fun i=>ms.contains i || i == k
inductive EsR:List (Int × Value) → List Nat → Prop
 | nil:EsR [] []
 | cons {i:Nat} {t:Tok} {r:List (Int × Value)} {ms:List Nat} (h:EsR r ms):EsR (((i:Int),.int (i:Int) t) :: r) (i :: ms)
end L2
namespace L2
open PySem PySem.Spec PyProof.Rows
def okMask (m:Nat):Prop:=m=7 ∨ m=15 ∨ m=31
def SSet (h:Heap) (a:Addr) (l:Bool) (ms:List Nat):Prop :=
 ∃ o es ep m mv,h.get? a=some o ∧ o.ExactSet ∧ o.data=.set es ep (tabOf m mv l ms) ∧ EsR es.toList ms ∧ ms ∈ subs6 ∧ okMask m
section
variable {prog:Program} {w:World} {A:Around} {E:Value → Shared → Prop} {s:Shared}
end
end L2
namespace L2
open PySem PySem.Spec PyProof.Rows
def byT (w:World):Bool:=w.params.followText "set-order"
structure SRec (h:Heap) (S:Addr) (o:Obj) (es:Array (Int × Value)) (ep m mv:Nat) (l:Bool) (ms:List Nat):Prop where
 ho:h.get? S=some o
 ex:o.ExactSet
 hd:o.data=.set es ep (tabOf m mv l ms)
 er:EsR es.toList ms
 ms6:ms ∈ subs6
 hm:okMask m
section
variable {prog:Program} {w:World} {A:Around} {E:Value → Shared → Prop} {s:Shared} {S I:Addr} {o:Obj} {es:Array (Int × Value)} {ep m mv:Nat} {ms:List Nat}
end
end L2
namespace L2
open PySem PySem.Spec PyProof.Rows
section
variable {prog:Program} {w:World} {A:Around} {E:Value → Shared → Prop} {s:Shared} {S I:Addr} {o:Obj} {es:Array (Int × Value)} {ep m mv:Nat} {ms:List Nat}
end
end L2
namespace L2
open PySem PySem.Spec PyProof.Rows
def asInts (ms:List Nat):List Int:=ms.map fun (i:Nat)=>(i:Int)
section
variable {prog:Program} {w:World} {A:Around} {E:Value → Shared → Prop} {s:Shared} {S I:Addr} {o:Obj} {es:Array (Int × Value)} {ep m mv:Nat} {ms:List Nat}
def insAll (ms:List Nat) (ks:List Nat):List Nat:=ks.foldl (fun a k=>insN k a) ms
end
section
variable {prog:Program} {w:World} {A:Around} {R:Result → Shared → Prop} {I:Addr} {fp wr:List Addr} {G:Array GenState → Array GenState → Prop} {n:Nat} {P:Nat → Value → Prop} {St:Nat → Shared → Prop}
end
end L2
namespace L2
open PySem PySem.Spec PyProof.Rows
end L2
namespace L2
open PySem PySem.Spec PyProof.Rows
section
variable {prog:Program} {w:World} {A:Around} {E:Value → Shared → Prop} {s:Shared}
end
end L2
namespace TL
open PySem L2
abbrev FZ:=Rho → Option (List Nat)
def PZ (X:Cx) (e:Expr) (t:L2.St → Hp → (List Nat → Hp → Prop) → Prop):Prop :=
 ∀ (pins:List (Addr × Obj)) (s:Shared) (σ:L2.St) (H:Hp) (Q:List Nat → Hp → Prop),Inv X pins σ H s → t σ H Q →
   wpAny (model X.prog X.w) X.A (eval e X.env) (fun u s'=>∃ S ms H',u=.ref S ∧ SSet s'.heap S (!byT X.w) ms ∧ FpOk X pins H' S ∧ Inv X pins σ H' s' ∧ Q ms H') X.xe s
def tZ (z:Z) (f:FZ):L2.St → Hp → (List Nat → Hp → Prop) → Prop:=fun σ H Q=>∃ ρ Hq ms,Rn z σ ρ Hq H ∧ f ρ=some ms ∧ ∀ Hq' H',Ex Hq H Hq' H' → Q ms H'
abbrev EZ (X:Cx) (z:Z) (e:Expr) (f:FZ):Prop:=PZ X e (tZ z f)
def natsOf:List T → Option (List Nat)
 | []=>some []
 | .int i :: r=>if 0 ≤ i ∧ i < 6 then (natsOf r).map (i.toNat :: ·) else none
 | _=>none
section
variable {X:Cx} {z:Z} {e a b:Expr} {f:FE} {fa fb fz:FZ} {p pos:Pos}
def fSetOf (f:FE):FZ:=fun ρ=>match f ρ with | some (.tup ts)=>(natsOf ts).map (insAll []) | _=>none
def fSetOr (f g:FZ):FZ:=fun ρ=>match f ρ with | some a=>(match g ρ with | some b=>some (insAll a b) | none=>none) | none=>none
def fSorted (f:FZ):FA:=fun ρ=>(f ρ).map fun ms=>ms.map fun (i:Nat)=>T.int (i:Int)
def fLRng (f:FE):FA:=fun ρ=>match f ρ with | some (.int j)=>if 0 ≤ j ∧ j ≤ 2 ^ 20 then some ((List.range j.toNat).map fun (i:Nat)=>T.int (i:Int)) else none | _=>none
end
end TL
namespace TL
open PySem L2 SeqAt
section
variable {X:Cx} {z:Z} {e a b:Expr} {f g:FE} {p1 p2 p3 pos:Pos}
def sExt (i:Nat) (f:FE):FS:=fun ρ=>match ρ[i]? with
 | some (some (.ow ts))=>(match f ρ with | some (.lst us)=>if ts.length + us.length ≤ sizeLine then some (.nx (ρ.set i (some (.ow (ts ++ us))))) else none | _=>none)
 | _=>none
def fTru (f:FE):FT:=fun ρ=>match f ρ with | some (.tup ts)=>some !ts.isEmpty | some (.lst ts)=>some !ts.isEmpty | some (.bl b)=>some b | _=>none
theorem et_tru (hK:z.K=X.K) (h:ER X z e f) (he:∀ whole,isTrue e X.env whole=(do let v ← whole; standAt e.pos; holding [v] (truthy v)):=by intro _; rfl):ET X z e (fTru f) :=
 PT.imp (pt_truth h he) fun σ H Q ⟨ρ,Hq,b,r,e,k⟩=>by
  unfold fTru at e
  split at e
  ·rename_i ts e1
   cases e
   refine ⟨ρ,Hq,_,r,e1,fun v Hq1 H1 x1 r1=>⟨_,?_,k Hq1 H1 x1⟩⟩
   obtain ⟨a,vs,rfl,q1,q2⟩:=r1.tup x1.sub
   rw [hK] at q1
   have hl:=q2.length
   exact .inr (.inl ⟨vs,q1,by cases ts <;> cases vs <;> simp at hl ⊢⟩)
  ·rename_i ts e1
   cases e
   refine ⟨ρ,Hq,_,r,e1,fun v Hq1 H1 x1 r1=>⟨_,?_,k Hq1 H1 x1⟩⟩
   obtain ⟨a,vs,rfl,q1,q2⟩:=r1.lst x1.sub
   rw [hK] at q1
   have hl:=q2.length
   exact .inl ⟨vs,q1,by cases ts <;> cases vs <;> simp at hl ⊢⟩
  ·rename_i c e1
   cases e
   refine ⟨ρ,Hq,_,r,e1,fun v Hq1 H1 x1 r1=>⟨_,?_,k Hq1 H1 x1⟩⟩
   cases r1.bl
   rfl
  ·cases e
def idxT (ts:List T) (u:T):Nat:=ts.findIdx fun t=>teq t u
def tIndex (t u:T):Option T:=match t with
 | .lst ts=>if (ts.all fun y=>decide (dep y ≤ 60))=true ∧ idxT ts u < ts.length then some (.int (idxT ts u:Int)) else none
 | _=>none
def rIndex (K:PySem.W.Frag):V → List V → Hp → VK → Prop:=fun x vs H Q=>∃ l xs y ts u,x=.ref l ∧ vs=[y] ∧ SqL K H l xs ∧ RepL K H ts xs ∧ Rep K H u y ∧ (ts.all fun y=>decide (dep y ≤ 60))=true ∧ idxT ts u < ts.length ∧ Q (.int (idxT ts u:Int)) H
theorem index_at {pins:List (Addr × Obj)} {σ:L2.St} {H:Hp} {s:Shared} {A:Around} (I:Inv X pins σ H s) {ts:List T} {vs:List V} {its:List Value} {u:T} {y:V} {b:Value} (hu:A.units + 62 < cLine) (hd:(ts.all fun y=>decide (dep y ≤ 60))=true)
  (r:Vals vs its) (q:RepL X.K H ts vs) (ry:RelV y b) (hy:Rep X.K H u y):∃ e:Value → Bool,(∀ w,w ∈ its.toArray → EqAt A.in1 s w b (e w)) ∧ ∀ (j:Nat) (w:Value) (t:T),its[j]?=some w → ts[j]?=some t → e w=teq t u:=by
 classical
 let e:Value → Bool:=fun w=>decide (∃ (j:Nat) (t:T),its[j]?=some w ∧ ts[j]?=some t ∧ teq t u=true)
 have len:its.length=ts.length:=by rw [← r.length,q.length]
 have key:∀ (j:Nat) (w:Value) (t:T),its[j]?=some w → ts[j]?=some t → e w=teq t u:=fun j w t h1 h2=>by
  cases h:teq t u with
  | true=>exact decide_eq_true ⟨j,t,h1,h2,h⟩
  | false =>
    refine decide_eq_false ?_
    rintro ⟨j',t',h1',h2',h'⟩
    obtain ⟨v1,e1,g1⟩:=q.get h2
    obtain ⟨v2,e2,g2⟩:=q.get h2'
    obtain ⟨w1,f1,k1⟩:=r.get e1
    obtain ⟨w2,f2,k2⟩:=r.get e2
    rw [h1] at f1; cases f1
    rw [h1'] at f2; cases f2
    have:v1=v2:=k1.inj k2
    subst this
    have:=teq_trans (w:=u) (rep_inj I g1 g2)
    rw [h,h'] at this; cases this
 refine ⟨e,fun w hw=>?_,key⟩
 obtain ⟨j,hj,rfl⟩:=Array.mem_iff_getElem.mp hw
 have hj':j < its.length:=by simpa using hj
 have e1:its[j]?=some its.toArray[j]:=by rw [List.getElem_toArray]; exact List.getElem?_eq_getElem _
 have e2:ts[j]?=some (ts[j]'(by omega)):=List.getElem?_eq_getElem _
 obtain ⟨v,ev,hv⟩:=q.get e2
 rw [key j _ _ e1 e2]
 have hdt:dep (ts[j]'(by omega)) ≤ 60:=by
  have:=List.all_eq_true.mp hd _ (List.getElem_mem (by omega:j < ts.length))
  exact of_decide_eq_true this
 exact (eq_all I _ _ _ v y _ _ A.in1 (Nat.lt_succ_self _) (rel_at r hj ev) ry hv hy (by show A.units + 1 + _ < cLine; omega)).2
theorem mt_index (hu:X.A.units + 64 < cLine):MtR X "list.index" (rIndex X.K):=by
 intro pins s σ H x vs v us Q I rx rv h
 obtain ⟨l,xs,y,ts,u,rfl,rfl,hS,hr,hy,hd,hlt,q⟩:=h
 cases rx
 obtain ⟨uu,rfl,ru⟩:=rv.one
 obtain ⟨its,r2,⟨⟨oc,od,oD,os⟩,n2,e2,c1,c2,c3⟩,z2⟩:=I.list hS
 simp only at c1 c2 c3
 subst c1 c2 c3
 have len:its.length=ts.length:=by rw [← r2.length,hr.length]
 have zl:=r2.length
 have hj:idxT ts u < its.toArray.size:=by rw [List.size_toArray,len]; exact hlt
 obtain ⟨e,he,key⟩:=index_at (A:=X.A) I (by omega) hd r2 hr ru hy
 have at_:∀ (j:Nat) (h:j < its.toArray.size),its[j]?=some its.toArray[j]:=fun j h=>by rw [List.getElem_toArray]; exact List.getElem?_eq_getElem _
 refine call_meets F.slot_list_index ⟨_,e2,rfl⟩ F.entry_list_index (F.args_list_index_2 _ _)
  (list_indexAt l its.toArray n2 none os uu e (idxT ts u) hj ?_ ?_ ?_) ⟨e2,he,?_⟩
 ·have:=sizeLine_eq; omega
 ·have h2:ts[idxT ts u]?=some (ts[idxT ts u]'hlt):=List.getElem?_eq_getElem _
  rw [key _ _ _ (at_ _ hj) h2]
  exact List.findIdx_getElem (p:=fun t=>teq t u) (w:=hlt)
 ·intro m hm hlt2
  have hm':m < ts.length:=by rw [← len]; simpa using hm
  rw [key _ _ _ (at_ m hm) (List.getElem?_eq_getElem hm')]
  have:=List.not_of_lt_findIdx (p:=fun t=>teq t u) (xs:=ts) hlt2
  simpa using this
 ·exact ⟨.int _,H,I.tok _,⟨_,rfl⟩,q⟩
theorem ev_index (hK:z.K=X.K) (hu:X.A.units + 64 < cLine) (ha:ER X z a f) (hb:EV X z b g) (hbase:attributeBase a "index" X.env (eval a X.env)=eval a X.env:=by rfl)
  (hline:(p2.endLine == p3.line)=true:=by rfl) (hs:starEach [b] X.env=[(false,eval b X.env)]:=by rfl) :EV X z (.Call (.Attribute a "index" p2) [b] [] p3) (f2 tIndex f g) :=
 PE.imp (pe_bm PySem.F.plainAttrs_list PySem.F.slot_list_index PySem.F.type_list_index (mt_index hu) ha (pa_cons hb pa_nil hs) hbase (by rw [hs]; rfl) hline hs rfl) fun σ H Q ⟨ρ,Hq,w,r,e,k⟩=>by
  obtain ⟨t,u,e1,e2,e3⟩:=f2_some e
  unfold tIndex at e3
  split at e3
  ·rename_i ts
   split at e3
   ·rename_i hc
    cases e3
    refine ⟨ρ,Hq,_,r,e1,fun v Hq1 H1 x1 r1=>?_⟩
    obtain ⟨l,xs,rfl,q1,q2⟩:=r1.lst x1.sub
    rw [hK] at q1 q2
    refine ⟨.inl ⟨rfl,xs,q1⟩,ρ,Hq1,_,r.ext x1,e2,fun v2 Hq2 H2 x2 r2=>?_⟩
    rw [hK] at r2
    exact ⟨l,xs,v2,ts,u,rfl,rfl,x2.all.seq q1,(q2.mono x1.sub).mono x2.all,r2.mono x2.sub,hc.1,hc.2,k _ Hq2 H2 (x1.trans x2) rep_int⟩
   ·cases e3
  ·cases e3
end
end TL
namespace SR
open PySem PyProof.Rows PySem.W
section
variable {prog:Program} {w:World} {A:Around} {E:Value → Shared → Prop} {s:Shared} {κ:SortKind} {it:Nat → Keyed} {b:Nat → Nat → Bool} {p:Array Nat} {pd:Array (Nat × Nat × Nat)}
def asc (b:Nat → Nat → Bool) (p:Array Nat) (lo:Nat):Nat → Nat → Nat
 | 0,n=>n
 | f + 1,n=>if b (p.getD (lo + n) 0) (p.getD (lo + n - 1) 0) then n else asc b p lo f (n + 1)
end
end SR
namespace SR
open PySem PyProof.Rows PySem.W
section
variable {prog:Program} {w:World} {A:Around} {E:Value → Shared → Prop} {s:Shared} {κ:SortKind} {it:Nat → Keyed} {b:Nat → Nat → Bool} {p:Array Nat} {pd:Array (Nat × Nat × Nat)}
def plc (b:Nat → Nat → Bool) (p:Array Nat) (lo k:Nat):Nat → Nat → Nat → Nat
 | 0,l,_=>l
 | f + 1,l,r=>if r ≤ l then l else if b (p.getD (lo + k) 0) (p.getD (lo + (l + r) / 2) 0) then plc b p lo k f l ((l + r) / 2) else plc b p lo k f ((l + r) / 2 + 1) r
def bins (b:Nat → Nat → Bool) (lo:Nat):Nat → Nat → Array Nat → Array Nat
 | 0,_,p=>p
 | f + 1,k,p=>bins b lo f (k + 1) (bubble p (lo + k) (lo + k - (lo + plc b p lo k k 0 k)))
end
end SR
namespace SR
open PySem PyProof.Rows PySem.W
section
variable {prog:Program} {w:World} {A:Around} {E:Value → Shared → Prop} {s:Shared} {κ:SortKind} {it:Nat → Keyed} {b:Nat → Nat → Bool} {p:Array Nat} {pd:Array (Nat × Nat × Nat)}
def bey (b:Nat → Nat → Bool) (left:Bool) (kk:Nat) (a:Array Nat) (base i:Nat):Bool:=if left then b (a.getD (base + i) 0) kk else !b kk (a.getD (base + i) 0)
def expo (q:Nat → Bool) (mx:Nat):Nat → Nat → Nat → Nat × Nat
 | 0,l,o=>(l,o)
 | f + 1,l,o=>if mx ≤ o then (l,o) else if q o then expo q mx f o (2 * o + 1) else (l,o)
def bse (q:Nat → Bool):Nat → Nat → Nat → Nat
 | 0,_,hi=>hi
 | f + 1,lo,hi=>if hi ≤ lo then hi else if q (lo + (hi - lo) / 2) then bse q f (lo + (hi - lo) / 2 + 1) hi else bse q f lo (lo + (hi - lo) / 2)
def gp (b:Nat → Nat → Bool) (left:Bool) (kk:Nat) (a:Array Nat) (base n hint:Nat):Nat :=
 if bey b left kk a base hint then
  bse (bey b left kk a base) n (hint + (expo (fun o=>bey b left kk a base (hint + o)) (n - hint) n 0 1).1 + 1) (hint + min (expo (fun o=>bey b left kk a base (hint + o)) (n - hint) n 0 1).2 (n - hint))
 else
  bse (bey b left kk a base) n (hint + 1 - min (expo (fun o=>!bey b left kk a base (hint - o)) (hint + 1) n 0 1).2 (hint + 1)) (hint - (expo (fun o=>!bey b left kk a base (hint - o)) (hint + 1) n 0 1).1)
end
end SR
namespace SR
open PySem PyProof.Rows PySem.W
section
variable {prog:Program} {w:World} {A:Around} {E:Value → Shared → Prop} {s:Shared} {κ:SortKind} {it:Nat → Keyed} {b:Nat → Nat → Bool} {p:Array Nat} {pd:Array (Nat × Nat × Nat)}
def mrg (b:Nat → Nat → Bool) (x y:Array Nat):Nat → Array Nat → Nat → Nat → Nat → Nat → Option (Array Nat)
 | 0,_,_,_,_,_=>none
 | f + 1,out,ia,ib,ac,bc =>
   if b (y.getD ib 0) (x.getD ia 0) then
    if ib + 1=y.size then some (out.push (y.getD ib 0) ++ x.extract ia ++ y.extract (ib + 1))
    else if 7 ≤ bc + 1 then none else mrg b x y f (out.push (y.getD ib 0)) ia (ib + 1) 0 (bc + 1)
   else
    if ia + 1 + 1=x.size then some (out.push (x.getD ia 0) ++ y.extract ib ++ x.extract (ia + 1))
    else if 7 ≤ ac + 1 then none else mrg b x y f (out.push (x.getD ia 0)) (ia + 1) ib (ac + 1) 0
end
end SR
namespace SR
open PySem PyProof.Rows PySem.W
section
variable {prog:Program} {w:World} {A:Around} {E:Value → Shared → Prop} {s:Shared} {κ:SortKind} {it:Nat → Keyed} {b:Nat → Nat → Bool} {p:Array Nat}
structure Mg (b:Nat → Nat → Bool) (p:Array Nat) (sa na sb nb k nb':Nat) (R:Array Nat):Prop where
 hk:gp b false (p.getD sb 0) p sa na 0=k
 h0:(na - k == 0)=false
 hn:gp b true (p.getD (sa + k + (na - k) - 1) 0) p sb nb (nb - 1)=nb'
 h1:(nb' == 0)=false
 hle:na - k ≤ nb'
 x2:2 ≤ (p.extract (sa + k) sb).size
 y2:2 ≤ (p.extract sb (sb + nb')).size
 hR:mrg b (p.extract (sa + k) sb) (p.extract sb (sb + nb')) ((p.extract (sa + k) sb).size + (p.extract sb (sb + nb')).size) #[(p.extract sb (sb + nb')).getD 0 0] 0 1 0 0=some R
 z1:sa + na ≤ p.size
 z2:sb + nb ≤ p.size
 n1:0 < na
 n2:0 < nb
 z3:sa + k + (na - k) - 1 < p.size
end
end SR
namespace SR
open PySem PyProof.Rows PySem.W
section
variable {prog:Program} {w:World} {A:Around} {E:Value → Shared → Prop} {s:Shared} {κ:SortKind} {it:Nat → Keyed} {b:Nat → Nat → Bool} {p:Array Nat}
end
end SR
namespace SR
open PySem PyProof.Rows PySem.W L2 SeqAt
section
variable {prog:Program} {w:World} {A:Around} {E:Value → Shared → Prop} {s:Shared}
end
end SR
namespace SR
open PySem PyProof.Rows PySem.W L2 SeqAt
section
variable {prog:Program} {w:World} {A:Around} {E:Value → Shared → Prop} {s:Shared}
end
end SR
namespace SR
open PySem PyProof.Rows PySem.W L2 SeqAt
section
variable {prog:Program} {w:World} {A:Around} {E:Value → Shared → Prop} {s:Shared}
end
end SR
namespace SR
open PySem PyProof.Rows PySem.W L2 SeqAt
def q1 (b:Nat → Nat → Bool):Array Nat:=bins b 0 (32 - max (asc b (Array.range 64) 0 63 1) 1) (max (asc b (Array.range 64) 0 63 1) 1) (Array.range 64)
def q2 (b:Nat → Nat → Bool):Array Nat:=bins b 32 (32 - max (asc b (q1 b) 32 31 1) 1) (max (asc b (q1 b) 32 31 1) 1) (q1 b)
section
variable {prog:Program} {w:World} {A:Around} {E:Value → Shared → Prop} {s:Shared} {κ:SortKind} {it:Nat → Keyed}
end
end SR
namespace TL
open PySem L2 SR
def unR:List T → Option (List Nat)
 | []=>some []
 | .int i :: r=>if 0 ≤ i then (unR r).map (i.toNat :: ·) else none
 | _=>none
section
variable {X:Cx} {z:Z} {e:Expr} {f:FE} {p pos:Pos}
end
end TL
namespace TL
open PySem L2 SR
def pickT {α:Type} (xs:List α) (lo hi st:Option Int):List α :=
 (sliceRange (sliceBounds lo hi st xs.length).1 (sliceBounds lo hi st xs.length).2.1 (sliceBounds lo hi st xs.length).2.2).filterMap (xs[·]?)
def fPick (f:FE) (lo hi st:FO):FA:=fun ρ=>match f ρ with
 | some (.lst ts)=>(match lo ρ with
   | some l=>(match hi ρ with
     | some h=>(match st ρ with
       | some (some k)=>if k ≠ 0 ∧ (pickT ts l h (some k)).length ≤ sizeLine then some (pickT ts l h (some k)) else none
       | _=>none)
     | none=>none)
   | none=>none)
 | _=>none
section
variable {X:Cx} {z:Z} {e:Expr} {f:FE} {p pos:Pos}
def srt (ks:List Nat):List Nat:=ks.mergeSort fun a b=>decide (a ≤ b)
def fSortI (f:FE):FA:=fun ρ=>match f ρ with
 | some (.lst ts)=>(match unR ts with | some ks=>if ks.length < 64 then some ((srt ks).map fun (i:Nat)=>T.int (i:Int)) else none | none=>none)
 | _=>none
end
end TL
namespace TL
open PySem L2 SR
def sFrz (i:Nat):FS:=fun ρ=>match ρ[i]? with | some (some (.ow ts))=>some (.nx (ρ.set i (some (.pu (.lst ts))))) | _=>none
section
variable {X:Cx} {z:Z} {F G:FS} {e:Expr} {f g:FE} {fa:FA} {pos:Pos}
theorem Rn.frz {z:Z} {σ:L2.St} {ρ:Rho} {Hq H:Hp} (r:Rn z σ ρ Hq H) {i:Nat} {a:Addr} {o:HO} {t:T} (h1:σ[i]?=some (some (.ref a))) (h2:Hq a=none) (h3:z.H a=none) (h4:H a=some o) (h5:Rep z.K (upd Hq a o) t (.ref a))
  (hne:∀ (j:Nat) (us:List T),j ≠ i → ρ[j]?=some (some (.ow us)) → σ[j]? ≠ some (some (.ref a))) (hnf:∀ oe u,o ≠ .frz oe u) (hni:∀ C dx fs,o ≠ .ins C dx fs:=by intro _ _ _ q; nomatch q):Rn z σ (ρ.set i (some (.pu t))) (upd Hq a o) H ∧ Same Hq (upd Hq a o):=by
 have sm:Same Hq (upd Hq a o):=fun b u e=>by rw [upd_ne (ne_of_none e h2)]; exact e
 have hq:z.Hq a=none:=r.ex.q.free h2
 have hi:i < ρ.length:=by rw [r.len]; exact (List.getElem?_eq_some_iff.mp h1).1
 refine ⟨⟨⟨r.ex.all,r.ex.q.trans sm,fun b u e=>?_,fun b hb n=>?_⟩,by rw [List.length_set]; exact r.len,fun j u e=>?_,fun j u e=>?_,fun j k us ws b hjk e1 e2 e3=>?_,fun j C e=>?_,r.o.go (setO_hs' (fun _ q=>by cases q; exact id)) (fun b C dx fs h n=>⟨h,by rw [upd_ne (fun q=>by subst q; rw [h4] at h; exact hni C dx fs (Option.some.inj h))]; exact n⟩) sm⟩,sm⟩
 ·by_cases hb:b=a
  ·subst hb; rw [upd_same] at e; cases e; exact h4
  ·rw [upd_ne hb] at e; exact r.sub b u e
 ·have:b ≠ a:=fun q=>by subst q; exact hb h3
  rw [upd_ne this]; exact r.ex.out b hb n
 ·by_cases hj:j=i
  ·subst hj
   rw [List.getElem?_set_self hi] at e
   cases e
   exact ⟨_,h1,h5⟩
  ·rw [List.getElem?_set_ne (Ne.symm hj)] at e
   obtain ⟨v,g1,g2⟩:=r.pu j u e
   exact ⟨v,g1,g2.mono sm⟩
 ·by_cases hj:j=i
  ·subst hj
   rw [List.getElem?_set_self hi] at e
   cases e
  ·rw [List.getElem?_set_ne (Ne.symm hj)] at e
   obtain ⟨b,vs,g1,g2,g3,g4,g5⟩:=r.ow j u e
   have hba:b ≠ a:=fun q=>by subst q; exact hne j u hj e g1
   exact ⟨b,vs,g1,by rw [upd_ne hba]; exact g2,g3,g4,g5.mono sm⟩
 ·have hj:j ≠ i:=fun q=>by subst q; rw [List.getElem?_set_self hi] at e1; cases e1
  have hk:k ≠ i:=fun q=>by subst q; rw [List.getElem?_set_self hi] at e2; cases e2
  rw [List.getElem?_set_ne (Ne.symm hj)] at e1
  rw [List.getElem?_set_ne (Ne.symm hk)] at e2
  exact r.ne j k us ws b hjk e1 e2 e3
 ·by_cases hj:j=i
  ·subst hj
   rw [List.getElem?_set_self hi] at e
   cases e
  ·rw [List.getElem?_set_ne (Ne.symm hj)] at e
   obtain ⟨b,oe,u,g1,g2,g3,g4⟩:=r.xc j C e
   have hba:b ≠ a:=fun q=>by subst q; rw [h4] at g3; exact hnf oe u (Option.some.inj g3)
   exact ⟨b,oe,u,g1,by rw [upd_ne hba]; exact g2,g3,g4⟩
theorem ss_frz (i:Nat) {st:List Stmt} (h:SVs X z st F):SVs X z st (sSeq (sFrz i) F):=PSs.imp h fun D σ H ⟨ρ,Hq,o,r,e,k⟩=>by
 unfold sSeq sFrz at e
 cases q:ρ[i]? with
 | none=>rw [q] at e; cases e
 | some x =>
   rw [q] at e
   cases x with
   | none=>cases e
   | some sl =>
     cases sl with
     | pu t=>cases e
     | xc C=>cases e
     | ob a c fl=>cases e
     | ro c fl=>cases e
     | ow ts =>
       obtain ⟨a,vs,h1,h2,h3,h4,h5⟩:=r.ow i ts q
       obtain ⟨r2,sm⟩:=r.frz (t:=.lst ts) h1 h2 h3 h4 (rep_lstNew h2 h5) (fun j us hj ej=>fun ea=>r.ne j i us ts a hj ej q ea h1) (fun _ _ q=>nomatch q)
       exact ⟨_,_,o,r2,e,k.from sm⟩
end
end TL
namespace TL
open PySem L2 SR
def bmVE:List Value:=[.type "ValueError",.type "Exception",.type "BaseException",.type "object"]
def isStrV:Value → Bool
 | .str _ _=>true
 | _=>false
def nsB (K:PySem.W.Frag) (N:Addr):Bool:=match K.lookup N with
 | some ⟨_,_,.dict es _,_⟩=>es.toList.all (fun e=>isStrV e.key) && (nsFind es "__init__").isNone
 | _=>false
def tailB (K:PySem.W.Frag):List Value → Bool
 | .ref A :: tl=>(match K.lookup A with | some ⟨_,_,.cls cd,_⟩=>nsB K cd.ns | _=>false) && tailB K tl
 | l=>l == bmVE
def excB (K:PySem.W.Frag) (C:Addr):Bool:=match K.lookup C with
 | some ⟨.type "type",_,.cls cd,sl⟩=>(match cd.mro,sl.toList with
   | .ref C' :: bm,[_,_,_,_,some (.builtin n),_]=>C' == C && !cd.hasDel && n == "ValueError.__new__" && nsB K cd.ns && tailB K bm
   | _,_=>false)
 | _=>false
theorem nsB_ns {K:PySem.W.Frag} {N:Addr} (q:nsB K N=true):∃ mN:Str → Option Value,mN "__init__"=none ∧ ∀ h:Heap,K.In h → h.Ns N mN:=by
 unfold nsB at q
 split at q
 ·rename_i c d es ep sl ho
  rw [Bool.and_eq_true] at q
  refine ⟨nsFind es,by simpa using q.2,fun h X=>⟨_,es,ep,X _ _ ho,rfl,fun e he=>?_,fun _=>rfl⟩⟩
  have:=List.all_eq_true.mp q.1 e (by simpa using he)
  unfold isStrV at this
  split at this
  ·rename_i n t ek; exact ⟨n,t,ek⟩
  ·cases this
 ·cases q
theorem tailB_ok {K:PySem.W.Frag} {h:Heap} (X:K.In h):∀ {tl:List Value},tailB K tl=true → OwnTail h bmVE tl
 | [],q=>by simp [tailB,bmVE] at q
 | v :: tl,q=>by
   unfold tailB at q
   split at q
   ·rename_i A tl' e
    injection e with e1 e2
    subst e1 e2
    rw [Bool.and_eq_true] at q
    have q1:=q.1
    split at q1
    ·rename_i c d cd sl ho
     obtain ⟨mN,h2,h1⟩:=nsB_ns q1
     exact .own (X _ _ ho) (h1 h X) h2 (tailB_ok X q.2)
    ·cases q1
   ·have:v :: tl=bmVE:=eq_of_beq q
    rw [this]; exact .base
theorem excB_ok {K:PySem.W.Frag} {C:Addr} (q:excB K C=true):∃ bm N nm qn bs hdct sn sub ab col dd k0 k1 k2 k3 k5,∃ mN:Str → Option Value,mN "__init__"=none ∧ ∀ h:Heap,K.In h →
  h.get? C=some (excClassObj nm qn C N bs bm hdct sn sub ab col dd k0 k1 k2 k3 k5 "ValueError.__new__") ∧ h.Ns N mN ∧ OwnTail h bmVE bm:=by
 unfold excB at q
 split at q
 ·rename_i dd cd sl ho
  split at q
  ·rename_i C' bm k0 k1 k2 k3 n k5 hm hs
   simp only [Bool.and_eq_true,beq_iff_eq,Bool.not_eq_true'] at q
   obtain ⟨⟨⟨⟨rfl,hdel⟩,hn⟩,hns⟩,ht⟩:=q
   obtain ⟨nm,bs,mro,ns,qn,hd,sn,sub,ab,col,del⟩:=cd
   dsimp only at hm hdel hns
   subst hm hdel hn
   have hsl:sl=#[k0,k1,k2,k3,some (.builtin "ValueError.__new__"),k5]:=by
    obtain ⟨l⟩:=sl
    simp only at hs
    rw [hs]
   subst hsl
   obtain ⟨mN,h2,h1⟩:=nsB_ns hns
   exact ⟨bm,ns,nm,qn,bs,hd,sn,sub,ab,col,dd,k0,k1,k2,k3,k5,mN,h2,fun h X=>⟨X _ _ ho,h1 h X,tailB_ok X ht⟩⟩
  ·cases q
 ·cases q
section
variable {X:Cx} {pins:List (Addr × Obj)} {σ:L2.St} {H:Hp} {s:Shared}
theorem wp_raise {x msg:Str} {C:Addr} {np cpos pos p:Pos} {j:Nat} {Q:Flow → Shared → Prop} (I:Inv X pins σ H s) (hc:X.calm=true) (hg:Gl X x) (hm:X.mg x=some (.ref C)) (hx:excB X.K C=true) (hd:(x == ("__debug__":Str))=false)
  (h:∀ s2 h' e v,Inv X pins σ H s2 → Heap.MadeExcOf s2.heap h' e (.ref C) [v] → X.xe (.ref e) { s2 with heap:=h' }) :
  wpAny (model X.prog X.w) X.A (exec (.Raise (some (.Call (.Name x np) [.Constant (.str msg) j p] [] cpos)) none pos) X.env) Q X.xe s:=by
 obtain ⟨bm,N,nm,qn,bs,hdct,sn,sub,ab,col,dd,k0,k1,k2,k3,k5,mN,hni,all⟩:=excB_ok hx
 refine wpAny_Raise_call_subT (C:=C) (nm:=nm) (q:=qn) (N:=N) (bs:=bs) (bm:=bm) (hdct:=hdct) (sn:=sn) (sub:=sub) (ab:=ab) (col:=col) (dd:=dd) (k0:=k0) (k1:=k1) (k2:=k2) (k3:=k3) (k5:=k5)
  PySem.F.excBase_ValueError (mN:=mN) ((all s.heap I.kIn).2.2.hasType PySem.F.excBase_ValueError.hasBase) (I.ok.hd hc) rfl hni ?_
 refine thn (pe_glob (pos:=np) (v:=.ref C) hg hm rfl hd pins s σ H (fun v H1=>v=.ref C ∧ H1=H) I ⟨rfl,rfl⟩) fun u s1 ⟨v,H1,I1,r1,ev,eh⟩=>?_
 subst ev eh
 refine ⟨r1,?_⟩
 refine Calls.evalArgs_plain (Calls.spliced_cons (thn (pe_str (X:=X) (x:=msg) (j:=j) (pos:=p) pins s1 σ H1 (fun v H2=>H2=H1) I1 rfl) fun u2 s2 ⟨v2,H2,I2,r2,eh2⟩=>Calls.spliced_nil ?_))
 subst eh2
 obtain ⟨c1,c2,c3⟩:=all s2.heap I2.kIn
 exact ⟨rfl,by rw [sizeLine_eq]; simp,c1,c2,c3,fun h' e me=>h s2 h' e u2 I2 me⟩
structure Chg (S:List Addr) (N:Addr → Prop) (h h':Heap):Prop where
 keep:∀ b o,h.get? b=some o → ¬ N b → b ∉ S → h'.get? b=some o
 slot:∀ b o,h.get? b=some o → b ∈ S → ¬ N b → ∃ sl,h'.get? b=some { o with slots:=sl }
theorem Chg.trans {S:List Addr} {N:Addr → Prop} {h1 h2 h3:Heap} (x:Chg S N h1 h2) (y:Chg S N h2 h3):Chg S N h1 h3 :=
 ⟨fun b o e n hb=>y.keep b o (x.keep b o e n hb) n hb,fun b o e hb n=>by
  obtain ⟨_,e1⟩:=x.slot b o e hb n
  obtain ⟨sl,e2⟩:=y.slot b _ e1 hb n
  exact ⟨sl,e2⟩⟩
theorem Chg.there {S:List Addr} {N:Addr → Prop} {h1 h2:Heap} (x:Chg S N h1 h2) {b:Addr} {o:Obj} (e:h1.get? b=some o) (n:¬ N b):∃ sl,h2.get? b=some { o with slots:=sl }:=by
 by_cases hb:b ∈ S
 ·exact x.slot b o e hb n
 ·exact ⟨o.slots,x.keep b o e n hb⟩
def Flt (N:Addr → Prop) (ea C:Addr) (fl:Value) (h:Heap):Prop:=N ea ∧ ∃ oe vs T oT ts,h.get? ea=some oe ∧ (oe.cls=.ref C ∧ oe.dict=none) ∧ oe.data=.fields vs ∧ vs[1]?=some (.ref T) ∧ vs[2]?=some .none ∧ T ≠ ea ∧ N T ∧ h.get? T=some oT ∧ oT.data=.fields ts ∧ ts[3]?=some fl
theorem dict_mapFields (f:Array Value → Array Value):∀ o:Obj,(Obj.mapFields f o).dict=o.dict
 | ⟨c,d,dt,sl⟩=>by cases dt <;> rfl
theorem wp_note {M:Model} {A:Around} {E':Value → Shared → Prop} {base:Heap} {env:Env} {outer:List Env} {N:Addr → Prop} {L ea C:Addr} {oe:Obj} {vs:Array Value} {hd:Value} {hn:Bool} {Q:Unit → Shared → Prop}
  (fr:A.frames=some (env :: outer)) (fl:s.heap.FunFrames base (env :: outer)) (ef:env.frame=some L) (hN:∀ b,s.heap.get? b=none → N b) (ne:N ea) (he:s.heap.get? ea=some oe) (hc:oe.cls=.ref C ∧ oe.dict=none) (hv:oe.data=.fields vs) (h1:1 < vs.size) (h2:vs[2]?=some .none)
  (q:∀ h',Flt N ea C (rawInt L) h' → Chg (frs (env :: outer)) N s.heap h' → Q () { s with heap:=h' }) :
  wpAny M A (do let a ← frameOf env; let pl ← entryPlaceOf L hn; let b ← EntryCells.newEntry hd a .none (rawInt L) .none pl; setField (.ref ea) 1 b) Q E' s:=by
 refine wpAny_bind (wpAny_frameOf_fun fr fl ef fun k so=>?_)
 refine wpAny_bind (wpAny_entryPlaceOf fun pl hpl=>?_)
 unfold EntryCells.newEntry newFields
 refine wpAny_bind (wpAny_newObj_type ?_ (hpl.sizeOk5 _ _ _ _ _))
 have nf:ea ∉ frs (env :: outer):=fun z=>by
  obtain ⟨_,o,e1,e2⟩:=fl.mem z
  rw [he] at e1
  cases e1
  exact e2 _ hv
 have k1:k.get? ea=some oe:=(so.2.1 ea nf).trans he
 have nT:k.objs.size ≠ ea:=Nat.ne_of_gt (Heap.lt_size k1)
 generalize hob:({ cls:=.type "traceback",dict:=none,data:=.fields ([hd,.ref L,.none,rawInt L,.none] ++ (if pl.isEmpty then List.replicate 6 Value.none else pl)).toArray }:Obj)=ob
 refine wpAny_setField (o:=oe) (Heap.get?_push_of_some _ k1) hv h1 (q _ ?_ ?_)
 ·have d3:=Obj.data_mapFields hv (·.setIfInBounds 1 (Value.ref k.objs.size))
  refine ⟨ne,_,_,k.objs.size,ob,([hd,.ref L,.none,rawInt L,.none] ++ (if pl.isEmpty then List.replicate 6 Value.none else pl)).toArray,Heap.get?_update_self _ (Heap.get?_push_of_some _ k1) (Obj.isFreed_of_fields d3),⟨(Obj.cls_mapFields _ _).trans hc.1,(dict_mapFields _ _).trans hc.2⟩,d3,by simp [h1],?_,nT,hN _ ?_,?_,by rw [← hob],?_⟩
  ·rw [Array.getElem?_setIfInBounds_ne (by decide)]; exact h2
  ·rw [show k.objs.size=s.heap.objs.size from so.1]; exact Heap.get?_none_of_le (Nat.le_refl _)
  ·rw [Heap.get?_update_other _ _ (Ne.symm nT),← hob]; exact Heap.get?_push_size _ rfl
  ·first | (simp; done) | (rcases hpl with rfl | ⟨_,_,_,_,_,_,_,rfl⟩ <;> simp)
 ·refine ⟨fun b o e n hb=>?_,fun b o e hb n=>?_⟩
  ·rw [Heap.get?_update_other _ _ (fun z:ea=b=>n (z ▸ ne))]
   exact Heap.get?_push_of_some _ ((so.2.1 b hb).trans e)
  ·obtain ⟨sl,e1⟩:=so.2.2 b o e
   refine ⟨sl,?_⟩
   rw [Heap.get?_update_other _ _ (fun z:ea=b=>n (z ▸ ne))]
   exact Heap.get?_push_of_some _ e1
theorem wp_land {M:Model} {A:Around} {E':Value → Shared → Prop} {S:List Addr} {N:Addr → Prop} {ea C:Addr} {fl:Value} {Q:Unit → Shared → Prop} (f:Flt N ea C fl s.heap) (q:∀ h',Flt N ea C .none h' → Chg S N s.heap h' → Q () { s with heap:=h' }) :
  wpAny M A (setFlight (.ref ea) none) Q E' s:=by
 obtain ⟨ne,oe,vs,T,oT,ts,e1,e2,e3,e4,e5,e6,e7,e8,e9,e10⟩:=f
 have sz:3 < ts.size:=(Array.getElem?_eq_some_iff.mp e10).1
 unfold setFlight
 refine wpAny_bind (wpAny_field e1 e3 e4 ?_)
 rw [if_pos (show (Value.ref T != Value.none)=true by simp)]
 have d:=Obj.data_mapFields e9 (·.setIfInBounds 3 ((none:Option Addr).elim Value.none fun f=>rawInt f))
 refine wpAny_setField e8 e9 sz (q _ ⟨ne,oe,vs,T,_,_,?_,e2,e3,e4,e5,e6,e7,Heap.get?_update_self _ e8 (Obj.isFreed_of_fields d),d,by simp [sz]⟩ ⟨fun b o e n _=>?_,fun b o e _ n=>⟨o.slots,?_⟩⟩)
 ·rw [Heap.get?_update_other _ _ e6]; exact e1
 ·rw [Heap.get?_update_other _ _ (fun z:T=b=>n (z ▸ e7))]; exact e
 ·rw [Heap.get?_update_other _ _ (fun z:T=b=>n (z ▸ e7))]; exact e
theorem wp_look {M:Model} {A:Around} {E':Value → Shared → Prop} {base:Heap} {env:Env} {outer:List Env} {N:Addr → Prop} {L ea C:Addr} {Q:Unit → Shared → Prop}
  (fr:A.frames=some (env :: outer)) (fl:s.heap.FunFrames base (env :: outer)) (ef:env.frame=some L) (hN:∀ b,s.heap.get? b=none → N b) (f:Flt N ea C .none s.heap)
  (q:∀ h',Flt N ea C (rawInt L) h' → Chg (frs (env :: outer)) N s.heap h' → Q () { s with heap:=h' }):wpAny M A (noteFrame (.ref ea) env) Q E' s:=by
 obtain ⟨ne,oe,vs,T,oT,ts,e1,e2,e3,e4,e5,e6,e7,e8,e9,e10⟩:=f
 have sz:3 < ts.size:=(Array.getElem?_eq_some_iff.mp e10).1
 unfold noteFrame
 simp only [ef]
 refine wpAny_bind (wpAny_field e1 e3 e4 ?_)
 rw [if_pos (show (Value.ref T != Value.none)=true by simp)]
 refine wpAny_bind (wpAny_field e8 e9 e10 ?_)
 rw [if_neg (show ¬ ((Value.none == rawInt L)=true) by simp [rawInt])]
 refine wpAny_bind (wpAny_setField e8 e9 sz ?_)
 have oth:∀ b,b ≠ T → (s.heap.update T (Obj.mapFields (·.setIfInBounds 3 Value.none))).get? b=s.heap.get? b:=fun b hb=>Heap.get?_update_other _ _ (Ne.symm hb)
 refine wp_note (base:=base) fr (fl.of_keeps fun b o e n=>⟨o,(oth b fun z=>?_).trans e,rfl⟩) ef (fun b e=>?_) ne ((oth ea (Ne.symm e6)).trans e1) e2 e3 (Array.getElem?_eq_some_iff.mp e4).1 e5 fun h' f' c'=>q h' f' ⟨fun b o e n hb=>c'.keep b o ((oth b fun z=>n (z ▸ e7)).trans e) n hb,fun b o e hb n=>c'.slot b o ((oth b fun z=>n (z ▸ e7)).trans e) hb n⟩
 ·rw [z,e8] at e; cases e; exact n _ e9
 ·by_cases z:b=T
  ·rw [z]; exact e7
  ·exact hN b (by rw [← oth b z]; exact e)
def CX1 (P:Program) (w:World):CXT:=fun outer H s E e s'=>∃ (ea C:Addr) (H':Hp),e=.ref ea ∧ s'.os=s.os ∧ PyProof.Rows.AllBare s'.gens ∧ Un (frs outer) [] H H' s.heap s'.heap ∧ HOk P w H' s'.heap ∧
 Flt (fun b=>s.heap.get? b=none ∧ H' b=none) ea C .none s'.heap ∧ E (.ref ea) (some C) H'
theorem ObjOk_there {P:Program} {w:World} {H:Hp} {h:Heap} {a:Addr}:∀ {o:HO},ObjOk P w H h a o → ∃ u,h.get? a=some u
 | .lst _,⟨_,_,_,_,e⟩=>⟨_,e⟩
 | .tup _,⟨_,_,_,_,e,_⟩=>⟨_,e⟩
 | .dK _,⟨_,_,_,_,_,_,_,e,_⟩=>⟨_,e⟩
 | .dT _,⟨_,_,_,_,_,_,_,e,_⟩=>⟨_,e⟩
 | .set _ _,⟨_,_,_,_,e,_⟩=>⟨_,e⟩
 | .ins _ _ _,⟨_,_,_,e,_⟩=>⟨_,e⟩
 | .own _,⟨_,e⟩=>⟨_,e⟩
 | .xd _,⟨_,⟨_,_,_,e,_⟩,_⟩=>⟨_,e⟩
 | .met _ _,x=>⟨_,(show h.get? a=some _ from x)⟩
 | .rng _ _,⟨_,_,_,e⟩=>⟨_,e⟩
 | .frz _ _,⟨e,_⟩=>⟨_,e⟩
 | .tbl _,x=>⟨_,(show h.get? a=some _ from x)⟩
 | .ext _,⟨_,⟨_,e⟩,_⟩=>⟨_,e⟩
theorem wp_leave {h':Heap} {e C:Addr} {vs:List Value} {E:XK} {M:Model} {E':Value → Shared → Prop} (I:Inv X pins σ H s) (hst:X.stack=X.env :: X.outer) (hf:X.env.frame=some X.env.locals) (hex:X.ex=[]) (hx:Heap.MadeExcOf s.heap h' e (.ref C) vs) (hE:E (.ref e) (some C) H) :
  wpAny M X.A (leaving X.env (.ref e)) (fun _ s''=>CX1 X.prog X.w X.outer X.H₀ X.s₀ E (.ref e) s'') E' { s with heap:=h' }:=by
 have nex:∀ b,b ∉ X.ex:=fun b=>by rw [hex]; simp
 have frm:X.A.frames=some (X.env :: X.outer):=by rw [I.ok.frames,hst]
 have stk:=I.stack
 rw [hst] at stk
 have nw:∀ b,s.heap.get? b=none → X.s₀.heap.get? b=none ∧ H b=none:=fun b hb=>by
  constructor
  ·cases q:X.s₀.heap.get? b with
   | none=>rfl
   | some u =>
     obtain ⟨v,hv⟩:=I.base.there b u q (nex b)
     rw [hb] at hv; cases hv
  ·cases q:H b with
   | none=>rfl
   | some u =>
     obtain ⟨v,hv⟩:=ObjOk_there (I.hok b u q)
     rw [hb] at hv; cases hv
 obtain ⟨t,et,_⟩:=hx.there
 unfold leaving noteFrame
 simp only [hf]
 refine wpAny_bind (wpAny_bind (wpAny_field et rfl (x:=.none) rfl ?_))
 rw [if_neg (by decide)]
 refine wp_note (base:=X.base) (N:=fun b=>X.s₀.heap.get? b=none ∧ H b=none) (C:=C) frm (stk.of_keeps fun b o q _=>⟨o,hx.keeps b o q,rfl⟩) hf (fun b q=>nw b ?_) (nw e hx.new) et ⟨rfl,rfl⟩ rfl (by simp) rfl fun h1 f1 c1=>?_
 ·cases z:s.heap.get? b with
  | none=>rfl
  | some u=>rw [show h'.get? b=some u from hx.keeps b u z] at q; cases q
 refine wp_land (S:=frs (X.env :: X.outer)) f1 fun h2 f2 c2=>?_
 have c3:Chg (frs (X.env :: X.outer)) (fun b=>X.s₀.heap.get? b=none ∧ H b=none) h' h2:=c1.trans c2
 have old:∀ b o,X.s₀.heap.get? b=some o → ¬ (X.s₀.heap.get? b=none ∧ H b=none):=fun b o q z=>by rw [q] at z; cases z.1
 have trk:∀ b,H b ≠ none → b ∉ frs (X.env :: X.outer):=fun b hb hm=>hb (I.stkFree b (by rw [hst]; exact hm))
 have hsub:∀ b o,X.s₀.heap.get? b=some o → b ∉ X.fs → b ∉ frs (X.env :: X.outer):=fun b o q hb hm=>by
  obtain ⟨env,he,hfr⟩:=List.mem_filterMap.mp hm
  rcases List.mem_cons.mp he with rfl | he
  ·rw [hf] at hfr
   have hlt:=Heap.lt_size q
   rw [← Option.some.inj hfr] at hlt
   exact absurd (Nat.lt_of_lt_of_le hlt I.ok.above) (Nat.lt_irrefl _)
  ·exact hb (List.mem_filterMap.mpr ⟨env,he,hfr⟩)
 refine ⟨e,C,H,rfl,I.os,I.bare,⟨fun b o q n hb _=>?_,fun b o q n hb _=>?_,fun b o q n _=>I.base.free b o q n (nex b),fun b o q _=>?_,I.base.tups,I.base.frzs,I.base.tbls⟩,?_,f2,hE⟩
 ·exact c3.keep b o (hx.keeps b o (I.base.keep b o q n hb (nex b))) (old b o q) (hsub b o q hb)
 ·obtain ⟨sl,e1⟩:=I.base.slot b o q n hb (nex b)
  obtain ⟨sl',e2⟩:=c3.there (hx.keeps b _ e1) (old b o q)
  exact ⟨sl',e2⟩
 ·obtain ⟨o',e1⟩:=I.base.there b o q (nex b)
  obtain ⟨sl,e2⟩:=c3.there (hx.keeps b _ e1) (old b o q)
  exact ⟨_,e2⟩
 ·intro a u ha
  refine (I.hok a u ha).stay (fun b v hb q=>?_) (fun _ q=>q) (fun _ _ q=>q)
  have hn:H b ≠ none:=by
   rcases hb with rfl | hb
   ·rw [ha]; simp
   ·rw [hb]; simp
  exact c3.keep b v (hx.keeps b v q) (fun z=>hn z.2) (trk b hn)
theorem fly_inv {s':Shared} {H':Hp} {h5:Heap} (I:Inv X pins σ H s) (os:s'.os=s.os) (bare:PyProof.Rows.AllBare s'.gens) (un:Un (frs X.stack) [] H H' s.heap s'.heap) (hok:HOk X.prog X.w H' s'.heap)
  (c:Chg (frs X.stack) (fun b=>s.heap.get? b=none ∧ H' b=none) s'.heap h5):Inv X pins σ H' { s' with heap:=h5 }:=by
 have noE:∀ b:Addr,b ∉ ([]:List Addr):=fun b=>by simp
 have fr0:∀ b ∈ frs X.stack,∃ o,s.heap.get? b=some o ∧ ∀ vs,o.data ≠ .fields vs:=fun b hb=>(I.stack.mem hb).2
 have old:∀ b o,s.heap.get? b=some o → ¬ (s.heap.get? b=none ∧ H' b=none):=fun b o q z=>by rw [q] at z; cases z.1
 have trk:∀ b,H' b ≠ none → b ∉ frs X.stack:=fun b hb hm=>by
  obtain ⟨o,ho,_⟩:=fr0 b hm
  exact hb (un.free b o ho (I.stkFree b hm) (noE b))
 refine I.call' os ⟨fun b o q n hb _=>?_,fun b o q n hb _=>?_,un.free,fun b o q _=>?_,un.tups,un.frzs,un.tbls⟩ ?_ bare (fun b z=>absurd z (noE b))
 ·exact c.keep b o (un.keep b o q n hb (noE b)) (old b o q) hb
 ·obtain ⟨sl,e1⟩:=un.slot b o q n hb (noE b)
  obtain ⟨sl',e2⟩:=c.there e1 (old b o q)
  exact ⟨sl',e2⟩
 ·obtain ⟨o',e1⟩:=un.there b o q (noE b)
  obtain ⟨sl,e2⟩:=c.there e1 (old b o q)
  exact ⟨_,e2⟩
 ·intro a u ha
  refine (hok a u ha).stay (fun b v hb q=>?_) (fun _ q=>q) (fun _ _ q=>q)
  have hn:H' b ≠ none:=by
   rcases hb with rfl | hb
   ·rw [ha]; simp
   ·rw [hb]; simp
  exact c.keep b v q (fun z=>hn z.2) (trk b hn)
abbrev markCx (X:Cx) (ea:Addr) (E:Value → Shared → Prop):Cx:={ X with A:=X.A.mark (some (.ref ea)),calm:=false,xe:=E }
theorem mark_inv {ea:Addr} {E:Value → Shared → Prop} (I:Inv X pins σ H s):Inv (markCx X ea E) pins σ H s :=
 ⟨⟨I.ok.mod,I.ok.kind,I.ok.glob,I.ok.blt,I.ok.above,I.ok.inj,I.ok.has,I.ok.cab,(fun z=>nomatch z),I.ok.frames,I.ok.stk,I.ok.exf,I.ok.bs,I.ok.bsz,I.ok.noex,I.ok.exfs,I.ok.funs,I.ok.frf⟩,I.os,I.bare,I.base,I.loc,I.cell,I.free,I.freeC,I.pin,I.hok,I.len⟩
abbrev suiteCx (X:Cx) (ea:Addr) (oe:Obj) (E:Value → Shared → Prop):Cx:={ X with A:=X.A.mark (some (.ref ea)),calm:=false,xe:=E,H₀:=upd X.H₀ ea (.frz oe (.own ea)) }
theorem suite_inv {ea:Addr} {oe:Obj} {E:Value → Shared → Prop} (I:Inv X pins σ H s) (n0:X.s₀.heap.get? ea=none) (he:H ea=some (.frz oe (.own ea))):Inv (suiteCx X ea oe E) pins σ H s:=by
 have ne:∀ b o,X.s₀.heap.get? b=some o → b ≠ ea:=fun b o q z=>by rw [z,n0] at q; cases q
 have up:∀ b,b ≠ ea → (suiteCx X ea oe E).H₀ b=X.H₀ b:=fun b z=>upd_ne z
 have us:(suiteCx X ea oe E).H₀ ea=some (.frz oe (.own ea)):=upd_same
 refine ⟨⟨I.ok.mod,I.ok.kind,I.ok.glob,I.ok.blt,I.ok.above,I.ok.inj,I.ok.has,I.ok.cab,(fun z=>nomatch z),I.ok.frames,I.ok.stk,I.ok.exf,fun b o q=>⟨(I.ok.bs b o q).1,?_⟩,I.ok.bsz,I.ok.noex,I.ok.exfs,I.ok.funs,fun b hb=>?_⟩,I.os,I.bare,⟨fun b o q n=>I.base.keep b o q ((up b (ne b o q)).symm.trans n),fun b o q n=>I.base.slot b o q ((up b (ne b o q)).symm.trans n),fun b o q n=>I.base.free b o q ((up b (ne b o q)).symm.trans n),I.base.there,fun b xs q=>?_,fun b o u q=>?_,fun b ps q=>?_⟩,I.loc,I.cell,I.free,I.freeC,I.pin,I.hok,I.len⟩
 ·exact (up b (ne b o (I.ok.bs b o q).1)).trans (I.ok.bs b o q).2
 ·obtain ⟨_,o,q,_⟩:=I.ok.funs.mem hb
  exact (up b (ne b o q)).trans (I.ok.frf b hb)
 ·by_cases z:b=ea
  ·rw [z,us] at q; cases q
  ·exact I.base.tups b xs ((up b z).symm.trans q)
 ·by_cases z:b=ea
  ·rw [z,us] at q; cases q; rw [z]; exact he
  ·exact I.base.frzs b o u ((up b z).symm.trans q)
 ·by_cases z:b=ea
  ·rw [z,us] at q; cases q
  ·exact I.base.tbls b ps ((up b z).symm.trans q)
theorem un_suite {ea:Addr} {oe:Obj} {E:Value → Shared → Prop} {pins0:List (Addr × Obj)} {σ0:L2.St} {H0:Hp} {s0:Shared} (I0:Inv X pins0 σ0 H0 s0) (n0:X.s₀.heap.get? ea=none) (h0:H0 ea=none) (I:Inv (suiteCx X ea oe E) pins σ H s):Inv X pins σ H s:=by
 have ne:∀ b o,X.s₀.heap.get? b=some o → b ≠ ea:=fun b o q z=>by rw [z,n0] at q; cases q
 have up:∀ b,b ≠ ea → (suiteCx X ea oe E).H₀ b=X.H₀ b:=fun b z=>upd_ne z
 refine ⟨I0.ok,I.os,I.bare,⟨fun b o q n=>I.base.keep b o q (by rw [up b (ne b o q)]; exact n),fun b o q n=>I.base.slot b o q (by rw [up b (ne b o q)]; exact n),fun b o q n=>I.base.free b o q (by rw [up b (ne b o q)]; exact n),I.base.there,fun b xs q=>I.base.tups b xs ((up b ?_).trans q),fun b o u q=>I.base.frzs b o u ((up b ?_).trans q),fun b ps q=>I.base.tbls b ps ((up b ?_).trans q)⟩,I.loc,I.cell,I.free,I.freeC,I.pin,I.hok,I.len⟩
 ·rintro rfl; rw [I0.base.tups _ _ q] at h0; cases h0
 ·rintro rfl; rw [I0.base.frzs _ _ _ q] at h0; cases h0
 ·rintro rfl; obtain ⟨m,e⟩:=I0.base.tbls _ _ q; rw [e] at h0; cases h0
def spX (K:PySem.W.Frag) (n:Nat) (G:List T → Bool) (C:Addr):Sp:=fun vs H _ E=>∃ Hq ts,ts.length=n ∧ Same Hq H ∧ RepL K Hq ts vs ∧ G ts=true ∧ ∀ ea H',Same H H' → E (.ref ea) (some C) H'
def HasX (P:Program) (w:World) (K:PySem.W.Frag) (mg:Str → Option Value) (base:Heap) (x:Str) (k n:Nat) (G:List T → Bool) (c:Str):Prop :=
 ∃ a fd ps,ps.length=n ∧ FnOk P w K mg base (CX1 P w) k a fd ps (spX K n G (clsAt K c)) ∧ mg x=some (.ref a) ∧ PySem.W.keepIn K (.ref a)=true ∧ Binds K fd ps []
def Lands (X:Cx) (pins:List (Addr × Obj)) (kx:Addr → L2.St → Hp → Prop):Prop :=
 ∀ (σ:L2.St) (H:Hp) (s:Shared) (C:Addr) (e:Value) (s':Shared),Inv X pins σ H s → CX1 X.prog X.w X.stack H s (fun _ c H'=>c=some C ∧ kx C σ H') e s' → X.xe e s'
theorem inv_wish {E:Value → Shared → Prop} (I:Inv X pins σ H s):Inv (X.wish E) pins σ H s :=
 ⟨⟨I.ok.mod,I.ok.kind,I.ok.glob,I.ok.blt,I.ok.above,I.ok.inj,I.ok.has,I.ok.cab,I.ok.hd,I.ok.frames,I.ok.stk,I.ok.exf,I.ok.bs,I.ok.bsz,I.ok.noex,I.ok.exfs,I.ok.funs,I.ok.frf⟩,I.os,I.bare,I.base,I.loc,I.cell,I.free,I.freeC,I.pin,I.hok,I.len⟩
theorem of_wish {E:Value → Shared → Prop} (I:Inv (X.wish E) pins σ H s):Inv X pins σ H s :=
 ⟨⟨I.ok.mod,I.ok.kind,I.ok.glob,I.ok.blt,I.ok.above,I.ok.inj,I.ok.has,I.ok.cab,I.ok.hd,I.ok.frames,I.ok.stk,I.ok.exf,I.ok.bs,I.ok.bsz,I.ok.noex,I.ok.exfs,I.ok.funs,I.ok.frf⟩,I.os,I.bare,I.base,I.loc,I.cell,I.free,I.freeC,I.pin,I.hok,I.len⟩
inductive OutX where
 | ok (o:Out) | xc (ρ:Rho) (c:Str)
abbrev FX:=Rho → Option OutX
def FinX (z:Z) (kx:Addr → L2.St → Hp → Prop) (Hq:Hp) (D:Ends):OutX → Prop
 | .ok o=>Fin z Hq D o
 | .xc ρ' c=>∀ σ' Hq' H',Rn z σ' ρ' Hq' H' → Same Hq Hq' → kx (clsAt z.K c) σ' H'
def tX (z:Z) (F:FX) (kx:Addr → L2.St → Hp → Prop):TS:=fun D σ H=>∃ ρ Hq o,Rn z σ ρ Hq H ∧ F ρ=some o ∧ FinX z kx Hq D o
def XV (X:Cx) (pins:List (Addr × Obj)) (kx:Addr → L2.St → Hp → Prop) (z:Z) (st:Stmt) (F:FX):Prop:=∀ s σ H D,Inv X pins σ H s → tX z F kx D σ H → wpAny (model X.prog X.w) X.A (exec st X.env) (SP X pins D) X.xe s
def XVs (X:Cx) (pins:List (Addr × Obj)) (kx:Addr → L2.St → Hp → Prop) (z:Z) (st:List Stmt) (F:FX):Prop:=∀ s σ H D,Inv X pins σ H s → tX z F kx D σ H → wpAny (model X.prog X.w) X.A (execs st X.env) (SP X pins D) X.xe s
theorem x_one {z:Z} {kx:Addr → L2.St → Hp → Prop} {st:Stmt} {F:FX} (h:XV X pins kx z st F):XVs X pins kx z [st] F:=by
 intro s σ H D I q
 refine wpAny_execs_cons (thn (h s σ H D I q) fun f s1 q=>?_)
 cases f with
 | next=>exact wpAny_execs_nil q
 | ret v=>exact q
 | brk=>exact q
 | cont=>exact q
def xIf (ft:FT) (F G:FX):FX:=fun ρ=>match ft ρ with | some true=>F ρ | some false=>G ρ | none=>none
theorem x_if {z:Z} {kx:Addr → L2.St → Hp → Prop} {c:Expr} {a b:List Stmt} {ft:FT} {F G:FX} {pos:Pos} (hc:ET X z c ft) (ha:XVs X pins kx z a F) (hb:XVs X pins kx z b G):XV X pins kx z (.If c a b pos) (xIf ft F G):=by
 intro s σ H D I ⟨ρ,Hq,o,r,ef,k⟩
 have kf:∀ Hq1,Same Hq Hq1 → FinX z kx Hq1 D o:=fun Hq1 sm=>by
  cases o with
  | ok o=>exact Fin.from k sm
  | xc ρ' C=>exact fun σ' Hq' H' r' sm'=>k σ' Hq' H' r' (sm.trans sm')
 unfold xIf at ef
 split at ef
 ·rename_i q
  refine wpAny_If (thn (hc pins s σ H (fun b H1=>b=true ∧ ∃ Hq1,Ex Hq H Hq1 H1) I ⟨ρ,Hq,true,r,q,fun Hq1 H1 x1=>⟨rfl,Hq1,x1⟩⟩) fun d s1 ⟨H1,I1,ed,Hq1,x1⟩=>?_)
  subst ed
  exact ha s1 σ H1 D I1 ⟨ρ,Hq1,o,r.ext x1,ef,kf Hq1 x1.q⟩
 ·rename_i q
  refine wpAny_If (thn (hc pins s σ H (fun b H1=>b=false ∧ ∃ Hq1,Ex Hq H Hq1 H1) I ⟨ρ,Hq,false,r,q,fun Hq1 H1 x1=>⟨rfl,Hq1,x1⟩⟩) fun d s1 ⟨H1,I1,ed,Hq1,x1⟩=>?_)
  subst ed
  exact hb s1 σ H1 D I1 ⟨ρ,Hq1,o,r.ext x1,ef,kf Hq1 x1.q⟩
 ·cases ef
theorem name_gone {M:Model} {A:Around} {E:Value → Shared → Prop} {i:Nat} {x:Str} {pos:Pos} {Q:Unit → Shared → Prop} (I:Inv X pins σ H s) (hN:X.N.Nodup) (hi:X.N[i]?=some x) (hk:X.env.scope.names.lookup x=some .local)
  (h:∀ s',Inv X pins (σ.set i none) H s' → Q () s'):wpAny M A (do bindName X.env x .none; unbindBehindTheSuite X.env x pos) Q E s:=by
 obtain ⟨m,hn,hl⟩:=id I.loc
 have hcls:(X.env.scope.kind == .class || (X.env.scope.kind == .module && X.env.locals != X.env.globals))=false:=by rw [I.ok.kind]; rfl
 have hiσ:i < σ.length:=by rw [I.len]; exact (List.getElem?_eq_some_iff.mp hi).1
 have cne:=I.cne
 refine wpAny_nameGoes_keeps hk hn hcls fun h' v hn' hs=>?_
 obtain ⟨oL,_,_,hoL,_⟩:=id hn
 refine h _ ⟨I.ok,I.os,I.bare,⟨fun b o e n hb hx=>?_,fun b o e n hb hx=>?_,I.base.free,fun b o e hx=>?_,I.base.tups,I.base.frzs,I.base.tbls⟩,⟨_,hn',fun j y v' e1 e2 e3=>?_⟩,fun y c e=>?_,I.free,I.freeC,fun p hp=>?_,fun b ob e=>?_,by rw [List.length_set]; exact I.len⟩
 ·exact (hs.2 b (Nat.ne_of_lt (Nat.lt_of_lt_of_le (Heap.lt_size e) I.ok.above))).trans (I.base.keep b o e n hb hx)
 ·obtain ⟨sl,e1⟩:=I.base.slot b o e n hb hx
  exact ⟨sl,(hs.2 b (Nat.ne_of_lt (Nat.lt_of_lt_of_le (Heap.lt_size e) I.ok.above))).trans e1⟩
 ·obtain ⟨o',e1⟩:=I.base.there b o e hx
  exact ⟨o',(hs.2 b (Nat.ne_of_lt (Nat.lt_of_lt_of_le (Heap.lt_size e) I.ok.above))).trans e1⟩
 ·by_cases hj:j=i
  ·subst hj
   rw [List.getElem?_set_self hiσ] at e2
   cases e2
  ·rw [List.getElem?_set_ne (Ne.symm hj)] at e2
   obtain ⟨u',r',q⟩:=hl j y v' e1 e2 e3
   refine ⟨u',r',?_⟩
   rcases q with ⟨k,e⟩ | ⟨k,c,e,z⟩
   ·refine .inl ⟨k,?_⟩
    have:y ≠ x:=fun e=>hj (nodup_ix hN e1 (e ▸ hi))
    simp [this,e]
   ·exact .inr ⟨k,c,e,z.sameBut hs (cne y c e)⟩
 ·obtain ⟨w',z⟩:=I.cell y c e
  exact ⟨w',z.sameBut hs (cne y c e)⟩
 ·obtain ⟨e,n,ne,nf,d⟩:=I.pin p hp
  exact ⟨(hs.2 p.1 ne).trans e,n,ne,nf,d⟩
 ·refine (I.hok b ob e).stay (fun c w' hc q=>(hs.2 c ?_).trans q) (fun _ q=>q) fun _ _ q=>q
  rintro rfl
  rcases hc with rfl | hc
  ·rw [I.free] at e; cases e
  ·rw [I.free] at hc; cases hc
end
end TL
namespace TL
open PySem L2 SR
theorem entry_unchain:entryFor table "proto.unchain"=some Builtin.«proto.unchain»:=entryFor_of_fast (by kernel_rfl)
theorem next_end_x {prog:Program} {w:World} {A:Around} {E:Value → Shared → Prop} {s:Shared} {it l ea:Addr} {i:Nat} {oe:Obj} {vs:Array Value} {items:Array Value} {Q:Option Value → Shared → Prop} (hh:A.handled=some (.ref ea)) (he:s.heap.get? ea=some oe) (hv:oe.data=.fields vs) (h2:vs[2]?=some .none) (hn:ea ≠ it)
  (hit:s.heap.IsListIter it l i) (hl:s.heap.IsList l items) (hx:items[i]?=none) (hQ:∀ h',Heap.ExtBut it s.heap h' → Q none { s with heap:=h' }):wpAny (model prog w) A (pyNext (.ref it)) Q E s:=by
 obtain ⟨o,ho,hc,hd⟩:=id hit
 obtain ⟨ol,hol,_,nl,hdl⟩:=hl
 unfold pyNext
 refine wpAny_bind (wpAny_attempt (wpAny_callSpecial?_slot (name:=Str.ofString "__next__") hit.typeIs slot_listiter_next (wpAny_call_entry slot_listiter_next hit.typeIs entry_listiter_next ?_ (args_listiter_next _))))
 refine wpAny_bind (m:=field (.ref it) 0) (wpAny_field ho hd (x:=.ref l) rfl ?_)
 show wpAny _ _ (if (Value.ref l == Value.none)=true then _ else _) _ _ s
 rw [if_neg (by simp)]
 refine wpAny_bind (m:=field (.ref it) 1) (wpAny_field ho hd (x:=.int i 0) rfl ?_)
 refine wpAny_bind (m:=seqItems? (.ref l)) (wpAny_seqItems hol hdl ?_)
 simp only [Int.toNat_natCast,hx]
 refine wpAny_bind (wpAny_rule (wpAny_bind (wpAny_setField ho hd (by simp) ?_)))
 refine wpAny_bind (m:=newExc (.type "StopIteration") []) ?_
 simp only [newExc,newTuple]
 refine wpAny_bind (wpAny_newObj_type ?_ (by size_fits))
 refine wpAny_bind (m:=firstArgMember _ _) (wpAny_of_eq (a:=Value.none) (by first | rfl | (simp only [firstArgMember]; rfl)) ?_)
 refine wpAny_newObj_type ?_ (by size_fits)
 simp only [raiseNew]
 refine wpAny_bind (wpAny_handled ?_)
 rw [show A.in1.handled=some (.ref ea) from hh]
 dsimp only
 generalize hg1:s.heap.update it (Obj.mapFields (·.setIfInBounds 0 Value.none))=g1
 have x1:Heap.ExtBut it s.heap g1:=by rw [← hg1]; exact (Heap.SameBut.update ..).extBut
 generalize hob:(Data.fields (#[Value.ref g1.objs.size,Value.none,Value.none,Value.none,Value.bool false,Value.none] ++ ownMembersOf (Value.type "StopIteration") []))=dt
 generalize hg2:g1.push { cls:=Value.type "tuple",data:=Data.seq #[] }=g2
 have x2:Heap.ExtBut it s.heap (g2.push { cls:=Value.type "StopIteration",data:=dt }):=by rw [← hg2]; exact (x1.push _).push _
 have e1:g2.get? ea=some oe:=by rw [← hg2]; exact (x1.push _) ea oe hn he
 have e3:(g2.push { cls:=Value.type "StopIteration",data:=dt }).get? ea=some oe:=Heap.get?_push_of_some _ e1
 have ne:ea ≠ g2.objs.size:=Nat.ne_of_lt (Heap.lt_size e1)
 rw [if_pos (show (Value.ref ea != Value.ref g2.objs.size)=true by simp [ne])]
 refine wpAny_bind (wpAny_holding (wpAny_runValue (codeAny_builtin entry_unchain ?_)))
 unfold Builtin.«proto.unchain»
 dsimp only
 refine wpAny_bind (wpAny_field e3 hv h2 ?_)
 rw [if_pos (by rfl)]
 refine wpAny_pure ?_
 dsimp only
 have dtf:∃ ws,dt=.fields ws ∧ 2 < ws.size:=⟨_,hob.symm,by simp; omega⟩
 obtain ⟨ws,rfl,hw⟩:=dtf
 have d3:=Obj.data_mapFields (o:={ cls:=Value.type "StopIteration",data:=.fields ws }) (vs:=ws) rfl (·.setIfInBounds 2 (Value.ref ea))
 refine wpAny_bind (m:=setField (.ref g2.objs.size) 2 (.ref ea)) (wpAny_setField (Heap.get?_push_size _ rfl) rfl hw (wpAny_throw ?_))
 refine wpAny_bind (wpAny_isInstance (T:="StopIteration") (b:=true) ⟨_,Heap.get?_update_self _ (Heap.get?_push_size _ rfl) (Obj.isFreed_of_fields d3),Obj.cls_mapFields _ _⟩ isSubtype_stop ?_)
 refine wpAny_pure (hQ _ fun b o hb e=>?_)
 have lt:b < g2.objs.size:=by
  rw [← hg2]
  exact Heap.lt_size ((x1.push _) b o hb e)
 rw [Heap.get?_update_other _ _ (Nat.ne_of_gt lt)]
 exact x2 b o hb e
def Sx (X:Cx):Prop:=∃ ea oe u vs,X.A.handled=some (.ref ea) ∧ X.H₀ ea=some (.frz oe u) ∧ oe.data=.fields vs ∧ vs[2]?=some .none
theorem walk_x {prog:Program} {w:World} {A:Around} {ea:Addr} {oe:Obj} {vs:Array Value} (hh:A.handled=some (.ref ea)) (hv:oe.data=.fields vs) (h2:vs[2]?=some .none) (I ax:Addr) (hne:ax ≠ I) (hn:ea ≠ I) (items:Array Value) :
  Walks prog w A I [I,ax,ea] [I] items.size (fun i v=>items[i]?=some v) (fun i h=>h.IsListIter I ax i ∧ h.IsList ax items ∧ h.get? ea=some oe):=by
 refine ⟨fun b hb=>?_,fun i h h' st hk=>⟨st.1.at fun o e=>hk I (by simp) o e,st.2.1.at fun o e=>hk ax (by simp) o e,hk ea (by simp) oe st.2.2⟩,fun i s Q E hi st hQ=>?_,fun s Q E st hQ=>?_,fun i s Q E st hQ=>wpAny_pyIter_listiter st.1 hQ⟩
 ·rw [List.mem_singleton.mp hb]; simp
 ·refine wpAny_pyNext_list_item st.1 st.2.1 (x:=items[i]) (by simp [hi]) fun h' it' sb=>?_
  exact hQ _ h' s.toks (by simp [hi]) ⟨it',st.2.1.extBut sb.extBut hne,sb.extBut ea oe hn st.2.2⟩ fun b o hb e=>sb.extBut b o (fun z=>hb (by simp [z])) e
 ·exact next_end_x hh st.2.2 hv h2 hn st.1 st.2.1 (by simp) fun h' he=>hQ h' s.toks fun b o hb e=>he b o (fun z=>hb (by simp [z])) e
section
variable {X:Cx} {pins:List (Addr × Obj)} {σ:L2.St} {H:Hp} {s:Shared}
theorem b_anyX (hx:Sx X):Bi1 X (.builtin "any") tAny:=by
 intro pins s σ H xs us Q I r h
 obtain ⟨Hq,t,w,x,rfl,sb,r1,e,k⟩:=h
 obtain ⟨ea,oe,u0,ws,hh,h0,hv,h2⟩:=hx
 cases t with
 | lst ts =>
   simp only [tAny] at e
   split at e
   ·rename_i hb
    cases e
    obtain ⟨a,vs,rfl,q1,q2⟩:=r1.lst sb
    obtain ⟨u,rfl,ru⟩:=vals1 r
    cases ru
    obtain ⟨its,rv,p,hz⟩:=I.list q1
    obtain ⟨bs,rfl,rfl⟩:=bools_at rv q2 hb
    have hea:s.heap.get? ea=some oe:=(I.hok ea _ (I.base.frzs ea oe u0 h0)).1
    refine call_any_walk (wpAny_pyIter_list p.isList ?_)
    have hax:a < s.heap.objs.size:=let ⟨o,ho,_⟩:=p.isList; Heap.lt_size ho
    refine ⟨s.heap.objs.size,_,[s.heap.objs.size],(bs.map Value.bool).toArray.size,(fun i v=>(bs.map Value.bool).toArray[i]?=some v),_,fun i=>bs.getD i true,rfl,
     walk_x (A:=X.A.in1) (ea:=ea) (oe:=oe) hh hv h2 s.heap.objs.size a (Nat.ne_of_lt hax) (Nat.ne_of_lt (Heap.lt_size hea)) (bs.map Value.bool).toArray,⟨⟨_,Heap.get?_push_size _ rfl,rfl,rfl⟩,p.isList.push _,Heap.get?_push_of_some _ hea⟩,truth_bools bs,fun h' tk kp=>?_⟩
    have ev:(List.range (bs.map Value.bool).toArray.size).any (fun i=>bs.getD i true)=(bs.map T.bl).any fun t=>match t with | .bl b=>b | _=>false:=by
     rw [List.size_toArray,List.length_map,range_any,List.any_map]
     rfl
    rw [ev]
    exact ⟨.bl _,H,I.kept (t':=tk) fun b o e=>kp b o (by simp; exact Nat.ne_of_lt (Heap.lt_size e)) (Heap.get?_push_of_some _ e),rfl,k _ Hq H (.refl sb) rep_bl⟩
   ·cases e
 | _=>simp [tAny] at e
end
def subB (c d:Str):Bool:=c == d || d == ("MarkError":Str)
def exB1 (K:PySem.W.Frag) (c:Str):Bool:=(PySem.W.nsIn K mainGlobals c == some (some (.ref (clsAt K c)))) && excB K (clsAt K c) && (PySem.W.findIn K (.ref (clsAt K c)) "__getattribute__" == some (some (.builtin "BaseException.__getattribute__")) && PySem.W.findIn K (.ref (clsAt K c)) "__getattr__" == some none && PySem.W.subIn K (.ref (clsAt K c)) (.type "BaseException") == some true) && (PySem.W.clsIn K (clsAt K c)).isSome &&
 (PySem.W.findIn K (.ref (clsAt K c)) "__class__" == some (some (.builtin "object.__class__"))) && (PySem.W.specialIn K (.builtin "object.__class__") "__get__" == some (some (.builtin "getset_descriptor.__get__"))) && (PySem.W.takesIn K (.builtin "object.__class__") == some true) &&
 (PySem.W.mroIn K (clsAt K c) (.type "object") == some true) && (PySem.W.kitOne K (.ref (clsAt K c)) (.type "ValueError") == some true)
def exB2 (K:PySem.W.Frag) (c d:Str):Bool:=(PySem.W.exmOne K (.ref (clsAt K c)) (.ref (clsAt K d)) == some (subB c d)) && (PySem.W.kitOne K (.ref (clsAt K c)) (.ref (clsAt K d)) == some (subB c d))
def ersB (cs:List Str) (K:PySem.W.Frag):Bool:=cs.all fun c=>exB1 K c && cs.all fun d=>exB2 K c d
structure Er (cs:List Str) (K:PySem.W.Frag) (mg:Str → Option Value):Prop where
 mg:∀ c ∈ cs,mg c=some (.ref (clsAt K c))
 ex:∀ c ∈ cs,excB K (clsAt K c)=true
 v:∀ c ∈ cs,PySem.W.kitOne K (.ref (clsAt K c)) (.type "ValueError")=some true
 m:∀ c ∈ cs,∀ d ∈ cs,PySem.W.exmOne K (.ref (clsAt K c)) (.ref (clsAt K d))=some (subB c d)
 k:∀ c ∈ cs,∀ d ∈ cs,PySem.W.kitOne K (.ref (clsAt K c)) (.ref (clsAt K d))=some (subB c d)
 i:∀ c ∈ cs,∀ (x:Addr) (ox:Obj),PySem.W.KitX K (.ref x) (.ref (clsAt K c)) (fun h=>PySem.W.InstAt h x ox (clsAt K c) none)
theorem exc_cattr {prog:Program} {w:World} {A:Around} {E:Value → Shared → Prop} {Q:Option Value → Shared → Prop} {s:Shared} {K:PySem.W.Frag} {x D:Addr} {ox:Obj} (X:K.In s.heap) (I:PySem.W.InstAt s.heap x ox D none) (hga:PySem.W.findIn K (.ref D) "__getattribute__"=some (some (.builtin "BaseException.__getattribute__"))) (hgh:PySem.W.findIn K (.ref D) "__getattr__"=some none)
  (hbe:PySem.W.subIn K (.ref D) (.type "BaseException")=some true) (hf:PySem.W.findObj K D none "__class__"=some (.bind (.builtin "getset_descriptor.__get__") (.builtin "object.__class__"))) (hm:PySem.W.mroIn K D (.type "object")=some true)
  (h:Q (some (.ref D)) { s with toks:=s.toks + 1 }):wpAny (model prog w) A (getAttr? (.ref x) "__class__") Q E s:=by
 have hb:=PySem.F.attr_ValueError.ga.bind (.ref x)
 have hpl:=PySem.F.attr_ValueError.ga.plain
 obtain ⟨hh,g,d,t,os⟩:=s
 have L0:=I.type (M:=model prog w)
 have L1:=PySem.W.looks_findIn (M:=model prog w) X hga
 have L2:=PySem.W.looks_findIn (M:=model prog w) X hgh
 have L3:=PySem.W.looks_subIn (M:=model prog w) X hbe
 have L4:=PySem.W.looks_find (M:=model prog w) X I hf
 unfold getAttr? getAttrBy? getAttrBy
 refine wpAny_bind (wpAny_mkText (wpAny_bind (wpAny_attempt (wpAny_holding (wpAny_bind (L0.at (wpAny_bind (L1.at ?_))))))))
 dsimp only
 rw [if_neg (by show ¬ (Value.builtin "BaseException.__getattribute__" == Value.builtin "object.__getattribute__")=true; decide +kernel)]
 unfold getAttrByItsOwn hookBefore
 refine wpAny_bind ?_
 rw [if_pos (show onTheHeap (Value.ref D)=true from rfl)]
 refine L2.at ?_
 refine wpAny_bind (wpAny_attempt (wpAny_holding ?_))
 unfold callGetattribute
 rw [if_neg (by simp)]
 unfold boundAndCalled
 rw [hb]
 refine wpAny_bind (wpAny_pure ?_)
 dsimp only
 have hk:builtinKind "BaseException.__getattribute__"=some .slot:=by decide +kernel
 have hsplit:splitId "BaseException.__getattribute__"=some ("BaseException","__getattribute__"):=by decide +kernel
 refine wpAny_call (codeAny_call_builtin hpl F.entry_bexc_ga ?_)
 have ha:=F.args_bexc_ga (.ref x) (.str "__class__" t)
 simp only [checkBuiltinCall,hk,hsplit,List.cons_append,List.nil_append]
 refine wpAny_bind ?_
 unfold isInstance
 refine wpAny_bind (L0.at (L3.at ?_))
 simp only [Bool.not_true,Bool.false_eq_true,if_false]
 repeat (any_goals (first | assumption | wp_step))
 refine wpAny_loadPart I.at_ (wpAny_pure ?_)
 rw [I.cls]
 refine wpAny_bind (L4.at ?_)
 dsimp only
 show wpAny _ _ (holding [.builtin "object.__class__"] (call (.builtin "getset_descriptor.__get__") [.builtin "object.__class__",.ref x,.ref D]) >>= ret) _ _ _
 refine wpAny_bind (wpAny_holding (wpAny_call (PySem.W.class_get (s:=⟨hh,g,d,t + 1,os⟩) (ox:=ox) (od:=none) X I hm ?_)))
 refine wpAny_pure ?_
 dsimp only
 refine PySem.W.handed_on rfl ?_
 exact wpAny_pure h
theorem kitx_exc {K:PySem.W.Frag} {x D:Addr} {ox:Obj} (hg:PySem.W.findIn K (.ref D) "__getattribute__"=some (some (.builtin "BaseException.__getattribute__")) ∧ PySem.W.findIn K (.ref D) "__getattr__"=some none ∧ PySem.W.subIn K (.ref D) (.type "BaseException")=some true) (hc:(PySem.W.clsIn K D).isSome=true) (ha:PySem.W.findIn K (.ref D) "__class__"=some (some (.builtin "object.__class__")))
  (hn:PySem.W.specialIn K (.builtin "object.__class__") "__get__"=some (some (.builtin "getset_descriptor.__get__"))) (ht:PySem.W.takesIn K (.builtin "object.__class__")=some true) (hm:PySem.W.mroIn K D (.type "object")=some true) :
  PySem.W.KitX K (.ref x) (.ref D) (fun h=>PySem.W.InstAt h x ox D none):=by
 obtain ⟨cd,hcd⟩:=Option.isSome_iff_exists.mp hc
 have hf:PySem.W.findObj K D none "__class__"=some (.bind (.builtin "getset_descriptor.__get__") (.builtin "object.__class__")):=by
  unfold PySem.W.findObj
  rw [hcd,Option.bind_some,ha,Option.bind_some]
  simp [hn,ht]
 have hlk:∃ c' d' cd' sl',K.lookup D=some ⟨c',d',.cls cd',sl'⟩:=by
  unfold PySem.W.clsIn at hcd
  split at hcd
  ·rename_i c' d' cd' sl' ho; exact ⟨c',d',cd',sl',ho⟩
  ·cases hcd
 obtain ⟨c',d',cd',sl',ho⟩:=hlk
 refine ⟨fun _ _ _ I=>I.type,fun M h X _=>?_,fun h tp dd its n sl X htp=>?_,fun {prog w A E Q s} X I k=>?_⟩
 ·intro A' Q' E' s' k q
  unfold isType loadHead
  exact wpAny_bind (wpAny_loadPart (k _ _ (X _ _ ho)) (wpAny_pure q))
 ·refine Bool.eq_false_iff.mpr fun q=>?_
  cases beq_iff_eq.mp q
  cases (X _ _ ho).symm.trans htp
 ·exact exc_cattr X I hg.1 hg.2.1 hg.2.2 hf hm k
theorem er_mk {cs:List Str} {K:PySem.W.Frag} {h:Heap} {mg:Str → Option Value} (X:K.In h) (G:h.Ns mainGlobals mg) (e:ersB cs K=true):Er cs K mg:=by
 have e1:∀ c ∈ cs,exB1 K c=true:=fun c hc=>(Bool.and_eq_true_iff.mp (List.all_eq_true.mp e c hc)).1
 have e2:∀ c ∈ cs,∀ d ∈ cs,exB2 K c d=true:=fun c hc d hd=>List.all_eq_true.mp (Bool.and_eq_true_iff.mp (List.all_eq_true.mp e c hc)).2 d hd
 have f:∀ c ∈ cs,PySem.W.nsIn K mainGlobals c=some (some (.ref (clsAt K c))) ∧ excB K (clsAt K c)=true ∧ (PySem.W.findIn K (.ref (clsAt K c)) "__getattribute__"=some (some (.builtin "BaseException.__getattribute__")) ∧ PySem.W.findIn K (.ref (clsAt K c)) "__getattr__"=some none ∧ PySem.W.subIn K (.ref (clsAt K c)) (.type "BaseException")=some true) ∧ (PySem.W.clsIn K (clsAt K c)).isSome=true ∧
   PySem.W.findIn K (.ref (clsAt K c)) "__class__"=some (some (.builtin "object.__class__")) ∧ PySem.W.specialIn K (.builtin "object.__class__") "__get__"=some (some (.builtin "getset_descriptor.__get__")) ∧ PySem.W.takesIn K (.builtin "object.__class__")=some true ∧
   PySem.W.mroIn K (clsAt K c) (.type "object")=some true ∧ PySem.W.kitOne K (.ref (clsAt K c)) (.type "ValueError")=some true:=fun c hc=>by
  have:=e1 c hc
  unfold exB1 at this
  simp only [Bool.and_eq_true,beq_iff_eq] at this
  obtain ⟨⟨⟨⟨⟨⟨⟨⟨h1,h2⟩,⟨h3,h3'⟩,h3''⟩,h4⟩,h5⟩,h6⟩,h7⟩,h8⟩,h9⟩:=this
  exact ⟨h1,h2,⟨h3,h3',h3''⟩,h4,h5,h6,h7,h8,h9⟩
 refine ⟨fun c hc=>PySem.W.mg_of X G (f c hc).1,fun c hc=>(f c hc).2.1,fun c hc=>(f c hc).2.2.2.2.2.2.2.2,fun c hc d hd=>?_,fun c hc d hd=>?_,fun c hc x ox=>?_⟩
 ·have:=e2 c hc d hd
  unfold exB2 at this
  simp only [Bool.and_eq_true,beq_iff_eq] at this
  exact this.1
 ·have:=e2 c hc d hd
  unfold exB2 at this
  simp only [Bool.and_eq_true,beq_iff_eq] at this
  exact this.2
 ·obtain ⟨_,_,h3,h4,h5,h6,h7,h8,_⟩:=f c hc
  exact kitx_exc h3 h4 h5 h6 h7 h8
section
variable {X:Cx} {pins:List (Addr × Obj)} {σ:L2.St} {H:Hp} {s:Shared} {z:Z}
def Landed (X:Cx) (pins:List (Addr × Obj)) (σ:L2.St) (H':Hp) (s':Shared) (h:Heap) (ea C:Addr):Prop:=∃ s0 H0,Inv X pins σ H0 s0 ∧ s'.os=s0.os ∧ PyProof.Rows.AllBare s'.gens ∧ Un (frs X.stack) [] H0 H' s0.heap s'.heap ∧ HOk X.prog X.w H' s'.heap ∧
 Chg (frs X.stack) (fun b=>s0.heap.get? b=none ∧ H' b=none) s'.heap h ∧ Flt (fun b=>s0.heap.get? b=none ∧ H' b=none) ea C .none h
theorem Landed.inv {s':Shared} {h:Heap} {ea C:Addr} (L:Landed X pins σ H s' h ea C):Inv X pins σ H { s' with heap:=h }:=by
 obtain ⟨s0,H0,I,os,bare,un,hok,c,_⟩:=L
 exact fly_inv I os bare un hok c
theorem Landed.land {M:Model} {A:Around} {E':Value → Shared → Prop} {s':Shared} {h:Heap} {ea C:Addr} {Q:Unit → Shared → Prop} (L:Landed X pins σ H s' h ea C) (q:∀ h',Landed X pins σ H s' h' ea C → Q () { s' with heap:=h' }):wpAny M A (setFlight (.ref ea) none) Q E' { s' with heap:=h }:=by
 obtain ⟨s0,H0,I,os,bare,un,hok,c,f⟩:=L
 exact wp_land (s:={ s' with heap:=h }) (S:=frs X.stack) f fun h' f' c'=>q h' ⟨s0,H0,I,os,bare,un,hok,c.trans c',f'⟩
theorem rn_setX {ρ:Rho} {Hq H:Hp} (r:Rn z σ ρ Hq H) (i:Nat) {p:Addr} {oe:Obj} {u:HO} {c:Str} (hp:H p=none) (h1:oe.cls=.ref (clsAt z.K c)) (h2:oe.dict=none) (h3:∃ vs,oe.data=.fields vs):Rn z (σ.set i (some (.ref p))) (ρ.set i (some (.xc c))) Hq (upd H p (.frz oe u)):=by
 have hl:=r.len
 have hq:Hq p=none:=r.sub.free hp
 have hz:z.H p=none:=r.ex.all.free hp
 have other:∀ (j:Nat) (u:Sl),u ≠ .xc c → (ρ.set i (some (.xc c)))[j]?=some (some u) → i ≠ j ∧ ρ[j]?=some (some u):=fun j u hu e=>by
  by_cases hj:i=j
  ·subst hj
   by_cases hi:i < ρ.length
   ·rw [List.getElem?_set_self hi] at e; cases e; exact absurd rfl hu
   ·rw [List.getElem?_eq_none (by rw [List.length_set]; omega)] at e; cases e
  ·rw [List.getElem?_set_ne hj] at e; exact ⟨hj,e⟩
 refine ⟨⟨fun b u e=>?_,r.ex.q,fun b u e=>?_,r.ex.out⟩,by rw [List.length_set,List.length_set]; exact hl,fun j u e=>?_,fun j u e=>?_,fun j k us ws a hjk e1 e2 e3=>?_,fun j C e=>?_,r.o.go (setO_hs (fun _ q=>by cases q; exact id)) (fun _ _ _ _ h n=>⟨by rw [upd_ne (ne_of_none h hp)]; exact h,n⟩) (.refl _)⟩
 ·rw [upd_ne (ne_of_none e hz)]; exact r.ex.all b u e
 ·rw [upd_ne (ne_of_none e hq)]; exact r.sub b u e
 ·obtain ⟨hj,e⟩:=other j _ (by simp) e
  rw [List.getElem?_set_ne hj]
  exact r.pu j u e
 ·obtain ⟨hj,e⟩:=other j _ (by simp) e
  rw [List.getElem?_set_ne hj]
  obtain ⟨a,ws,h1,h2,h3,h4,h5⟩:=r.ow j u e
  exact ⟨a,ws,h1,h2,h3,by rw [upd_ne (ne_of_none h4 hp)]; exact h4,h5⟩
 ·obtain ⟨hj,e1⟩:=other j _ (by simp) e1
  obtain ⟨hk,e2⟩:=other k _ (by simp) e2
  rw [List.getElem?_set_ne hj] at e3
  rw [List.getElem?_set_ne hk]
  exact r.ne j k us ws a hjk e1 e2 e3
 ·by_cases hj:i=j
  ·subst hj
   by_cases hi:i < ρ.length
   ·rw [List.getElem?_set_self hi] at e
    cases e
    exact ⟨p,oe,u,List.getElem?_set_self (by omega),hq,upd_same,h1,h2,h3⟩
   ·rw [List.getElem?_eq_none (by rw [List.length_set]; omega)] at e; cases e
  ·rw [List.getElem?_set_ne hj] at e ⊢
   obtain ⟨a,oe',u',g1,g2,g3,g4⟩:=r.xc j C e
   exact ⟨a,oe',u',g1,g2,by rw [upd_ne (ne_of_none g3 hp)]; exact g3,g4⟩
theorem rn_setN {ρ:Rho} {Hq H:Hp} (r:Rn z σ ρ Hq H) (i:Nat):Rn z (σ.set i none) (ρ.set i none) Hq H:=by
 have hl:=r.len
 have other:∀ (j:Nat) (u:Sl),(ρ.set i none)[j]?=some (some u) → i ≠ j ∧ ρ[j]?=some (some u):=fun j u e=>by
  by_cases hj:i=j
  ·subst hj
   by_cases hi:i < ρ.length
   ·rw [List.getElem?_set_self hi] at e; cases e
   ·rw [List.getElem?_eq_none (by rw [List.length_set]; omega)] at e; cases e
  ·rw [List.getElem?_set_ne hj] at e; exact ⟨hj,e⟩
 refine ⟨r.ex,by rw [List.length_set,List.length_set]; exact hl,fun j u e=>?_,fun j u e=>?_,fun j k us ws a hjk e1 e2 e3=>?_,fun j C e=>?_,r.o.go (setO_hs (fun _ q=>nomatch q)) (fun _ _ _ _ h n=>⟨h,n⟩) (.refl _)⟩
 ·obtain ⟨hj,e⟩:=other j _ e
  rw [List.getElem?_set_ne hj]
  exact r.pu j u e
 ·obtain ⟨hj,e⟩:=other j _ e
  rw [List.getElem?_set_ne hj]
  exact r.ow j u e
 ·obtain ⟨hj,e1⟩:=other j _ e1
  obtain ⟨hk,e2⟩:=other k _ e2
  rw [List.getElem?_set_ne hj] at e3
  rw [List.getElem?_set_ne hk]
  exact r.ne j k us ws a hjk e1 e2 e3
 ·obtain ⟨hj,e⟩:=other j _ e
  rw [List.getElem?_set_ne hj]
  exact r.xc j C e
def HJ (X:Cx) (z:Z) (hs:List ExceptHandler) (F:Str → FS):Prop:=∀ pins σ H D (s':Shared) (h:Heap) ea c ρ Hq o,Landed X pins σ H s' h ea (clsAt z.K c) → Rn z σ ρ Hq H → F c ρ=some o → Fin z Hq D o →
 wpAny (model X.prog X.w) X.A (handleBy (.ref ea) X.env hs) (SP X pins D) X.xe { s' with heap:=h }
theorem hj_nil:HJ X z [] (fun _ _=>none):=fun _ _ _ _ _ _ _ _ _ _ _ _ _ e _=>nomatch e
def gone (i:Nat):Out → Out
 | .nx ρ=>.nx (ρ.set i none)
 | .rt t=>.rt t
 | .bk ρ=>.bk (ρ.set i none)
 | .ct ρ=>.ct (ρ.set i none)
def hAs (cs:List Str) (d:Str) (i:Nat) (Fs:FS) (Fr:Str → FS):Str → FS:=fun c ρ=>if cs.contains c=true then (if subB c d=true then (Fs (ρ.set i (some (.xc c)))).map (gone i) else Fr c ρ) else none
theorem hj_as {cs:List Str} {d n:Str} {b0:Stmt} {body:List Stmt} {rest:List ExceptHandler} {Fs:FS} {Fr:Str → FS} {p pos:Pos} (er:Er cs X.K X.mg) (hK:z.K=X.K) (i:Nat) (hN:X.N.Nodup) (hsu:∀ ea oe E,Sx (suiteCx X ea oe E) → SVs (suiteCx X ea oe E) z (b0 :: body) Fs) (hr:HJ X z rest Fr)
  (hex:X.ex=[]:=by rfl) (hd:d ∈ cs:=by decide) (hi:X.N[i]?=some n:=by rfl) (hl:X.env.scope.names.lookup n=some .local:=by rfl) (hg:Gl X d:=by rfl) (hdb:(d == ("__debug__":Str))=false:=by decide):HJ X z (.ExceptHandler (some (.Name d p)) (some n) (b0 :: body) pos :: rest) (hAs cs d i Fs Fr):=by
 intro pins σ H D s' h ea c ρ Hq o L r ef k
 unfold hAs at ef
 split at ef
 rotate_left
 ·cases ef
 rename_i hcs
 have hc:c ∈ cs:=by simpa using hcs
 have I:=L.inv
 have hfl:∃ oe,h.get? ea=some oe ∧ oe.cls=.ref (clsAt X.K c):=by
  obtain ⟨_,_,_,_,_,_,_,_,_,oe,vs,T,oT,ts,e1,e2,_⟩:=L
  exact ⟨oe,e1,hK ▸ e2.1⟩
 obtain ⟨oe,he,hcl⟩:=hfl
 refine wpAny_handleBy_cons ?_ (by unfold byPass; exact nofun)
 refine codeAny_handlers_test (ld_glob (X:=markCx X ea fun _ _=>False) (mark_inv I) hg (er.mg d hd) ?_ hdb)
 obtain ⟨hp,g,dr,tk,os⟩:=s'
 refine (PySem.W.exm_one (K:=X.K) (I.kIn) ((PySem.W.Looks.ld (part:=none) he).andThen (hcl ▸ .now)) (er.m c hc d hd)).at ?_
 cases hb:subB c d with
 | false =>
   rw [hb,if_neg Bool.false_ne_true] at ef
   exact hr pins σ H D ⟨hp,g,dr,tk,os⟩ h ea c ρ Hq o L r ef k
 | true =>
   rw [hb,if_pos rfl] at ef
   obtain ⟨o',eo,rfl⟩:=Option.map_eq_some_iff.mp ef
   show codeAny _ _ (.handlers (.ref ea) [.ExceptHandler none (some n) (b0 :: body) pos] X.env) _ _
   refine codeAny_handlers_suite_as (L.land (s':=⟨hp,g,dr,tk,os⟩) fun h2 L2=>?_)
   have I2:=L2.inv
   obtain ⟨s0,H0,I0,_,_,_,_,_,⟨ns,nh⟩,oe2,vs,T,oT,ts,e1,e2,e3,e4,e5,_⟩:=L2
   have noex:∀ b,b ∉ X.ex:=fun b=>by rw [hex]; simp
   have n0:X.s₀.heap.get? ea=none:=by
    cases q:X.s₀.heap.get? ea with
    | none=>rfl
    | some u =>
      obtain ⟨v,hv⟩:=I0.base.there ea u q (noex ea)
      rw [ns] at hv; cases hv
   have ne0:∀ b u,s0.heap.get? b=some u → b ≠ ea:=fun b u q z=>by rw [z,ns] at q; cases q
   have I3:Inv X pins σ (upd H ea (.frz oe2 (.own ea))) { (⟨hp,g,dr,tk,os⟩:Shared) with heap:=h2 }:=by
    refine ⟨I2.ok,I2.os,I2.bare,⟨I2.base.keep,I2.base.slot,fun b o q n hx=>?_,I2.base.there,fun b xs q=>?_,fun b o u q=>?_,fun b ps q=>?_⟩,I2.loc,I2.cell,?_,fun x cc e=>?_,fun p hp'=>?_,HOk.track I2.hok nh ⟨e1,⟨_,e1⟩⟩,I2.len⟩
    ·have hb':b ≠ ea:=fun z=>by rw [z,n0] at q; cases q
     rw [upd_ne hb']; exact I2.base.free b o q n hx
    ·have:=I2.base.tups b xs q
     rw [upd_ne (ne_of_none this nh)]; exact this
    ·have:=I2.base.frzs b o u q
     rw [upd_ne (ne_of_none this nh)]; exact this
    ·obtain ⟨m,this⟩:=I2.base.tbls b ps q
     exact ⟨m,by rw [upd_ne (ne_of_none this nh)]; exact this⟩
    ·obtain ⟨m,⟨oL,_,_,hL,_⟩,_⟩:=I0.loc
     rw [upd_ne (ne0 _ _ hL)]; exact I2.free
    ·obtain ⟨v,oc,hoc,_⟩:=I0.cell x cc e
     rw [upd_ne (ne0 _ _ hoc)]; exact I2.freeC x cc e
    ·obtain ⟨p1,p2,p3⟩:=I2.pin p hp'
     exact ⟨p1,by rw [upd_ne (ne0 _ _ (I0.pin p hp').1)]; exact p2,p3⟩
   refine store_ok (X:=suiteCx X ea oe2 fun _ _=>False) (v:=.ref ea) (suite_inv I3 n0 upd_same) hN hi (.inl hl) rfl (fun s5 I5=>?_) (.inr hl)
   have sx:∀ E,Sx (suiteCx X ea oe2 E):=fun E=>⟨ea,oe2,.own ea,vs,rfl,upd_same,e3,e5⟩
   refine thn (hsu ea oe2 _ (sx _) pins s5 (σ.set i (some (.ref ea))) (upd H ea (.frz oe2 (.own ea))) ⟨fun σ H=>D.nx (σ.set i none) H,D.rt,fun σ H=>D.bk (σ.set i none) H,fun σ H=>D.ct (σ.set i none) H⟩ (I5.wish _) ⟨ρ.set i (some (.xc c)),Hq,o',rn_setX r i nh e2.1 e2.2 ⟨vs,e3⟩,eo,?_⟩) fun f s6 q6=>?_
   ·cases o' with
    | nx ρ'=>exact fun σ' Hq' H' r' sm=>k _ Hq' H' (rn_setN r' i) sm
    | rt t=>exact k
    | bk ρ'=>exact fun σ' Hq' H' r' sm=>k _ Hq' H' (rn_setN r' i) sm
    | ct ρ'=>exact fun σ' Hq' H' r' sm=>k _ Hq' H' (rn_setN r' i) sm
   ·show wpAny _ _ (do bindName X.env n .none; unbindBehindTheSuite X.env n pos) _ _ _
    cases f with
    | next=>obtain ⟨σ',H',I6,q⟩:=q6; exact name_gone (un_suite I2 n0 nh I6) hN hi hl fun s7 I7=>⟨_,H',I7,q⟩
    | brk=>obtain ⟨σ',H',I6,q⟩:=q6; exact name_gone (un_suite I2 n0 nh I6) hN hi hl fun s7 I7=>⟨_,H',I7,q⟩
    | cont=>obtain ⟨σ',H',I6,q⟩:=q6; exact name_gone (un_suite I2 n0 nh I6) hN hi hl fun s7 I7=>⟨_,H',I7,q⟩
    | ret u=>obtain ⟨v,σ',H',I6,rv,q⟩:=q6; exact name_gone (un_suite I2 n0 nh I6) hN hi hl fun s7 I7=>⟨v,_,H',I7,rv,q⟩
def sTry (Fb:FX) (Fh:Str → FS):FS:=fun ρ=>match Fb ρ with
 | some (.ok o)=>some o
 | some (.xc ρ' c)=>Fh c ρ'
 | none=>none
theorem s_try {body:List Stmt} {h0:ExceptHandler} {hs:List ExceptHandler} {Fb:FX} {Fh:Str → FS} {pos:Pos} (hK:z.K=X.K) (hb:∀ E pins kx,Lands (X.wish E) pins kx → XVs (X.wish E) pins kx z body Fb) (hh:HJ X z (h0 :: hs) Fh)
  (hst:X.stack=X.env :: X.outer:=by rfl) (hf:X.env.frame=some X.env.locals:=by rfl):SV X z (.Try body (h0 :: hs) [] [] pos) (sTry Fb Fh):=by
 intro pins s σ H D I ⟨ρ,Hq,o,r,ef,k⟩
 have body':=hb (fun e s₁=>wpAny (model X.prog X.w) X.A (noteFrame e X.env) (fun _ s₂=>wpAny (model X.prog X.w) X.A (setFlight e none) (fun _ s₃=>wpAny (model X.prog X.w) X.A (handleBy e X.env (h0 :: hs)) (SP X pins D) X.xe s₃) X.xe s₂) X.xe s₁) pins
  (fun C σ' H'=>∃ ρ' Hq' c o,C=clsAt z.K c ∧ Rn z σ' ρ' Hq' H' ∧ Fh c ρ'=some o ∧ Fin z Hq' D o) ?_ s σ H D (I.wish _) ?_
 ·refine wpAny_Try_except (thn body' fun f s1 q=>?_)
  have q:=SP.unwish q
  cases f with
  | next=>exact wpAny_execs_nil q
  | ret v=>exact q
  | brk=>exact q
  | cont=>exact q
 ·intro σ1 H1 s1 C e s' I1 ⟨ea,C',H',ee,os,bare,un,hok,fl,eC,ρ',Hq',c,o',ec,r',eh,fin⟩
  cases eC
  subst ee
  subst ec
  have I1:=I1.unwish
  have noE:∀ b:Addr,b ∉ ([]:List Addr):=fun b=>by simp
  have I2:Inv X pins σ1 H' s':=fly_inv (h5:=s'.heap) I1 os bare un hok ⟨fun _ _ e _ _=>e,fun _ o e _ _=>⟨o.slots,e⟩⟩
  have stk:=I2.stack
  rw [hst] at stk
  refine wp_look (base:=X.base) (L:=X.env.locals) (by rw [I2.ok.frames,hst]) stk hf (fun b q=>?_) fl fun h2 f2 c2=>?_
  ·constructor
   ·cases q1:s1.heap.get? b with
    | none=>rfl
    | some u =>
      obtain ⟨v,hv⟩:=un.there b u q1 (noE b)
      rw [q] at hv; cases hv
   ·cases q1:H' b with
    | none=>rfl
    | some u =>
      obtain ⟨v,hv⟩:=ObjOk_there (hok b u q1)
      rw [q] at hv; cases hv
  ·have L:Landed X pins σ1 H' s' h2 ea (clsAt z.K c) → wpAny (model X.prog X.w) X.A (handleBy (.ref ea) X.env (h0 :: hs)) (SP X pins D) X.xe { s' with heap:=h2 }:=fun L=>hh pins σ1 H' D s' h2 ea c ρ' Hq' o' L r' eh fin
   refine wp_land (s:={ s' with heap:=h2 }) (S:=frs X.stack) f2 fun h3 f3 c3=>?_
   exact hh pins σ1 H' D s' h3 ea c ρ' Hq' o' ⟨s1,H1,I1,os,bare,un,hok,(by rw [hst]; exact c2:Chg (frs X.stack) _ s'.heap h2).trans c3,f3⟩ r' eh fin
 ·unfold sTry at ef
  split at ef
  ·rename_i o1 e1
   cases ef
   exact ⟨ρ,Hq,.ok o,r,e1,k⟩
  ·rename_i ρ' c e1
   refine ⟨ρ,Hq,.xc ρ' c,r,e1,fun σ' Hq' H' r' sm=>⟨ρ',Hq',c,o,rfl,r',ef,Fin.from k sm⟩⟩
  ·cases ef
def fIsx (cs:List Str) (i:Nat) (d:Str):FE:=fun ρ=>match ρ[i]? with
 | some (some (.xc c))=>if cs.contains c=true then some (.bl (subB c d)) else none
 | _=>none
def fIsv (cs:List Str) (i:Nat):FE:=fun ρ=>match ρ[i]? with
 | some (some (.xc c))=>if cs.contains c=true then some (.bl true) else none
 | _=>none
def rIsx (X:Cx) (cs:List Str) (t:V) (f:Str → Bool):List V → Hp → VK → Prop:=fun xs H Q=>∃ a c oe u vs,xs=[.ref a,t] ∧ H a=some (.frz oe u) ∧ oe.cls=.ref (clsAt X.K c) ∧ oe.dict=none ∧ oe.data=.fields vs ∧ c ∈ cs ∧ Q (.bl (f c)) H
theorem isx_call {cs:List Str} (er:Er cs X.K X.mg) {t:V} {tv:Value} {f:Str → Bool} (ht:∀ u,RelV t u → u=tv) (hk:∀ c ∈ cs,PySem.W.kitOne X.K (.ref (clsAt X.K c)) tv=some (f c)):CallR X (.builtin "isinstance") (rIsx X cs t f):=by
 intro pins s σ H xs us Q I r ⟨a,c,oe,u,vs,e,h3,h4,h5,h6,hc,k⟩
 subst e
 obtain ⟨u1,u2,rfl,ru,rw'⟩:=vals2 r
 cases ru
 cases ht _ rw'
 have hg:s.heap.get? a=some oe:=(I.hok a _ h3).1
 exact PySem.W.kia_one (er.i c hc a oe) I.kIn ⟨hg,h4,by unfold PySem.W.notCls; rw [h6],by rw [h5]; trivial⟩ (hk c hc) (fun z=>nomatch z) fun tk=>⟨.bl _,H,I.tok _,rfl,k⟩
theorem isx_out {cs:List Str} {ρ:Rho} {Hq:Hp} {i:Nat} {c:Str} {t:V} {f:Str → Bool} {Q:VK} (hK:z.K=X.K) (r:Rn z σ ρ Hq H) (e:ρ[i]?=some (some (.xc c))) (hc:c ∈ cs) (k:∀ v Hq' H',Ex Hq H Hq' H' → Rep z.K Hq' (.bl (f c)) v → Q v H') :
  ∃ v,σ[i]?=some (some v) ∧ rIsx X cs t f [v,t] H Q:=by
 obtain ⟨a,oe,u,h1,h2,h3,h4,h5,vs,h6⟩:=r.xc i c e
 exact ⟨_,h1,a,c,oe,u,vs,rfl,h3,hK ▸ h4,h5,h6,hc,k _ Hq H (.refl r.sub) rep_bl⟩
theorem ev_isx {cs:List Str} {n d:Str} {p p1 p2 pos:Pos} (er:Er cs X.K X.mg) (hK:z.K=X.K) (i:Nat) (hm:X.mg "isinstance"=none) (hd:d ∈ cs:=by decide) (hg:Gl X "isinstance":=by rfl) (hg2:Gl X d:=by rfl) (hi:X.N[i]?=some n:=by rfl) (hv:Vis X.env.scope n:=by first | exact Or.inl rfl | exact Or.inr (Or.inl rfl) | exact Or.inr (Or.inr rfl))
  (hdb:(n == ("__debug__":Str))=false:=by decide) (hcd:(n == ("__classdict__":Str))=false:=by decide) (hdb2:(d == ("__debug__":Str))=false:=by decide):EV X z (.Call (.Name "isinstance" p) [.Name n p1,.Name d p2] [] pos) (fIsx cs i d):=by
 have hb:=isx_call (t:=.ref (clsAt X.K d)) (tv:=.ref (clsAt X.K d)) (f:=fun c=>subB c d) er (fun u h=>by cases h; rfl) (fun c hc=>er.k c hc d hd)
 refine PE.imp (pe_callB hb hg hm (by rfl) (pa_cons (pe_var hi hv hdb hcd) (pa_cons (pe_glob (v:=.ref (clsAt X.K d)) hg2 (er.mg d hd) rfl hdb2) pa_nil (by rfl)) (by rfl)) (by decide) (by decide) (by rfl) (by rfl)) fun σ H Q ⟨ρ,Hq,w,r,e,k⟩=>?_
 unfold fIsx at e
 split at e
 ·rename_i c hx
  split at e
  ·rename_i hc
   cases e
   obtain ⟨v,h1,h2⟩:=isx_out (X:=X) (t:=.ref (clsAt X.K d)) (f:=fun c=>subB c d) hK r hx (by simpa using hc) k
   exact ⟨v,h1,h2⟩
  ·cases e
 ·cases e
theorem ev_isv {cs:List Str} {n:Str} {p p1 p2 pos:Pos} (er:Er cs X.K X.mg) (hK:z.K=X.K) (i:Nat) (hm:X.mg "isinstance"=none) (hm2:X.mg "ValueError"=none) (hg:Gl X "isinstance":=by rfl) (hg2:Gl X "ValueError":=by rfl) (hi:X.N[i]?=some n:=by rfl) (hv:Vis X.env.scope n:=by first | exact Or.inl rfl | exact Or.inr (Or.inl rfl) | exact Or.inr (Or.inr rfl))
  (hdb:(n == ("__debug__":Str))=false:=by decide) (hcd:(n == ("__classdict__":Str))=false:=by decide):EV X z (.Call (.Name "isinstance" p) [.Name n p1,.Name "ValueError" p2] [] pos) (fIsv cs i):=by
 have hb:=isx_call (t:=.ty "ValueError") (tv:=.type "ValueError") (f:=fun _=>true) er (fun u h=>by cases h; rfl) (fun c hc=>er.v c hc)
 refine PE.imp (pe_callB hb hg hm (by rfl) (pa_cons (pe_var hi hv hdb hcd) (pa_cons (pe_bltn (v:=.ty "ValueError") hg2 hm2 rfl rfl (by decide) (by decide)) pa_nil (by rfl)) (by rfl)) (by decide) (by decide) (by rfl) (by rfl)) fun σ H Q ⟨ρ,Hq,w,r,e,k⟩=>?_
 unfold fIsv at e
 split at e
 ·rename_i c hx
  split at e
  ·rename_i hc
   cases e
   obtain ⟨v,h1,h2⟩:=isx_out (X:=X) (t:=.ty "ValueError") (f:=fun _=>true) hK r hx (by simpa using hc) k
   exact ⟨v,h1,h2⟩
  ·cases e
 ·cases e
end
end TL
namespace TL
open PySem L2 SR
def strsT:List T → Option (List Str)
 | []=>some []
 | .str y :: ts=>(strsT ts).map (y :: ·)
 | _=>none
theorem strs_at {K:PySem.W.Frag} {H:Hp}:∀ {ts:List T} {vs:List V} {its:List Value} {ys:List Str},Vals vs its → RepL K H ts vs → strsT ts=some ys → PyProof.Rows.StrsAre its ys
 | [],vs,its,ys,rv,r,e=>by
   unfold RepL at r
   subst r
   cases rv
   cases e
   exact .nil
 | t :: ts,vs,its,ys,rv,r,e=>by
   unfold RepL at r
   obtain ⟨v,r',rfl,h1,h2⟩:=r
   cases t with
   | str y =>
     simp only [strsT] at e
     obtain ⟨zs,e1,rfl⟩:=Option.map_eq_some_iff.mp e
     cases h1.s
     cases rv with
     | cons h3 h4 =>
       obtain ⟨k,rfl⟩:=h3
       exact .cons y k (strs_at h4 h2 e1)
   | _=>simp [strsT] at e
def wgt (ys:List Str):Nat:=(ys.map (·.length)).sum + ys.length
def tJoin:T → T → Option T
 | .str x,.lst ts=>match strsT ts with
   | some ys=>if x.length ≤ 16 ∧ wgt ys ≤ 1048576 then some (.str (Str.join x ys)) else none
   | none=>none
 | _,_=>none
section
variable {X:Cx} {z:Z} {a b:Expr} {f g:FE} {p2 p3:Pos}
def rJoin (K:PySem.W.Frag):V → List V → Hp → VK → Prop:=fun x xs H Q=>∃ l vs ts sep ys,x=.str sep ∧ xs=[.ref l] ∧ SqL K H l vs ∧ RepL K H ts vs ∧ strsT ts=some ys ∧ (sep.length ≤ 16 ∧ wgt ys ≤ 1048576) ∧ Q (.str (Str.join sep ys)) H
theorem mt_join:MtR X "str.join" (rJoin X.K):=by
 intro pins s σ H x vs v us Q I rx rv h
 obtain ⟨l,ws,ts,sep,ys,rfl,rfl,hS,hr,hy,hw,q⟩:=h
 obtain ⟨k,rfl⟩:=rx
 obtain ⟨uu,rfl,ru⟩:=rv.one
 cases ru
 obtain ⟨its,r2,p,z2⟩:=I.list hS
 exact PyProof.Rows.join_listW p.isList (by simpa using strs_at r2 hr hy) hw.1 hw.2 fun t' k'=>⟨.str _,H,I.tok _,⟨_,rfl⟩,by rw [show Txt.join sep ys=Str.join sep ys from StrLaws.glued_eq_join sep ys]; exact q⟩
theorem ev_join (hK:z.K=X.K) (ha:EV X z a f) (hb:ER X z b g) (hbase:attributeBase a "join" X.env (eval a X.env)=eval a X.env:=by rfl)
  (hline:(p2.endLine == p3.line)=true:=by rfl) (hs:starEach [b] X.env=[(false,eval b X.env)]:=by rfl):EV X z (.Call (.Attribute a "join" p2) [b] [] p3) (f2 tJoin f g) :=
 PE.imp (pe_bm PySem.F.plainAttrs_str PySem.F.slot_str_join PySem.F.type_str_join mt_join ha (pa_cons hb pa_nil hs) hbase (by rw [hs]; rfl) hline hs rfl) fun σ H Q ⟨ρ,Hq,w,r,e,k⟩=>by
  obtain ⟨t,u,e1,e2,e3⟩:=f2_some e
  unfold tJoin at e3
  split at e3
  ·rename_i x ts
   split at e3
   ·rename_i ys hy
    split at e3
    ·rename_i hw
     cases e3
     refine ⟨ρ,Hq,_,r,e1,fun v Hq1 H1 x1 r1=>?_⟩
     cases r1.s
     refine ⟨rfl,ρ,Hq1,_,r.ext x1,e2,fun v2 Hq2 H2 x2 r2=>?_⟩
     obtain ⟨l,xs,rfl,q1,q2⟩:=r2.lst x2.sub
     rw [hK] at q1 q2
     exact ⟨l,xs,ts,x,ys,rfl,rfl,q1,q2.mono x2.sub,hy,hw,k _ Hq2 H2 (x1.trans x2) rep_str⟩
    ·cases e3
   ·cases e3
  ·cases e3
end
section
variable {X:Cx} {pins:List (Addr × Obj)} {z:Z} {kx:Addr → L2.St → Hp → Prop}
def xNil:FX:=fun ρ=>some (.ok (.nx ρ))
def xRaise (c:Str):FX:=fun ρ=>some (.xc ρ c)
def xSt (F:FS):FX:=fun ρ=>(F ρ).map .ok
def xNo:FX:=fun _=>none
def sNo:FS:=fun _=>none
def RL (X:Cx) (kx:Addr → L2.St → Hp → Prop):Prop:=∀ pins σ H s h' e C v,Inv X pins σ H s → Heap.MadeExcOf s.heap h' e (.ref C) [v] → kx C σ H → X.xe (.ref e) { s with heap:=h' }
theorem x_raise {cs:List Str} {c msg:Str} {np cpos pos p:Pos} {j:Nat} (er:Er cs X.K X.mg) (hK:z.K=X.K) (hL:RL X kx) (hd:c ∈ cs:=by decide) (hc:X.calm=true:=by rfl) (hg:Gl X c:=by rfl) (hdb:(c == ("__debug__":Str))=false:=by decide) :
  XV X pins kx z (.Raise (some (.Call (.Name c np) [.Constant (.str msg) j p] [] cpos)) none pos) (xRaise c):=by
 intro s σ H D I ⟨ρ,Hq,o,r,ef,k⟩
 cases ef
 exact wp_raise I hc hg (er.mg c hd) (er.ex c hd) hdb fun s2 h' e v I2 me=>hL pins σ H s2 h' e _ v I2 me (hK ▸ k σ Hq H r (.refl _))
theorem x_st {st:Stmt} {F:FS} (h:SV X z st F):XV X pins kx z st (xSt F):=by
 intro s σ H D I ⟨ρ,Hq,o,r,ef,k⟩
 obtain ⟨o',e1,e2⟩:=Option.map_eq_some_iff.mp ef
 subst e2
 exact h pins s σ H D I ⟨ρ,Hq,o',r,e1,k⟩
theorem x_never {st:List Stmt}:XVs X pins kx z st xNo:=fun _ _ _ _ _ ⟨_,_,_,_,e,_⟩=>nomatch e
theorem s_no {st:Stmt}:SV X z st sNo:=fun _ _ _ _ _ _ ⟨_,_,_,_,e,_⟩=>nomatch e
theorem x_nil:XVs X pins kx z [] xNil:=by
 intro s σ H D I ⟨ρ,Hq,o,r,ef,k⟩
 cases ef
 exact wpAny_execs_nil ⟨σ,H,I,k σ Hq H r (.refl _)⟩
def xSeq (F G:FX):FX:=fun ρ=>match F ρ with
 | some (.ok (.nx ρ'))=>G ρ'
 | some (.ok (.rt t))=>some (.ok (.rt t))
 | some (.ok (.bk ρ'))=>some (.ok (.bk ρ'))
 | some (.ok (.ct ρ'))=>some (.ok (.ct ρ'))
 | some (.xc ρ' c)=>some (.xc ρ' c)
 | none=>none
theorem FinX.from {Hq Hq1:Hp} {D:Ends} {o:OutX} (k:FinX z kx Hq D o) (sm:Same Hq Hq1):FinX z kx Hq1 D o:=by
 cases o with
 | ok o=>exact Fin.from k sm
 | xc ρ' C=>exact fun σ' Hq' H' r' sm'=>k σ' Hq' H' r' (sm.trans sm')
theorem x_cons {st:Stmt} {rest:List Stmt} {F G:FX} (h:XV X pins kx z st F) (hr:XVs X pins kx z rest G):XVs X pins kx z (st :: rest) (xSeq F G):=by
 intro s σ H D I ⟨ρ,Hq,o,r,ef,k⟩
 unfold xSeq at ef
 split at ef
 ·rename_i ρ' e1
  refine wpAny_execs_cons (thn (h s σ H { D with nx:=fun σ' H'=>∃ Hq',Rn z σ' ρ' Hq' H' ∧ Same Hq Hq' } I ⟨ρ,Hq,_,r,e1,fun σ' Hq' H' r' sm=>⟨Hq',r',sm⟩⟩) fun f s1 q=>?_)
  cases f with
  | next =>
    obtain ⟨σ',H',I1,Hq',r',sm⟩:=q
    exact hr s1 σ' H' D I1 ⟨ρ',Hq',o,r',ef,k.from sm⟩
  | ret v=>exact q
  | brk=>exact q
  | cont=>exact q
 all_goals first
  | (rename_i e1
     cases ef
     refine wpAny_execs_cons (thn (h s σ H { D with nx:=fun _ _=>False } I ⟨ρ,Hq,_,r,e1,k⟩) fun f s1 q=>?_)
     cases f with
     | next=>obtain ⟨_,_,_,q⟩:=q; exact q.elim
     | ret v=>exact q
     | brk=>exact q
     | cont=>exact q)
  | cases ef
end
section
variable {P:Program} {w:World} {K:PySem.W.Frag} {mg:Str → Option Value} {base:Heap}
def runX (m:Nat) (F:FX) (c:Str) (ts:List T):Bool:=match F (ts.map (fun t=>some (Sl.pu t)) ++ List.replicate (m - ts.length) none) with
 | some (.xc _ d)=>d == c
 | _=>false
end
end TL
namespace TL
open PySem L2
theorem Flt.mono {N N':Addr → Prop} (h:∀ b,N b → N' b) {ea C:Addr} {fl:Value} {hp:Heap} (f:Flt N ea C fl hp):Flt N' ea C fl hp:=by
 obtain ⟨ne,oe,vs,T,oT,ts,e1,e2,e3,e4,e5,e6,e7,e8⟩:=f
 exact ⟨h _ ne,oe,vs,T,oT,ts,e1,e2,e3,e4,e5,e6,h _ e7,e8⟩
theorem Chg.refl {S:List Addr} {N:Addr → Prop} {h:Heap}:Chg S N h h:=⟨fun _ _ e _ _=>e,fun _ o e _ _=>⟨o.slots,e⟩⟩
section
variable {X:Cx} {pins:List (Addr × Obj)} {σ:L2.St} {H:Hp} {s:Shared}
end
section
variable {z:Z} {σ:L2.St} {ρ:Rho} {Hq H:Hp}
def del (H:Hp) (a:Addr):Hp:=fun b=>if b=a then none else H b
end
end TL
namespace TL
open PySem L2
section
variable {X:Cx} {z:Z} {f g:FE} {fa:FA} {pos:Pos}
end
section
variable {X:Cx} {z:Z} {pos:Pos}
end
section
variable {P:Program} {w:World} {K:PySem.W.Frag} {mg:Str → Option Value} {base:Heap}
end
section
variable {X:Cx} {z:Z} {pos:Pos}
open Classical in
end
section
variable {P:Program} {w:World} {K:PySem.W.Frag} {mg:Str → Option Value} {base:Heap}
end
end TL
namespace TL
open PySem L2
def tIsN:T → Option T
 | .non=>some (.bl true)
 | _=>some (.bl false)
def tNotN:T → Option T
 | .non=>some (.bl false)
 | _=>some (.bl true)
theorem rep_isN {K:PySem.W.Frag} {Hq:Hp} {t:T} {v:V} (r:Rep K Hq t v):tIsN t=some (.bl (decide (v=.non))) ∧ tNotN t=some (.bl (!decide (v=.non))):=by
 cases t with
 | non=>rw [r.n]; exact ⟨rfl,rfl⟩
 | bl b=>rw [r.b]; exact ⟨rfl,rfl⟩
 | int b=>rw [r.i]; exact ⟨rfl,rfl⟩
 | str b=>rw [r.s]; exact ⟨rfl,rfl⟩
 | tup ts=>unfold Rep at r; obtain ⟨a,vs,rfl,_⟩:=r; exact ⟨rfl,rfl⟩
 | lst ts=>unfold Rep at r; obtain ⟨a,vs,rfl,_⟩:=r; exact ⟨rfl,rfl⟩
 | dct d=>unfold Rep at r; obtain ⟨a,vs,rfl,_⟩:=r; exact ⟨rfl,rfl⟩
section
variable {X:Cx} {z:Z} {e:Expr} {f:FE} {pos:Pos}
theorem ev_isN {j p} (h:EV X z e f) (hm:behindInMarks .Is (.Constant .none j p)=false:=by rfl):EV X z (.Compare e [.Is] [.Constant .none j p] pos) (f1 tIsN f) :=
 PE.imp (pe_cmpR op_isN h pe_non hm) fun σ H Q ⟨ρ,Hq,t,r,e,k⟩=>by
  obtain ⟨u,e1,e2⟩:=f1_some e
  refine ⟨ρ,Hq,u,r,e1,fun v Hq1 H1 x1 r1=>⟨rfl,?_⟩⟩
  rw [(rep_isN r1).1] at e2
  cases e2
  exact k _ Hq1 H1 x1 rep_bl
theorem et_isN {j p} (h:EV X z e f) (hm:behindInMarks .Is (.Constant .none j p)=false:=by rfl):ET X z (.Compare e [.Is] [.Constant .none j p] pos) (fB (f1 tIsN f)) :=
 PT.imp (pt_cmpR op_isN h pe_non hm) fun σ H Q ⟨ρ,Hq,b,r,e,k⟩=>by
  obtain ⟨u,e1,e2⟩:=f1_some (fB_some e)
  refine ⟨ρ,Hq,u,r,e1,fun v Hq1 H1 x1 r1=>⟨rfl,?_⟩⟩
  rw [(rep_isN r1).1] at e2
  cases e2
  exact ⟨_,rfl,k Hq1 H1 x1⟩
theorem et_notN {j p} (h:EV X z e f) (hm:behindInMarks .IsNot (.Constant .none j p)=false:=by rfl):ET X z (.Compare e [.IsNot] [.Constant .none j p] pos) (fB (f1 tNotN f)) :=
 PT.imp (pt_cmpR op_notN h pe_non hm) fun σ H Q ⟨ρ,Hq,b,r,e,k⟩=>by
  obtain ⟨u,e1,e2⟩:=f1_some (fB_some e)
  refine ⟨ρ,Hq,u,r,e1,fun v Hq1 H1 x1 r1=>⟨rfl,?_⟩⟩
  rw [(rep_isN r1).2] at e2
  cases e2
  exact ⟨_,rfl,k Hq1 H1 x1⟩
end
def XR (X:Cx) (pins:List (Addr × Obj)) (kx:Addr → L2.St → Hp → Prop) (z:Z) (e:Expr) (G:Rho → Option Str):Prop :=
 ∀ (s:Shared) (σ:L2.St) (H:Hp) (ρ:Rho) (Hq:Hp) (c:Str) (Q:Value → Shared → Prop),Inv X pins σ H s → Rn z σ ρ Hq H → G ρ=some c → (∀ Hq' H',Rn z σ ρ Hq' H' → Same Hq Hq' → kx (clsAt z.K c) σ H') → wpAny (model X.prog X.w) X.A (eval e X.env) Q X.xe s
section
variable {X:Cx} {pins:List (Addr × Obj)} {z:Z} {kx:Addr → L2.St → Hp → Prop} {pos:Pos}
def xE (G:Rho → Option Str):FX:=fun ρ=>(G ρ).map fun c=>.xc ρ c
theorem x_setE {e:Expr} {x:Str} {p:Pos} {G:Rho → Option Str} (h:XR X pins kx z e G) (hs:swapsWith e (some (.Name x p)) pos.line X.env=pure false:=by rfl):XV X pins kx z (.Assign [.Name x p] e pos) (xE G):=by
 intro s σ H D I ⟨ρ,Hq,o',r,ef,k⟩
 obtain ⟨c,e1,rfl⟩:=Option.map_eq_some_iff.mp ef
 exact wpAny_Assign_Name (h s σ H ρ Hq c _ I r e1 fun Hq' H' r' sm=>k σ Hq' H' r' sm) hs
def xOr (G:FX) (F:FS):FX:=fun ρ=>match G ρ with | some o=>some o | none=>(F ρ).map .ok
theorem x_or {st:Stmt} {G:FX} {F:FS} (h1:XV X pins kx z st G) (h2:SV X z st F):XV X pins kx z st (xOr G F):=by
 intro s σ H D I ⟨ρ,Hq,o,r,ef,k⟩
 unfold xOr at ef
 split at ef
 ·rename_i o' e1
  cases ef
  exact h1 s σ H D I ⟨ρ,Hq,_,r,e1,k⟩
 ·obtain ⟨o',e1,e2⟩:=Option.map_eq_some_iff.mp ef
  subst e2
  exact h2 pins s σ H D I ⟨ρ,Hq,o',r,e1,k⟩
end
section
variable {P:Program} {w:World} {K:PySem.W.Frag} {mg:Str → Option Value} {base:Heap}
end
section
variable {X:Cx} {z:Z}
end
end TL
namespace TL
open PySem L2
section
variable {ρ ρ':Rho} {i n:Nat} {c f m:Str} {fl fl':List (Str × T)} {t:T} {ts:List T} {a:Addr} {F:FS} {r:Rho}
end
end TL
namespace TL
open PySem L2 SR
def runsM (m:Nat):Nat → Nat → Nat → List Nat
 | 0,_,_=>[]
 | n + 1,i,p=>(List.range (SetTable.runEnd m i + 1 - i)).map (i + ·) ++ runsM m n (SetTable.leap m i p).1 (SetTable.leap m i p).2
def roadM (m:Nat) (r:List Nat):List Nat:=runsM m (SetTable.turns m) (SetTable.bits (tupH r) % (m + 1)) (SetTable.bits (tupH r))
def masks:List Nat:=[7,31,127]
end TL
namespace TL
open PySem L2 SR
def Rise (l:List Nat):Prop:=l.Pairwise (·< ·)
def tbl (m fi mv:Nat) (ld:Bool) (l:List Nat):SetTable:={ mask:=m,place:=l.toArray,dummies:=#[],finger:=fi,led:=ld,moves:=mv,plain:=true }
structure Lay (m:Nat) (L:List (Nat × List Nat)):Prop where
 srt:Rise (L.map (·.1))
 le:∀ x ∈ L,x.1 ≤ m
 nd:(L.map (·.2)).Nodup
 s6:∀ x ∈ L,x.2 ∈ subs6
 rch:∀ x ∈ L,∃ pre post,roadM m x.2=pre ++ x.1 :: post ∧ ∀ y ∈ pre,y ∈ L.map (·.1)
section
variable {m fi mv:Nat} {ld:Bool} {L:List (Nat × List Nat)} {ha:Nat → Int}
end
end TL
namespace TL
open PySem L2 SR
structure Ow (m:Nat) (ow:Array (Option Nat)) (rs:List (List Nat)):Prop where
 sz:ow.size=m + 1
 lt:∀ j i,ow.getD j none=some i → i < rs.length
 on:∀ i,i < rs.length → ∃ j,ow.getD j none=some i
 inj:∀ j j' i,ow.getD j none=some i → ow.getD j' none=some i → j=j'
 rch:∀ j i r,ow.getD j none=some i → rs[i]?=some r → ∃ pre post,roadM m r=pre ++ j :: post ∧ ∀ y ∈ pre,∃ k,ow.getD y none=some k
end TL
namespace L2
open PySem PySem.Spec PyProof.Rows
structure SRecG (h:Heap) (S:Addr) (o:Obj) (es:Array (Int × Value)) (ep m mv:Nat) (l:Bool) (ms:List Nat):Prop where
 ho:h.get? S=some o
 ex:o.ExactSet
 hd:o.data=.set es ep (tabOf m mv l ms)
 sz:es.size=ms.length
 ri:ms.Pairwise (·< ·)
 fi:ms.length ≤ m ∧ m ≤ 127
section
variable {prog:Program} {w:World} {A:Around} {E:Value → Shared → Prop} {s:Shared} {S I:Addr} {o:Obj} {es:Array (Int × Value)} {ep m mv:Nat} {ms:List Nat}
end
section
variable {prog:Program} {w:World} {A:Around} {E:Value → Shared → Prop} {s:Shared} {S I:Addr} {o:Obj} {es:Array (Int × Value)} {ep m mv:Nat} {ms:List Nat}
end
end L2
namespace TL
open PySem L2 SR PySem.Spec PyProof.Rows
abbrev tkd (prog:Program) (w:World):=tupleKind (intKind prog w)
def ERow (Gd:Addr → List Nat → Prop) (e:Int × Value) (r:List Nat):Prop:=e.1=tupH r ∧ ∃ b,e.2=.ref b ∧ Gd b r
def RowsAt (Gd:Addr → List Nat → Prop) (es:List (Int × Value)) (rs:List (List Nat)):Prop:=es.length=rs.length ∧ ∀ (i:Nat) (e:Int × Value) (r:List Nat),es[i]?=some e → rs[i]?=some r → ERow Gd e r
structure SRow1 (prog:Program) (w:World) (Gd:Addr → List Nat → Prop) (h:Heap) (a:Addr) (l:Bool) (L:List (Nat × List Nat)) (o:Obj) (es:Array (Int × Value)) (ep m mv:Nat):Prop where
 ho:h.get? a=some o
 ex:o.ExactSet
 hd:o.data=.set es ep (tabOf m mv l (L.map (·.1)))
 er:RowsAt Gd es.toList (L.map (·.2))
 sub:∀ b r,Gd b r → (tkd prog w).is h (asInts r) b
 ly:Lay m L
 ms:m ∈ masks
 fu:L.length * 5 < m * 3
section
variable {prog:Program} {w:World} {A:Around} {E:Value → Shared → Prop} {s:Shared} {a:Addr} {l:Bool} {L:List (Nat × List Nat)} {o:Obj} {es:Array (Int × Value)} {ep m mv:Nat} {Gd:Addr → List Nat → Prop}
end
end TL
namespace TL
open PySem L2 SR PySem.Spec PyProof.Rows
section
variable {prog:Program} {w:World} {A:Around} {R:Result → Shared → Prop} {I:Addr} {fp wr:List Addr} {G:Array GenState → Array GenState → Prop} {n:Nat} {P:Nat → Value → Prop} {St:Nat → Shared → Prop}
end
end TL
namespace TL
open PySem L2 SR PySem.Spec PyProof.Rows
end TL
namespace TL
open PySem L2 SR PySem.Spec PyProof.Rows
end TL
namespace TL
open PySem L2 SR PySem.W PyProof.Rows
def gp' (p:Array Nat) (k:Nat):Nat:=p.getD k 0
section
variable (K:Nat → Nat)
def bef (x y:Nat):Prop:=K x < K y ∨ (K x=K y ∧ x < y)
structure Pf (p:Array Nat) (n m:Nat):Prop where
 sz:p.size=n
 le:m ≤ n
 lt:∀ k,k < m → gp' p k < m
 inj:∀ a c,a < m → c < m → gp' p a=gp' p c → a=c
 id:∀ k,m ≤ k → k < n → gp' p k=k
variable {K} {p:Array Nat} {n m:Nat}
structure Dq (K:Nat → Nat) (p:Array Nat) (m q:Nat):Prop where
 le:q + 1 ≤ m
 d1:∀ a c,a < c → c < m - (q + 1) → bef K (gp' p c) (gp' p a)
 d2:∀ a c,a < m - (q + 1) → m - (q + 1) ≤ c → c < m → K (gp' p c) < K (gp' p a)
 d3:∀ a c,m - (q + 1) ≤ a → a < c → c < m → K (gp' p a)=K (gp' p c) ∧ gp' p a < gp' p c
end
end TL
namespace TL
open PySem PyProof.Rows PySem.W L2 SeqAt SR
section
variable {prog:Program} {w:World} {A:Around} {E:Value → Shared → Prop} {s:Shared}
end
end TL
namespace TL
open PySem PyProof.Rows PySem.W L2 SeqAt SR
section
variable {prog:Program} {w:World} {A:Around} {E:Value → Shared → Prop} {s:Shared}
end
end TL
namespace TL
open PySem PyProof.Rows PySem.W L2 SeqAt SR
section
variable {prog:Program} {w:World} {A:Around} {E:Value → Shared → Prop} {s:Shared}
end
end TL
namespace TL
open PySem PyProof.Rows PySem.W L2 SeqAt SR
section
variable {prog:Program} {w:World} {A:Around} {E:Value → Shared → Prop} {s:Shared}
end
section
variable {X:Cx} {z:Z} {e:Expr} {f:FE} {p p2 pos pos2:Pos}
end
end TL
namespace TL
open PySem PyProof.Rows PySem.W L2 SeqAt SR
section
variable {prog:Program} {w:World} {A:Around} {E:Value → Shared → Prop} {s:Shared}
end
end TL
namespace TL
open PySem PyProof.Rows PySem.W L2 SeqAt SR
section
variable {X:Cx} {z:Z} {e:Expr} {f:FE} {p p2 pos kp:Pos}
end
end TL
namespace TL
open PySem L2
section
variable {X:Cx}
def tIntB:T → Option T
 | .bl b=>some (.int (if b then 1 else 0))
 | _=>none
theorem b_intB:Bi1 X (.type "int") tIntB:=by
 intro pins s σ H xs us Q I r h
 obtain ⟨Hq,t,w,x,rfl,sb,r1,e,k⟩:=h
 cases t with
 | bl b =>
   simp only [tIntB,Option.some.injEq] at e; subst e
   cases r1.bl
   obtain ⟨u,rfl,hu⟩:=vals1 r
   cases hu
   exact PySem.call_int_bool ⟨.int _,H,I.tok _,⟨_,rfl⟩,k _ Hq H (.refl sb) rep_int⟩
 | _=>simp [tIntB] at e
end
end TL
namespace TL
open PySem L2
mutual
def nol:T → Bool
 | .lst _=>false
 | .dct _=>false
 | .tup ts=>nolL ts
 | _=>true
def nolL:List T → Bool
 | []=>true
 | t :: ts=>nol t && nolL ts
end
def delL (H:Hp) (as:List Addr):Hp:=fun b=>if b ∈ as then none else H b
inductive RepA (K:PySem.W.Frag) (Hq H:Hp):List T → List V → List Addr → Prop
 | nil:RepA K Hq H [] [] []
 | pu {t:T} {v:V} {ts:List T} {vs:List V} {as:List Addr}:Rep K Hq t v → RepA K Hq H ts vs as → RepA K Hq H (t :: ts) (v :: vs) as
 | ow {a:Addr} {us:List T} {ws:List V} {ts:List T} {vs:List V} {as:List Addr}:Hq a=none → H a=some (.lst ws) → RepL K Hq us ws → RepA K Hq H ts vs as → RepA K Hq H (.lst us :: ts) (.ref a :: vs) (a :: as)
def tAo (z:Z) (f:FA):TA:=fun σ H Q=>∃ ρ Hq ts,Rn z σ ρ Hq H ∧ f ρ=some ts ∧ ∀ vs Hq' H',Ex Hq H Hq' H' → (∃ as,RepA z.K Hq' H' ts vs as) → Q vs H'
abbrev EAo (X:Cx) (z:Z) (es:List Expr) (f:FA):Prop:=PA X es (tAo z f)
section
variable {X:Cx} {z:Z} {e:Expr} {es:List Expr} {f:FE} {fa:FA} {pos:Pos}
end
end TL
namespace TL
open PySem L2
abbrev FM:=Rho → Option (T × Rho)
abbrev FMT:=Rho → Option (Bool × Rho)
def tM (z:Z) (f:FM):TE:=fun σ H Q=>∃ ρ Hq t ρ',Rn z σ ρ Hq H ∧ f ρ=some (t,ρ') ∧ ∀ v Hq' H',Rn z σ ρ' Hq' H' → Same Hq Hq' → Rep z.K Hq' t v → Q v H'
def tMT (z:Z) (f:FMT):TT:=fun σ H Q=>∃ ρ Hq b ρ',Rn z σ ρ Hq H ∧ f ρ=some (b,ρ') ∧ ∀ Hq' H',Rn z σ ρ' Hq' H' → Same Hq Hq' → Q b H'
abbrev EM (X:Cx) (z:Z) (e:Expr) (f:FM):Prop:=PE X e (tM z f)
abbrev EMT (X:Cx) (z:Z) (e:Expr) (f:FMT):Prop:=PT X e (tMT z f)
abbrev EMW (X:Cx) (z:Z) (e:Expr) (f:FMT):Prop:=PW X e (tMT z f)
def mOf (f:FE):FM:=fun ρ=>(f ρ).map fun t=>(t,ρ)
def m1 (fn:T → Option T) (f:FM):FM:=fun ρ=>(f ρ).bind fun p=>(fn p.1).map fun u=>(u,p.2)
section
variable {X:Cx} {z:Z} {e a b:Expr} {f:FE} {g:FM} {fa:FA} {pos:Pos}
end
end TL
namespace TL
open PySem L2
section
variable {X:Cx} {pins:List (Addr × Obj)} {z:Z} {kx:Addr → L2.St → Hp → Prop} {e a b:Expr} {f:FE} {G:Rho → Option Str} {pos:Pos}
end
section
variable {X:Cx} {pins:List (Addr × Obj)} {z:Z} {kx:Addr → L2.St → Hp → Prop} {pos:Pos}
end
section
variable {P:Program} {w:World} {K:PySem.W.Frag} {mg:Str → Option Value} {base:Heap}
end
inductive OutW where
 | nx (ρ:Rho) | rt (ρ:Rho) (t:T) | xc (ρ:Rho) (c:Str)
abbrev FW:=Rho → Option OutW
def FinW (z:Z) (kx:Addr → L2.St → Hp → Prop) (Hq:Hp) (D:Ends):OutW → Prop
 | .nx ρ=>∀ σ Hq' H',Rn z σ ρ Hq' H' → Same Hq Hq' → D.nx σ H'
 | .rt ρ t=>∀ v σ Hq' H',Rn z σ ρ Hq' H' → Same Hq Hq' → Rep z.K Hq' t v → D.rt v H'
 | .xc ρ c=>∀ σ Hq' H',Rn z σ ρ Hq' H' → Same Hq Hq' → kx (clsAt z.K c) σ H'
def tW (z:Z) (F:FW) (kx:Addr → L2.St → Hp → Prop):TS:=fun D σ H=>∃ ρ Hq o,Rn z σ ρ Hq H ∧ F ρ=some o ∧ FinW z kx Hq D o
def WV (X:Cx) (pins:List (Addr × Obj)) (kx:Addr → L2.St → Hp → Prop) (z:Z) (st:Stmt) (F:FW):Prop:=∀ s σ H D,Inv X pins σ H s → tW z F kx D σ H → wpAny (model X.prog X.w) X.A (exec st X.env) (SP X pins D) X.xe s
def WVs (X:Cx) (pins:List (Addr × Obj)) (kx:Addr → L2.St → Hp → Prop) (z:Z) (st:List Stmt) (F:FW):Prop:=∀ s σ H D,Inv X pins σ H s → tW z F kx D σ H → wpAny (model X.prog X.w) X.A (execs st X.env) (SP X pins D) X.xe s
section
variable {X:Cx} {pins:List (Addr × Obj)} {z:Z} {kx:Addr → L2.St → Hp → Prop} {pos:Pos}
abbrev kNo:Addr → L2.St → Hp → Prop:=fun _ _ _=>False
def HW (X:Cx) (z:Z) (hs:List ExceptHandler) (F:Str → FW):Prop:=∀ pins σ H D (s':Shared) (h:Heap) ea c ρ Hq o,Landed X pins σ H s' h ea (clsAt z.K c) → Rn z σ ρ Hq H → F c ρ=some o → FinW z kNo Hq D o →
 wpAny (model X.prog X.w) X.A (handleBy (.ref ea) X.env hs) (SP X pins D) X.xe { s' with heap:=h }
end
section
variable {P:Program} {w:World} {K:PySem.W.Frag} {mg:Str → Option Value} {base:Heap}
end
section
variable {X:Cx} {z:Z} {fa:FA} {pos:Pos}
end
end TL
namespace TL
open PySem L2
section
variable {ρ ρ':Rho} {i n:Nat} {c m:Str} {fl fl':List (Str × T)} {t u w:T} {ts:List T} {a:Addr} {r:Rho} {f:FE} {g:FM} {fa:FA}
end
end TL
namespace TL
open PySem L2 SR
def flOk (fl:Value):Prop:=fl=.none ∨ ∃ f,fl=rawInt f
def ChOk (X:Cx) (pins:List (Addr × Obj)) (ch:List Addr):Prop:=∀ b ∈ ch,(b ∈ X.ex ∨ X.s₀.heap.objs.size ≤ b) ∧ b ≠ X.env.locals ∧ (∀ x c,X.env.cells.lookup x=some c → c ≠ b) ∧ ∀ p ∈ X.pn ++ pins,p.1 ≠ b
def Fly (X:Cx) (pins:List (Addr × Obj)) (σ:L2.St) (kx:Addr → L2.St → Hp → Prop) (e:Value) (s':Shared):Prop :=
 ∃ (ea C:Addr) (H':Hp) (fl:Value) (s0:Shared) (H0:Hp) (ch:List Addr),e=.ref ea ∧ Inv X pins σ H0 s0 ∧ s'.os=s0.os ∧ PyProof.Rows.AllBare s'.gens ∧ Un (frs X.stack) ch H0 H' s0.heap s'.heap ∧ ChOk X pins ch ∧ HOk X.prog X.w H' s'.heap ∧ (∀ b o,s0.heap.get? b=some o → ∃ o',s'.heap.get? b=some o') ∧
   Flt (fun b=>s0.heap.get? b=none ∧ H' b=none) ea C fl s'.heap ∧ flOk fl ∧ kx C σ H'
def LandsF (X:Cx) (pins:List (Addr × Obj)) (kx:Addr → L2.St → Hp → Prop):Prop:=∀ (σ:L2.St) (e:Value) (s':Shared),Fly X pins σ kx e s' → X.xe e s'
section
variable {X:Cx} {pins:List (Addr × Obj)} {σ:L2.St} {H:Hp} {s:Shared} {kx:Addr → L2.St → Hp → Prop}
theorem LandsF.lands (h:LandsF X pins kx):Lands X pins kx:=fun σ H s C e s' I ⟨ea,C',H',he,os,bare,un,hok,f,hc,hk⟩=>by
 cases hc
 exact h σ e s' ⟨ea,C,H',.none,s,H,[],he,I,os,bare,un,(fun b hb=>by cases hb),hok,fun b o q=>un.there b o q (by simp),f,.inl rfl,hk⟩
theorem ch_fr {ch:List Addr} (I:Inv X pins σ H s) (hc:ChOk X pins ch) {b:Addr} (hb:b ∈ frs X.stack):b ∉ ch:=fun hm=>by
 obtain ⟨h1,h2,_,_⟩:=hc b hm
 have inO:b ∈ frs X.outer → False:=fun z=>by
  rcases h1 with h1 | h1
  ·exact I.ok.exfs b h1 z
  ·obtain ⟨_,o,ho,_⟩:=I.ok.funs.mem z
   exact absurd (Heap.lt_size ho) (Nat.not_lt.mpr h1)
 rcases I.ok.stk with e | ⟨e,ef⟩
 ·rw [e] at hb; exact inO hb
 ·rw [e] at hb
  obtain ⟨env,he,hfr⟩:=List.mem_filterMap.mp hb
  rcases List.mem_cons.mp he with rfl | he
  ·rw [ef] at hfr
   exact h2 (Option.some.inj hfr).symm
  ·exact inO (List.mem_filterMap.mpr ⟨env,he,hfr⟩)
theorem fly_invC {s':Shared} {H':Hp} {h5:Heap} {ch:List Addr} (I:Inv X pins σ H s) (os:s'.os=s.os) (bare:PyProof.Rows.AllBare s'.gens) (un:Un (frs X.stack) ch H H' s.heap s'.heap) (hc:ChOk X pins ch) (hok:HOk X.prog X.w H' s'.heap)
  (c:Chg (frs X.stack) (fun b=>s.heap.get? b=none ∧ H' b=none) s'.heap h5):Inv X pins σ H' { s' with heap:=h5 }:=by
 have fr0:∀ b ∈ frs X.stack,∃ o,s.heap.get? b=some o ∧ ∀ vs,o.data ≠ .fields vs:=fun b hb=>(I.stack.mem hb).2
 have old:∀ b o,s.heap.get? b=some o → ¬ (s.heap.get? b=none ∧ H' b=none):=fun b o q z=>by rw [q] at z; cases z.1
 have trk:∀ b,H' b ≠ none → b ∉ frs X.stack:=fun b hb hm=>by
  obtain ⟨o,ho,_⟩:=fr0 b hm
  exact hb (un.free b o ho (I.stkFree b hm) (ch_fr I hc hm))
 refine I.call' (ch:=ch) os ⟨fun b o q n hb hx=>?_,fun b o q n hb hx=>?_,un.free,fun b o q hx=>?_,un.tups,un.frzs,un.tbls⟩ ?_ bare hc
 ·exact c.keep b o (un.keep b o q n hb hx) (old b o q) hb
 ·obtain ⟨sl,e1⟩:=un.slot b o q n hb hx
  obtain ⟨sl',e2⟩:=c.there e1 (old b o q)
  exact ⟨sl',e2⟩
 ·obtain ⟨o',e1⟩:=un.there b o q hx
  obtain ⟨sl,e2⟩:=c.there e1 (old b o q)
  exact ⟨_,e2⟩
 ·intro a u ha
  refine (hok a u ha).stay (fun b v hb q=>?_) (fun _ q=>q) (fun _ _ q=>q)
  have hn:H' b ≠ none:=by
   rcases hb with rfl | hb
   ·rw [ha]; simp
   ·rw [hb]; simp
  exact c.keep b v q (fun z=>hn z.2) (trk b hn)
theorem wp_lookF {M:Model} {A:Around} {E':Value → Shared → Prop} {base:Heap} {env env':Env} {outer:List Env} {N:Addr → Prop} {L ea C:Addr} {fl:Value} {Q:Unit → Shared → Prop}
  (fr:A.frames=some (env :: outer)) (fn:s.heap.FunFrames base (env :: outer)) (ef:env.frame=some L) (ef':env'.frame=some L) (hN:∀ b,s.heap.get? b=none → N b) (f:Flt N ea C fl s.heap) (hfl:flOk fl)
  (q:∀ h',Flt N ea C (rawInt L) h' → Chg (frs (env :: outer)) N s.heap h' → Q () { s with heap:=h' }):wpAny M A (noteFrame (.ref ea) env') Q E' s:=by
 have f0:=f
 obtain ⟨ne,oe,vs,T,oT,ts,e1,e2,e3,e4,e5,e6,e7,e8,e9,e10⟩:=f
 have sz:3 < ts.size:=(Array.getElem?_eq_some_iff.mp e10).1
 have efr:frameOf env'=frameOf env:=by unfold frameOf; rw [ef,ef']
 unfold noteFrame
 simp only [ef']
 refine wpAny_bind (wpAny_field e1 e3 e4 ?_)
 rw [if_pos (show (Value.ref T != Value.none)=true by simp)]
 refine wpAny_bind (wpAny_field e8 e9 e10 ?_)
 by_cases hb:(fl == rawInt L)=true
 ·rw [if_pos hb]
  have:fl=rawInt L:=by
   rcases hfl with rfl | ⟨f,rfl⟩
   ·simp [rawInt] at hb
   ·simp [rawInt] at hb ⊢
    exact hb
  subst this
  exact wpAny_pure (q s.heap f0 .refl)
 rw [if_neg hb]
 refine wpAny_bind (wpAny_setField e8 e9 sz ?_)
 rw [efr]
 have oth:∀ b,b ≠ T → (s.heap.update T (Obj.mapFields (·.setIfInBounds 3 Value.none))).get? b=s.heap.get? b:=fun b hb=>Heap.get?_update_other _ _ (Ne.symm hb)
 refine wp_note (base:=base) fr (fn.of_keeps fun b o e n=>⟨o,(oth b fun z=>?_).trans e,rfl⟩) ef (fun b e=>?_) ne ((oth ea (Ne.symm e6)).trans e1) e2 e3 (Array.getElem?_eq_some_iff.mp e4).1 e5 fun h' f' c'=>q h' f' ⟨fun b o e n hb=>c'.keep b o ((oth b fun z=>n (z ▸ e7)).trans e) n hb,fun b o e hb n=>c'.slot b o ((oth b fun z=>n (z ▸ e7)).trans e) hb n⟩
 ·rw [z,e8] at e; cases e; exact n _ e9
 ·by_cases z:b=T
  ·rw [z]; exact e7
  ·exact hN b (by rw [← oth b z]; exact e)
theorem wp_mark {M:Model} {A:Around} {E':Value → Shared → Prop} {S:List Addr} {N:Addr → Prop} {ea C:Addr} {fl:Value} {o:Option Addr} {Q:Unit → Shared → Prop} (f:Flt N ea C fl s.heap) (q:∀ h' fl',flOk fl' → Flt N ea C fl' h' → Chg S N s.heap h' → Q () { s with heap:=h' }) :
  wpAny M A (setFlight (.ref ea) o) Q E' s:=by
 obtain ⟨ne,oe,vs,T,oT,ts,e1,e2,e3,e4,e5,e6,e7,e8,e9,e10⟩:=f
 have sz:3 < ts.size:=(Array.getElem?_eq_some_iff.mp e10).1
 unfold setFlight
 refine wpAny_bind (wpAny_field e1 e3 e4 ?_)
 rw [if_pos (show (Value.ref T != Value.none)=true by simp)]
 have d:=Obj.data_mapFields e9 (·.setIfInBounds 3 (o.elim Value.none fun f=>rawInt f))
 refine wpAny_setField e8 e9 sz (q _ (o.elim Value.none fun f=>rawInt f) ?_ ⟨ne,oe,vs,T,_,_,?_,e2,e3,e4,e5,e6,e7,Heap.get?_update_self _ e8 (Obj.isFreed_of_fields d),d,by simp [sz]⟩ ⟨fun b o e n _=>?_,fun b o e _ n=>⟨o.slots,?_⟩⟩)
 ·cases o with
  | none=>exact .inl rfl
  | some f=>exact .inr ⟨f,rfl⟩
 ·rw [Heap.get?_update_other _ _ e6]; exact e1
 ·rw [Heap.get?_update_other _ _ (fun z:T=b=>n (z ▸ e7))]; exact e
 ·rw [Heap.get?_update_other _ _ (fun z:T=b=>n (z ▸ e7))]; exact e
theorem wp_passF {E:XK} {M:Model} {E':Value → Shared → Prop} {e:Value} {s':Shared} (hst:X.stack=X.env :: X.outer) (hf:X.env.frame=some X.env.locals) (hex:X.ex=[])
  (hc:Fly X pins σ kx e s') (hE:∀ ea C H',kx C σ H' → E (.ref ea) (some C) H') :
  wpAny M X.A (leaving X.env e) (fun _ s''=>CX1 X.prog X.w X.outer X.H₀ X.s₀ E e s'') E' s':=by
 obtain ⟨ea,C,H',fl,s0,H0,ch,rfl,I,os,bare,un,hch,hok,th,f,hfl,hk⟩:=hc
 have frm:X.A.frames=some (X.env :: X.outer):=by rw [I.ok.frames,hst]
 have J0:Inv X pins σ H' { s' with heap:=s'.heap }:=fly_invC I os bare un hch hok .refl
 have stk:=J0.stack
 rw [hst] at stk
 have nex:∀ b,b ∉ X.ex:=fun b=>by rw [hex]; simp
 unfold leaving
 refine wpAny_bind (wp_lookF (base:=X.base) (N:=fun b=>s0.heap.get? b=none ∧ H' b=none) (C:=C) (fl:=fl) frm stk hf hf (fun b hb=>?_) f hfl fun h1 f1 c1=>?_)
 ·constructor
  ·cases z:s0.heap.get? b with
   | none=>rfl
   | some u =>
     obtain ⟨v,hv⟩:=th b u z
     rw [hb] at hv; cases hv
  ·cases z:H' b with
   | none=>rfl
   | some u =>
     obtain ⟨v,hv⟩:=ObjOk_there (hok b u z)
     rw [hb] at hv; cases hv
 refine wp_land (S:=frs (X.env :: X.outer)) f1 fun h2 f2 c2=>?_
 have J:=fly_invC (h5:=h2) I os bare un hch hok (by rw [hst]; exact c1.trans c2)
 have jb:=J.base
 rw [hex] at jb
 refine ⟨ea,C,H',rfl,J.os,J.bare,jb,J.hok,f2.mono fun b hb=>⟨?_,hb.2⟩,hE ea C H' hk⟩
 cases z:X.s₀.heap.get? b with
 | none=>rfl
 | some u =>
   obtain ⟨v,hv⟩:=I.base.there b u z (nex b)
   rw [hb.1] at hv; cases hv
end
theorem landsF_body {P:Program} {w:World} {K:PySem.W.Frag} {mg:Str → Option Value} {base:Heap} {N:List Str} {x:Str} {sc:Scope} {f:Addr} {cdv:Value} {A:Around} {outer:List Env} {s:Shared} {H:Hp} {E:XK} {pins:List (Addr × Obj)} {kx:Addr → L2.St → Hp → Prop}
  (hk:∀ C σ' H',kx C σ' H' → ∀ ea,E (.ref ea) (some C) H'):LandsF (cxOf (CX1 P w) P w K mg base N x sc f cdv A outer s H E) pins kx:=by
 intro σ1 e s' hc
 exact wp_passF rfl rfl rfl hc fun ea C H' q=>hk _ _ _ q ea
end TL
namespace TL
open PySem PySem.Spec PyProof.Rows L2
theorem codeAny_compLoop_x {prog:Program} {w:World} {A:Around} {s:Shared} {elt target iter:Expr} {ifs:List Expr} {scope:Scope} {pos:Pos} {it acc:Value} {env:Env} {R:Result → Shared → Prop} (I:Nat → Shared → Prop)
  (turn:∀ n s,I n s → wpAny (model prog w) A (pyNext it) (fun r s₁=>match r with
   | none=>R (.ok .next) s₁
   | some v=>wpAny (model prog w) A (letOwnedTupleGo target it v) (fun _ s₁'=>wpAny (model prog w) A (assign target env v) (fun _ s₂ =>
     wpAny (model prog w) A (forIn ifs true fun c r=>if r=true then do let ok ← isTrue c env (eval c env); pure (ForInStep.yield ok) else pure (ForInStep.yield r)) (fun ok s₃ =>
      if ok=true then wpAny (model prog w) A (eval elt env) (fun x s₄ =>
       wpAny (model prog w) A (call (.builtin "list.append") [acc,x]) (fun _ s₅=>∃ m,m < n ∧ I m s₅) (fun _ _=>False) s₄) (notedBy (model prog w) A env fun x s'=>R (.error x) s') s₃
      else ∃ m,m < n ∧ I m s₃) (fun _ _=>False) s₂) (fun _ _=>False) s₁') (fun _ _=>False) s₁) (fun _ _=>False) s)
  (n:Nat) (h:I n s) :
  codeAny (model prog w) A (.compLoop (.ListComp elt [⟨target,iter,ifs,0⟩] scope pos) 0 it acc env) R s:=by
 refine codeAny_loop rfl I (fun n s hI=>?_) n h
 show wpAny _ A ((compTurn (.ListComp elt [⟨target,iter,ifs,0⟩] scope pos) 0 it acc env).onRaise (fun x=>do noteFrame x env; theTreesLotGoes x)) _ _ s
 refine wpAny_noted ?_
 rw [compTurn_list]
 refine wpAny_bind (wpAny_standAt (wpAny_bind (wpAny_mono (turn n s hI) (fun r s₁ h₁=>?_) fun _ _ h'=>h'.elim)))
 cases r with
 | none=>exact wpAny_pure h₁
 | some v =>
   refine wpAny_bind (wpAny_mono h₁ (fun _ s₁' h₁'=>?_) fun _ _ h'=>h'.elim)
   refine wpAny_bind (wpAny_mono h₁' (fun _ s₂ h₂=>wpAny_bind (wpAny_mono h₂ (fun ok s₃ h₃=>?_) fun _ _ h'=>h'.elim)) fun _ _ h'=>h'.elim)
   cases ok with
   | false=>exact wpAny_pure ⟨rfl,h₃⟩
   | true =>
     exact wpAny_bind (wpAny_bind (wpAny_mono h₃ (fun x s₄ h₄=>wpAny_bind (wpAny_mono h₄ (fun _ s₅ h₅=>wpAny_pure (wpAny_pure ⟨rfl,h₅⟩)) fun _ _ h'=>h'.elim)) fun _ _ h'=>h'))
def tCompX (ix:List (Option Nat)) (wi:TI) (g:TG) (tc:TT) (te:TE) (tr:L2.St → Hp → (Addr → Hp → Prop) → Prop) (kx:Addr → L2.St → Hp → Prop) (σ:L2.St) (H:Hp):Prop:=wi σ H fun J H1=>∃ W:Nat → Nat → List V → Hp → Prop,(∃ m,W 0 m [] H1) ∧ ∀ i m ys H,W i m ys H →
 J.go i H ∧ ys.length < sizeLine ∧ ∀ x H',J.yld i H x H' → g x (subSt ix σ) H' fun σ2 H2=>(∀ (i:Nat) (v:V),(subSt ix σ)[i]?=some (some v) → σ2[i]?=some (some v)) ∧ tc σ2 H2 fun c H3 =>
  if c=true then (te σ2 H3 fun y H4=>∃ m',m' < m ∧ W (i + 1) m' (ys ++ [y]) H4) ∨ tr σ2 H3 (fun C H'=>kx C σ H') else ∃ m',m' < m ∧ W (i + 1) m' ys H3
section
variable {X:Cx} {elt iter tg:Expr} {ifs:List Expr} {scope:Scope} {pos:Pos} {N':List Str} {ix:List (Option Nat)} {wi:TI} {g:TG} {tc:TT} {te:TE} {tr:L2.St → Hp → (Addr → Hp → Prop) → Prop}
theorem comp_raise (hc:X.calm=true) (hkind:scope.kind=.function) (hcell:∀ y ∈ scope.names,y.2=.cell → scope.names.lookup y.1=some .cell) (hdis:∀ x,(x,NameKind.cell) ∈ scope.names → (x,NameKind.free) ∉ scope.names) (hnames:∀ y ∈ scope.names,y.2=.local → scope.names.lookup y.1=some .local)
  (hfr:∀ x ∈ scope.names,x.2=.free → X.env.kindOf x.1=some .cell ∨ X.env.kindOf x.1=some .free) (hix:IxOk X.N X.env.scope scope N' ix) (hfree:∀ (j i:Nat) (x:Str),ix[j]?=some (some i) → N'[j]?=some x → scope.names.lookup x=some .free)
  (hi:PI X tg iter wi) (hg:∀ C s H fp,PG (compCx X scope N' C s H fp) tg g) (ht:∀ C s H fp,PIfs (compCx X scope N' C s H fp) ifs tc) (he:∀ C s H fp,PE (compCx X scope N' C s H fp) elt te)
  (hr:∀ C s H fp E P (kx':Addr → L2.St → Hp → Prop),Lands ((compCx X scope N' C s H fp).wish E) P kx' → ∀ s' σ' H' Q,Inv ((compCx X scope N' C s H fp).wish E) P σ' H' s' → tr σ' H' (fun c H''=>kx' c σ' H'') → wpAny (model X.prog X.w) X.A (eval elt ((compCx X scope N' C s H fp).wish E).env) Q E s')
  (hs:∀ x,foldedSetIterable iter X.env x=pure x:=by intro _; rfl) (hst:X.stack=X.env :: X.outer) (hf:X.env.frame=some X.env.locals) {pins:List (Addr × Obj)} {kx:Addr → L2.St → Hp → Prop} (hL:LandsF X pins kx)
  {s:Shared} {σ:L2.St} {H:Hp} (I:Inv X pins σ H s) (h:tCompX ix wi g tc te tr kx σ H) {Q0:Value → Shared → Prop} :
  wpAny (model X.prog X.w) X.A (eval (.ListComp elt [⟨tg,iter,ifs,0⟩] scope pos) X.env) Q0 X.xe s:=by
 rw [eval_ListComp]
 refine wpAny_comprehension_free (use:=none) rfl hs (closureFor_all fun x hx hf=>I.ok.has x.1 (hfr x hx hf)) hkind hnames (thn (hi pins s σ H _ I h) fun v s1 h1=>thn h1 fun itv s2 h2=>?_)
 obtain ⟨it,fp,tn,J,H2,e,I2,T,st2,f2,W,⟨m0,w0⟩,turn⟩:=h2
 have f2':=f2
 subst e
 have hfs:∀ b ∈ fp,b < s2.heap.objs.size:=fun b hb=>let ⟨o,e,_⟩:=T.obj _ _ st2 b hb; Heap.lt_size e
 refine wpAny_newObj_type (wpAny_compEnv fun h₁ hns₁ hsb₁ hnew₁=>?_)
 dsimp only at hns₁ hsb₁ hnew₁ ⊢
 generalize hH2:s2.heap.push { cls:=.type "list",dict:=none,data:=.seq ([]:List Value).toArray }=K2 at hns₁ hsb₁ hnew₁ ⊢
 have hCs:K2.objs.size=s2.heap.objs.size + 1:=by rw [← hH2,Heap.size_push]
 have hDC:s2.heap.objs.size ≠ K2.objs.size:=by rw [hCs]; exact Nat.ne_of_lt (Nat.lt_succ_self _)
 have hCle:s2.heap.objs.size ≤ K2.objs.size:=by rw [hCs]; exact Nat.le_succ _
 have below:∀ b,b < s2.heap.objs.size → b ≠ K2.objs.size:=fun b hb=>by rw [hCs]; exact Nat.ne_of_lt (Nat.lt_succ_of_lt hb)
 have kp:∀ b o,s2.heap.get? b=some o → h₁.get? b=some o:=fun b o e=>hsb₁ b o (hH2 ▸ Heap.get?_push_of_some _ e)
 have hacc:h₁.PlainList s2.heap.objs.size ([]:List Value).toArray:=⟨_,hsb₁ _ _ (hH2 ▸ Heap.get?_push_size _ rfl)⟩
 have hns:h₁.Ns K2.objs.size fun _=>none:=hns₁
 have X':=compCx X scope N' K2.objs.size s2 H2 fp
 have I3:Inv (compCx X scope N' K2.objs.size s2 H2 fp) [] (subSt ix σ) H2 { s2 with heap:=h₁,toks:=s2.toks }:=block_start I2 hkind hcell hdis hfr hix hfree f2 hfs kp hCle hns hnew₁
 have accFs:s2.heap.objs.size ∉ frs X.stack:=fun z=>by
  obtain ⟨_,o,ho,_⟩:=I2.stack.mem z
  exact absurd (Heap.lt_size ho) (Nat.lt_irrefl _)
 have stat:∀ {H':Hp} {o:Obj},(∀ b ∈ fp,H' b=none) → ∀ b ∈ fp,FpOk (compCx X scope N' K2.objs.size s2 H2 fp) [(s2.heap.objs.size,o)] H' b:=fun {H' o} hn b hb=>by
  refine ⟨hn b hb,below b (hfs b hb),fun z=>?_,.inl hb,fun x c e=>?_,fun p hp=>?_⟩
  ·exact I3.ok.exfs b hb z
  ·exact (I3.ok.exf b hb).2 x c e
  ·have:p=(s2.heap.objs.size,o):=by simpa [compCx] using hp
   subst this
   exact Nat.ne_of_gt (hfs b hb)
 have loop:∀ s₃:Shared,s₃={ s2 with heap:=h₁,toks:=s2.toks } →
   codeAny (model X.prog X.w) X.A (.compLoop (.ListComp elt [⟨tg,iter,ifs,0⟩] scope pos) 0 (.ref it) (.ref s2.heap.objs.size) (compEnvC scope (cellsFrom (K2.objs.size + 1) scope.names (clOf scope X.env)) K2.objs.size X.env))
    (compPost (model X.prog X.w) X.A X.xe none Q0 (.ref s2.heap.objs.size) K2.objs.size) s₃:=by
  rintro s₃ rfl
  refine codeAny_compLoop_x (fun n s'=>∃ i ys its Hc,Inv (compCx X scope N' K2.objs.size s2 H2 fp) [] (subSt ix σ) Hc s' ∧ tn i s'.heap ∧ (∀ b ∈ fp,Hc b=none) ∧ Hc s2.heap.objs.size=none ∧ s'.heap.PlainList s2.heap.objs.size (its:List Value).toArray ∧ Vals ys its ∧ W i n ys Hc) ?_ m0
   ⟨0,[],[],H2,I3,T.keep _ _ _ st2 fun b _ o e=>kp b o e,fun b hb=>(f2 b hb).1,I2.hok.fresh (Nat.le_refl _),hacc,.nil,w0⟩
  rintro n s3 ⟨i,ys,its,H3,J3,st3,fr3,fa3,⟨nn,pl3⟩,rv3,w3⟩
  have P3:Inv (compCx X scope N' K2.objs.size s2 H2 fp) [(s2.heap.objs.size,{ cls:=.type "list",data:=.seq its.toArray nn })] (subSt ix σ) H3 s3:=J3.pins_of fun p hp=>by
   have:p=(s2.heap.objs.size,{ cls:=.type "list",data:=.seq its.toArray nn }):=by simpa using hp
   subst this
   exact ⟨pl3,fa3,hDC,accFs,fun v z=>by cases z⟩
  obtain ⟨go,hlen,step⟩:=turn i n ys H3 w3
  refine thn (T.item (compCx X scope N' K2.objs.size s2 H2 fp) rfl rfl rfl hc i _ s3 (subSt ix σ) H3 _ P3 (stat fr3) st3 go) fun r s4 ⟨u,hru,h4⟩=>?_
  subst hru
  refine thn h4 fun _ s5 ⟨x,H5,I5,r5,y5,st5,fr5⟩=>?_
  have I5':=I5.pinned (stat fr5) (T.obj _ _ st5)
  refine thn (hg _ _ _ _ _ s5 _ H5 x u _ I5' r5 (step x H5 y5)) fun _ s6 ⟨σ6,H6,I6,wk,q6⟩=>?_
  refine thn (ht _ _ _ _ _ s6 σ6 H6 _ I6 q6) fun ok s7 ⟨H7,I7,q7⟩=>?_
  have pinA:∀ {s8:Shared} {H8:Hp},Inv (compCx X scope N' K2.objs.size s2 H2 fp) ([(s2.heap.objs.size,{ cls:=.type "list",data:=.seq its.toArray nn })] ++ pinsAt fp s5.heap) σ6 H8 s8 → s8.heap.get? s2.heap.objs.size=some { cls:=.type "list",data:=.seq its.toArray nn } ∧ H8 s2.heap.objs.size=none:=fun {s8 H8} I8=>by
   have z:=I8.pin (s2.heap.objs.size,_) (List.mem_append_right _ (List.mem_append_left _ (List.mem_singleton.mpr rfl)))
   exact ⟨z.1,z.2.1⟩
  have again:∀ {s8:Shared} {H8:Hp} {ys8:List V} {its8:List Value} {m':Nat},Inv (compCx X scope N' K2.objs.size s2 H2 fp) (pinsAt fp s5.heap) σ6 H8 s8 → H8 s2.heap.objs.size=none → s8.heap.PlainList s2.heap.objs.size its8.toArray → Vals ys8 its8 → m' < n → W (i + 1) m' ys8 H8 →
    ∃ m,m < n ∧ ∃ i ys its Hc,Inv (compCx X scope N' K2.objs.size s2 H2 fp) [] (subSt ix σ) Hc s8 ∧ tn i s8.heap ∧ (∀ b ∈ fp,Hc b=none) ∧ Hc s2.heap.objs.size=none ∧ s8.heap.PlainList s2.heap.objs.size (its:List Value).toArray ∧ Vals ys its ∧ W i m ys Hc:=fun {s8 H8 ys8 its8 m'} I8 fa8 pl8 rv8 hm w8=>by
   refine ⟨m',hm,i + 1,ys8,its8,H8,?_,T.keep _ _ _ st5 fun b hb o e=>(I8.pin (b,o) (List.mem_append_right _ (mem_pinsAt hb e))).1,fun b hb=>?_,fa8,pl8,rv8,w8⟩
   ·exact (I8.weak (by rw [I8.len]; exact I3.len) wk).pins_of fun p hp=>nomatch hp
   ·obtain ⟨o,e,d⟩:=T.obj _ _ st5 b hb
    exact (I8.pin (b,o) (List.mem_append_right _ (mem_pinsAt hb e))).2.1
  have dropA:∀ {s8:Shared} {H8:Hp} {P:List (Addr × Obj)},Inv (compCx X scope N' K2.objs.size s2 H2 fp) (P ++ pinsAt fp s5.heap) σ6 H8 s8 → Inv (compCx X scope N' K2.objs.size s2 H2 fp) (pinsAt fp s5.heap) σ6 H8 s8:=fun {s8 H8 P} I8 =>
   I8.pins_of fun p hp=>I8.pin p (List.mem_append_right _ (List.mem_append_right _ hp))
  cases ok with
  | false =>
    have q7':∃ m',m' < n ∧ W (i + 1) m' ys H7:=q7
    obtain ⟨m',hm,w7⟩:=q7'
    obtain ⟨a7,fa7⟩:=pinA I7
    exact again (dropA I7) fa7 ⟨nn,a7⟩ rv3 hm w7
  | true =>
    rcases q7 with q7 | q7
    ·refine wpAny_mono (he _ _ _ _ _ s7 σ6 H7 _ I7 q7) (fun u8 s8 ⟨y8,H8,I8,r8,m',hm,w8⟩=>?_) fun _ _ z=>z.elim
     obtain ⟨a8,fa8⟩:=pinA I8
     have hz:its.toArray.size ≤ sizeLine:=by rw [List.size_toArray,← rv3.length]; exact Nat.le_of_lt hlen
     refine wpAny_list_append_plain ⟨nn,a8⟩ (fun h' pl' hsb=>?_) hz
     have I9:Inv (compCx X scope N' K2.objs.size s2 H2 fp) (pinsAt fp s5.heap) σ6 H8 { s8 with heap:=h' }:=by
      refine (dropA I8).turned (t':=s8.toks) (it:=s2.heap.objs.size) (fun b o hb e=>(hsb.2 b hb).trans e) fa8 hDC (.inr (Nat.le_refl _)) (fun x c e z=>?_) fun p hp z=>?_
      ·rcases cf_mem (mem_of_lookup e) with w | w
       ·obtain ⟨v,o,ho,_⟩:=I2.cell x c (clOf_mem w)
        exact absurd (Heap.lt_size ho) (by rw [z]; exact Nat.lt_irrefl _)
       ·have:=w.2
        rw [z,hCs] at this
        omega
      ·have hp':p ∈ pinsAt fp s5.heap:=by simpa [compCx] using hp
       have:=hfs p.1 (of_pinsAt hp').1
       rw [z] at this
       exact Nat.lt_irrefl _ this
     have pl'':h'.PlainList s2.heap.objs.size (its ++ [u8]).toArray:=by
      have e:its.toArray.push u8=(its ++ [u8]).toArray:=by simp
      rw [← e]; exact pl'
     exact again I9 fa8 pl'' (rv3.append (.cons r8 .nil)) hm w8
    ·refine wpAny_mono (hr _ _ _ _ (fun e s'=>∃ (σ7:L2.St) (H7:Hp) (s7:Shared) (C7:Addr),Inv (compCx X scope N' K2.objs.size s2 H2 fp) ([(s2.heap.objs.size,{ cls:=.type "list",data:=.seq its.toArray nn })] ++ pinsAt fp s5.heap) σ7 H7 s7 ∧ CX1 X.prog X.w X.stack H7 s7 (fun _ c H'=>c=some C7 ∧ kx C7 σ H') e s') _ (fun c _ H'=>kx c σ H') (fun σ7 H7 s7 C7 e s' I hc=>⟨σ7,H7,s7,C7,of_wish I,hc⟩) s7 σ6 H7 (fun _ _=>False) (inv_wish I7) q7) (fun _ _ z=>z.elim) fun e s8 hx=>?_
     obtain ⟨σ7,H7',s7',C7,J7,ea,C8,H',rfl,os,bare,un,hok,f,hc8,hk⟩:=hx
     cases hc8
     have J8:Inv (compCx X scope N' K2.objs.size s2 H2 fp) _ σ7 H' { s8 with heap:=s8.heap }:=fly_inv J7 os bare un hok .refl
     have stk:=J8.stack
     have frm:X.A.frames=some (X.env :: X.outer):=by rw [I2.ok.frames,hst]
     have stk':s8.heap.FunFrames X.base (X.env :: X.outer):=by rw [← hst]; exact stk
     refine wp_lookF (base:=X.base) (env:=X.env) (N:=fun b=>s7'.heap.get? b=none ∧ H' b=none) (C:=C7) (fl:=.none) frm stk' hf hf (fun b hb=>?_) f (.inl rfl) fun h1 f1 c1=>?_
     ·constructor
      ·cases z:s7'.heap.get? b with
       | none=>rfl
       | some u =>
         obtain ⟨v,hv⟩:=un.there b u z (by simp)
         rw [hb] at hv; cases hv
      ·cases z:H' b with
       | none=>rfl
       | some u =>
         obtain ⟨v,hv⟩:=ObjOk_there (hok b u z)
         rw [hb] at hv; cases hv
     rw [← hst] at c1
     have J9:=fly_inv (h5:=h1) J7 os bare un hok c1
     obtain ⟨m9,hn9,_⟩:=id J9.loc
     refine ⟨m9,hn9,fun h' hsb cenv _=>?_⟩
     have th7:∀ b o,s2.heap.get? b=some o → ∃ o',s7'.heap.get? b=some o':=fun b o q=>by
      by_cases hb:b ∈ fp
      ·obtain ⟨o',e,_⟩:=T.obj _ _ st5 b hb
       exact ⟨o',(J7.pin (b,o') (List.mem_append_right _ (List.mem_append_right _ (mem_pinsAt hb e)))).1⟩
      ·exact J7.base.there b o q hb
     have c7:∃ o,s7'.heap.get? K2.objs.size=some o:=by
      obtain ⟨m,⟨o,es,ep,ho,_⟩,_⟩:=id J7.loc
      exact ⟨o,ho⟩
     have nC:∀ b,s7'.heap.get? b=none → b ≠ K2.objs.size:=fun b q z=>by
      obtain ⟨o,ho⟩:=c7
      rw [z,ho] at q; cases q
     have oldC:∀ b o,b ≠ K2.objs.size → h1.get? b=some o → h'.get? b=some o:=fun b o hb e=>(hsb.2 b hb).trans e
     have f2:Flt (fun b=>s7'.heap.get? b=none ∧ H' b=none) ea C7 (rawInt X.env.locals) h':=by
      obtain ⟨ne,oe,vs,T',oT,ts,e1,e2,e3,e4,e5,e6,e7,e8,e9⟩:=f1
      exact ⟨ne,oe,vs,T',oT,ts,oldC _ _ (nC _ ne.1) e1,e2,e3,e4,e5,e6,e7,oldC _ _ (nC _ e7.1) e8,e9⟩
     obtain ⟨ne,oe,vs,T',oT,ts,e1,e2,e3,e4,_⟩:=id f2
     unfold PySem.passOn
     refine wpAny_bind (wpAny_field e1 e3 e4 ?_)
     rw [if_neg (show ¬ ((Value.ref T' == Value.none)=true) by simp)]
     refine wpAny_bind (wp_mark (S:=[]) f2 fun h3 fl' ok3 f3 c3=>?_)
     refine wpAny_throw (hL σ _ _ ⟨ea,C7,H',fl',s2,H2,fp,rfl,I2,?_,bare,?_,?_,?_,?_,f3.mono fun b hb=>⟨?_,hb.2⟩,ok3,hk⟩)
     ·exact J9.os
     ·have B:=J9.base
      have to3:∀ b o o',s2.heap.get? b=some o → h1.get? b=some o' → h3.get? b=some o':=fun b o o' q e=>by
       obtain ⟨o7,h7⟩:=th7 b o q
       exact c3.keep b o' (oldC b o' (below b (Heap.lt_size q)) e) (fun z=>by rw [h7] at z; cases z.1) (by simp)
      refine ⟨fun b o e n hb hx=>to3 b o _ e (B.keep b o e n hb hx),fun b o e n hb hx=>?_,B.free,fun b o e hx=>?_,B.tups,B.frzs,B.tbls⟩
      ·obtain ⟨sl,z⟩:=B.slot b o e n hb hx
       exact ⟨sl,to3 b o _ e z⟩
      ·obtain ⟨o',z⟩:=B.there b o e hx
       exact ⟨o',to3 b o _ e z⟩
     ·exact fun b hb=>⟨(f2' b hb).2.2.2.1,(f2' b hb).2.1,(f2' b hb).2.2.2.2.1,(f2' b hb).2.2.2.2.2⟩
     ·intro b u e
      have f9:H' K2.objs.size=none:=J9.free
      refine (J9.hok b u e).stay (fun c v hcc q=>?_) (fun _ q=>q) fun _ _ q=>q
      have hn:H' c ≠ none:=by
       rcases hcc with rfl | hcc
       ·rw [e]; simp
       ·rw [hcc]; simp
      exact c3.keep c v (oldC c v (fun z=>hn (z ▸ f9)) q) (fun z=>hn z.2) (by simp)
     ·intro b o q
      obtain ⟨o7,h7⟩:=th7 b o q
      obtain ⟨o8,h8⟩:=un.there b o7 h7 (by simp)
      obtain ⟨sl,h9⟩:=c1.there h8 (fun z=>by rw [h7] at z; cases z.1)
      exact ⟨_,c3.keep b _ (oldC b _ (below b (Heap.lt_size q)) h9) (fun z=>by rw [h7] at z; cases z.1) (by simp)⟩
     ·cases z:s2.heap.get? b with
      | none=>rfl
      | some u =>
        obtain ⟨v,hv⟩:=th7 b u z
        rw [hb.1] at hv; cases hv
 exact codeAny_compStart_list (loop _ rfl) (T.self _ 0 _ _ _ (T.keep _ _ _ st2 fun b _ o e=>kp b o e) (loop _ rfl))
end
end TL
namespace TL
open PySem L2 SR
section
variable {X:Cx} {pins:List (Addr × Obj)} {kx:Addr → L2.St → Hp → Prop} {z:Z} {pos:Pos}
def XE (X:Cx) (pins:List (Addr × Obj)) (kx:Addr → L2.St → Hp → Prop) (z:Z) (e:Expr) (G:Rho → Option Str):Prop :=
 ∀ (s:Shared) (σ:L2.St) (H:Hp) (ρ:Rho) (Hq:Hp) (c:Str) (Q:Value → Shared → Prop),Inv X pins σ H s → Rn z σ ρ Hq H → G ρ=some c → (∀ Hq' H',Ex Hq H Hq' H' → kx (clsAt z.K c) σ H') → wpAny (model X.prog X.w) X.A (eval e X.env) Q X.xe s
theorem XE.xr {e:Expr} {G:Rho → Option Str} (h:XE X pins kx z e G):XR X pins kx z e G:=fun s σ H ρ Hq c Q I r e hk=>h s σ H ρ Hq c Q I r e fun Hq' H' x=>hk Hq' H' (r.ext x) x.q
def gOr (G1 G2:Rho → Option Str):Rho → Option Str:=fun ρ=>match G1 ρ with | some c=>some c | none=>G2 ρ
theorem xe_or {e:Expr} {G1 G2:Rho → Option Str} (h1:XE X pins kx z e G1) (h2:XE X pins kx z e G2):XE X pins kx z e (gOr G1 G2):=by
 intro s σ H ρ Hq c Q I r eg hk
 unfold gOr at eg
 split at eg
 ·rename_i d e1
  cases eg
  exact h1 s σ H ρ Hq c Q I r e1 hk
 ·exact h2 s σ H ρ Hq c Q I r eg hk
def gCallX (n:Nat) (G:List T → Bool) (c:Str) (fa:FA):Rho → Option Str:=fun ρ=>match fa ρ with
 | some ts=>if ts.length=n ∧ G ts=true then some c else none
 | none=>none
theorem xe_call {k n:Nat} {x c:Str} {p:Pos} {e:Expr} {es:List Expr} {fa:FA} {G:List T → Bool} (hL:Lands X pins kx) (hK:z.K=X.K) (h:HasX X.prog X.w X.K X.mg X.base x k n G c) (hr:Room k X.A) (ha:EA X z (e :: es) fa)
  (hgl:Gl X x:=by rfl) (hd:(x == ("__debug__":Str))=false:=by decide) (hs:starEach (e :: es) X.env=(false,eval e X.env) :: starEach es X.env:=by rfl) (hpl:(backTo pos (starEach es X.env)).any (·.1)=false:=by rfl) :
  XE X pins kx z (.Call (.Name x p) (e :: es) [] pos) (gCallX n G c fa):=by
 intro s σ H ρ Hq d Q I r eg hk
 unfold gCallX at eg
 split at eg
 ·rename_i ts hf
  split at eg
  ·rename_i hc
   obtain ⟨hn,hg⟩:=hc
   cases eg
   obtain ⟨a,fd,ps,hl,F,hm,hkp,hb⟩:=h
   refine wpAny_Call_Name_kw (ld_glob I hgl hm ?_ hd)
   refine PySem.W.callWith_K (h₀:=X.base) I.ok.mod.kin hkp (thn (ha pos pins s σ H (fun vs H1=>∃ Hq1,Ex Hq H Hq1 H1 ∧ RepL z.K Hq1 ts vs) I ⟨ρ,Hq,ts,r,hf,fun vs Hq1 H1 x1 r1=>⟨Hq1,x1,r1⟩⟩) fun us s1 ⟨vs,H1,I1,rv,Hq1,x1,r1⟩=>⟨I1.kIn,?_⟩) hs hpl
   have sp:spX X.K n G (clsAt X.K c) vs H1 (fun _ _=>False) (fun _ c' H'=>c'=some (clsAt X.K c) ∧ kx (clsAt X.K c) σ H'):=⟨Hq1,ts,hn,x1.sub,hK ▸ r1,hg,fun ea H' sm=>⟨rfl,hK ▸ hk Hq1 H' (x1.trans ⟨sm,.refl _,x1.sub.trans sm,fun _ _ n=>n⟩)⟩⟩
   have hlu:us.length=ps.length:=by rw [← rv.length,← r1.length,hn,hl]
   have bt:=hb s1 us I1.kIn (by rw [List.append_nil]; exact hlu)
   rw [List.append_nil] at bt
   refine wpAny_call (codeAny_mono (F.run X.A X.stack s1 H1 ⟨us,[]⟩ us vs (fun _ _=>False) _ hr I1.env0 bt rv sp) fun q s' hq=>?_)
   cases q with
   | error e=>exact hL σ H1 s1 (clsAt X.K c) e s' I1 hq
   | ok fl =>
     cases fl with
     | ret u =>
       obtain ⟨v,H',_,_,_,_,_,z⟩:=hq
       exact z.elim
     | next=>exact False.elim hq
     | brk=>exact False.elim hq
     | cont=>exact False.elim hq
  ·cases eg
 ·cases eg
theorem xe_tup1 {e:Expr} {es:List Expr} {G:Rho → Option Str} {x1} (h:XE X pins kx z e G) (hs:starEach (e :: es) X.env=(false,eval e X.env) :: starEach es X.env:=by rfl):XE X pins kx z (.Tuple (e :: es) x1 pos) G:=by
 intro s σ H ρ Hq d Q I r eg hk
 refine wpAny_Tuple_spliced ?_
 rw [hs]
 exact Calls.spliced_cons (h s σ H ρ Hq d _ I r eg hk)
theorem xe_tup2 {a e:Expr} {es:List Expr} {f:FE} {G:Rho → Option Str} {x1} (ha:EV X z a f) (h:XE X pins kx z e G) (hs:starEach (a :: e :: es) X.env=(false,eval a X.env) :: (false,eval e X.env) :: starEach es X.env:=by rfl):XE X pins kx z (.Tuple (a :: e :: es) x1 pos) (fun ρ=>(f ρ).bind fun _=>G ρ):=by
 intro s σ H ρ Hq d Q I r eg hk
 obtain ⟨t,e1,e2⟩:=Option.bind_eq_some_iff.mp eg
 refine wpAny_Tuple_spliced ?_
 rw [hs]
 refine Calls.spliced_cons (thn (ha pins s σ H (fun _ H1=>∃ Hq1,Ex Hq H Hq1 H1) I ⟨ρ,Hq,t,r,e1,fun v Hq1 H1 x1 _=>⟨Hq1,x1⟩⟩) fun v s1 ⟨y,H1,I1,_,Hq1,x1⟩=>?_)
 exact Calls.spliced_cons (h s1 σ H1 ρ Hq1 d _ I1 (r.ext x1) e2 fun Hq' H' x=>hk Hq' H' (x1.trans x))
def gLoop (g:FG) (ge:Rho → Option Str) (fe:FE) (ρ:Rho):List T → Option Str
 | []=>none
 | t :: ts=>match g t ρ with
   | none=>none
   | some ρ1=>match ge ρ1 with
     | some c=>some c
     | none=>match fe ρ1 with
       | some _=>gLoop g ge fe ρ ts
       | none=>none
def gComp (ix:List (Option Nat)) (fi:FA) (g:FG) (ge:Rho → Option Str) (fe:FE):Rho → Option Str:=fun ρ=>match fi ρ with
 | some ts=>if ts.length ≤ sizeLine then gLoop g ge fe (subR ix ρ) ts else none
 | none=>none
theorem xe_comp {elt iter tg:Expr} {scope:Scope} {fi:FA} {g:FG} {fe:FE} {ge:Rho → Option Str} (N:List Str) (sc:Scope) (N':List Str) (ix:List (Option Nat)) (tc:List Nat) (ok:compOk N sc scope N' ix tc=true) (hL:LandsF X pins kx)
  (hK:z.K=X.K) (hi:PI X tg iter (iR z fi)) (hg:∀ C s H fp z',z'.K=X.K → PG (compCx X scope N' C s H fp) tg (tG z' tc g)) (he:∀ C s H fp z',z'.K=X.K → EV (compCx X scope N' C s H fp) z' elt fe)
  (hx:∀ C s H fp z' E P kx',z'.K=X.K → Lands ((compCx X scope N' C s H fp).wish E) P kx' → XE ((compCx X scope N' C s H fp).wish E) P kx' z' elt ge)
  (hN:X.N=N:=by rfl) (hsc:X.env.scope=sc:=by rfl) (hc:X.calm=true:=by rfl) (hs:∀ x,foldedSetIterable iter X.env x=pure x:=by intro _; rfl) (hst:X.stack=X.env :: X.outer:=by rfl) (hf:X.env.frame=some X.env.locals:=by rfl):XE X pins kx z (.ListComp elt [⟨tg,iter,[],0⟩] scope pos) (gComp ix fi g ge fe):=by
 simp only [compOk,Bool.and_eq_true,List.all_eq_true,Bool.or_eq_true,bne_iff_ne,beq_iff_eq] at ok
 obtain ⟨⟨⟨⟨⟨⟨o1,o2⟩,o3⟩,o4⟩,o5⟩,o6⟩,o7⟩:=ok
 subst hN
 have at6:∀ (j i:Nat) (x:Str),ix[j]?=some (some i) → N'[j]?=some x → X.N[i]?=some x ∧ (sc.names.lookup x=some .cell ∨ sc.names.lookup x=some .free) ∧ scope.names.lookup x=some .free:=fun j i x e1 e2=>by
  have hj:j < ix.length:=(List.getElem?_eq_some_iff.mp e1).1
  have:=o6 j (List.mem_range.mpr hj)
  rw [e1,e2] at this
  simp only [Bool.and_eq_true,beq_iff_eq,Bool.or_eq_true] at this
  exact ⟨this.1.1,this.1.2,this.2⟩
 have htc:∀ j,j ∈ tc → ∀ i,ix[j]? ≠ some (some i):=fun j hj i e=>by
  have:=o7 j hj
  rw [e] at this
  cases this
 intro s σ H ρ Hq c Q I r eg hk
 unfold gComp at eg
 split at eg
 ·rename_i ts e1
  split at eg
  ·rename_i hlen
   refine comp_raise (g:=fun v σ H Q=>∃ z',z'.K=X.K ∧ tG z' tc g v σ H Q) (tc:=fun σ H Q=>∃ z',z'.K=X.K ∧ tB2 z' fYes σ H Q) (te:=fun σ H Q=>∃ z',z'.K=X.K ∧ tT z' fe σ H Q)
    (tr:=fun σ2 H3 K'=>∃ z' ρ1 Hq3 c,z'.K=X.K ∧ Rn z' σ2 ρ1 Hq3 H3 ∧ ge ρ1=some c ∧ ∀ Hq' H',Ex Hq3 H3 Hq' H' → K' (clsAt X.K c) H') hc o1 (fun y hy e=>((o2 y hy).resolve_left fun z=>z e).1) (fun x h1 h2=>by
     have:=((o2 _ h1).resolve_left fun z=>z rfl).2 _ h2
     rcases this with z | z
     ·exact z rfl
     ·exact z rfl) (fun y hy e=>(o3 y hy).resolve_left fun z=>z e) (fun x hx e=>?_) ⟨o5,fun j i x e1 e2=>⟨(at6 j i x e1 e2).1,?_⟩⟩ (fun j i x e1 e2=>(at6 j i x e1 e2).2.2) hi
     (fun C s H fp pins s' σ H' v u Q I r ⟨z',hz,q⟩=>hg C s H fp z' hz pins s' σ H' v u Q I r q)
     (fun C s H fp pins s' σ H' Q I ⟨z',hz,q⟩=>et_ifs0 (X:=compCx X scope N' C s H fp) (z:=z') pins s' σ H' Q I q)
     (fun C s H fp pins s' σ H' Q I ⟨z',hz,q⟩=>he C s H fp z' hz pins s' σ H' Q I q)
     (fun C s H fp E P kx' hL' s' σ' H' Q I' ⟨z',ρ1,Hq3,c,hz,rn,eg,hk'⟩=>hx C s H fp z' E P kx' hz hL' s' σ' H' ρ1 Hq3 c Q I' rn eg fun Hq' H'' x=>by rw [hz]; exact hk' Hq' H'' x)
     hs hst hf hL I ?_
   ·have:=(o4 x hx).resolve_left fun z=>z e
    show X.env.scope.names.lookup x.1=_ ∨ X.env.scope.names.lookup x.1=_
    rw [hsc]; exact this
   ·rw [hsc]
    exact .inr (at6 j i x e1 e2).2.1
   ·refine ⟨ρ,Hq,ts,r,e1,fun J Hq1 H1 P x1 hP hPm wk=>?_⟩
    refine ⟨fun i m ys H'=>m=ts.length - i ∧ ys.length ≤ i ∧ ∃ Hq',Ex Hq1 H1 Hq' H' ∧ gLoop g ge fe (subR ix ρ) (ts.drop i)=some c,⟨ts.length,rfl,Nat.le_refl _,Hq1,.refl x1.sub,by simpa using eg⟩,?_⟩
    rintro i m ys H' ⟨rfl,hy,Hq',x2,cr⟩
    have w:=wk i Hq' H' x2.q x2.sub (hPm _ _ x2.all hP)
    have hlt:i < ts.length:=by
     apply Classical.byContradiction
     intro hc
     rw [List.drop_of_length_le (by omega)] at cr
     cases cr
    obtain ⟨go,yl⟩:=w.1 ts[i] (List.getElem?_eq_getElem hlt)
    refine ⟨go,by omega,fun x H3 y=>?_⟩
    obtain ⟨Hq3,x3,rx⟩:=yl x H3 y
    have ed:ts.drop i=ts[i] :: ts.drop (i + 1):=List.drop_eq_getElem_cons hlt
    rw [ed] at cr
    unfold gLoop at cr
    have rn:=(((r.ext x1).ext x2).ext x3).subst ix
    have x2:=x2.trans x3
    split at cr
    ·cases cr
    ·rename_i ρ1 eg1
     refine ⟨⟨z.K,Hq3,H3⟩,hK,subR ix ρ,Hq3,_,ρ1,rn,rx,eg1,fun σ' rn' un=>⟨fun j v ej=>?_,?_⟩⟩
     ·by_cases hj:j ∈ tc
      ·unfold subSt at ej
       rw [List.getElem?_map] at ej
       cases hx:ix[j]? with
       | none=>rw [hx] at ej; cases ej
       | some oi =>
         rw [hx] at ej
         cases oi with
         | none=>cases ej
         | some k=>exact absurd hx (htc j hj k)
      ·rw [un j hj]; exact ej
     ·refine ⟨⟨z.K,Hq3,H3⟩,hK,ρ1,Hq3,true,rn',rfl,fun Hq4 H4 x4=>iteT ?_⟩
      split at cr
      ·rename_i d eg2
       cases cr
       refine .inr ⟨⟨z.K,Hq3,H3⟩,ρ1,Hq4,c,hK,rn'.ext x4,eg2,fun Hq' H' x5=>?_⟩
       rw [← hK]
       exact hk Hq' H' (((x1.trans x2).trans x4).trans x5)
      ·split at cr
       ·rename_i y ey
        refine .inl ⟨⟨z.K,Hq3,H3⟩,hK,ρ1,Hq4,y,rn'.ext x4,ey,fun v5 Hq5 H5 x5 r5=>?_⟩
        exact ⟨ts.length - (i + 1),by omega,rfl,by rw [List.length_append]; simp; omega,Hq5,(x2.trans x4).trans x5,cr⟩
       ·cases cr
  ·cases eg
 ·cases eg
end
end TL
namespace TL
open PySem L2 SR
section
variable {X:Cx} {pins:List (Addr × Obj)} {kx:Addr → L2.St → Hp → Prop} {z:Z} {pos:Pos}
theorem xe_y1 {x:Str} {id:String} {p:Pos} {e:Expr} {G:Rho → Option Str} (hg:Gl X x) (hm:X.mg x=none) (hv:bootBuiltins x=some (.type id)) (h:XE X pins kx z e G) (hn:x ≠ "__name__":=by decide) (hdb:(x == ("__debug__":Str))=false:=by decide)
  (hs:starEach [e] X.env=(false,eval e X.env) :: starEach [] X.env:=by rfl) (hpl:(backTo pos (starEach [] X.env)).any (·.1)=false:=by rfl):XE X pins kx z (.Call (.Name x p) [e] [] pos) G:=by
 intro s σ H ρ Hq d Q I r eg hk
 refine wpAny_Call_Name_kw (ld_blt I hg hm hv ?_ hn hdb)
 refine PyProof.Rows.callWith_type1 ?_ hs hpl
 rw [hs]
 show wpAny _ _ (spliced ((false,eval e X.env) :: backTo pos (starEach [] X.env))) _ _ s
 exact Calls.spliced_cons (h s σ H ρ Hq d _ I r eg hk)
theorem xe_iter {elt iter tg:Expr} {ifs:List Expr} {scope:Scope} {G:Rho → Option Str} (N:List Str) (sc:Scope) (N':List Str) (ix:List (Option Nat)) (tc:List Nat) (ok:compOk N sc scope N' ix tc=true) (h:XE X pins kx z iter G)
  (hN:X.N=N:=by rfl) (hsc:X.env.scope=sc:=by rfl) (hs:∀ x,foldedSetIterable iter X.env x=pure x:=by intro _; rfl):XE X pins kx z (.ListComp elt [⟨tg,iter,ifs,0⟩] scope pos) G:=by
 simp only [compOk,Bool.and_eq_true,List.all_eq_true,Bool.or_eq_true,bne_iff_ne,beq_iff_eq] at ok
 obtain ⟨⟨⟨⟨⟨⟨o1,o2⟩,o3⟩,o4⟩,o5⟩,o6⟩,o7⟩:=ok
 subst hN
 intro s σ H ρ Hq d Q I r eg hk
 rw [eval_ListComp]
 refine wpAny_comprehension_free (use:=none) rfl hs (closureFor_all fun x hx hf=>I.ok.has x.1 ?_) o1 (fun y hy e=>(o3 y hy).resolve_left fun z=>z e) (h s σ H ρ Hq d _ I r eg hk)
 have:=(o4 x hx).resolve_left fun z=>z hf
 show X.env.scope.names.lookup x.1=_ ∨ X.env.scope.names.lookup x.1=_
 rw [hsc]; exact this
theorem x_retE {e:Expr} {G:Rho → Option Str} (h:XE X pins kx z e G):XV X pins kx z (.Return (some e) pos) (xE G):=by
 intro s σ H D I ⟨ρ,Hq,o',r,ef,k⟩
 obtain ⟨c,e1,rfl⟩:=Option.map_eq_some_iff.mp ef
 exact wpAny_Return_some (h s σ H ρ Hq c _ I r e1 fun Hq' H' x=>k σ Hq' H' (r.ext x) x.q)
theorem s_nox {st:Stmt} {F:FS} (h:SV X.nox z st F):SV X z st F:=fun pins s σ H D I hw=>wpAny_mono (h pins s σ H D (I.wish _) hw) (fun _ _ q=>q.unwish) fun _ _ z=>False.elim z
theorem x_setF {e:Expr} {x:Str} {p:Pos} {G:Rho → Option Str} (h:XE X pins kx z e G) (hs:swapsWith e (some (.Name x p)) pos.line X.env=pure false:=by rfl):XV X pins kx z (.Assign [.Name x p] e pos) (xE G):=x_setE h.xr hs
end
section
variable {P:Program} {w:World} {K:PySem.W.Frag} {mg:Str → Option Value} {base:Heap}
theorem hasX_of2 {x c:Str} {st:Stmt} {N ps:List Str} {k n m:Nat} {F:FX} (hn:ps.length=n) (hm:N.length=m) (G:Src K mg x st ps) (S:FnScope N ps (defScope st))
  (hbody:∀ (f:Addr) (cdv:Value) (A:Around) (outer:List Env) (s:Shared) (H:Hp) (E:XK) (z:Z),Room k (A.deeper (PyProof.Rows.envOfC x (defScope st) s.heap.objs.size f cdv)) → z.K=K →
   ∀ pins kx,RL (cxOf (CX1 P w) P w K mg base N x (defScope st) f cdv A outer s H E) kx → LandsF (cxOf (CX1 P w) P w K mg base N x (defScope st) f cdv A outer s H E) pins kx → XVs (cxOf (CX1 P w) P w K mg base N x (defScope st) f cdv A outer s H E) pins kx z (defBody st) F):HasX P w K mg base x (k + 1) n (runX m F c) c:=by
 subst hn hm
 obtain ⟨a,fd,fn,b,m⟩:=G
 have kp:=fn.kp
 obtain ⟨oc,od,kV,doc,pm,an,cdv,ct,osl,rfl,lk,hcd⟩:=fn.ex
 have body:FnOk P w K mg base (CX1 P w) (k + 1) a (PySem.W.fnOf x x (defArgs st) (defBody st) (defScope st) .none kV doc pm an cdv ct) ps (spX K ps.length (runX N.length F c) (clsAt K c)):=by
  refine fn_of lk hcd S (fun vs H Q E ⟨Hq,ts,hl,_,r,_⟩=>by rw [← r.length,hl]) fun A outer s H vs Q E hr ⟨Hq,ts,hl,sb,r,g,hE⟩=>?_
  unfold runX at g
  split at g
  ·rename_i ρ' d e1
   have ed:d=c:=eq_of_beq g
   subst ed
   refine ⟨tX ⟨K,Hq,H⟩ F (fun C σ' H'=>C=clsAt K d ∧ Same H H'),fun pins s' σ' H' D I t=>hbody a cdv A outer s H E ⟨K,Hq,H⟩ hr rfl pins _ ?_ ?_ s' σ' H' D I t,_,Hq,_,start_rn sb r,e1,fun σ' Hq' H' r' sm=>⟨rfl,r'.ex.all⟩⟩
   ·intro pins σ1 H1 s1 h' e C v I me ⟨ec,sm⟩
    subst ec
    exact wp_leave I rfl rfl rfl me (hE e H1 sm)
   ·refine landsF_body fun C σ' H' q ea=>?_
    obtain ⟨rfl,sm⟩:=q
    exact hE ea H' sm
  ·cases g
 exact ⟨a,_,ps,rfl,body,m,kp,b⟩
end
end TL
namespace TL
open PySem L2
section
variable {X:Cx} {z:Z} {a b e:Expr} {f g:FE} {pos p2 p3:Pos}
def rSlS:V → Option Int → Option Int → Hp → VK → Prop:=fun x lo hi H Q=>∃ y,x=.str y ∧ y.length ≤ sizeLine ∧ Q (.str (Txt.slice y lo hi)) H
theorem sl_str:SlR X rSlS:=by
 intro pins s σ H x v vl vu lo hi sl Q I rx hs pl pu h
 obtain ⟨y,rfl,hz,q⟩:=h
 obtain ⟨t,rfl⟩:=rx
 refine ⟨"str",_,PySem.F.slot_str_getitem.lookup,typeIs_str _ _ _,?_⟩
 obtain ⟨o,h1,h2,h3⟩:=hs
 have fin:∀ t' k,EP X pins σ Q (.str (Txt.slice y lo hi) t') { s with toks:=k }:=fun t' k=>⟨.str _,H,I.tok _,⟨_,rfl⟩,q⟩
 have hl:=Nat.le_trans (Txt.slice_le y lo hi) hz
 cases pl with
 | none =>
   cases pu with
   | none=>exact wpAny_getItem_str_slice (l:=none) (u:=none) (st:=none) ⟨o,h1,h2,h3⟩ rfl (post_val_or_str ⟨hl,fin⟩)
   | int j u=>exact wpAny_getItem_str_slice (l:=none) (u:=some (j,u)) (st:=none) ⟨o,h1,h2,h3⟩ rfl (post_val_or_str ⟨hl,fin⟩)
 | int i ui =>
   cases pu with
   | none=>exact wpAny_getItem_str_slice (l:=some (i,ui)) (u:=none) (st:=none) ⟨o,h1,h2,h3⟩ rfl (post_val_or_str ⟨hl,fin⟩)
   | int j u=>exact wpAny_getItem_str_slice (l:=some (i,ui)) (u:=some (j,u)) (st:=none) ⟨o,h1,h2,h3⟩ rfl (post_val_or_str ⟨hl,fin⟩)
def tCutS (t:T) (lo hi:Option Int):Option T:=match t with
 | .str x=>if x.length ≤ sizeLine then some (.str (Txt.slice x lo hi)) else none
 | _=>none
def fCutS (f:FE) (lo hi:FO):FE:=fun ρ=>(f ρ).bind fun t=>(lo ρ).bind fun l=>(hi ρ).bind fun h=>tCutS t l h
theorem ev_sliceS {lo hi:Option Expr} {fl fh:FO} (he:EV X z e f) (hl:PO X lo (tO z fl)) (hh:PO X hi (tO z fh)):EV X z (.Subscript e (.Slice lo hi none p2) pos) (fCutS f fl fh) :=
 PE.imp (pe_slice sl_str he hl hh) fun σ H Q ⟨ρ,Hq,w,r,e,k⟩=>by
  obtain ⟨t,e1,e⟩:=Option.bind_eq_some_iff.mp e
  obtain ⟨l,e2,e⟩:=Option.bind_eq_some_iff.mp e
  obtain ⟨h,e3,e⟩:=Option.bind_eq_some_iff.mp e
  cases t with
  | str x =>
    unfold tCutS at e
    dsimp only at e
    split at e
    ·rename_i hz
     cases e
     refine ⟨ρ,Hq,_,r,e1,fun v Hq1 H1 x1 r1=>⟨ρ,Hq1,_,r.ext x1,e2,fun Hq2 H2 x2=>⟨ρ,Hq2,_,(r.ext x1).ext x2,e3,fun Hq3 H3 x3=>?_⟩⟩⟩
     exact ⟨x,r1.s,hz,k _ Hq3 H3 ((x1.trans x2).trans x3) rep_str⟩
    ·cases e
  | _=>simp [tCutS] at e
def tIxS:T → T → Option T
 | .str x,.int i=>if x.length ≤ sizeLine then (atI x.cps.toList i).map fun c=>.str ⟨#[c]⟩ else none
 | _,_=>none
theorem ev_ixS (ha:EV X z a f) (hb:EV X z b g) (hs:PlainIx b):EV X z (.Subscript a b pos) (f2 tIxS f g):=PE.imp (pe_ix ix_str ha hb hs) fun σ H Q ⟨ρ,Hq,w,r,e,k⟩=>by
 obtain ⟨t,u,e1,e2,e3⟩:=f2_some e
 refine ⟨ρ,Hq,t,r,e1,fun v Hq1 H1 x1 r1=>⟨ρ,Hq1,u,r.ext x1,e2,fun v2 Hq2 H2 x2 r2=>?_⟩⟩
 cases t with
 | str x =>
   cases u with
   | int i =>
     unfold tIxS at e3
     dsimp only at e3
     split at e3
     ·rename_i hz
      obtain ⟨c,e4,rfl⟩:=Option.map_eq_some_iff.mp e3
      exact ⟨x,i,c,r1.s,r2.i,hz,e4,k _ Hq2 H2 (x1.trans x2) rep_str⟩
     ·cases e3
   | _=>simp [tIxS] at e3
 | _=>simp [tIxS] at e3
theorem split_new {prog:Program} {w:World} {A:Around} {E:Value → Shared → Prop} {s:Shared} {Q:Value → Shared → Prop} {x y:Str} {t u:Tok} (hy:(y.length == 0)=false) (hsz:x.length + 2 ≤ sizeLine)
  (h:∀ (l:List (Str × Tok)) (k:Nat),l.map (·.1)=Txt.split x y → Q (.ref s.heap.objs.size) { s with heap:=s.heap.push { cls:=.type "list",data:=.seq (strValues l).toArray },toks:=k }) :
  wpAny (model prog w) A (call (.builtin "str.split") [.str x t,.str y u]) Q E s:=by
 have hn:(Builtin.Str.partsBetween x (Builtin.Str.occurrences x y 0 x.length (x.length + 1)) y.length).length ≤ sizeLine:=by
  have e1:=StrLaws.occ_length_le x y 0 x.length (x.length + 1)
  rw [length_partsBetween]; omega
 cases h1:(decide (x.length < y.length) || decide (Builtin.Str.strKind x < Builtin.Str.strKind y))
 ·cases hf:(Builtin.Str.occurrences x y 0 x.length (x.length + 1)).isEmpty
  ·refine call_meets F.slot_str_split (typeIs_str _ _ _) F.entry_str_split (F.args_str_split_2 _ _) (meets_str_split_sep x y t u h1 hy hf (by omega) hn) ?_
   show wants Q E _ { s with toks:=_,heap:=s.heap.push { cls:=.type "list",data:=.seq (strsFrom s.toks (Builtin.Str.partsBetween x (Builtin.Str.occurrences x y 0 x.length (x.length + 1)) y.length)).toArray } }
   rw [strsFrom_eq]
   exact h (numbered s.toks _) _ ((numbered_texts _ _).trans ((if_neg (ne_true_of_eq_false h1)).trans (if_neg (ne_true_of_eq_false hf))).symm)
  ·exact call_meets F.slot_str_split (typeIs_str _ _ _) F.entry_str_split (F.args_str_split_2 _ _) (meets_str_split_not_found x y t u h1 hy hf)
    (h [(x,t)] s.toks ((if_neg (ne_true_of_eq_false h1)).trans (if_pos hf)).symm)
 ·exact call_meets F.slot_str_split (typeIs_str _ _ _) F.entry_str_split (F.args_str_split_2 _ _) (meets_str_split_cannot_occur x y t u h1)
   (h [(x,t)] s.toks (if_pos h1).symm)
theorem split_len (x y:Str):(Txt.split x y).length ≤ x.length + 2:=by
 unfold Txt.split
 split
 ·simp
 ·split
  ·simp
  ·rw [length_partsBetween]
   have:=StrLaws.occ_length_le x y 0 x.length (x.length + 1)
   omega
theorem vals_strs:∀ l:List (Str × Tok),Vals ((l.map (·.1)).map V.str) (strValues l)
 | []=>.nil
 | p :: l=>.cons ⟨p.2,rfl⟩ (vals_strs l)
theorem repL_strs {K:PySem.W.Frag} {H:Hp}:∀ l:List Str,RepL K H (l.map T.str) (l.map V.str)
 | []=>.nil
 | p :: l=>.cons rep_str (repL_strs l)
def rSplit:V → List V → Hp → VK → Prop:=fun x xs H Q=>∃ y w,x=.str y ∧ xs=[.str w] ∧ (w.length == 0)=false ∧ y.length + 2 ≤ sizeLine ∧ ∀ p,H p=none → Q (.ref p) (upd H p (.lst ((Txt.split y w).map V.str)))
theorem mt_split:MtR X "str.split" rSplit:=by
 intro pins s σ H x vs v us Q I rx rv h
 obtain ⟨y,w,rfl,rfl,hw,hz,q⟩:=h
 obtain ⟨k,rfl⟩:=rx
 obtain ⟨uu,rfl,ru⟩:=rv.one
 obtain ⟨k2,rfl⟩:=ru
 refine split_new hw hz fun l kk el=>?_
 have hH:H s.heap.objs.size=none:=I.hok.fresh (Nat.le_refl _)
 have hv:=vals_strs l
 rw [el] at hv
 refine ⟨.ref _,upd H _ (.lst _),I.laid (t':=kk) (fun b o e=>Heap.get?_push_of_some _ e) (Nat.le_refl _) ⟨?_,strValues l,0,hv,Heap.get?_push_size _ rfl⟩,rfl,q _ hH⟩
 rw [List.length_map]
 have:=split_len y w
 omega
def tSplit:T → T → Option (List T)
 | .str x,.str y=>if (y.length == 0)=false ∧ x.length + 2 ≤ sizeLine then some ((Txt.split x y).map T.str) else none
 | _,_=>none
def fSplit (f g:FE):FA:=fun ρ=>(f ρ).bind fun t=>(g ρ).bind fun u=>tSplit t u
theorem ef_split (ha:EV X z a f) (hb:EV X z b g) (hbase:attributeBase a "split" X.env (eval a X.env)=eval a X.env:=by rfl)
  (hline:(p2.endLine == p3.line)=true:=by rfl) (hs:starEach [b] X.env=[(false,eval b X.env)]:=by rfl):EF X z (.Call (.Attribute a "split" p2) [b] [] p3) (fSplit f g) :=
 PE.imp (pe_bm PySem.F.plainAttrs_str PySem.F.slot_str_split PySem.F.type_str_split mt_split ha (pa_cons hb pa_nil hs) hbase (by rw [hs]; rfl) hline hs rfl) fun σ H Q ⟨ρ,Hq,ts,r,e,k⟩=>by
  obtain ⟨t,e1,e⟩:=Option.bind_eq_some_iff.mp e
  obtain ⟨u,e2,e⟩:=Option.bind_eq_some_iff.mp e
  unfold tSplit at e
  split at e
  ·rename_i x y
   split at e
   ·rename_i hc
    cases e
    refine ⟨ρ,Hq,_,r,e1,fun v Hq1 H1 x1 r1=>?_⟩
    cases r1.s
    refine ⟨rfl,ρ,Hq1,_,r.ext x1,e2,fun v2 Hq2 H2 x2 r2=>?_⟩
    cases r2.s
    exact ⟨_,_,rfl,rfl,hc.1,hc.2,fun p hp=>k p _ Hq2 H2 (x1.trans x2) hp (repL_strs _)⟩
   ·cases e
  ·cases e
end
end TL
set_option autoImplicit true
set_option relaxedAutoImplicit true
namespace TL.W
open PySem L2 TL
structure eZ (X:Cx) (z:Z) (e:Expr) (f:FZ):Prop where
 p:EZ X z e f
structure eV (X:Cx) (z:Z) (e:Expr) (f:FE):Prop where
 p:EV X z e f
structure eR (X:Cx) (z:Z) (e:Expr) (f:FE):Prop where
 p:ER X z e f
structure eF (X:Cx) (z:Z) (e:Expr) (f:FA):Prop where
 p:EF X z e f
structure eA (X:Cx) (z:Z) (e:List Expr) (f:FA):Prop where
 p:EA X z e f
structure eT (X:Cx) (z:Z) (e:Expr) (f:FT):Prop where
 p:ET X z e f
structure eW (X:Cx) (z:Z) (e:Expr) (f:FT):Prop where
 p:EW X z e f
structure sV (X:Cx) (z:Z) (e:Stmt) (f:FS):Prop where
 p:SV X z e f
structure sVs (X:Cx) (z:Z) (e:List Stmt) (f:FS):Prop where
 p:SVs X z e f
structure xV (X:Cx) (pins:List (Addr × Obj)) (kx:Addr → L2.St → Hp → Prop) (z:Z) (e:Stmt) (f:FX):Prop where
 p:XV X pins kx z e f
structure xVs (X:Cx) (pins:List (Addr × Obj)) (kx:Addr → L2.St → Hp → Prop) (z:Z) (e:List Stmt) (f:FX):Prop where
 p:XVs X pins kx z e f
structure hJ (X:Cx) (z:Z) (e:List ExceptHandler) (f:Str → FS):Prop where
 p:HJ X z e f
structure xR (X:Cx) (pins:List (Addr × Obj)) (kx:Addr → L2.St → Hp → Prop) (z:Z) (e:Expr) (G:Rho → Option Str):Prop where
 p:XR X pins kx z e G
structure eAo (X:Cx) (z:Z) (e:List Expr) (f:FA):Prop where
 p:EAo X z e f
structure eM (X:Cx) (z:Z) (e:Expr) (f:FM):Prop where
 p:EM X z e f
structure eMT (X:Cx) (z:Z) (e:Expr) (f:FMT):Prop where
 p:EMT X z e f
structure eMW (X:Cx) (z:Z) (e:Expr) (f:FMT):Prop where
 p:EMW X z e f
structure hW (X:Cx) (z:Z) (e:List ExceptHandler) (f:Str → FW):Prop where
 p:HW X z e f
structure wV (X:Cx) (pins:List (Addr × Obj)) (kx:Addr → L2.St → Hp → Prop) (z:Z) (e:Stmt) (f:FW):Prop where
 p:WV X pins kx z e f
structure wVs (X:Cx) (pins:List (Addr × Obj)) (kx:Addr → L2.St → Hp → Prop) (z:Z) (e:List Stmt) (f:FW):Prop where
 p:WVs X pins kx z e f
structure sW (X:Cx) (z:Z) (e:Stmt) (f:FW):Prop where
 p:PS X e (tW z f kNo)
structure J (t:Prop):Prop where
 p:t
theorem er_of (h:eV X z e f):eR X z e f:=⟨TL.er_of h.p⟩
theorem ev_new {f:FA} (h:eF X z e f):eV X z e (fNew f):=⟨TL.ev_new h.p⟩
theorem ev_var (i:Nat) {x:Str} {pos:Pos} (hN:X.N[i]?=some x:=by rfl) (hv:Vis X.env.scope x:=by first | exact Or.inl rfl | exact Or.inr (Or.inl rfl) | exact Or.inr (Or.inr rfl)) (hd:(x == ("__debug__":Str))=false:=by decide) (hcd:(x == ("__classdict__":Str))=false:=by decide):eV X z (.Name x pos) (gv i):=⟨TL.ev_var i hN hv hd hcd⟩
theorem er_own (i:Nat) {x:Str} {pos:Pos} (hN:X.N[i]?=some x:=by rfl) (hv:Vis X.env.scope x:=by first | exact Or.inl rfl | exact Or.inr (Or.inl rfl) | exact Or.inr (Or.inr rfl)) (hd:(x == ("__debug__":Str))=false:=by decide) (hcd:(x == ("__classdict__":Str))=false:=by decide):eR X z (.Name x pos) (go i):=⟨TL.er_own i hN hv hd hcd⟩
theorem ev_int {i:Int} {j pos}:eV X z (.Constant (.int i) j pos) (kc (.int i)):=⟨TL.ev_int ⟩
theorem ev_bl {b j pos}:eV X z (.Constant (.bool b) j pos) (kc (.bl b)):=⟨TL.ev_bl ⟩
theorem ev_non {j pos}:eV X z (.Constant .none j pos) (kc .non):=⟨TL.ev_non ⟩
theorem ev_str {x j pos}:eV X z (.Constant (.str x) j pos) (kc (.str x)):=⟨TL.ev_str ⟩
theorem ev_globI {x:Str} {i:Int} {tk:Tok} {pos:Pos} (hg:Gl X x) (hm:X.mg x=some (.int i tk)) (hd:(x == ("__debug__":Str))=false:=by decide):eV X z (.Name x pos) (kc (.int i)):=⟨TL.ev_globI hg hm hd⟩
theorem ea_nil :eA X z [] fNil:=⟨TL.ea_nil ⟩
theorem ea_cons (h:eV X z e f) (hr:eA X z es fa) (hs:starEach (e :: es) X.env=(false,eval e X.env) :: starEach es X.env:=by rfl):eA X z (e :: es) (fCons f fa):=⟨TL.ea_cons h.p hr.p hs⟩
theorem ev_tup {x1 pos} (h:eA X z es fa):eV X z (.Tuple es x1 pos) (fTup fa):=⟨TL.ev_tup h.p⟩
theorem ef_lst {pos} (h:eA X z es fa):eF X z (.List es pos) (fLst fa):=⟨TL.ef_lst h.p⟩
theorem ev_op (hK:z.K=X.K) {op:Operator} (ho:Op2 X (binaryOp op) fn) (ha:eR X z a f) (hb:eR X z b g):eV X z (.BinOp a op b pos) (f2 fn f g):=⟨TL.ev_op hK ho ha.p hb.p⟩
theorem ev_cmp (hK:z.K=X.K) {op:CmpOp} (ho:Op2 X (compareOp op) fn) (ha:eR X z a f) (hb:eR X z b g) (hm:behindInMarks op b=false):eV X z (.Compare a [op] [b] pos) (f2 fn f g):=⟨TL.ev_cmp hK ho ha.p hb.p hm⟩
theorem et_val (h:eV X z e f) (he:∀ whole,isTrue e X.env whole=(do let v ← whole; standAt e.pos; holding [v] (truthy v)):=by intro _; rfl):eT X z e (fB f):=⟨TL.et_val h.p he⟩
theorem et_cmp (hK:z.K=X.K) {fn:T → T → Option T} {op:CmpOp} (ho:Op2 X (compareOp op) fn) (ha:eR X z a f) (hb:eR X z b g) (hm:behindInMarks op b=false):eT X z (.Compare a [op] [b] pos) (fB (f2 fn f g)):=⟨TL.et_cmp hK ho ha.p hb.p hm⟩
theorem et_not (h:eT X z a ft):eT X z (.UnaryOp .Not a pos) (fNot ft):=⟨TL.et_not h.p⟩
theorem ew_and1 (h:eT X z a ft):eW X z (.BoolOp .And [a] pos) ft:=⟨TL.ew_and1 h.p⟩
theorem ew_or1 (h:eT X z a ft):eW X z (.BoolOp .Or [a] pos) ft:=⟨TL.ew_or1 h.p⟩
theorem ew_and (h:eT X z a ft) (hb:eW X z (.BoolOp .And (b :: rst) pos) gt):eW X z (.BoolOp .And (a :: b :: rst) pos) (fAnd ft gt):=⟨TL.ew_and h.p hb.p⟩
theorem ew_or (h:eT X z a ft) (hb:eW X z (.BoolOp .Or (b :: rst) pos) gt):eW X z (.BoolOp .Or (a :: b :: rst) pos) (fOr ft gt):=⟨TL.ew_or h.p hb.p⟩
theorem et_w (h:eW X z e ft):eT X z e ft:=⟨TL.et_w h.p⟩
theorem ev_one {op} (h:eV X z a f):eV X z (.BoolOp op [a] pos) f:=⟨TL.ev_one h.p⟩
theorem ev_and (h:eV X z a f) (hb:eV X z (.BoolOp .And (b :: rst) pos) g):eV X z (.BoolOp .And (a :: b :: rst) pos) (fAndV f g):=⟨TL.ev_and h.p hb.p⟩
theorem ev_not (h:eV X z a f):eV X z (.UnaryOp .Not a pos) (fNotV f):=⟨TL.ev_not h.p⟩
theorem ev_chain (hK:z.K=X.K) {op op':CmpOp} (ho:Op2 X (compareOp op) fn) (ho':Op2 X (compareOp op') fn') (ha:eR X z a f) (hb:eR X z b g) (hc:eR X z c h) (hm:lastMarks [op,op'] [b,c]=false:=by with_unfolding_all rfl):eV X z (.Compare a [op,op'] [b,c] pos) (fChain fn fn' f g h):=⟨TL.ev_chain hK ho ho' ha.p hb.p hc.p hm⟩
theorem et_chain (hK:z.K=X.K) {op op':CmpOp} (ho:Op2 X (compareOp op) fn) (ho':Op2 X (compareOp op') fn') (ha:eR X z a f) (hb:eR X z b g) (hc:eR X z c h) (hm:lastMarks [op,op'] [b,c]=false:=by with_unfolding_all rfl):eT X z (.Compare a [op,op'] [b,c] pos) (fB (fChain fn fn' f g h)):=⟨TL.et_chain hK ho ho' ha.p hb.p hc.p hm⟩
theorem ev_ix (hK:z.K=X.K) (ha:eR X z a f) (hb:eV X z b g) (hs:PlainIx b):eV X z (.Subscript a b pos) (f2 tIx f g):=⟨TL.ev_ix hK ha.p hb.p hs⟩
theorem eo_none :J (PO X none (tO z foN)):=⟨TL.eo_none ⟩
theorem eo_some (h:eV X z e f):J (PO X (some e) (tO z (foS f))):=⟨TL.eo_some h.p⟩
theorem ev_slice (hK:z.K=X.K) {lo hi:Option Expr} {fl fh:FO} {p2:Pos} (he:eR X z e f) (hl:J (PO X lo (tO z fl))) (hh:J (PO X hi (tO z fh))):eV X z (.Subscript e (.Slice lo hi none p2) pos) (fCut f fl fh):=⟨TL.ev_slice hK he.p hl.p hh.p⟩
theorem ev_b1 (hK:z.K=X.K) {fn:T → Option T} {x:Str} {id:String} (hb:Bi1 X (.builtin id) fn) (hg:Gl X x) (hm:X.mg x=none) (hv:bootBuiltins x=some (.builtin id)) (he:eR X z e f) (hn:x ≠ "__name__":=by decide) (hdb:(x == ("__debug__":Str))=false:=by decide) (hs:starEach [e] X.env=[(false,eval e X.env)]:=by rfl):eV X z (.Call (.Name x p) [e] [] pos) (f1 fn f):=⟨TL.ev_b1 hK hb hg hm hv he.p hn hdb hs⟩
theorem ev_y1 (hK:z.K=X.K) {fn:T → Option T} {x:Str} {id:String} (hb:Bi1 X (.type id) fn) (hg:Gl X x) (hm:X.mg x=none) (hv:bootBuiltins x=some (.type id)) (he:eR X z e f) (hn:x ≠ "__name__":=by decide) (hdb:(x == ("__debug__":Str))=false:=by decide) (hs:starEach [e] X.env=[(false,eval e X.env)]:=by rfl):eV X z (.Call (.Name x p) [e] [] pos) (f1 fn f):=⟨TL.ev_y1 hK hb hg hm hv he.p hn hdb hs⟩
theorem ev_isi (hK:z.K=X.K) {c:Str} {cn:String} (kt:Kit X.K cn) (hg:Gl X "isinstance") (hm:X.mg "isinstance"=none) (hg2:Gl X c) (hm2:X.mg c=none) (hv2:bootBuiltins c=some (.type cn)) (he:eR X z e f) (hn:c ≠ "__name__":=by decide) (hdb:(c == ("__debug__":Str))=false:=by decide) (hs:starEach [e,.Name c p'] X.env=[(false,eval e X.env),(false,eval (.Name c p') X.env)]:=by rfl) (hs2:starEach [.Name c p'] X.env=[(false,eval (.Name c p') X.env)]:=by rfl):eV X z (.Call (.Name "isinstance" p) [e,.Name c p'] [] pos) (f1 (tIs cn) f):=⟨TL.ev_isi hK kt hg hm hg2 hm2 hv2 he.p hn hdb hs hs2⟩
theorem ev_min (hc:X.calm=true) {a b:Expr} (hg:Gl X "min") (hm:X.mg "min"=none) (ha:eV X z a f) (hb:eV X z b g) (hs:starEach [a,b] X.env=[(false,eval a X.env),(false,eval b X.env)]:=by rfl) (hs2:starEach [b] X.env=[(false,eval b X.env)]:=by rfl):eV X z (.Call (.Name "min" p) [a,b] [] pos) (f2 tMin f g):=⟨TL.ev_min hc hg hm ha.p hb.p hs hs2⟩
theorem ir_seq (hK:z.K=X.K) (h:eR X z e f):J (PI X tg e (iR z (fIt f))):=⟨TL.ir_seq hK h.p⟩
theorem ip_seq (hK:z.K=X.K) (h:eV X z e f):J (PI X tg e (iP z (fIt f))):=⟨TL.ip_seq hK h.p⟩
theorem ip_range (hg:Gl X "range") (hm:X.mg "range"=none) (h:eV X z e f) (hs:starEach [e] X.env=[(false,eval e X.env)]:=by rfl):J (PI X tg (.Call (.Name "range" p) [e] [] pos) (iP z (fRng f))):=⟨TL.ip_range hg hm h.p hs⟩
theorem ip_range2 {a:Expr} (hg:Gl X "range") (hm:X.mg "range"=none) (ha:eV X z a f) (h:eV X z e g) (hs:starEach [a,e] X.env=[(false,eval a X.env),(false,eval e X.env)]:=by rfl) (hs2:starEach [e] X.env=[(false,eval e X.env)]:=by rfl):J (PI X tg (.Call (.Name "range" p) [a,e] [] pos) (iP z (fRng2 f g))):=⟨TL.ip_range2 hg hm ha.p h.p hs hs2⟩
theorem ir_of {f:FA} (h:J (PI X tg e (iP z f))):J (PI X tg e (iR z f)):=⟨TL.ir_of h.p⟩
theorem eg_name (i:Nat) {x:Str} (hN:X.N.Nodup) (hi:X.N[i]?=some x:=by rfl) (hx:Loc X.env.scope x:=by first | exact Or.inl rfl | exact Or.inr rfl) (hf:X.fn x=true ∨ X.env.scope.names.lookup x=some .local:=by first | exact .inl rfl | exact .inr rfl):J (PG X (.Name x pos) (tG z [i] (gNm i))):=⟨TL.eg_name i hN hi hx hf⟩
theorem eg_tup2 (hK:z.K=X.K) (hc:X.calm=true) (i j:Nat) {x y:Str} {px py:Pos} {kd:Nat} (hN:X.N.Nodup) (hi:X.N[i]?=some x:=by rfl) (hj:X.N[j]?=some y:=by rfl) (hx:Loc X.env.scope x:=by first | exact Or.inl rfl | exact Or.inr rfl) (hy:Loc X.env.scope y:=by first | exact Or.inl rfl | exact Or.inr rfl) (hf:X.fn x=true ∨ X.env.scope.names.lookup x=some .local:=by first | exact .inl rfl | exact .inr rfl) (hf2:X.fn y=true ∨ X.env.scope.names.lookup y=some .local:=by first | exact .inl rfl | exact .inr rfl):J (PG X (.Tuple [.Name x px,.Name y py] kd pos) (tG z [i,j] (gTp2 i j))):=⟨TL.eg_tup2 hK hc i j hN hi hj hx hy hf hf2⟩
theorem ss_nil :sVs X z [] sNil:=⟨TL.ss_nil ⟩
theorem ss_cons (h1:sV X z st F) (h2:sVs X z rst G):sVs X z (st :: rst) (sSeq F G):=⟨TL.ss_cons h1.p h2.p⟩
theorem ss_one (h1:sV X z st F):sVs X z [st] F:=⟨TL.ss_one h1.p⟩
theorem s_ret (h:eV X z e f):sV X z (.Return (some e) pos) (sRet f):=⟨TL.s_ret h.p⟩
theorem s_retO (i:Nat) {x:Str} {p:Pos} (hN:X.N[i]?=some x:=by rfl) (hv:Vis X.env.scope x:=by first | exact Or.inl rfl | exact Or.inr (Or.inl rfl) | exact Or.inr (Or.inr rfl)) (hd:(x == ("__debug__":Str))=false:=by decide) (hcd:(x == ("__classdict__":Str))=false:=by decide):sV X z (.Return (some (.Name x p)) pos) (sRetO i):=⟨TL.s_retO i hN hv hd hcd⟩
theorem s_set (i:Nat) {x:Str} {pos':Pos} (hN:X.N.Nodup) (h:eV X z e f) (hi:X.N[i]?=some x:=by rfl) (hx:Loc X.env.scope x:=by first | exact Or.inl rfl | exact Or.inr rfl) (hs:swapsWith e (some (.Name x pos')) pos.line X.env=pure false:=by rfl) (hf:X.fn x=true ∨ X.env.scope.names.lookup x=some .local:=by first | exact .inl rfl | exact .inr rfl):sV X z (.Assign [.Name x pos'] e pos) (sSet i f):=⟨TL.s_set i hN h.p hi hx hs hf⟩
theorem s_own (i:Nat) {x:Str} {pos':Pos} (hN:X.N.Nodup) (h:eF X z e fa) (hi:X.N[i]?=some x:=by rfl) (hx:Loc X.env.scope x:=by first | exact Or.inl rfl | exact Or.inr rfl) (hs:swapsWith e (some (.Name x pos')) pos.line X.env=pure false:=by rfl) (hf:X.fn x=true ∨ X.env.scope.names.lookup x=some .local:=by first | exact .inl rfl | exact .inr rfl):sV X z (.Assign [.Name x pos'] e pos) (sOwn i fa):=⟨TL.s_own i hN h.p hi hx hs hf⟩
theorem s_app (i:Nat) {x:Str} {p1 p2 p3:Pos} (hb:PE X (.Call (.Attribute (.Name x p1) "append" p2) [e] [] p3) (tBM X.K "list" rAppend (tVar i) (tCons (tT z f) tNil))):sV X z (.Expr (.Call (.Attribute (.Name x p1) "append" p2) [e] [] p3) pos) (sApp i f):=⟨TL.s_app i hb⟩
theorem s_if {c:Expr} {a b:List Stmt} {ft:FT} (hc:eT X z c ft) (ha:sVs X z a F) (hb:sVs X z b G):sV X z (.If c a b pos) (sIf ft F G):=⟨TL.s_if hc.p ha.p hb.p⟩
theorem s_for {iter tg:Expr} {body:List Stmt} {g:FG} {tc:List Nat} (hp:PassesOwn (model X.prog X.w) X.A X.env X.xe) (hc:X.calm=true) (hi:J (PI X tg iter (iP z fa))) (hg:J (PG X tg (tG z tc g))) (hb:sVs X z body F) (hs:∀ x,foldedSetIterable iter X.env x=pure x:=by intro _; rfl):sV X z (.For tg iter body [] pos) (sFor fa g F):=⟨TL.s_for hp hc hi.p hg.p hb.p hs⟩
theorem ev_has {X:Cx} {z:Z} {k n:Nat} {x:Str} {p pos:Pos} {e:Expr} {es:List Expr} {fa:FA} {F:List T → Option T} (hK:z.K=X.K) (h:Has X.prog X.w X.K X.mg X.base x k n F) (hr:Room k X.A) (ha:eA X z (e :: es) fa) (hg:Gl X x:=by rfl) (hd:(x == ("__debug__":Str))=false:=by decide) (hs:starEach (e :: es) X.env=(false,eval e X.env) :: starEach es X.env:=by rfl) (hpl:(backTo pos (starEach es X.env)).any (·.1)=false:=by rfl):eV X z (.Call (.Name x p) (e :: es) [] pos) (fCall n F fa):=⟨TL.ev_has hK h hr ha.p hg hd hs hpl⟩
theorem ef_comp' {X:Cx} {z:Z} {elt iter tg:Expr} {ifs:List Expr} {scope:Scope} {pos:Pos} {fi:FA} {g:FG} {c:FT} {fe:FE} (N:List Str) (sc:Scope) (N':List Str) (ix:List (Option Nat)) (tc:List Nat) (ok:compOk N sc scope N' ix tc=true) (hK:z.K=X.K) (hi:J (PI X tg iter (iR z fi))) (hg:∀ C s H fp z',z'.K=X.K → J (PG (compCx X scope N' C s H fp) tg (tG z' tc g))) (ht:∀ C s H fp z',z'.K=X.K → J (PIfs (compCx X scope N' C s H fp) ifs (tB2 z' c))) (he:∀ C s H fp z',z'.K=X.K → eV (compCx X scope N' C s H fp) z' elt fe) (hN:X.N=N:=by rfl) (hsc:X.env.scope=sc:=by rfl) (hc:X.calm=true:=by rfl) (hs:∀ x,foldedSetIterable iter X.env x=pure x:=by intro _; rfl):eF X z (.ListComp elt [⟨tg,iter,ifs,0⟩] scope pos) (fComp ix fi g c fe):=⟨TL.ef_comp' N sc N' ix tc ok hK hi.p (fun C s H fp z' hz=>(hg C s H fp z' hz).p) (fun C s H fp z' hz=>(ht C s H fp z' hz).p) (fun C s H fp z' hz=>(he C s H fp z' hz).p) hN hsc hc hs⟩
theorem et_ifs1 {X:Cx} {z:Z} {c:Expr} {f:FT} (h:eT X z c f):J (PIfs X [c] (tB2 z f)):=⟨TL.et_ifs1 h.p⟩
theorem et_ifs0 {X:Cx} {z:Z}:J (PIfs X [] (tB2 z fYes)):=⟨TL.et_ifs0 ⟩
theorem s_setC {X:Cx} {z:Z} {elt iter tg:Expr} {ifs:List Expr} {scope:Scope} {pos:Pos} {fi:FA} {g:FG} {c:FT} {fe:FE} {x:Str} {pos' pos2:Pos} (i:Nat) (hnd:X.N.Nodup) (N:List Str) (sc:Scope) (N':List Str) (ix:List (Option Nat)) (tc:List Nat) (ok:compOk N sc scope N' ix tc=true) (hK:z.K=X.K) (hi:J (PI X tg iter (iR z fi))) (hg:∀ C s H fp z',z'.K=X.K → J (PG (compCx X scope N' C s H fp) tg (tG z' tc g))) (ht:∀ C s H fp z',z'.K=X.K → J (PIfs (compCx X scope N' C s H fp) ifs (tB2 z' c))) (he:∀ C s H fp z',z'.K=X.K → eV (compCx X scope N' C s H fp) z' elt fe) (hN:X.N=N:=by rfl) (hsc:X.env.scope=sc:=by rfl) (hc:X.calm=true:=by rfl) (hs:∀ x,foldedSetIterable iter X.env x=pure x:=by intro _; rfl) (hxi:X.N[i]?=some x:=by rfl) (hx:Loc X.env.scope x:=by first | exact Or.inl rfl | exact Or.inr rfl) (hsw:swapsWith (.ListComp elt [⟨tg,iter,ifs,0⟩] scope pos) (some (.Name x pos')) pos2.line X.env=pure true:=by rfl) (hf:X.fn x=true ∨ X.env.scope.names.lookup x=some .local:=by first | exact .inl rfl | exact .inr rfl):sV X z (.Assign [.Name x pos'] (.ListComp elt [⟨tg,iter,ifs,0⟩] scope pos) pos2) (sSet i (fNew (fComp ix fi g c fe))):=⟨TL.s_setC i hnd N sc N' ix tc ok hK hi.p (fun C s H fp z' hz=>(hg C s H fp z' hz).p) (fun C s H fp z' hz=>(ht C s H fp z' hz).p) (fun C s H fp z' hz=>(he C s H fp z' hz).p) hN hsc hc hs hxi hx hsw hf⟩
theorem et_tru (hK:z.K=X.K) (h:eR X z e f) (he:∀ whole,isTrue e X.env whole=(do let v ← whole; standAt e.pos; holding [v] (truthy v)):=by intro _; rfl):eT X z e (fTru f):=⟨TL.et_tru hK h.p he⟩
theorem ev_index (hK:z.K=X.K) (hu:X.A.units + 64 < cLine) (ha:eR X z a f) (hb:eV X z b g) (hbase:attributeBase a "index" X.env (eval a X.env)=eval a X.env:=by rfl) (hline:(p2.endLine == p3.line)=true:=by rfl) (hs:starEach [b] X.env=[(false,eval b X.env)]:=by rfl):eV X z (.Call (.Attribute a "index" p2) [b] [] p3) (f2 tIndex f g):=⟨TL.ev_index hK hu ha.p hb.p hbase hline hs⟩
theorem ss_frz (i:Nat) {st:List Stmt} (h:sVs X z st F):sVs X z st (sSeq (sFrz i) F):=⟨TL.ss_frz i h.p⟩
theorem ev_join (hK:z.K=X.K) (ha:eV X z a f) (hb:eR X z b g) (hbase:attributeBase a "join" X.env (eval a X.env)=eval a X.env:=by rfl) (hline:(p2.endLine == p3.line)=true:=by rfl) (hs:starEach [b] X.env=[(false,eval b X.env)]:=by rfl):eV X z (.Call (.Attribute a "join" p2) [b] [] p3) (f2 tJoin f g):=⟨TL.ev_join hK ha.p hb.p hbase hline hs⟩
theorem ev_isx {cs:List Str} {n d:Str} {p p1 p2 pos:Pos} (er:Er cs X.K X.mg) (hK:z.K=X.K) (i:Nat) (hm:X.mg "isinstance"=none) (hd:d ∈ cs:=by decide) (hg:Gl X "isinstance":=by rfl) (hg2:Gl X d:=by rfl) (hi:X.N[i]?=some n:=by rfl) (hv:Vis X.env.scope n:=by first | exact Or.inl rfl | exact Or.inr (Or.inl rfl) | exact Or.inr (Or.inr rfl)) (hdb:(n == ("__debug__":Str))=false:=by decide) (hcd:(n == ("__classdict__":Str))=false:=by decide) (hdb2:(d == ("__debug__":Str))=false:=by decide):eV X z (.Call (.Name "isinstance" p) [.Name n p1,.Name d p2] [] pos) (fIsx cs i d):=⟨TL.ev_isx er hK i hm hd hg hg2 hi hv hdb hcd hdb2⟩
theorem ev_isv {cs:List Str} {n:Str} {p p1 p2 pos:Pos} (er:Er cs X.K X.mg) (hK:z.K=X.K) (i:Nat) (hm:X.mg "isinstance"=none) (hm2:X.mg "ValueError"=none) (hg:Gl X "isinstance":=by rfl) (hg2:Gl X "ValueError":=by rfl) (hi:X.N[i]?=some n:=by rfl) (hv:Vis X.env.scope n:=by first | exact Or.inl rfl | exact Or.inr (Or.inl rfl) | exact Or.inr (Or.inr rfl)) (hdb:(n == ("__debug__":Str))=false:=by decide) (hcd:(n == ("__classdict__":Str))=false:=by decide):eV X z (.Call (.Name "isinstance" p) [.Name n p1,.Name "ValueError" p2] [] pos) (fIsv cs i):=⟨TL.ev_isv er hK i hm hm2 hg hg2 hi hv hdb hcd⟩
theorem s_no {st:Stmt}:sV X z st sNo:=⟨TL.s_no ⟩
theorem x_raise {cs:List Str} {c msg:Str} {np cpos pos p:Pos} {j:Nat} (er:Er cs X.K X.mg) (hK:z.K=X.K) (hL:RL X kx) (hd:c ∈ cs:=by decide) (hc:X.calm=true:=by rfl) (hg:Gl X c:=by rfl) (hdb:(c == ("__debug__":Str))=false:=by decide):xV X pins kx z (.Raise (some (.Call (.Name c np) [.Constant (.str msg) j p] [] cpos)) none pos) (xRaise c):=⟨TL.x_raise er hK hL hd hc hg hdb⟩
theorem x_if {z:Z} {kx:Addr → L2.St → Hp → Prop} {c:Expr} {a b:List Stmt} {ft:FT} {F G:FX} {pos:Pos} (hc:eT X z c ft) (ha:xVs X pins kx z a F) (hb:xVs X pins kx z b G):xV X pins kx z (.If c a b pos) (xIf ft F G):=⟨TL.x_if hc.p ha.p hb.p⟩
theorem x_one {z:Z} {kx:Addr → L2.St → Hp → Prop} {st:Stmt} {F:FX} (h:xV X pins kx z st F):xVs X pins kx z [st] F:=⟨TL.x_one h.p⟩
theorem x_cons {st:Stmt} {rst:List Stmt} {F G:FX} (h:xV X pins kx z st F) (hr:xVs X pins kx z rst G):xVs X pins kx z (st :: rst) (xSeq F G):=⟨TL.x_cons h.p hr.p⟩
theorem x_nil :xVs X pins kx z [] xNil:=⟨TL.x_nil ⟩
theorem x_st {st:Stmt} {F:FS} (h:sV X z st F):xV X pins kx z st (xSt F):=⟨TL.x_st h.p⟩
theorem x_never {st:List Stmt}:xVs X pins kx z st xNo:=⟨TL.x_never ⟩
theorem ev_isN {j p} (h:eV X z e f) (hm:behindInMarks .Is (.Constant .none j p)=false:=by rfl):eV X z (.Compare e [.Is] [.Constant .none j p] pos) (f1 tIsN f):=⟨TL.ev_isN h.p hm⟩
theorem et_isN {j p} (h:eV X z e f) (hm:behindInMarks .Is (.Constant .none j p)=false:=by rfl):eT X z (.Compare e [.Is] [.Constant .none j p] pos) (fB (f1 tIsN f)):=⟨TL.et_isN h.p hm⟩
theorem et_notN {j p} (h:eV X z e f) (hm:behindInMarks .IsNot (.Constant .none j p)=false:=by rfl):eT X z (.Compare e [.IsNot] [.Constant .none j p] pos) (fB (f1 tNotN f)):=⟨TL.et_notN h.p hm⟩
theorem x_or {st:Stmt} {G:FX} {F:FS} (h1:xV X pins kx z st G) (h2:sV X z st F):xV X pins kx z st (xOr G F):=⟨TL.x_or h1.p h2.p⟩
theorem has_of'' {P:Program} {w:World} {K:PySem.W.Frag} {mg:Str → Option Value} {base:Heap} {x:Str} {st:Stmt} {N ps:List Str} {k n m:Nat} {F:FS} (hn:ps.length=n) (hm:N.length=m) (G:Src K mg x st ps) (S:FnScope N ps (defScope st))
  (hbody:∀ (f:Addr) (cdv:Value) (A:Around) (outer:List Env) (s:Shared) (H:Hp) (E:XK) (z:Z),Room k (A.deeper (PyProof.Rows.envOfC x (defScope st) s.heap.objs.size f cdv)) → z.K=K →
   sVs (cxOf CX0 P w K mg base N x (defScope st) f cdv A outer s H E).nox z (defBody st) F):Has P w K mg base x (k + 1) n (run m F) :=
 has_of' hn hm G S fun f cdv A outer s H E z hr hz=>(hbody f cdv A outer s H E z hr hz).p
theorem fn_ok'' {P:Program} {w:World} {K:PySem.W.Frag} {mg:Str → Option Value} {base:Heap} {x qual:Str} {st:Stmt} {f:Addr} {fd:FuncData} {N ps:List Str} {k n m:Nat} {F:FS} (hn:ps.length=n) (hm:N.length=m) (G:Fun K x qual st f fd) (S:FnScope N ps (defScope st))
  (hbody:∀ (cdv:Value) (A:Around) (outer:List Env) (s:Shared) (H:Hp) (E:XK) (z:Z),Room k (A.deeper (PyProof.Rows.envOfC qual (defScope st) s.heap.objs.size f cdv)) → z.K=K →
   sVs (cxOf CX0 P w K mg base N qual (defScope st) f cdv A outer s H E).nox z (defBody st) F):FnOk P w K mg base CX0 (k + 1) f fd ps (spT K n (run m F)) :=
 fn_ok' hn hm G S fun cdv A outer s H E z hr hz=>(hbody cdv A outer s H E z hr hz).p
theorem hj_nil:hJ X z [] (fun _ _=>none):=⟨TL.hj_nil⟩
theorem hj_as {cs:List Str} {d n:Str} {b0:Stmt} {body:List Stmt} {rst:List ExceptHandler} {Fs:FS} {Fr:Str → FS} {p pos:Pos} (er:Er cs X.K X.mg) (hK:z.K=X.K) (i:Nat) (hN:X.N.Nodup) (hsu:∀ ea oe E,Sx (suiteCx X ea oe E) → sVs (suiteCx X ea oe E) z (b0 :: body) Fs) (hr:hJ X z rst Fr)
  (hex:X.ex=[]:=by rfl) (hd:d ∈ cs:=by decide) (hi:X.N[i]?=some n:=by rfl) (hl:X.env.scope.names.lookup n=some .local:=by rfl) (hg:Gl X d:=by rfl) (hdb:(d == ("__debug__":Str))=false:=by decide):hJ X z (.ExceptHandler (some (.Name d p)) (some n) (b0 :: body) pos :: rst) (hAs cs d i Fs Fr) :=
 ⟨TL.hj_as er hK i hN (fun ea oe E sx=>(hsu ea oe E sx).p) hr.p hex hd hi hl hg hdb⟩
theorem s_try {body:List Stmt} {h0:ExceptHandler} {hs:List ExceptHandler} {Fb:FX} {Fh:Str → FS} {pos:Pos} (hK:z.K=X.K) (hb:∀ E pins kx,Lands (X.wish E) pins kx → xVs (X.wish E) pins kx z body Fb) (hh:hJ X z (h0 :: hs) Fh)
  (hst:X.stack=X.env :: X.outer:=by rfl) (hf:X.env.frame=some X.env.locals:=by rfl):sV X z (.Try body (h0 :: hs) [] [] pos) (sTry Fb Fh):=⟨TL.s_try hK (fun E pins kx hL=>(hb E pins kx hL).p) hh.p hst hf⟩
end TL.W
set_option autoImplicit true
set_option relaxedAutoImplicit true
namespace TL.W
open PySem L2 TL
structure xEx (X:Cx) (pins:List (Addr × Obj)) (kx:Addr → L2.St → Hp → Prop) (z:Z) (e:Expr) (G:Rho → Option Str):Prop where
 p:XE X pins kx z e G
theorem ev_sliceS {lo hi:Option Expr} {fl fh:FO} (he:eV X z e f) (hl:J (PO X lo (tO z fl))) (hh:J (PO X hi (tO z fh))):eV X z (.Subscript e (.Slice lo hi none p2) pos) (fCutS f fl fh):=⟨TL.ev_sliceS he.p hl.p hh.p⟩
theorem ev_ixS (ha:eV X z a f) (hb:eV X z b g) (hs:PlainIx b):eV X z (.Subscript a b pos) (f2 tIxS f g):=⟨TL.ev_ixS ha.p hb.p hs⟩
theorem ef_split (ha:eV X z a f) (hb:eV X z b g) (hbase:attributeBase a "split" X.env (eval a X.env)=eval a X.env:=by rfl) (hline:(p2.endLine == p3.line)=true:=by rfl) (hs:starEach [b] X.env=[(false,eval b X.env)]:=by rfl):eF X z (.Call (.Attribute a "split" p2) [b] [] p3) (fSplit f g):=⟨TL.ef_split ha.p hb.p hbase hline hs⟩
theorem xe_or {e:Expr} {G1 G2:Rho → Option Str} (h1:xEx X pins kx z e G1) (h2:xEx X pins kx z e G2):xEx X pins kx z e (gOr G1 G2):=⟨TL.xe_or h1.p h2.p⟩
theorem xe_call {k n:Nat} {x c:Str} {p:Pos} {e:Expr} {es:List Expr} {fa:FA} {G:List T → Bool} (hL:Lands X pins kx) (hK:z.K=X.K) (h:HasX X.prog X.w X.K X.mg X.base x k n G c) (hr:Room k X.A) (ha:eA X z (e :: es) fa) (hgl:Gl X x:=by rfl) (hd:(x == ("__debug__":Str))=false:=by decide) (hs:starEach (e :: es) X.env=(false,eval e X.env) :: starEach es X.env:=by rfl) (hpl:(backTo pos (starEach es X.env)).any (·.1)=false:=by rfl):xEx X pins kx z (.Call (.Name x p) (e :: es) [] pos) (gCallX n G c fa):=⟨TL.xe_call hL hK h hr ha.p hgl hd hs hpl⟩
theorem xe_tup1 {e:Expr} {es:List Expr} {G:Rho → Option Str} {x1} (h:xEx X pins kx z e G) (hs:starEach (e :: es) X.env=(false,eval e X.env) :: starEach es X.env:=by rfl):xEx X pins kx z (.Tuple (e :: es) x1 pos) G:=⟨TL.xe_tup1 h.p hs⟩
theorem xe_tup2 {a e:Expr} {es:List Expr} {f:FE} {G:Rho → Option Str} {x1} (ha:eV X z a f) (h:xEx X pins kx z e G) (hs:starEach (a :: e :: es) X.env=(false,eval a X.env) :: (false,eval e X.env) :: starEach es X.env:=by rfl):xEx X pins kx z (.Tuple (a :: e :: es) x1 pos) (fun ρ=>(f ρ).bind fun _=>G ρ):=⟨TL.xe_tup2 ha.p h.p hs⟩
theorem xe_y1 {x:Str} {id:String} {p:Pos} {e:Expr} {G:Rho → Option Str} (hg:Gl X x) (hm:X.mg x=none) (hv:bootBuiltins x=some (.type id)) (h:xEx X pins kx z e G) (hn:x ≠ "__name__":=by decide) (hdb:(x == ("__debug__":Str))=false:=by decide) (hs:starEach [e] X.env=(false,eval e X.env) :: starEach [] X.env:=by rfl) (hpl:(backTo pos (starEach [] X.env)).any (·.1)=false:=by rfl):xEx X pins kx z (.Call (.Name x p) [e] [] pos) G:=⟨TL.xe_y1 hg hm hv h.p hn hdb hs hpl⟩
theorem xe_iter {elt iter tg:Expr} {ifs:List Expr} {scope:Scope} {G:Rho → Option Str} (N:List Str) (sc:Scope) (N':List Str) (ix:List (Option Nat)) (tc:List Nat) (ok:compOk N sc scope N' ix tc=true) (h:xEx X pins kx z iter G) (hN:X.N=N:=by rfl) (hsc:X.env.scope=sc:=by rfl) (hs:∀ x,foldedSetIterable iter X.env x=pure x:=by intro _; rfl):xEx X pins kx z (.ListComp elt [⟨tg,iter,ifs,0⟩] scope pos) G:=⟨TL.xe_iter N sc N' ix tc ok h.p hN hsc hs⟩
theorem x_setF {e:Expr} {x:Str} {p:Pos} {G:Rho → Option Str} (h:xEx X pins kx z e G) (hs:swapsWith e (some (.Name x p)) pos.line X.env=pure false:=by rfl):xV X pins kx z (.Assign [.Name x p] e pos) (xE G):=⟨TL.x_setF h.p hs⟩
theorem x_retE {e:Expr} {G:Rho → Option Str} (h:xEx X pins kx z e G):xV X pins kx z (.Return (some e) pos) (xE G):=⟨TL.x_retE h.p⟩
theorem s_nox {st:Stmt} {F:FS} (h:sV X.nox z st F):sV X z st F:=⟨TL.s_nox h.p⟩
theorem xe_comp {X:Cx} {pins:List (Addr × Obj)} {kx:Addr → L2.St → Hp → Prop} {z:Z} {pos:Pos} {elt iter tg:Expr} {scope:Scope} {fi:FA} {g:FG} {fe:FE} {ge:Rho → Option Str} (N:List Str) (sc:Scope) (N':List Str) (ix:List (Option Nat)) (tc:List Nat) (ok:compOk N sc scope N' ix tc=true) (hL:LandsF X pins kx)
  (hK:z.K=X.K) (hi:J (PI X tg iter (iR z fi))) (hg:∀ C s H fp z',z'.K=X.K → J (PG (compCx X scope N' C s H fp) tg (tG z' tc g))) (he:∀ C s H fp z',z'.K=X.K → eV (compCx X scope N' C s H fp) z' elt fe)
  (hx:∀ C s H fp z' E P kx',z'.K=X.K → Lands ((compCx X scope N' C s H fp).wish E) P kx' → xEx ((compCx X scope N' C s H fp).wish E) P kx' z' elt ge)
  (hN:X.N=N:=by rfl) (hsc:X.env.scope=sc:=by rfl) (hc:X.calm=true:=by rfl) (hs:∀ x,foldedSetIterable iter X.env x=pure x:=by intro _; rfl) (hst:X.stack=X.env :: X.outer:=by rfl) (hf:X.env.frame=some X.env.locals:=by rfl):xEx X pins kx z (.ListComp elt [⟨tg,iter,[],0⟩] scope pos) (gComp ix fi g ge fe) :=
 ⟨TL.xe_comp N sc N' ix tc ok hL hK hi.p (fun C s H fp z' h=>(hg C s H fp z' h).p) (fun C s H fp z' h=>(he C s H fp z' h).p) (fun C s H fp z' E P kx' h l=>(hx C s H fp z' E P kx' h l).p) hN hsc hc hs hst hf⟩
theorem hasX_of2'' {P:Program} {w:World} {K:PySem.W.Frag} {mg:Str → Option Value} {base:Heap} {x c:Str} {st:Stmt} {N ps:List Str} {k n m:Nat} {F:FX} (hn:ps.length=n) (hm:N.length=m) (G:Src K mg x st ps) (S:FnScope N ps (defScope st))
  (hbody:∀ (f:Addr) (cdv:Value) (A:Around) (outer:List Env) (s:Shared) (H:Hp) (E:XK) (z:Z),Room k (A.deeper (PyProof.Rows.envOfC x (defScope st) s.heap.objs.size f cdv)) → z.K=K →
   ∀ pins kx,RL (cxOf (CX1 P w) P w K mg base N x (defScope st) f cdv A outer s H E) kx → LandsF (cxOf (CX1 P w) P w K mg base N x (defScope st) f cdv A outer s H E) pins kx → xVs (cxOf (CX1 P w) P w K mg base N x (defScope st) f cdv A outer s H E) pins kx z (defBody st) F):HasX P w K mg base x (k + 1) n (runX m F c) c :=
 hasX_of2 hn hm G S fun f cdv A outer s H E z hr hz pins kx hL hL2=>(hbody f cdv A outer s H E z hr hz pins kx hL hL2).p
end TL.W
namespace TL
open PySem L2
section
variable {ρ:Rho} {f g h:FE} {fa:FA} {ft gt:FT} {fn fn':T → T → Option T} {F G:FS}
@[simp] theorem f1_ev {fn:T → Option T}:f1 fn f ρ=(f ρ).bind fn:=by unfold f1; cases f ρ <;> rfl
@[simp] theorem f2_ev:f2 fn f g ρ=(f ρ).bind fun t=>(g ρ).bind fun u=>fn t u:=by
 unfold f2
 cases f ρ with
 | none=>rfl
 | some t=>cases g ρ <;> rfl
@[simp] theorem kc_ev {t:T}:kc t ρ=some t:=rfl
@[simp] theorem gv_ev {i:Nat}:gv i ρ=match ρ[i]? with | some (some (.pu t))=>some t | _=>none:=rfl
@[simp] theorem go_ev {i:Nat}:go i ρ=match ρ[i]? with | some (some (.ow ts))=>some (.lst ts) | _=>none:=rfl
@[simp] theorem fNil_ev:fNil ρ=some []:=rfl
@[simp] theorem fCons_ev:fCons f fa ρ=(f ρ).bind fun t=>(fa ρ).bind fun ts=>some (t :: ts):=by
 unfold fCons
 cases f ρ with
 | none=>rfl
 | some t=>cases fa ρ <;> rfl
@[simp] theorem fTup_ev:fTup fa ρ=(fa ρ).bind fun ts=>if ts.length ≤ sizeLine then some (.tup ts) else none:=by
 unfold fTup
 cases fa ρ <;> rfl
@[simp] theorem fLst_ev:fLst fa ρ=(fa ρ).bind fun ts=>if ts.length ≤ sizeLine then some ts else none:=by
 unfold fLst
 cases fa ρ <;> rfl
@[simp] theorem fNew_ev:fNew fa ρ=(fa ρ).map T.lst:=rfl
@[simp] theorem fB_ev:fB f ρ=(f ρ).bind fun t=>match t with | .bl b=>some b | _=>none:=by
 unfold fB
 cases f ρ with
 | none=>rfl
 | some t=>cases t <;> rfl
@[simp] theorem fNot_ev:fNot ft ρ=(ft ρ).map (!·):=rfl
@[simp] theorem fAnd_ev:fAnd ft gt ρ=(ft ρ).bind fun b=>if b=true then gt ρ else some false:=by
 unfold fAnd
 cases ft ρ with
 | none=>rfl
 | some b=>cases b <;> rfl
@[simp] theorem fOr_ev:fOr ft gt ρ=(ft ρ).bind fun b=>if b=true then some true else gt ρ:=by
 unfold fOr
 cases ft ρ with
 | none=>rfl
 | some b=>cases b <;> rfl
@[simp] theorem fAndV_ev:fAndV f g ρ=match f ρ with | some (.bl true)=>g ρ | some (.bl false)=>some (.bl false) | _=>none:=rfl
@[simp] theorem fOrV_ev:fOrV f g ρ=match f ρ with | some (.bl false)=>g ρ | some (.bl true)=>some (.bl true) | _=>none:=rfl
@[simp] theorem fNotV_ev:fNotV f ρ=match f ρ with | some (.bl b)=>some (.bl (!b)) | _=>none:=rfl
@[simp] theorem fIf_ev:fIf ft f g ρ=(ft ρ).bind fun b=>if b=true then f ρ else g ρ:=by
 unfold fIf
 cases ft ρ with
 | none=>rfl
 | some b=>cases b <;> rfl
@[simp] theorem fChain_ev:fChain fn fn' f g h ρ=match f ρ with | some t=>(match g ρ with | some u=>(match fn t u with | some (.bl true)=>(match h ρ with | some w=>fn' u w | none=>none) | some (.bl false)=>some (.bl false) | _=>none) | none=>none) | none=>none:=rfl
@[simp] theorem fCall_ev {n:Nat} {M:List T → Option T}:fCall n M fa ρ=(fa ρ).bind fun ts=>if ts.length=n then M ts else none:=by
 unfold fCall
 cases fa ρ <;> rfl
@[simp] theorem fYes_ev:fYes ρ=some true:=rfl
@[simp] theorem foN_ev:foN ρ=some none:=rfl
@[simp] theorem foS_ev:foS f ρ=match f ρ with | some (.int i)=>some (some i) | _=>none:=rfl
@[simp] theorem fCut_ev {lo hi:FO}:fCut f lo hi ρ=(f ρ).bind fun t=>(lo ρ).bind fun l=>(hi ρ).bind fun h=>tCut t l h:=by
 unfold fCut
 cases f ρ with
 | none=>rfl
 | some t =>
   cases lo ρ with
   | none=>rfl
   | some l=>cases hi ρ <;> rfl
@[simp] theorem sNil_ev:sNil ρ=some (.nx ρ):=rfl
@[simp] theorem sSeq_ev:sSeq F G ρ=match F ρ with | some (.nx ρ')=>G ρ' | o=>o:=rfl
@[simp] theorem sRet_ev:sRet f ρ=(f ρ).map .rt:=rfl
@[simp] theorem sRetO_ev {i:Nat}:sRetO i ρ=match ρ[i]? with | some (some (.ow ts))=>some (.rt (.lst ts)) | _=>none:=rfl
@[simp] theorem sSet_ev {i:Nat}:sSet i f ρ=(f ρ).map fun t=>.nx (ρ.set i (some (.pu t))):=rfl
@[simp] theorem sOwn_ev {i:Nat}:sOwn i fa ρ=(fa ρ).map fun ts=>.nx (ρ.set i (some (.ow ts))):=rfl
@[simp] theorem sApp_ev {i:Nat}:sApp i f ρ=match ρ[i]? with
 | some (some (.ow ts))=>(match f ρ with | some t=>if ts.length < sizeLine then some (.nx (ρ.set i (some (.ow (ts ++ [t]))))) else none | none=>none)
 | _=>none:=rfl
@[simp] theorem sIf_ev:sIf ft F G ρ=(ft ρ).bind fun b=>if b=true then F ρ else G ρ:=by
 unfold sIf
 cases ft ρ with
 | none=>rfl
 | some b=>cases b <;> rfl
@[simp] theorem sFor_ev {fg:FG}:sFor fa fg F ρ=(fa ρ).bind fun ts=>loopF fg F ts ρ:=by
 unfold sFor
 cases fa ρ <;> rfl
@[simp] theorem sDrop_ev:sDrop f ρ=(f ρ).map fun _=>.nx ρ:=rfl
@[simp] theorem gNm_ev {i:Nat} {t:T}:gNm i t ρ=some (ρ.set i (some (.pu t))):=rfl
@[simp] theorem gTp2_ev {i j:Nat} {a b:T}:gTp2 i j (.tup [a,b]) ρ=some ((ρ.set i (some (.pu a))).set j (some (.pu b))):=rfl
@[simp] theorem fRng_ev:fRng f ρ=(f ρ).bind fun t=>match t with | .int j=>if -(2 ^ 62) ≤ j ∧ j < 2 ^ 62 then some (rangeT 0 j.toNat) else none | _=>none:=by
 unfold fRng
 cases f ρ with
 | none=>rfl
 | some t=>cases t <;> rfl
@[simp] theorem fRng2_ev:fRng2 f g ρ=(f ρ).bind fun t=>(g ρ).bind fun u=>match t,u with | .int i,.int j=>if -(2 ^ 62) ≤ i ∧ i < 2 ^ 62 ∧ -(2 ^ 62) ≤ j ∧ j < 2 ^ 62 then some (rangeT i (j - i).toNat) else none | _,_=>none:=by
 unfold fRng2
 cases f ρ with
 | none=>rfl
 | some t =>
   cases t <;> cases g ρ <;> first | rfl | (rename_i u; cases u <;> rfl)
@[simp] theorem fIt_ev:fIt f ρ=(f ρ).bind fun t=>match t with | .tup ts=>some ts | .lst ts=>some ts | _=>none:=by
 unfold fIt
 cases f ρ with
 | none=>rfl
 | some t=>cases t <;> rfl
@[simp] theorem fComp_ev {ix:List (Option Nat)} {fg:FG}:fComp ix fa fg ft f ρ=(fa ρ).bind fun ts=>if ts.length ≤ sizeLine then compL fg ft f (subR ix ρ) ts else none:=by
 unfold fComp
 cases fa ρ <;> rfl
@[simp] theorem subR_ev {ix:List (Option Nat)}:subR ix ρ=ix.map fun o=>o.bind fun i=>match ρ[i]? with | some (some (.pu t))=>some (.pu t) | _=>none:=rfl
end
section
variable {i j:Int}
@[simp] theorem tAdd_i:tAdd (.int i) (.int j)=some (.int (i + j)):=rfl
@[simp] theorem tSub_i:tSub (.int i) (.int j)=some (.int (i - j)):=rfl
@[simp] theorem tNeg_i:tNeg (.int i)=some (.int (-i)):=rfl
theorem tMul_i (h:mulOk i j=true):tMul (.int i) (.int j)=some (.int (i * j)):=if_pos h
theorem mulOk_l (h0:-(2 ^ 64) < i) (h1:i < 2 ^ 64):mulOk i j=true:=by simp [mulOk]; omega
theorem mulOk_r (h0:-(2 ^ 64) < j) (h1:j < 2 ^ 64):mulOk i j=true:=by simp [mulOk]; omega
theorem tMul_l (h0:-18446744073709551616 < i) (h1:i < 18446744073709551616):tMul (.int i) (.int j)=some (.int (i * j)):=tMul_i (mulOk_l h0 h1)
theorem tMul_r (h0:-18446744073709551616 < j) (h1:j < 18446744073709551616):tMul (.int i) (.int j)=some (.int (i * j)):=tMul_i (mulOk_r h0 h1)
theorem tMd_i (h:0 < j):tMd (.int i) (.int j)=some (.int (i % j)):=if_pos h
theorem tFd_i (h:0 < j) (h2:j < 1073741824):tFd (.int i) (.int j)=some (.int (i / j)):=if_pos ⟨h,h2⟩
@[simp] theorem tLtI_i:tLtI (.int i) (.int j)=some (.bl (decide (i < j))):=rfl
@[simp] theorem tLeI_i:tLeI (.int i) (.int j)=some (.bl (decide (i ≤ j))):=rfl
@[simp] theorem tGtI_i:tGtI (.int i) (.int j)=some (.bl (decide (j < i))):=rfl
@[simp] theorem tGeI_i:tGeI (.int i) (.int j)=some (.bl (decide (j ≤ i))):=rfl
theorem dep_int:dep (.int i)=0:=by simp [dep]
theorem dep_bl {b:Bool}:dep (.bl b)=0:=by simp [dep]
@[simp] theorem tEqq_i {u:T}:tEqq (.int i) u=some (.bl (teq (.int i) u)):=if_pos (by rw [dep_int]; decide)
@[simp] theorem tEqq_b {b:Bool} {u:T}:tEqq (.bl b) u=some (.bl (teq (.bl b) u)):=if_pos (by rw [dep_bl]; decide)
@[simp] theorem tNee_i {u:T}:tNee (.int i) u=some (.bl (!teq (.int i) u)):=if_pos (by rw [dep_int]; decide)
@[simp] theorem teq_ii:teq (.int i) (.int j)=(i == j):=by simp [teq]
@[simp] theorem teq_bb {a b:Bool}:teq (.bl a) (.bl b)=(a == b):=by simp [teq]
@[simp] theorem tLen_t {ts:List T}:tLen (.tup ts)=some (.int ts.length):=rfl
@[simp] theorem tLen_l {ts:List T}:tLen (.lst ts)=some (.int ts.length):=rfl
@[simp] theorem tTupOf_t {ts:List T}:tTupOf (.tup ts)=some (.tup ts):=rfl
@[simp] theorem tTupOf_l {ts:List T}:tTupOf (.lst ts)=some (.tup ts):=rfl
@[simp] theorem tLstOf_t {ts:List T}:tLstOf (.tup ts)=some (.lst ts):=rfl
@[simp] theorem tLstOf_l {ts:List T}:tLstOf (.lst ts)=some (.lst ts):=rfl
@[simp] theorem tMin_i:tMin (.int i) (.int j)=some (.int (if j < i then j else i)):=rfl
@[simp] theorem tIx_t {ts:List T}:tIx (.tup ts) (.int i)=atI ts i:=rfl
@[simp] theorem tIx_l {ts:List T}:tIx (.lst ts) (.int i)=atI ts i:=rfl
@[simp] theorem tIs_ev {c:String} {t:T}:tIs c t=some (.bl (isT c t)):=rfl
@[simp] theorem tCut_t {ts:List T} {l h:Option Int}:tCut (.tup ts) l h=some (.tup (cutT ts l h)):=rfl
@[simp] theorem tCut_l {ts:List T} {l h:Option Int}:tCut (.lst ts) l h=some (.lst (cutT ts l h)):=rfl
@[simp] theorem tRev_t {ts:List T}:tRev (.tup ts)=some (.tup ts.reverse):=rfl
end
theorem atI_nat' {α:Type} {xs:List α} {i:Int} {x:α} (h0:0 ≤ i) (h:xs[i.toNat]?=some x):atI xs i=some x:=by
 have hl:i.toNat < xs.length:=(List.getElem?_eq_some_iff.mp h).1
 unfold atI ixN
 rw [if_pos h0,if_pos (by omega)]
 exact h
theorem atI_mem {α:Type} {xs:List α} {i:Int} (h0:0 ≤ i) (h:i < xs.length):∃ x,x ∈ xs ∧ atI xs i=some x:=by
 have hl:i.toNat < xs.length:=by omega
 exact ⟨xs[i.toNat],List.getElem_mem hl,atI_nat' h0 (List.getElem?_eq_getElem hl)⟩
theorem sizeLine_ge {n:Nat} (h:n ≤ 1000000):n ≤ sizeLine:=Nat.le_trans h (by decide)
theorem sizeLine_gt {n:Nat} (h:n < 1000000):n < sizeLine:=Nat.lt_of_lt_of_le h (by decide)
theorem compL_map {g:FG} {c:FT} {e:FE} {ρ:Rho} (p:T → Bool) (f:T → T):∀ (ts:List T),(∀ t ∈ ts,∃ ρ1,g t ρ=some ρ1 ∧ c ρ1=some (p t) ∧ (p t=true → e ρ1=some (f t))) → compL g c e ρ ts=some ((ts.filter p).map f)
 | [],_=>rfl
 | t :: ts,h=>by
   have ih:=compL_map p f ts fun u hu=>h u (List.mem_cons_of_mem _ hu)
   obtain ⟨ρ1,h1,h2,h3⟩:=h t List.mem_cons_self
   unfold compL
   rw [h1]
   dsimp only
   rw [h2]
   cases hp:p t with
   | false =>
     dsimp only
     rw [ih,List.filter_cons_of_neg (by rw [hp]; exact Bool.false_ne_true)]
   | true =>
     dsimp only
     rw [h3 hp,ih,List.filter_cons_of_pos hp]
     rfl
theorem compL_filter {g:FG} {c:FT} {e:FE} {ρ:Rho} (p:T → Bool) (ts:List T) (h:∀ t ∈ ts,∃ ρ1,g t ρ=some ρ1 ∧ c ρ1=some (p t) ∧ (p t=true → e ρ1=some t)):compL g c e ρ ts=some (ts.filter p):=by
 rw [compL_map p id ts h]; simp
theorem compL_all {g:FG} {c:FT} {e:FE} {ρ:Rho} (f:T → T) (ts:List T) (h:∀ t ∈ ts,∃ ρ1,g t ρ=some ρ1 ∧ c ρ1=some true ∧ e ρ1=some (f t)):compL g c e ρ ts=some (ts.map f):=by
 have:=compL_map (g:=g) (c:=c) (e:=e) (ρ:=ρ) (fun _=>true) f ts fun t ht=>by
  obtain ⟨ρ1,h1,h2,h3⟩:=h t ht
  exact ⟨ρ1,h1,h2,fun _=>h3⟩
 rw [this]
 congr 2
 exact List.filter_eq_self.mpr fun _ _=>rfl
end TL
namespace TL
open PySem L2
section
variable {ρ ρ' ρ1:Rho} {f g h:FE} {fa:FA} {ft gt:FT} {fn fn':T → T → Option T} {F G R:FS} {t u w:T} {ts us:List T} {a b c:Bool} {i n:Nat} {o:Out}
theorem b_gv (h:ρ[i]?=some (some (.pu t))):gv i ρ=some t:=by unfold gv; rw [h]
theorem b_go (h:ρ[i]?=some (some (.ow ts))):go i ρ=some (.lst ts):=by unfold go; rw [h]
theorem b_kc:kc t ρ=some t:=rfl
theorem b_f1 {fn:T → Option T} (h1:f ρ=some t) (h2:fn t=some u):f1 fn f ρ=some u:=by rw [f1_ev,h1]; exact h2
theorem b_f2 (h1:f ρ=some t) (h2:g ρ=some u) (h3:fn t u=some w):f2 fn f g ρ=some w:=by rw [f2_ev,h1,Option.bind_some,h2]; exact h3
theorem b_nil:fNil ρ=some []:=rfl
theorem b_cons (h1:f ρ=some t) (h2:fa ρ=some ts):fCons f fa ρ=some (t :: ts):=by rw [fCons_ev,h1,Option.bind_some,h2]; rfl
theorem b_tup (h1:fa ρ=some ts) (h2:ts.length ≤ sizeLine):fTup fa ρ=some (.tup ts):=by rw [fTup_ev,h1,Option.bind_some,if_pos h2]
theorem b_lst (h1:fa ρ=some ts) (h2:ts.length ≤ sizeLine):fLst fa ρ=some ts:=by rw [fLst_ev,h1,Option.bind_some,if_pos h2]
theorem b_new (h1:fa ρ=some ts):fNew fa ρ=some (.lst ts):=by rw [fNew_ev,h1]; rfl
theorem b_B (h1:f ρ=some (.bl b)):fB f ρ=some b:=by rw [fB_ev,h1]; rfl
theorem b_not (h1:ft ρ=some b):fNot ft ρ=some (!b):=by rw [fNot_ev,h1]; rfl
theorem b_and (h1:ft ρ=some a) (h2:a=true → gt ρ=some b):fAnd ft gt ρ=some (a && b):=by
 rw [fAnd_ev,h1,Option.bind_some]
 cases a with
 | true=>rw [if_pos rfl,h2 rfl]; rfl
 | false=>rw [if_neg Bool.false_ne_true]; rfl
theorem b_or (h1:ft ρ=some a) (h2:a=false → gt ρ=some b):fOr ft gt ρ=some (a || b):=by
 rw [fOr_ev,h1,Option.bind_some]
 cases a with
 | true=>rw [if_pos rfl]; rfl
 | false=>rw [if_neg Bool.false_ne_true,h2 rfl]; rfl
theorem b_andV (h1:f ρ=some (.bl a)) (h2:a=true → g ρ=some (.bl b)):fAndV f g ρ=some (.bl (a && b)):=by
 rw [fAndV_ev,h1]
 cases a with
 | true=>exact h2 rfl
 | false=>rfl
theorem b_orV (h1:f ρ=some (.bl a)) (h2:a=false → g ρ=some (.bl b)):fOrV f g ρ=some (.bl (a || b)):=by
 rw [fOrV_ev,h1]
 cases a with
 | true=>rfl
 | false=>exact h2 rfl
theorem b_notV (h1:f ρ=some (.bl a)):fNotV f ρ=some (.bl (!a)):=by rw [fNotV_ev,h1]
theorem b_if (h1:ft ρ=some b) (h2:b=true → f ρ=some t) (h3:b=false → g ρ=some u):fIf ft f g ρ=some (if b=true then t else u):=by
 rw [fIf_ev,h1,Option.bind_some]
 cases b with
 | true=>exact h2 rfl
 | false=>exact h3 rfl
theorem b_chain (h1:f ρ=some t) (h2:g ρ=some u) (h3:fn t u=some (.bl a)) (h4:a=true → h ρ=some w) (h5:a=true → fn' u w=some (.bl b)):fChain fn fn' f g h ρ=some (.bl (a && b)):=by
 rw [fChain_ev,h1]
 dsimp only
 rw [h2]
 dsimp only
 rw [h3]
 cases a with
 | true=>dsimp only; rw [h4 rfl]; exact h5 rfl
 | false=>rfl
theorem b_call {M:List T → Option T} (h1:fa ρ=some ts) (h2:ts.length=n) (h3:M ts=some t):fCall n M fa ρ=some t:=by rw [fCall_ev,h1,Option.bind_some,if_pos h2]; exact h3
theorem b_oN:foN ρ=some none:=rfl
theorem b_oS {i:Int} (h1:f ρ=some (.int i)):foS f ρ=some (some i):=by rw [foS_ev,h1]
theorem b_cut {lo hi:FO} {l h:Option Int} (h1:f ρ=some t) (h2:lo ρ=some l) (h3:hi ρ=some h) (h4:tCut t l h=some u):fCut f lo hi ρ=some u:=by rw [fCut_ev,h1,Option.bind_some,h2,Option.bind_some,h3]; exact h4
theorem b_rng {j:Int} (h1:f ρ=some (.int j)) (h2:-(2 ^ 62) ≤ j) (h3:j < 2 ^ 62):fRng f ρ=some (rangeT 0 j.toNat):=by
 rw [fRng_ev,h1,Option.bind_some]
 exact if_pos ⟨h2,h3⟩
theorem b_rng2 {i j:Int} (h1:f ρ=some (.int i)) (h2:g ρ=some (.int j)) (h3:-(2 ^ 62) ≤ i) (h4:i < 2 ^ 62) (h5:-(2 ^ 62) ≤ j) (h6:j < 2 ^ 62):fRng2 f g ρ=some (rangeT i (j - i).toNat):=by
 rw [fRng2_ev,h1,Option.bind_some,h2,Option.bind_some]
 exact if_pos ⟨h3,h4,h5,h6⟩
theorem b_itT (h1:f ρ=some (.tup ts)):fIt f ρ=some ts:=by rw [fIt_ev,h1]; rfl
theorem b_itL (h1:f ρ=some (.lst ts)):fIt f ρ=some ts:=by rw [fIt_ev,h1]; rfl
theorem b_comp {ix:List (Option Nat)} {fg:FG} (h1:fa ρ=some ts) (h2:ts.length ≤ sizeLine) (h3:subR ix ρ=ρ1) (h4:compL fg ft f ρ1 ts=some us):fComp ix fa fg ft f ρ=some us:=by
 rw [fComp_ev,h1,Option.bind_some,if_pos h2,h3]; exact h4
theorem b_yes:fYes ρ=some true:=rfl
theorem b_set (h1:f ρ=some t) (h2:ρ.set i (some (.pu t))=ρ'):sSet i f ρ=some (.nx ρ'):=by rw [sSet_ev,h1,← h2]; rfl
theorem b_own (h1:fa ρ=some ts) (h2:ρ.set i (some (.ow ts))=ρ'):sOwn i fa ρ=some (.nx ρ'):=by rw [sOwn_ev,h1,← h2]; rfl
theorem b_app (h1:ρ[i]?=some (some (.ow ts))) (h2:f ρ=some t) (h3:ts.length < sizeLine) (h4:ρ.set i (some (.ow (ts ++ [t])))=ρ'):sApp i f ρ=some (.nx ρ'):=by
 rw [sApp_ev,h1]
 dsimp only
 rw [h2]
 dsimp only
 rw [if_pos h3,h4]
theorem b_drop (h1:f ρ=some t):sDrop f ρ=some (.nx ρ):=by rw [sDrop_ev,h1]; rfl
theorem b_snil:sNil ρ=some (.nx ρ):=rfl
theorem b_ret (h1:f ρ=some t) (h2:t=u):sRet f ρ=some (.rt u):=by rw [sRet_ev,h1,h2]; rfl
theorem b_retO (h1:ρ[i]?=some (some (.ow ts))) (h2:ts=us):sRetO i ρ=some (.rt (.lst us)):=by rw [sRetO_ev,h1,h2]
theorem b_seq (h1:F ρ=some (.nx ρ')) (h2:G ρ'=some o):sSeq F G ρ=some o:=by rw [sSeq_ev,h1]; exact h2
theorem b_seqR (h1:F ρ=some (.rt t)) (h2:t=u):sSeq F G ρ=some (.rt u):=by rw [sSeq_ev,h1,h2]
theorem b_sif (h1:ft ρ=some b) (h2:b=true → F ρ=some o) (h3:b=false → G ρ=some o):sIf ft F G ρ=some o:=by
 rw [sIf_ev,h1,Option.bind_some]
 cases b with
 | true=>exact h2 rfl
 | false=>exact h3 rfl
theorem b_seqIf (h1:ft ρ=some b) (h2:b=true → sSeq F R ρ=some o) (h3:b=false → sSeq G R ρ=some o):sSeq (sIf ft F G) R ρ=some o:=by
 have e:sSeq (sIf ft F G) R ρ=if b=true then sSeq F R ρ else sSeq G R ρ:=by
  simp only [sSeq_ev,sIf_ev,h1,Option.bind_some]
  cases b <;> rfl
 rw [e]
 cases b with
 | true=>exact h2 rfl
 | false=>exact h3 rfl
theorem b_seqSeq {S:FS} (h:sSeq F (sSeq G S) ρ=some o):sSeq (sSeq F G) S ρ=some o:=by
 rw [← h]
 simp only [sSeq_ev]
 cases F ρ with
 | none=>rfl
 | some q=>cases q <;> rfl
theorem b_seqRet (h:sRet f ρ=some o):sSeq (sRet f) R ρ=some o:=by
 rw [← h]
 simp only [sSeq_ev,sRet_ev]
 cases f ρ <;> rfl
theorem b_seqNil (h:R ρ=some o):sSeq sNil R ρ=some o:=h
theorem b_for {fg:FG} (h1:fa ρ=some ts) (h2:loopF fg F ts ρ=some o):sFor fa fg F ρ=some o:=by rw [sFor_ev,h1]; exact h2
theorem b_run {N:Nat} (h1:F (ts.map (fun t=>some (.pu t)) ++ List.replicate (N - ts.length) none)=some (.rt t)):TL.run N F ts=some t:=by unfold TL.run; rw [h1]
end
def thenO (G:FS):Out → Option Out
 | .nx ρ=>G ρ
 | o=>some o
theorem b_seqFor {fg:FG} {fa:FA} {F G:FS} {ρ:Rho} {ts:List T} {o1 o:Out} (h1:fa ρ=some ts) (h2:loopF fg F ts ρ=some o1) (h3:thenO G o1=some o):sSeq (sFor fa fg F) G ρ=some o:=by
 rw [sSeq_ev,sFor_ev,h1,Option.bind_some,h2,← h3]
 cases o1 <;> rfl
theorem b_thenN {G:FS} {ρ:Rho} {o:Out} (h:G ρ=some o):thenO G (.nx ρ)=some o:=h
theorem b_thenR {G:FS} {t u:T} (h:t=u):thenO G (.rt t)=some (.rt u):=by rw [h]; rfl
theorem vacB {p:Prop} {x:Option T} (h:p → False):p → x=some (.bl false):=fun q=>(h q).elim
theorem vacT {p:Prop} {x:Option Bool} (h:p → False):p → x=some false:=fun q=>(h q).elim
theorem vacE {p:Prop} {x:Option T} (h:p → False):p → x=some .non:=fun q=>(h q).elim
theorem vacO {p:Prop} {x:Option Out} {o:Out} (h:p → False):p → x=some o:=fun q=>(h q).elim
theorem set_z {x y:Option Sl} {r:Rho}:(x :: r).set 0 y=y :: r:=rfl
theorem set_s {x y:Option Sl} {r r':Rho} {i:Nat} (h:r.set i y=r'):(x :: r).set (i + 1) y=x :: r':=by rw [← h]; rfl
theorem get_z {x:Option Sl} {r:Rho}:(x :: r)[0]?=some x:=rfl
theorem get_s {x y:Option Sl} {r:Rho} {i:Nat} (h:r[i]?=some x):(y :: r)[i + 1]?=some x:=h
theorem sub_z {r:Rho}:subR [] r=[]:=rfl
theorem sub_n {ix:List (Option Nat)} {r r':Rho} (h:subR ix r=r'):subR (none :: ix) r=none :: r':=by rw [← h]; rfl
theorem sub_s {ix:List (Option Nat)} {r r':Rho} {i:Nat} {t:T} (h0:r[i]?=some (some (.pu t))) (h:subR ix r=r'):subR (some i :: ix) r=some (.pu t) :: r':=by
 rw [← h]
 show (match r[i]? with | some (some (.pu t))=>some (Sl.pu t) | _=>none) :: _=_
 rw [h0]
 rfl
theorem len_z:([]:List T).length=0:=rfl
theorem len_s {t:T} {ts:List T} {n:Nat} (h:ts.length=n):(t :: ts).length=n + 1:=by rw [← h]; rfl
theorem b_gNm {i:Nat} {t:T} {ρ ρ':Rho} (h:ρ.set i (some (.pu t))=ρ'):gNm i t ρ=some ρ':=by rw [← h]; rfl
@[simp] theorem rangeT_length {lo:Int} {n:Nat}:(rangeT lo n).length=n:=by unfold rangeT; simp
theorem ev_eq {α:Type} {x:Option α} {a b:α} (h:x=some a) (e:a=b):x=some b:=by rw [h,e]
theorem loopF_ixR {g:FG} {b:FS} (R:Nat → Rho → Prop) (Q:T → Prop):∀ (ts:List T) (k:Nat) (ρ:Rho),
  (∀ (i:Nat) (t:T) (ρ:Rho),ts[i]?=some t → R (k + i) ρ → ∃ ρ1,g t ρ=some ρ1 ∧ ((∃ ρ2,(b ρ1=some (.nx ρ2) ∨ b ρ1=some (.ct ρ2)) ∧ R (k + i + 1) ρ2) ∨ (∃ v,b ρ1=some (.rt v) ∧ Q v))) → R k ρ →
  (∃ ρ2,loopF g b ts ρ=some (.nx ρ2) ∧ R (k + ts.length) ρ2) ∨ (∃ v,loopF g b ts ρ=some (.rt v) ∧ Q v)
 | [],k,ρ,_,r=>.inl ⟨ρ,rfl,r⟩
 | t :: ts,k,ρ,h,r=>by
   obtain ⟨ρ1,h1,h2⟩:=h 0 t ρ rfl r
   unfold loopF
   rw [h1]
   dsimp only
   rcases h2 with ⟨ρ2,h2,h3⟩ | ⟨v,h2,h3⟩
   ·have ih:=loopF_ixR (g:=g) (b:=b) R Q ts (k + 1) ρ2 (fun i t ρ e r=>by
     have:=h (i + 1) t ρ e (by rw [show k + (i + 1)=k + 1 + i by omega]; exact r)
     rw [show k + (i + 1)=k + 1 + i by omega] at this
     exact this) h3
    rw [show k + (t :: ts).length=k + 1 + ts.length by simp; omega]
    rcases h2 with h2 | h2 <;> (rw [h2]; exact ih)
   ·rw [h2]
    exact .inr ⟨v,rfl,h3⟩
theorem loopF_ix {g:FG} {b:FS} (R:Nat → Rho → Prop) (ts:List T) (ρ:Rho)
  (h:∀ (i:Nat) (t:T) (ρ:Rho),ts[i]?=some t → R i ρ → ∃ ρ1 ρ2,g t ρ=some ρ1 ∧ b ρ1=some (.nx ρ2) ∧ R (i + 1) ρ2) (r:R 0 ρ):∃ ρ2,loopF g b ts ρ=some (.nx ρ2) ∧ R ts.length ρ2:=by
 have:=loopF_ixR (g:=g) (b:=b) R (fun _=>False) ts 0 ρ (fun i t ρ e r=>by
  rw [Nat.zero_add] at r ⊢
  obtain ⟨ρ1,ρ2,h1,h2,h3⟩:=h i t ρ e r
  exact ⟨ρ1,h1,.inl ⟨ρ2,.inl h2,h3⟩⟩) r
 rw [Nat.zero_add] at this
 rcases this with h | ⟨_,_,z⟩
 ·exact h
 ·exact z.elim
theorem loopF_range {g:FG} {b:FS} (R:Nat → Rho → Prop) (n:Nat) (ρ:Rho)
  (h:∀ (i:Nat) (ρ:Rho),i < n → R i ρ → ∃ ρ1 ρ2,g (.int (i:Int)) ρ=some ρ1 ∧ b ρ1=some (.nx ρ2) ∧ R (i + 1) ρ2) (r:R 0 ρ):∃ ρ2,loopF g b (rangeT 0 n) ρ=some (.nx ρ2) ∧ R n ρ2:=by
 have:=loopF_ix (g:=g) (b:=b) R (rangeT 0 n) ρ (fun i t ρ e r=>by
  have hi:i < n:=by
   have:=(List.getElem?_eq_some_iff.mp e).1
   rw [rangeT_length] at this; exact this
  unfold rangeT at e
  rw [List.getElem?_map,List.getElem?_range hi] at e
  simp at e
  subst e
  exact h i ρ hi r) r
 rw [rangeT_length] at this
 exact this
@[simp] theorem isT_non {c:String}:isT c .non=false:=rfl
@[simp] theorem isT_bl {c:String} {b:Bool}:isT c (.bl b)=(c == "bool" || c == "int"):=rfl
@[simp] theorem isT_int {c:String} {i:Int}:isT c (.int i)=(c == "int"):=rfl
@[simp] theorem isT_str {c:String} {x:Str}:isT c (.str x)=(c == "str"):=rfl
@[simp] theorem isT_tup {c:String} {ts:List T}:isT c (.tup ts)=(c == "tuple"):=rfl
@[simp] theorem isT_lst {c:String} {ts:List T}:isT c (.lst ts)=(c == "list"):=rfl
@[simp] theorem isT_dct {c:String} {d:List (List Nat × List Nat)}:isT c (.dct d)=(c == "dict"):=rfl
theorem tAll_map {α:Type} {f:α → Bool} {xs:List α}:tAll (.lst (xs.map fun x=>T.bl (f x)))=some (.bl (xs.all f)):=by
 unfold tAll
 dsimp only
 rw [if_pos (by rw [List.all_map]; simp [List.all_eq_true])]
 rw [List.all_map]
 rfl
theorem tAny_map {α:Type} {f:α → Bool} {xs:List α}:tAny (.lst (xs.map fun x=>T.bl (f x)))=some (.bl (xs.any f)):=by
 unfold tAny
 dsimp only
 rw [if_pos (by rw [List.all_map]; simp [List.all_eq_true])]
 rw [List.any_map]
 rfl
theorem tEqq_d {t u:T} (h:dep t ≤ 60):tEqq t u=some (.bl (teq t u)):=if_pos h
theorem tNee_d {t u:T} (h:dep t ≤ 60):tNee t u=some (.bl (!teq t u)):=if_pos h
theorem tInn_t {t:T} {ts:List T} (h:∀ y ∈ ts,dep y ≤ 60):tInn false t (.tup ts)=some (.bl (ts.any fun y=>teq y t)):=if_pos (List.all_eq_true.mpr fun y hy=>decide_eq_true (h y hy))
theorem tInn_l {t:T} {ts:List T} (h:∀ y ∈ ts,dep y ≤ 60):tInn false t (.lst ts)=some (.bl (ts.any fun y=>teq y t)):=if_pos (List.all_eq_true.mpr fun y hy=>decide_eq_true (h y hy))
theorem tNin_t {t:T} {ts:List T} (h:∀ y ∈ ts,dep y ≤ 60):tInn true t (.tup ts)=some (.bl (!ts.any fun y=>teq y t)):=if_pos (List.all_eq_true.mpr fun y hy=>decide_eq_true (h y hy))
theorem tNin_l {t:T} {ts:List T} (h:∀ y ∈ ts,dep y ≤ 60):tInn true t (.lst ts)=some (.bl (!ts.any fun y=>teq y t)):=if_pos (List.all_eq_true.mpr fun y hy=>decide_eq_true (h y hy))
theorem tAdd_t {as bs:List T} (h:as.length + bs.length ≤ sizeLine):tAdd (.tup as) (.tup bs)=some (.tup (as ++ bs)):=if_pos h
theorem tAdd_l {as bs:List T} (h:as.length + bs.length ≤ sizeLine):tAdd (.lst as) (.lst bs)=some (.lst (as ++ bs)):=if_pos h
theorem tMul_t {as:List T} {k:Int} (h:0 ≤ k ∧ k < 1000000 ∧ as.length * k.toNat ≤ sizeLine):tMul (.tup as) (.int k)=some (.tup (List.replicate k.toNat as).flatten):=if_pos h
theorem tIx_t' {ts:List T} {i:Int} {x:T} (h:atI ts i=some x):tIx (.tup ts) (.int i)=some x:=h
theorem tIx_l' {ts:List T} {i:Int} {x:T} (h:atI ts i=some x):tIx (.lst ts) (.int i)=some x:=h
theorem tIs_i {c:String} {t:T}:tIs c t=some (.bl (isT c t)):=rfl
theorem tStr_i {i:Int} (h:i.natAbs.log2 < 1920):tStrOf (.int i)=some (.str (toString i)):=if_pos h
end TL
namespace TL
open PySem L2
section
variable {f g:FE} {fz gz:FZ} {ρ:Rho} {t:T} {ts us:List T} {ms ns:List Nat}
def itOf:T → Option (List T)
 | .tup ts=>some ts
 | .lst ts=>some ts
 | _=>none
theorem itOf_t:itOf (.tup ts)=some ts:=rfl
theorem itOf_l:itOf (.lst ts)=some ts:=rfl
theorem b_it (h1:f ρ=some t) (h2:itOf t=some ts):fIt f ρ=some ts:=by
 cases t with
 | tup us=>cases h2; exact b_itT h1
 | lst us=>cases h2; exact b_itL h1
 | _=>cases h2
theorem b_enum (h1:f ρ=some t) (h2:itOf t=some ts) (h3:enumT ts=us):fEnum f ρ=some us:=by
 subst h3
 unfold fEnum
 rw [h1]
 cases t with
 | tup us=>cases h2; rfl
 | lst us=>cases h2; rfl
 | _=>cases h2
theorem b_lrng {j:Int} (h1:f ρ=some (.int j)) (h2:0 ≤ j) (h3:j ≤ 1000000):fLRng f ρ=some (rangeT 0 j.toNat):=by
 unfold fLRng
 rw [h1]
 dsimp only
 rw [if_pos ⟨h2,by omega⟩]
 unfold rangeT; simp
theorem b_sorted (h1:fz ρ=some ms):fSorted fz ρ=some (ms.map fun (i:Nat)=>T.int (i:Int)):=by unfold fSorted; rw [h1]; rfl
theorem b_setOf (h1:f ρ=some (.tup ts)) (h2:natsOf ts=some ms):fSetOf f ρ=some (insAll [] ms):=by unfold fSetOf; rw [h1]; dsimp only; rw [h2]; rfl
theorem b_setOr (h1:fz ρ=some ms) (h2:gz ρ=some ns):fSetOr fz gz ρ=some (insAll ms ns):=by unfold fSetOr; rw [h1]; dsimp only; rw [h2]
theorem b_ext {i:Nat} {ρ':Rho} (h1:ρ[i]?=some (some (.ow ts))) (h2:f ρ=some (.lst us)) (h3:ts.length + us.length ≤ sizeLine) (h4:ρ.set i (some (.ow (ts ++ us)))=ρ'):sExt i f ρ=some (.nx ρ'):=by
 unfold sExt
 rw [h1]
 dsimp only
 rw [h2]
 dsimp only
 rw [if_pos h3,h4]
def truOf:T → Option Bool
 | .tup ts=>some !ts.isEmpty
 | .lst ts=>some !ts.isEmpty
 | .bl b=>some b
 | _=>none
theorem truOf_t:truOf (.tup ts)=some !ts.isEmpty:=rfl
theorem truOf_l:truOf (.lst ts)=some !ts.isEmpty:=rfl
theorem truOf_b {b:Bool}:truOf (.bl b)=some b:=rfl
theorem b_tru {b:Bool} (h1:f ρ=some t) (h2:truOf t=some b):fTru f ρ=some b:=by
 unfold fTru
 rw [h1]
 cases t <;> first | exact h2 | cases h2
theorem tIndex_l {u:T} (h1:∀ y ∈ ts,dep y ≤ 60) (h2:idxT ts u < ts.length):tIndex (.lst ts) u=some (.int (idxT ts u:Int)):=if_pos ⟨List.all_eq_true.mpr fun y hy=>decide_eq_true (h1 y hy),h2⟩
theorem b_pick {lo hi st:FO} {l h:Option Int} {k:Int} (h1:f ρ=some (.lst ts)) (h2:lo ρ=some l) (h3:hi ρ=some h) (h4:st ρ=some (some k)) (h5:k ≠ 0) (h6:(pickT ts l h (some k)).length ≤ sizeLine):fPick f lo hi st ρ=some (pickT ts l h (some k)):=by
 unfold fPick
 rw [h1]; dsimp only
 rw [h2]; dsimp only
 rw [h3]; dsimp only
 rw [h4]; dsimp only
 rw [if_pos ⟨h5,h6⟩]
theorem b_sortI {ks:List Nat} (h1:f ρ=some (.lst ts)) (h2:unR ts=some ks) (h3:ks.length < 64):fSortI f ρ=some ((srt ks).map fun (i:Nat)=>T.int (i:Int)):=by
 unfold fSortI
 rw [h1]; dsimp only
 rw [h2]; dsimp only
 rw [if_pos h3]
theorem b_frz {i:Nat} {ρ':Rho} (h1:ρ[i]?=some (some (.ow ts))) (h2:ρ.set i (some (.pu (.lst ts)))=ρ'):sFrz i ρ=some (.nx ρ'):=by
 unfold sFrz
 rw [h1]; dsimp only
 rw [h2]
theorem b_while {n:Nat} {c:FT} {b:FS} {o:Out} (h:loopW c b n ρ=some o):sWhile n c b ρ=some o:=h
end
end TL
namespace G
open PySem L2 TL
abbrev CS:List Str:=["MarkError","NoThing","NoText","NoQuestion","NoAnswer","NoRoom"]
def F__law_drawn:FS :=
    (sSeq (sSet 2 (f2 tMd (f2 tMul (f2 tAdd (f2 tAdd (gv 0) (f2 tMul (kc (.int 104729)) (gv 1))) (kc (.int 17))) (kc (.int 69621))) (kc (.int 2147483647))))
    (sRet (f2 tMd (f2 tAdd (f2 tAdd (f2 tMul (gv 2) (gv 2)) (f2 tMul (kc (.int 3)) (gv 2))) (gv 1)) (kc (.int 2147483629)))))
def M__law_drawn:List T → Option T:=run 3 F__law_drawn
theorem I__law_drawn {a0 a1 t:T} (h:F__law_drawn [some (.pu a0),some (.pu a1),none]=some (.rt t)):M__law_drawn [a0,a1]=some t:=b_run (F:=F__law_drawn) h
def C1__law_marks:FT :=
    (fB (f2 tEqq (f2 tMd (fCall 2 M__law_drawn (fCons (gv 1) (fCons (gv 0) fNil))) (gv 2)) (kc (.int 0))))
def F__law_marks:FS :=
    (sSeq (sSet 2 (f2 tAdd (kc (.int 2)) (f2 tMd (gv 0) (kc (.int 3)))))
    (sRet (f1 tTupOf (fNew (fComp [none,some 0,some 2] (fRng (gv 1)) (gNm 0) C1__law_marks (gv 0))))))
def M__law_marks:List T → Option T:=run 3 F__law_marks
theorem I__law_marks {a0 a1 t:T} (h:F__law_marks [some (.pu a0),some (.pu a1),none]=some (.rt t)):M__law_marks [a0,a1]=some t:=b_run (F:=F__law_marks) h
def F__law_cell_at:FS :=
    (sSeq (sIf (fB (f2 tLtI (gv 1) (f1 tLen (gv 0))))
     (sRet (f2 tIx (gv 0) (gv 1)))
     sNil)
    (sRet (kc (.int 0))))
def M__law_cell_at:List T → Option T:=run 2 F__law_cell_at
theorem I__law_cell_at {a0 a1 t:T} (h:F__law_cell_at [some (.pu a0),some (.pu a1)]=some (.rt t)):M__law_cell_at [a0,a1]=some t:=b_run (F:=F__law_cell_at) h
def F__law_mixed:FS :=
    (sSeq (sSet 2 (f2 tMd (f2 tMul (f2 tAdd (f2 tAdd (fCall 2 M__law_cell_at (fCons (gv 0) (fCons (gv 1) fNil))) (f2 tMul (kc (.int 7919)) (gv 1))) (kc (.int 1))) (kc (.int 48271))) (kc (.int 2147483647))))
    (sRet (f2 tMd (f2 tAdd (f2 tAdd (f2 tMul (gv 2) (gv 2)) (f2 tMul (kc (.int 7)) (gv 2))) (gv 1)) (kc (.int 2147483629)))))
def M__law_mixed:List T → Option T:=run 3 F__law_mixed
theorem I__law_mixed {a0 a1 t:T} (h:F__law_mixed [some (.pu a0),some (.pu a1),none]=some (.rt t)):M__law_mixed [a0,a1]=some t:=b_run (F:=F__law_mixed) h
def C1__law_table:FT :=
    (fB (f2 (tInn true) (gv 0) (gv 1)))
def B1__law_table:FS :=
    (sSeq (sSet 5 (fCall 2 M__law_marks (fCons (fCall 2 M__law_mixed (fCons (gv 0) (fCons (f2 tAdd (kc (.int 3)) (gv 4)) fNil))) (fCons (gv 2) fNil))))
     (sSeq (sIf (fB (f2 tEqq (f2 tMd (f2 tFd (fCall 2 M__law_mixed (fCons (gv 0) (fCons (kc (.int 0)) fNil))) (kc (.int 54))) (kc (.int 2))) (kc (.int 1))))
      (sSet 5 (f1 tTupOf (fNew (fComp [none,some 5] (fRng (gv 2)) (gNm 0) C1__law_table (gv 0)))))
      sNil)
     (sApp 3 (gv 5))))
def F__law_table:FS :=
    (sSeq (sSet 2 (f2 tAdd (kc (.int 1)) (f2 tMd (fCall 2 M__law_mixed (fCons (gv 0) (fCons (kc (.int 0)) fNil))) (gv 1))))
    (sSeq (sOwn 3 (fLst fNil))
    (sSeq (sFor (fRng (f2 tMin (f2 tMd (f2 tFd (fCall 2 M__law_mixed (fCons (gv 0) (fCons (kc (.int 0)) fNil))) (kc (.int 6))) (kc (.int 9))) (f2 tAdd (kc (.int 1)) (f1 tLen (gv 0))))) (gNm 4)
     B1__law_table)
    (sRet (fTup (fCons (gv 2) (fCons (f1 tTupOf (go 3)) fNil)))))))
def M__law_table:List T → Option T:=run 6 F__law_table
theorem I__law_table {a0 a1 t:T} (h:F__law_table [some (.pu a0),some (.pu a1),none,none,none,none]=some (.rt t)):M__law_table [a0,a1]=some t:=b_run (F:=F__law_table) h
def E1__law_row:FE :=
    (f1 tStrOf (gv 0))
def F__law_row:FS :=
    (sRet (f2 tJoin (kc (.str " ")) (f2 tAdd (f2 tAdd (fNew (fLst (fCons (gv 0) fNil))) (fNew (fComp [none] (fIt (gv 1)) (gNm 0) fYes E1__law_row))) (gv 2))))
def M__law_row:List T → Option T:=run 3 F__law_row
theorem I__law_row {a0 a1 a2 t:T} (h:F__law_row [some (.pu a0),some (.pu a1),some (.pu a2)]=some (.rt t)):M__law_row [a0,a1,a2]=some t:=b_run (F:=F__law_row) h
def B1__law_written:FS :=
    (sSet 1 (f2 tAdd (f2 tAdd (gv 1) (kc (.str " "))) (fCall 3 M__law_row (fCons (kc (.str "thing")) (fCons (gv 2) (fCons (fNew (fLst (fCons (kc (.str "end")) fNil))) fNil))))))
def F__law_written:FS :=
    (sSeq (sSet 1 (f2 tAdd (kc (.str "table ")) (f1 tStrOf (f2 tIx (gv 0) (kc (.int 0))))))
    (sSeq (sFor (fIt (f2 tIx (gv 0) (kc (.int 1)))) (gNm 2)
     B1__law_written)
    (sRet (gv 1))))
def M__law_written:List T → Option T:=run 3 F__law_written
theorem I__law_written {a0 t:T} (h:F__law_written [some (.pu a0),none,none]=some (.rt t)):M__law_written [a0]=some t:=b_run (F:=F__law_written) h
def F_is_pair:FS :=
    (sRet (fAndV (f1 (tIs "tuple") (gv 0)) (f2 tEqq (f1 tLen (gv 0)) (kc (.int 2)))))
def M_is_pair:List T → Option T:=run 1 F_is_pair
theorem I_is_pair {a0 t:T} (h:F_is_pair [some (.pu a0)]=some (.rt t)):M_is_pair [a0]=some t:=b_run (F:=F_is_pair) h
def F_is_whole:FS :=
    (sRet (fAndV (f1 (tIs "int") (gv 0)) (fNotV (f1 (tIs "bool") (gv 0)))))
def M_is_whole:List T → Option T:=run 1 F_is_whole
theorem I_is_whole {a0 t:T} (h:F_is_whole [some (.pu a0)]=some (.rt t)):M_is_whole [a0]=some t:=b_run (F:=F_is_whole) h
def B1_are_marks:FS :=
    (sSeq (sIf (fOr (fNot (fB (fCall 1 M_is_whole (fCons (gv 3) fNil)))) (fNot (fB (fChain tLeI tLtI (gv 2) (gv 3) (gv 1)))))
      (sRet (kc (.bl false)))
      sNil)
     (sSet 2 (f2 tAdd (gv 3) (kc (.int 1)))))
def F_are_marks:FS :=
    (sSeq (sIf (fNot (fB (f1 (tIs "tuple") (gv 0))))
     (sRet (kc (.bl false)))
     sNil)
    (sSeq (sSet 2 (kc (.int 0)))
    (sSeq (sFor (fIt (gv 0)) (gNm 3)
     B1_are_marks)
    (sRet (kc (.bl true))))))
def M_are_marks:List T → Option T:=run 4 F_are_marks
theorem I_are_marks {a0 a1 t:T} (h:F_are_marks [some (.pu a0),some (.pu a1),none,none]=some (.rt t)):M_are_marks [a0,a1]=some t:=b_run (F:=F_are_marks) h
def E1_is_table:FE :=
    (fCall 2 M_are_marks (fCons (gv 0) (fCons (gv 1) fNil)))
def F_is_table:FS :=
    (sSeq (sIf (fNot (fB (fCall 1 M_is_pair (fCons (gv 0) fNil))))
     (sRet (kc (.bl false)))
     sNil)
    (sSeq (sSet 1 (f2 tIx (gv 0) (kc (.int 0))))
    (sSeq (sSet 2 (f2 tIx (gv 0) (kc (.int 1))))
    (sSeq (sIf (fOr (fNot (fB (fCall 1 M_is_whole (fCons (gv 1) fNil)))) (fNot (fB (fChain tLeI tLeI (kc (.int 1)) (gv 1) (kc (.int 6))))))
     (sRet (kc (.bl false)))
     sNil)
    (sSeq (sIf (fOr (fNot (fB (f1 (tIs "tuple") (gv 2)))) (fB (f2 tGtI (f1 tLen (gv 2)) (kc (.int 64)))))
     (sRet (kc (.bl false)))
     sNil)
    (sRet (f1 tAll (fNew (fComp [none,some 1] (fIt (gv 2)) (gNm 0) fYes E1_is_table)))))))))
def M_is_table:List T → Option T:=run 3 F_is_table
theorem I_is_table {a0 t:T} (h:F_is_table [some (.pu a0),none,none]=some (.rt t)):M_is_table [a0]=some t:=b_run (F:=F_is_table) h
def E1_marks_of:FE :=
    (f1 tStrOf (gv 0))
def E2_marks_of:FE :=
    (f2 (tInn false) (gv 0) (gv 1))
def E3_marks_of:FE :=
    (f2 tIndex (gv 1) (gv 0))
def E4_marks_of:FE :=
    (f1 tStrOf (gv 0))
def E5_marks_of:FE :=
    (f2 (tInn false) (gv 0) (gv 1))
def F_marks_of:FS :=
    (sSeq (sSet 2 (fNew (fComp [none] (fRng (gv 1)) (gNm 0) fYes E1_marks_of)))
    (sSeq (sIf (fNot (fB (f1 tAll (fNew (fComp [none,some 2] (fIt (gv 0)) (gNm 0) fYes E2_marks_of)))))
     sNo
     sNil)
    (sRet (f1 tTupOf (fNew (fComp [none,some 2] (fIt (gv 0)) (gNm 0) fYes E3_marks_of))))))
def M_marks_of:List T → Option T:=run 3 F_marks_of
def FX_marks_of:FX :=
    (xSeq (xSt (sSet 2 (fNew (fComp [none] (fRng (gv 1)) (gNm 0) fYes E4_marks_of)))) (xSeq (xIf (fNot (fB (f1 tAll (fNew (fComp [none,some 2] (fIt (gv 0)) (gNm 0) fYes E5_marks_of))))) (xRaise "NoText") xNil) xNo))
def G_marks_of:List T → Bool:=runX 3 FX_marks_of "NoText"
theorem I_marks_of {a0 a1 t:T} (h:F_marks_of [some (.pu a0),some (.pu a1),none]=some (.rt t)):M_marks_of [a0,a1]=some t:=b_run (F:=F_marks_of) h
def F_row_of:FS :=
    (sSeq (sIf (fB (f2 tNee (fCut (gv 0) foN (foS (kc (.int 1)))) (fNew (fLst (fCons (kc (.str "thing")) fNil)))))
     sNo
     sNil)
    (sRet (fCall 2 M_marks_of (fCons (fCut (gv 0) (foS (kc (.int 1))) foN) (fCons (gv 1) fNil)))))
def M_row_of:List T → Option T:=run 2 F_row_of
def FX_row_of:FX :=
    (xSeq (xIf (fB (f2 tNee (fCut (gv 0) foN (foS (kc (.int 1)))) (fNew (fLst (fCons (kc (.str "thing")) fNil))))) (xRaise "NoText") xNil) (xOr (xE (gCallX 2 G_marks_of "NoText" (fCons (fCut (gv 0) (foS (kc (.int 1))) foN) (fCons (gv 1) fNil)))) (sRet (fCall 2 M_marks_of (fCons (fCut (gv 0) (foS (kc (.int 1))) foN) (fCons (gv 1) fNil))))))
def G_row_of:List T → Bool:=runX 2 FX_row_of "NoText"
theorem I_row_of {a0 a1 t:T} (h:F_row_of [some (.pu a0),some (.pu a1)]=some (.rt t)):M_row_of [a0,a1]=some t:=b_run (F:=F_row_of) h
def B1_parts_of:FS :=
    (sIf (fB (f2 tEqq (gv 3) (kc (.str "end"))))
      (sSeq (sFrz 2)
      (sSeq (sApp 1 (gv 2))
      (sOwn 2 (fLst fNil))))
      (sApp 2 (gv 3)))
def B2_parts_of:FS :=
    (sIf (fB (f2 tEqq (gv 3) (kc (.str "end"))))
      (sSeq (sFrz 2)
      (sSeq (sApp 1 (gv 2))
      (sOwn 2 (fLst fNil))))
      (sApp 2 (gv 3)))
def F_parts_of:FS :=
    (sSeq (sOwn 1 (fLst fNil))
    (sSeq (sOwn 2 (fLst fNil))
    (sSeq (sFor (fIt (gv 0)) (gNm 3)
     B1_parts_of)
    (sSeq (sIf (fTru (go 2))
     sNo
     sNil)
    (sRetO 1)))))
def M_parts_of:List T → Option T:=run 4 F_parts_of
def FX_parts_of:FX :=
    (xSeq (xSt (sOwn 1 (fLst fNil))) (xSeq (xSt (sOwn 2 (fLst fNil))) (xSeq (xSt (sFor (fIt (gv 0)) (gNm 3)
     B2_parts_of)) (xSeq (xIf (fTru (go 2)) (xRaise "NoText") xNil) xNo))))
def G_parts_of:List T → Bool:=runX 4 FX_parts_of "NoText"
theorem I_parts_of {a0 t:T} (h:F_parts_of [some (.pu a0),none,none,none]=some (.rt t)):M_parts_of [a0]=some t:=b_run (F:=F_parts_of) h
def E1_read:FE :=
    (fNew (fLst (fCons (kc (.str "table")) (fCons (f1 tStrOf (gv 0)) fNil))))
def E2_read:FE :=
    (fCall 2 M_row_of (fCons (gv 0) (fCons (gv 1) fNil)))
def E3_read:FE :=
    (fNew (fLst (fCons (kc (.str "table")) (fCons (f1 tStrOf (gv 0)) fNil))))
def G1_read:Rho → Option Str :=
    (gCallX 2 G_row_of "NoText" (fCons (gv 0) (fCons (gv 1) fNil)))
def E4_read:FE :=
    (fCall 2 M_row_of (fCons (gv 0) (fCons (gv 1) fNil)))
def E5_read:FE :=
    (fCall 2 M_row_of (fCons (gv 0) (fCons (gv 1) fNil)))
def F_read:FS :=
    (sSeq (sSet 1 (fNew (fSplit (gv 0) (kc (.str " ")))))
    (sSeq (sSet 2 (fNew (fComp [none] (fRng2 (kc (.int 1)) (f2 tAdd (kc (.int 6)) (kc (.int 1)))) (gNm 0) fYes E1_read)))
    (sSeq (sIf (fB (f2 (tInn true) (fCut (gv 1) foN (foS (kc (.int 2)))) (gv 2)))
     sNo
     sNil)
    (sSeq (sSet 3 (f2 tAdd (f2 tIndex (gv 2) (fCut (gv 1) foN (foS (kc (.int 2))))) (kc (.int 1))))
    (sSeq (sSet 4 (fTup (fCons (gv 3) (fCons (f1 tTupOf (fNew (fComp [none,some 3] (fIt (fCall 1 M_parts_of (fCons (fCut (gv 1) (foS (kc (.int 2))) foN) fNil))) (gNm 0) fYes E2_read))) fNil))))
    (sSeq (sIf (fNot (fB (fCall 1 M_is_table (fCons (gv 4) fNil))))
     sNo
     sNil)
    (sRet (gv 4))))))))
def M_read:List T → Option T:=run 5 F_read
def FX_read:FX :=
    (xSeq (xSt (sSet 1 (fNew (fSplit (gv 0) (kc (.str " ")))))) (xSeq (xSt (sSet 2 (fNew (fComp [none] (fRng2 (kc (.int 1)) (f2 tAdd (kc (.int 6)) (kc (.int 1)))) (gNm 0) fYes E3_read)))) (xSeq (xIf (fB (f2 (tInn true) (fCut (gv 1) foN (foS (kc (.int 2)))) (gv 2))) (xRaise "NoText") xNil) (xSeq (xSt (sSet 3 (f2 tAdd (f2 tIndex (gv 2) (fCut (gv 1) foN (foS (kc (.int 2))))) (kc (.int 1))))) (xSeq (xOr (xE (fun ρ=>((gv 3) ρ).bind fun _=>(gOr (gCallX 1 G_parts_of "NoText" (fCons (fCut (gv 1) (foS (kc (.int 2))) foN) fNil)) (gComp [none,some 3] (fIt (fCall 1 M_parts_of (fCons (fCut (gv 1) (foS (kc (.int 2))) foN) fNil))) (gNm 0) G1_read E4_read)) ρ)) (sSet 4 (fTup (fCons (gv 3) (fCons (f1 tTupOf (fNew (fComp [none,some 3] (fIt (fCall 1 M_parts_of (fCons (fCut (gv 1) (foS (kc (.int 2))) foN) fNil))) (gNm 0) fYes E5_read))) fNil))))) (xSeq (xIf (fNot (fB (fCall 1 M_is_table (fCons (gv 4) fNil)))) (xRaise "NoText") xNil) xNo))))))
def G_read:List T → Bool:=runX 5 FX_read "NoText"
theorem I_read {a0 t:T} (h:F_read [some (.pu a0),none,none,none,none]=some (.rt t)):M_read [a0]=some t:=b_run (F:=F_read) h
def F_is_rule:FS :=
    (sRet (fAndV (fCall 1 M_is_pair (fCons (gv 0) fNil)) (fAndV (fCall 2 M_are_marks (fCons (f2 tIx (gv 0) (kc (.int 0))) (fCons (gv 1) fNil))) (fCall 2 M_are_marks (fCons (f2 tIx (gv 0) (kc (.int 1))) (fCons (gv 1) fNil))))))
def M_is_rule:List T → Option T:=run 2 F_is_rule
theorem I_is_rule {a0 a1 t:T} (h:F_is_rule [some (.pu a0),some (.pu a1)]=some (.rt t)):M_is_rule [a0,a1]=some t:=b_run (F:=F_is_rule) h
def E1_are_rules:FE :=
    (fCall 2 M_is_rule (fCons (gv 0) (fCons (gv 1) fNil)))
def F_are_rules:FS :=
    (sSeq (sIf (fOr (fNot (fB (f1 (tIs "tuple") (gv 0)))) (fB (f2 tGtI (f1 tLen (gv 0)) (kc (.int 64)))))
     (sRet (kc (.bl false)))
     sNil)
    (sRet (f1 tAll (fNew (fComp [none,some 1] (fIt (gv 0)) (gNm 0) fYes E1_are_rules)))))
def M_are_rules:List T → Option T:=run 2 F_are_rules
theorem I_are_rules {a0 a1 t:T} (h:F_are_rules [some (.pu a0),some (.pu a1)]=some (.rt t)):M_are_rules [a0,a1]=some t:=b_run (F:=F_are_rules) h
def F_rule_of:FS :=
    (sSeq (sIf (fOr (fB (f2 tNee (fCut (gv 0) foN (foS (kc (.int 1)))) (fNew (fLst (fCons (kc (.str "if")) fNil))))) (fB (f2 (tInn true) (kc (.str "then")) (gv 0))))
     sNo
     sNil)
    (sSeq (sSet 2 (f2 tIndex (gv 0) (kc (.str "then"))))
    (sRet (fTup (fCons (fCall 2 M_marks_of (fCons (fCut (gv 0) (foS (kc (.int 1))) (foS (gv 2))) (fCons (gv 1) fNil))) (fCons (fCall 2 M_marks_of (fCons (fCut (gv 0) (foS (f2 tAdd (gv 2) (kc (.int 1)))) foN) (fCons (gv 1) fNil))) fNil))))))
def M_rule_of:List T → Option T:=run 3 F_rule_of
def FX_rule_of:FX :=
    (xSeq (xIf (fOr (fB (f2 tNee (fCut (gv 0) foN (foS (kc (.int 1)))) (fNew (fLst (fCons (kc (.str "if")) fNil))))) (fB (f2 (tInn true) (kc (.str "then")) (gv 0)))) (xRaise "NoText") xNil) (xSeq (xSt (sSet 2 (f2 tIndex (gv 0) (kc (.str "then"))))) (xOr (xE (gOr (gCallX 2 G_marks_of "NoText" (fCons (fCut (gv 0) (foS (kc (.int 1))) (foS (gv 2))) (fCons (gv 1) fNil))) (fun ρ=>((fCall 2 M_marks_of (fCons (fCut (gv 0) (foS (kc (.int 1))) (foS (gv 2))) (fCons (gv 1) fNil))) ρ).bind fun _=>(gCallX 2 G_marks_of "NoText" (fCons (fCut (gv 0) (foS (f2 tAdd (gv 2) (kc (.int 1)))) foN) (fCons (gv 1) fNil))) ρ))) (sRet (fTup (fCons (fCall 2 M_marks_of (fCons (fCut (gv 0) (foS (kc (.int 1))) (foS (gv 2))) (fCons (gv 1) fNil))) (fCons (fCall 2 M_marks_of (fCons (fCut (gv 0) (foS (f2 tAdd (gv 2) (kc (.int 1)))) foN) (fCons (gv 1) fNil))) fNil)))))))
def G_rule_of:List T → Bool:=runX 3 FX_rule_of "NoText"
theorem I_rule_of {a0 a1 t:T} (h:F_rule_of [some (.pu a0),some (.pu a1),none]=some (.rt t)):M_rule_of [a0,a1]=some t:=b_run (F:=F_rule_of) h
def E1_read_rules:FE :=
    (fCall 2 M_rule_of (fCons (gv 0) (fCons (gv 1) fNil)))
def G1_read_rules:Rho → Option Str :=
    (gCallX 2 G_rule_of "NoText" (fCons (gv 0) (fCons (gv 1) fNil)))
def E2_read_rules:FE :=
    (fCall 2 M_rule_of (fCons (gv 0) (fCons (gv 1) fNil)))
def E3_read_rules:FE :=
    (fCall 2 M_rule_of (fCons (gv 0) (fCons (gv 1) fNil)))
def F_read_rules:FS :=
    (sSeq (sSet 2 (fNew (fSplit (gv 0) (kc (.str " ")))))
    (sSeq (sIf (fB (f2 tNee (fCut (gv 2) foN (foS (kc (.int 2)))) (fNew (fLst (fCons (kc (.str "rules")) (fCons (f1 tStrOf (gv 1)) fNil))))))
     sNo
     sNil)
    (sSeq (sSet 3 (f1 tTupOf (fNew (fComp [none,some 1] (fIt (fCall 1 M_parts_of (fCons (fCut (gv 2) (foS (kc (.int 2))) foN) fNil))) (gNm 0) fYes E1_read_rules))))
    (sSeq (sIf (fNot (fB (fCall 2 M_are_rules (fCons (gv 3) (fCons (gv 1) fNil)))))
     sNo
     sNil)
    (sRet (gv 3))))))
def M_read_rules:List T → Option T:=run 4 F_read_rules
def FX_read_rules:FX :=
    (xSeq (xSt (sSet 2 (fNew (fSplit (gv 0) (kc (.str " ")))))) (xSeq (xIf (fB (f2 tNee (fCut (gv 2) foN (foS (kc (.int 2)))) (fNew (fLst (fCons (kc (.str "rules")) (fCons (f1 tStrOf (gv 1)) fNil)))))) (xRaise "NoText") xNil) (xSeq (xOr (xE (gOr (gCallX 1 G_parts_of "NoText" (fCons (fCut (gv 2) (foS (kc (.int 2))) foN) fNil)) (gComp [none,some 1] (fIt (fCall 1 M_parts_of (fCons (fCut (gv 2) (foS (kc (.int 2))) foN) fNil))) (gNm 0) G1_read_rules E2_read_rules))) (sSet 3 (f1 tTupOf (fNew (fComp [none,some 1] (fIt (fCall 1 M_parts_of (fCons (fCut (gv 2) (foS (kc (.int 2))) foN) fNil))) (gNm 0) fYes E3_read_rules))))) (xSeq (xIf (fNot (fB (fCall 2 M_are_rules (fCons (gv 3) (fCons (gv 1) fNil))))) (xRaise "NoText") xNil) xNo))))
def G_read_rules:List T → Bool:=runX 4 FX_read_rules "NoText"
theorem I_read_rules {a0 a1 t:T} (h:F_read_rules [some (.pu a0),some (.pu a1),none,none]=some (.rt t)):M_read_rules [a0,a1]=some t:=b_run (F:=F_read_rules) h
def B1__law_found:FS :=
    (sSeq (sSet 4 (fNew (fLst (fCons (fIsx CS 3 "NoThing") (fCons (fIsx CS 3 "NoQuestion") (fCons (fIsx CS 3 "NoAnswer") (fCons (fIsx CS 3 "NoRoom") fNil)))))))
      (sSeq (sSet 5 (fAndV (fIsx CS 3 "MarkError") (fIsv CS 3)))
      (sRet (f2 tIx (fNew (fLst (fCons (fTup (fCons (kc (.str "")) fNil)) (fCons (kc .non) fNil)))) (f1 tIntB (fAndV (gv 5) (fNotV (f1 tAny (gv 4)))))))))
def X1__law_found:FX :=
    (xIf (fB (f2 tEqq (gv 1) (kc (.int 0)))) (xOr (xE (gCallX 1 G_read "NoText" (fCons (gv 0) fNil))) (sSet 2 (fCall 1 M_read (fCons (gv 0) fNil)))) (xOr (xE (gCallX 2 G_read_rules "NoText" (fCons (gv 0) (fCons (gv 1) fNil)))) (sSet 2 (fCall 2 M_read_rules (fCons (gv 0) (fCons (gv 1) fNil))))))
def F__law_found:FS :=
    (sSeq (sTry X1__law_found (hAs CS "NoText" 3 B1__law_found (fun _ _=>none)))
    (sRet (f2 tIx (fNew (fLst (fCons (gv 2) (fCons (fTup (fCons (kc (.str "")) fNil)) fNil)))) (f1 tIntB (f1 tIsN (gv 2))))))
def M__law_found:List T → Option T:=run 6 F__law_found
theorem I__law_found {a0 a1 t:T} (h:F__law_found [some (.pu a0),some (.pu a1),none,none,none,none]=some (.rt t)):M__law_found [a0,a1]=some t:=b_run (F:=F__law_found) h
def F__law_number:FS :=
    (sRet (fAndV (f1 (tIs "int") (gv 0)) (fAndV (fNotV (f1 (tIs "bool") (gv 0))) (fChain tLeI tLeI (gv 1) (gv 0) (gv 2)))))
def M__law_number:List T → Option T:=run 3 F__law_number
theorem I__law_number {a0 a1 a2 t:T} (h:F__law_number [some (.pu a0),some (.pu a1),some (.pu a2)]=some (.rt t)):M__law_number [a0,a1,a2]=some t:=b_run (F:=F__law_number) h
def C1__law_are_marks:FT :=
    (fNot (fB (fCall 3 M__law_number (fCons (gv 0) (fCons (kc (.int 0)) (fCons (f2 tSub (gv 1) (kc (.int 1))) fNil))))))
def C2__law_are_marks:FT :=
    (fB (f2 tGeI (f2 tIx (gv 1) (f2 tSub (gv 0) (kc (.int 1)))) (f2 tIx (gv 1) (gv 0))))
def F__law_are_marks:FS :=
    (sSeq (sIf (fOr (fNot (fB (f1 (tIs "tuple") (gv 0)))) (fB (f2 tNee (fNew (fComp [none,some 1] (fIt (gv 0)) (gNm 0) C1__law_are_marks (gv 0))) (fNew (fLst fNil)))))
     (sRet (kc (.bl false)))
     sNil)
    (sRet (f2 tEqq (fNew (fComp [none,some 0] (fRng2 (kc (.int 1)) (f1 tLen (gv 0))) (gNm 0) C2__law_are_marks (gv 0))) (fNew (fLst fNil)))))
def M__law_are_marks:List T → Option T:=run 2 F__law_are_marks
theorem I__law_are_marks {a0 a1 t:T} (h:F__law_are_marks [some (.pu a0),some (.pu a1)]=some (.rt t)):M__law_are_marks [a0,a1]=some t:=b_run (F:=F__law_are_marks) h
def F__law_is_rule:FS :=
    (sSeq (sIf (fOr (fNot (fB (f1 (tIs "tuple") (gv 0)))) (fB (f2 tNee (f1 tLen (gv 0)) (kc (.int 2)))))
     (sRet (kc (.bl false)))
     sNil)
    (sRet (fAndV (fCall 2 M__law_are_marks (fCons (f2 tIx (gv 0) (kc (.int 0))) (fCons (gv 1) fNil))) (fCall 2 M__law_are_marks (fCons (f2 tIx (gv 0) (kc (.int 1))) (fCons (gv 1) fNil))))))
def M__law_is_rule:List T → Option T:=run 2 F__law_is_rule
theorem I__law_is_rule {a0 a1 t:T} (h:F__law_is_rule [some (.pu a0),some (.pu a1)]=some (.rt t)):M__law_is_rule [a0,a1]=some t:=b_run (F:=F__law_is_rule) h
def C1__law_are_rules:FT :=
    (fNot (fB (fCall 2 M__law_is_rule (fCons (gv 0) (fCons (gv 1) fNil)))))
def F__law_are_rules:FS :=
    (sSeq (sIf (fOr (fNot (fB (f1 (tIs "tuple") (gv 0)))) (fB (f2 tGtI (f1 tLen (gv 0)) (kc (.int 64)))))
     (sRet (kc (.bl false)))
     sNil)
    (sRet (f2 tEqq (fNew (fComp [none,some 1] (fIt (gv 0)) (gNm 0) C1__law_are_rules (gv 0))) (fNew (fLst fNil)))))
def M__law_are_rules:List T → Option T:=run 2 F__law_are_rules
theorem I__law_are_rules {a0 a1 t:T} (h:F__law_are_rules [some (.pu a0),some (.pu a1)]=some (.rt t)):M__law_are_rules [a0,a1]=some t:=b_run (F:=F__law_are_rules) h
def C1__law_is_table:FT :=
    (fNot (fB (fCall 2 M__law_are_marks (fCons (gv 0) (fCons (f2 tIx (gv 1) (kc (.int 0))) fNil)))))
def F__law_is_table:FS :=
    (sSeq (sIf (fOr (fNot (fB (f1 (tIs "tuple") (gv 0)))) (fOr (fB (f2 tNee (f1 tLen (gv 0)) (kc (.int 2)))) (fNot (fB (fCall 3 M__law_number (fCons (f2 tIx (gv 0) (kc (.int 0))) (fCons (kc (.int 1)) (fCons (kc (.int 6)) fNil))))))))
     (sRet (kc (.bl false)))
     sNil)
    (sSeq (sIf (fOr (fNot (fB (f1 (tIs "tuple") (f2 tIx (gv 0) (kc (.int 1)))))) (fB (f2 tGtI (f1 tLen (f2 tIx (gv 0) (kc (.int 1)))) (kc (.int 64)))))
     (sRet (kc (.bl false)))
     sNil)
    (sRet (f2 tEqq (fNew (fComp [none,some 0] (fIt (f2 tIx (gv 0) (kc (.int 1)))) (gNm 0) C1__law_is_table (gv 0))) (fNew (fLst fNil))))))
def M__law_is_table:List T → Option T:=run 1 F__law_is_table
theorem I__law_is_table {a0 t:T} (h:F__law_is_table [some (.pu a0)]=some (.rt t)):M__law_is_table [a0]=some t:=b_run (F:=F__law_is_table) h
def B1__law_shown:FS :=
    (sSet 2 (f2 tAdd (f2 tAdd (f2 tAdd (f2 tAdd (gv 2) (kc (.str " "))) (fCall 3 M__law_row (fCons (kc (.str "if")) (fCons (gv 3) (fCons (fNew (fLst fNil)) fNil))))) (kc (.str " "))) (fCall 3 M__law_row (fCons (kc (.str "then")) (fCons (gv 4) (fCons (fNew (fLst (fCons (kc (.str "end")) fNil))) fNil))))))
def F__law_shown:FS :=
    (sSeq (sSet 2 (f2 tAdd (kc (.str "rules ")) (f1 tStrOf (gv 1))))
    (sSeq (sFor (fIt (gv 0)) (gTp2 3 4)
     B1__law_shown)
    (sRet (gv 2))))
def M__law_shown:List T → Option T:=run 5 F__law_shown
theorem I__law_shown {a0 a1 t:T} (h:F__law_shown [some (.pu a0),some (.pu a1),none,none,none]=some (.rt t)):M__law_shown [a0,a1]=some t:=b_run (F:=F__law_shown) h
def F__law_good:FS :=
    (sSeq (sIf (fB (f1 tIsN (gv 0)))
     (sRet (kc (.bl true)))
     sNil)
    (sSeq (sIf (fB (f2 tEqq (gv 2) (kc (.int 0))))
     (sRet (fAndV (fCall 1 M__law_is_table (fCons (gv 0) fNil)) (f2 tEqq (fCall 1 M__law_written (fCons (gv 0) fNil)) (gv 1))))
     sNil)
    (sRet (fAndV (fCall 2 M__law_are_rules (fCons (gv 0) (fCons (gv 2) fNil))) (f2 tEqq (fCall 2 M__law_shown (fCons (gv 0) (fCons (gv 2) fNil))) (gv 1))))))
def M__law_good:List T → Option T:=run 3 F__law_good
theorem I__law_good {a0 a1 a2 t:T} (h:F__law_good [some (.pu a0),some (.pu a1),some (.pu a2)]=some (.rt t)):M__law_good [a0,a1,a2]=some t:=b_run (F:=F__law_good) h
def B1__law_rules:FS :=
    (sApp 2 (fTup (fCons (fCall 2 M__law_marks (fCons (fCall 2 M__law_drawn (fCons (gv 0) (fCons (f2 tMul (kc (.int 2)) (gv 3)) fNil))) (fCons (gv 1) fNil))) (fCons (fCall 2 M__law_marks (fCons (fCall 2 M__law_drawn (fCons (gv 0) (fCons (f2 tAdd (f2 tMul (kc (.int 2)) (gv 3)) (kc (.int 1))) fNil))) (fCons (gv 1) fNil))) fNil))))
def F__law_rules:FS :=
    (sSeq (sOwn 2 (fLst fNil))
    (sSeq (sFor (fRng (f2 tIx (fTup (fCons (kc (.int 0)) (fCons (kc (.int 1)) (fCons (kc (.int 2)) (fCons (kc (.int 3)) (fCons (kc (.int 5)) (fCons (kc (.int 8)) fNil))))))) (f2 tMd (gv 0) (kc (.int 6))))) (gNm 3)
     B1__law_rules)
    (sRet (f1 tTupOf (go 2)))))
def M__law_rules:List T → Option T:=run 4 F__law_rules
theorem I__law_rules {a0 a1 t:T} (h:F__law_rules [some (.pu a0),some (.pu a1),none,none]=some (.rt t)):M__law_rules [a0,a1]=some t:=b_run (F:=F__law_rules) h
def F__law_changed:FS :=
    (sSeq (sSet 2 (fNew (fSplit (gv 0) (kc (.str " ")))))
    (sSeq (sSet 3 (f2 tMd (f2 tFd (gv 1) (kc (.int 8))) (f1 tLen (gv 2))))
    (sSeq (sSet 4 (f2 tMd (f2 tFd (gv 1) (kc (.int 8))) (f2 tAdd (f1 tLen (gv 0)) (kc (.int 1)))))
    (sSeq (sSet 5 (f2 tMd (gv 1) (kc (.int 8))))
    (sSeq (sIf (fB (f2 tEqq (gv 5) (kc (.int 0))))
     (sRet (f2 tAdd (fCutS (gv 0) foN (foS (gv 4))) (fCutS (gv 0) (foS (f2 tAdd (gv 4) (kc (.int 1)))) foN)))
     sNil)
    (sSeq (sIf (fB (f2 tLtI (gv 5) (kc (.int 3))))
     (sSeq (sSet 6 (f2 tIxS (kc (.str " 01256-_eT\n\t")) (f2 tMd (f2 tFd (gv 1) (kc (.int 7))) (kc (.int 12)))))
     (sRet (f2 tAdd (f2 tAdd (fCutS (gv 0) foN (foS (gv 4))) (gv 6)) (fCutS (gv 0) (foS (f2 tSub (f2 tAdd (gv 4) (gv 5)) (kc (.int 1)))) foN))))
     sNil)
    (sSeq (sIf (fB (f2 tEqq (gv 5) (kc (.int 3))))
     (sRet (f2 tJoin (kc (.str " ")) (f2 tAdd (fCut (gv 2) foN (foS (gv 3))) (fCut (gv 2) (foS (f2 tAdd (gv 3) (kc (.int 1)))) foN))))
     sNil)
    (sSeq (sIf (fB (f2 tEqq (gv 5) (kc (.int 4))))
     (sRet (f2 tJoin (kc (.str " ")) (f2 tAdd (f2 tAdd (fCut (gv 2) foN (foS (gv 3))) (fCut (gv 2) (foS (gv 3)) (foS (f2 tAdd (gv 3) (kc (.int 1)))))) (fCut (gv 2) (foS (gv 3)) foN))))
     sNil)
    (sSeq (sIf (fB (f2 tEqq (gv 5) (kc (.int 5))))
     (sSeq (sSet 7 (f2 tAdd (fCut (gv 2) (foS (f2 tAdd (gv 3) (kc (.int 1)))) (foS (f2 tAdd (gv 3) (kc (.int 2))))) (fCut (gv 2) (foS (gv 3)) (foS (f2 tAdd (gv 3) (kc (.int 1)))))))
     (sRet (f2 tJoin (kc (.str " ")) (f2 tAdd (f2 tAdd (fCut (gv 2) foN (foS (gv 3))) (gv 7)) (fCut (gv 2) (foS (f2 tAdd (gv 3) (kc (.int 2)))) foN)))))
     sNil)
    (sSeq (sSet 8 (fNew (fSplit (kc (.str "table rules thing if then end 0 1 2 5 6 7 00 -1 a")) (kc (.str " ")))))
    (sRet (f2 tJoin (kc (.str " ")) (f2 tAdd (f2 tAdd (fCut (gv 2) foN (foS (gv 3))) (fNew (fLst (fCons (f2 tIx (gv 8) (f2 tMd (f2 tFd (gv 1) (kc (.int 7))) (kc (.int 15)))) fNil)))) (fCut (gv 2) (foS (f2 tAdd (gv 3) (kc (.int 1)))) foN))))))))))))))
def M__law_changed:List T → Option T:=run 9 F__law_changed
theorem I__law_changed {a0 a1 t:T} (h:F__law_changed [some (.pu a0),some (.pu a1),none,none,none,none,none,none,none]=some (.rt t)):M__law_changed [a0,a1]=some t:=b_run (F:=F__law_changed) h
def B1_law:FS :=
    (sSet 5 (fCall 2 M__law_changed (fCons (gv 5) (fCons (fCall 2 M__law_drawn (fCons (gv 4) (fCons (gv 6) fNil))) fNil))))
def R10_law:FS :=
    (sRet (fCall 3 M__law_good (fCons (gv 7) (fCons (gv 5) (fCons (gv 3) fNil)))))
def R9_law:FS :=
    (sSeq (sIf (fB (f2 tEqq (gv 5) (gv 2)))
     (sRet (fAndV (f2 tEqq (gv 7) (gv 1)) (fCall 3 M__law_good (fCons (gv 7) (fCons (gv 5) (fCons (gv 3) fNil))))))
     sNil)
    R10_law)
def R8_law:FS :=
    (sSeq (sSet 7 (fCall 2 M__law_found (fCons (gv 5) (fCons (gv 3) fNil))))
    R9_law)
def R7_law:FS :=
    (sSeq (sFor (fRng (f2 tMul (f2 tMd (gv 4) (kc (.int 3))) (f2 tAdd (kc (.int 1)) (f2 tMd (f2 tFd (gv 4) (kc (.int 3))) (kc (.int 2)))))) (gNm 6)
     B1_law)
    R8_law)
def R6_law:FS :=
    (sSeq (sSet 5 (gv 2))
    R7_law)
def R5_law:FS :=
    (sSeq (sIf (fAnd (fB (f2 tGtI (gv 3) (kc (.int 0)))) (fB (f1 tNotN (fCall 2 M__law_found (fCons (gv 2) (fCons (f2 tAdd (kc (.int 1)) (f2 tMd (gv 3) (kc (.int 6)))) fNil))))))
     (sRet (kc (.bl false)))
     sNil)
    R6_law)
def R4_law:FS :=
    (sSeq (sSet 4 (fCall 2 M__law_mixed (fCons (gv 0) (fCons (kc (.int 2)) fNil))))
    R5_law)
def R3_law:FS :=
    (sSeq (sIf (fB (f2 tEqq (f2 tMd (fCall 2 M__law_mixed (fCons (gv 0) (fCons (kc (.int 1)) fNil))) (kc (.int 2))) (kc (.int 1))))
     (sSeq (sSet 3 (f2 tIx (gv 1) (kc (.int 0))))
     (sSeq (sSet 1 (fCall 2 M__law_rules (fCons (fCall 2 M__law_mixed (fCons (gv 0) (fCons (kc (.int 12)) fNil))) (fCons (gv 3) fNil))))
     (sSet 2 (fCall 2 M__law_shown (fCons (gv 1) (fCons (gv 3) fNil))))))
     sNil)
    R4_law)
def R2_law:FS :=
    (sSeq (sSet 3 (kc (.int 0)))
    R3_law)
def R1_law:FS :=
    (sSeq (sSet 2 (fCall 1 M__law_written (fCons (gv 1) fNil)))
    R2_law)
def F_law:FS :=
    (sSeq (sSet 1 (fCall 2 M__law_table (fCons (gv 0) (fCons (kc (.int 6)) fNil))))
    R1_law)
def M_law:List T → Option T:=run 8 F_law
theorem I_law {a0 t:T} (h:F_law [some (.pu a0),none,none,none,none,none,none,none]=some (.rt t)):M_law [a0]=some t:=b_run (F:=F_law) h
end G
namespace G
set_option maxHeartbeats 4000000
open PySem L2 TL
local macro_rules | `(tactic| walk_at "tl call")=>`(tactic| fail "no call")
local macro_rules | `(tactic| walk_at "tl op")=>`(tactic| first
 | with_reducible exact tAdd_i | with_reducible exact tSub_i | with_reducible exact tLtI_i | with_reducible exact tLeI_i | with_reducible exact tGtI_i | with_reducible exact tGeI_i | with_reducible exact tEqq_i | with_reducible exact tEqq_b | with_reducible exact tNee_i | with_reducible exact tLen_t | with_reducible exact tLen_l | with_reducible exact tTupOf_l | with_reducible exact tTupOf_t | with_reducible exact tLstOf_t | with_reducible exact tLstOf_l | with_reducible exact tMin_i | with_reducible exact tIs_i | with_reducible exact tCut_t | with_reducible exact tCut_l | with_reducible exact tRev_t | with_reducible exact tNeg_i | with_reducible exact tAll_map | with_reducible exact tAny_map
 | with_reducible refine tMul_l (by omega) (by omega) | with_reducible refine tMul_r (by omega) (by omega) | with_reducible refine tMd_i (by omega) | with_reducible refine tFd_i (by omega) (by omega)
 | with_reducible apply tIndex_l | with_reducible apply tIx_t' | with_reducible apply tIx_l' | with_reducible apply tEqq_d | with_reducible apply tNee_d | with_reducible apply tInn_t | with_reducible apply tInn_l | with_reducible apply tNin_t | with_reducible apply tNin_l | with_reducible apply tAdd_t | with_reducible apply tAdd_l | with_reducible apply tMul_t | with_reducible apply tStr_i)
local macro_rules | `(tactic| walk_at "tl E")=>`(tactic| first
 | ((with_reducible apply b_gv); exact rfl) | ((with_reducible apply b_go); exact rfl) | with_reducible exact b_kc | with_reducible apply b_f2 | with_reducible apply b_f1 | with_reducible apply b_call | with_reducible apply b_tup | with_reducible apply b_new | with_reducible apply b_andV | with_reducible apply b_orV | with_reducible apply b_notV | with_reducible apply b_if | with_reducible apply b_chain | with_reducible apply b_cut | with_reducible assumption | walk_at "tl op" | walk_at "tl call")
local macro_rules | `(tactic| walk_at "tl T")=>`(tactic| first | with_reducible exact b_yes | with_reducible exact truOf_t | with_reducible exact truOf_l | with_reducible exact truOf_b | with_reducible apply b_B | with_reducible apply b_not | with_reducible apply b_and | with_reducible apply b_or | with_reducible apply b_tru | with_reducible assumption)
local macro_rules | `(tactic| walk_at "tl A")=>`(tactic| first | with_reducible exact b_nil | with_reducible exact itOf_t | with_reducible exact itOf_l | with_reducible apply b_cons | with_reducible apply b_comp | with_reducible apply b_rng | with_reducible apply b_rng2 | with_reducible apply b_it | with_reducible apply b_enum | with_reducible apply b_lrng | with_reducible apply b_sorted | with_reducible apply b_sortI | with_reducible apply b_pick | with_reducible apply b_lst | with_reducible assumption)
local macro_rules | `(tactic| walk_at "tl S")=>`(tactic| first | with_reducible exact b_snil | with_reducible apply b_set | with_reducible apply b_ret | with_reducible apply b_seqIf | with_reducible apply b_seqFor | with_reducible apply b_seqSeq | with_reducible apply b_seqRet | with_reducible apply b_seqNil | with_reducible apply b_seq | with_reducible apply b_sif | with_reducible apply b_for | with_reducible apply b_own | with_reducible apply b_drop | with_reducible apply b_thenN | with_reducible apply b_thenR | with_reducible apply b_while | ((with_reducible apply b_app); exact rfl) | ((with_reducible apply b_ext); exact rfl) | ((with_reducible apply b_retO); exact rfl) | with_reducible assumption | walk_at "tl loop")
local macro_rules | `(tactic| walk_at "tl loop")=>`(tactic| fail "no loop")
local macro_rules | `(tactic| walk_at "tl1")=>`(tactic| first
 | ((with_reducible show (_:Option T)=_); walk_at "tl E")
 | ((with_reducible show (_:Option Bool)=_); walk_at "tl T")
 | ((with_reducible show (_:Option Out)=_); walk_at "tl S")
 | ((with_reducible show (_:Option (List T))=_); walk_at "tl A")
 | ((with_reducible show (_:Option (List Nat))=_); first | with_reducible apply b_setOf | with_reducible apply b_setOr | with_reducible assumption)
 | ((repeat (with_reducible apply set_s)); with_reducible exact set_z)
 | ((with_reducible show (_:Option (Option Int))=_); first | with_reducible exact b_oN | with_reducible apply b_oS)
 | with_reducible exact sub_z | with_reducible apply sub_n | ((with_reducible apply sub_s); exact rfl)
 | with_reducible exact len_z | with_reducible apply len_s
 | ((with_reducible show dep _ ≤ 60); with_reducible assumption)
 | with_reducible rfl | ((with_reducible show T.bl _=T.bl _); rfl)
 | ((with_reducible show (_:Int) ≤ _); omega) | ((with_reducible show (_:Int) < _); omega)
 | ((with_reducible show List.length _ ≤ sizeLine); first | with_reducible assumption | (refine sizeLine_ge ?_; first | omega | (simp <;> omega))) | ((with_reducible show List.length _ < sizeLine); refine sizeLine_gt ?_; first | omega | (simp <;> omega))
 | ((with_reducible show _ + _ ≤ sizeLine); refine sizeLine_ge ?_; first | omega | (simp <;> omega))
 | ((with_reducible show (_=true) → _); first | ((with_reducible first | refine vacB ?_ | refine vacT ?_ | refine vacE ?_ | refine vacO ?_); (intro htl; simp at htl <;> omega)) | intro htl) | ((with_reducible show (_=false) → _); first | ((with_reducible first | refine vacB ?_ | refine vacT ?_ | refine vacE ?_ | refine vacO ?_); (intro htl; simp at htl <;> omega)) | intro htl)
 | walk_at "tl call")
local macro_rules | `(tactic| walk_at "tl")=>`(tactic| ((repeat' walk_at "tl1"); all_goals (try exact true)))
abbrev scr (ns:List Int):T:=.lst (ns.map T.int)
theorem cell_ev (ns:List Int) (k:Int) (hk:0 ≤ k):M__law_cell_at [scr ns,.int k]=some (.int (ns.getD k.toNat 0)):=by
 refine I__law_cell_at ?_
 unfold F__law_cell_at
 by_cases h:k.toNat < ns.length
 ·have h2:=atI_nat' (xs:=ns.map T.int) (i:=k) (x:=T.int (ns.getD k.toNat 0)) (by omega) (by simp [h])
  walk_at "tl"
 ·walk_at "tl"
  simp [h]
local macro_rules | `(tactic| walk_at "tl call")=>`(tactic| with_reducible refine cell_ev _ _ (by omega))
def mx (ns:List Int) (k:Int):Int :=
 ((ns.getD k.toNat 0 + 7919 * k + 1) * 48271 % 2147483647 * ((ns.getD k.toNat 0 + 7919 * k + 1) * 48271 % 2147483647) + 7 * ((ns.getD k.toNat 0 + 7919 * k + 1) * 48271 % 2147483647) + k) % 2147483629
theorem mixed_ev (ns:List Int) (k:Int) (hk:0 ≤ k):M__law_mixed [scr ns,.int k]=some (.int (mx ns k)):=by
 refine I__law_mixed ?_
 unfold F__law_mixed
 walk_at "tl"
 rfl
theorem mx_lo (ns:List Int) (k:Int):0 ≤ mx ns k:=Int.emod_nonneg _ (by decide)
local macro_rules | `(tactic| walk_at "tl call")=>`(tactic| with_reducible refine mixed_ev _ _ (by omega))
def dr (n k:Int):Int :=
 ((n + 104729 * k + 17) * 69621 % 2147483647 * ((n + 104729 * k + 17) * 69621 % 2147483647) + 3 * ((n + 104729 * k + 17) * 69621 % 2147483647) + k) % 2147483629
theorem drawn_ev (n k:Int):M__law_drawn [.int n,.int k]=some (.int (dr n k)):=by
 refine I__law_drawn ?_
 unfold F__law_drawn
 walk_at "tl"
 rfl
local macro_rules | `(tactic| walk_at "tl call")=>`(tactic| with_reducible exact drawn_ev _ _)
theorem dr_lo (n k:Int):0 ≤ dr n k:=Int.emod_nonneg _ (by decide)
abbrev tN (i:Nat):T:=T.int (i:Int)
abbrev tupN (ms:List Nat):T:=.tup (ms.map tN)
theorem rangeT_map (n:Nat):rangeT 0 n=(List.range n).map tN:=by
 unfold rangeT; simp
theorem compL_nat {g:FG} {c:FT} {e:FE} {ρ:Rho} (p:Nat → Bool) (ms:List Nat) (h:∀ j,j ∈ ms → ∃ ρ1,g (tN j) ρ=some ρ1 ∧ c ρ1=some (p j) ∧ (p j=true → e ρ1=some (tN j))) :
  compL g c e ρ (ms.map tN)=some ((ms.filter p).map tN):=by
 induction ms with
 | nil=>rfl
 | cons a r ih =>
   have ih:=ih fun j hj=>h j (List.mem_cons_of_mem _ hj)
   obtain ⟨ρ1,h1,h2,h3⟩:=h a List.mem_cons_self
   rw [List.map_cons]
   unfold compL
   rw [h1]
   dsimp only
   rw [h2]
   cases hp:p a with
   | false =>
     dsimp only
     rw [ih,List.filter_cons_of_neg (by rw [hp]; exact Bool.false_ne_true)]
   | true =>
     dsimp only
     rw [h3 hp,ih,List.filter_cons_of_pos hp]
     rfl
def mk (n:Int) (m:Nat):List Nat:=(List.range m).filter fun j=>dr n (j:Int) % (2 + n % 3) == 0
theorem marks_ev (n m:Int) (h0:0 ≤ m) (hm:m ≤ 1000):M__law_marks [.int n,.int m]=some (tupN (mk n m.toNat)):=by
 have key:compL (gNm 0) C1__law_marks (gv 0) [none,some (Sl.pu (T.int n)),some (Sl.pu (T.int (2 + n % 3)))] (rangeT 0 m.toNat)=some ((mk n m.toNat).map tN):=by
  rw [rangeT_map]
  refine compL_nat _ _ fun j hj=>⟨_,b_gNm set_z,?_,fun _=>rfl⟩
  unfold C1__law_marks
  apply ev_eq
  walk_at "tl"
  simp
 refine I__law_marks ?_
 unfold F__law_marks
 walk_at "tl"
local macro_rules | `(tactic| walk_at "tl call")=>`(tactic| with_reducible refine marks_ev _ _ (by omega) (by omega))
structure Mks (m:Nat) (ms:List Nat):Prop where
 lt:∀ j ∈ ms,j < m
 up:ms.Pairwise (·< ·)
theorem Mks.filter {m:Nat} (p:Nat → Bool):Mks m ((List.range m).filter p):=⟨fun j hj=>List.mem_range.mp (List.mem_filter.mp hj).1,(List.pairwise_lt_range).filter _⟩
theorem mk_ok (n:Int) (m:Nat):Mks m (mk n m):=.filter _
theorem in_tupN (ms:List Nat) (j:Nat):((ms.map tN).any fun y=>teq y (tN j))=ms.contains j:=by
 rw [List.any_map]
 induction ms with
 | nil=>rfl
 | cons a r ih =>
   simp only [List.any_cons,Function.comp,teq_ii,List.contains_cons] at ih ⊢
   rw [ih]
   congr 1
   rw [Bool.eq_iff_iff]
   simp
   omega
theorem dep_tN (ms:List Nat):∀ y ∈ ms.map tN,dep y ≤ 60:=by
 intro y hy
 obtain ⟨j,_,rfl⟩:=List.mem_map.mp hy
 rw [dep_int]; decide
local macro_rules | `(tactic| walk_at "tl call")=>`(tactic| with_reducible exact dep_tN _)
def rowOf (ns:List Int) (m j:Nat):List Nat :=
 if mx ns 0 / 54 % 2=1 then (List.range m).filter fun i=>!(mk (mx ns (3 + (j:Int))) m).contains i else mk (mx ns (3 + (j:Int))) m
theorem rowOf_ok (ns:List Int) (m j:Nat):Mks m (rowOf ns m j):=by
 unfold rowOf
 split
 ·exact .filter _
 ·exact mk_ok _ _
theorem table_turn (ns:List Int) (most m:Int) (j:Nat) (rs:List T) (o5:Option Sl) (h0:0 ≤ m) (hm:m ≤ 1000) (hr:rs.length < 1000) :
  B1__law_table [some (.pu (scr ns)),some (.pu (.int most)),some (.pu (.int m)),some (.ow rs),some (.pu (tN j)),o5]=some (.nx [some (.pu (scr ns)),some (.pu (.int most)),some (.pu (.int m)),some (.ow (rs ++ [tupN (rowOf ns m.toNat j)])),some (.pu (tN j)),some (.pu (tupN (rowOf ns m.toNat j)))]):=by
 unfold B1__law_table rowOf
 have key:compL (gNm 0) C1__law_table (gv 0) [none,some (Sl.pu (tupN (mk (mx ns (3 + (j:Int))) m.toNat)))] (rangeT 0 m.toNat)=some (((List.range m.toNat).filter fun i=>!(mk (mx ns (3 + (j:Int))) m.toNat).contains i).map tN):=by
  rw [rangeT_map]
  refine compL_nat _ _ fun i hi=>⟨_,b_gNm set_z,?_,fun _=>rfl⟩
  unfold C1__law_table
  apply ev_eq
  walk_at "tl"
  rw [in_tupN]
 by_cases hc:mx ns 0 / 54 % 2=1
 ·rw [if_pos hc]
  walk_at "tl"
 ·rw [if_neg hc]
  walk_at "tl"
def mOf (ns:List Int) (most:Int):Nat:=(1 + mx ns 0 % most).toNat
def thOf (ns:List Int):Nat:=(if 1 + ((ns.map T.int).length:Int) < mx ns 0 / 6 % 9 then 1 + ((ns.map T.int).length:Int) else mx ns 0 / 6 % 9).toNat
def rowsOf (ns:List Int) (m:Nat):List (List Nat):=(List.range (thOf ns)).map (rowOf ns m)
theorem rowsOf_ok (ns:List Int) (m:Nat):∀ r ∈ rowsOf ns m,Mks m r:=by
 intro r hr
 obtain ⟨j,_,rfl⟩:=List.mem_map.mp hr
 exact rowOf_ok _ _ _
theorem rowsOf_len (ns:List Int) (m:Nat):(rowsOf ns m).length ≤ 8:=by
 unfold rowsOf thOf
 simp
 omega
theorem mOf_eq (ns:List Int) (most:Int) (h:0 < most):(mOf ns most:Int)=1 + mx ns 0 % most:=by
 unfold mOf
 have:=Int.emod_nonneg (mx ns 0) (show most ≠ 0 by omega)
 omega
theorem mOf_ok (ns:List Int) (most:Int) (h:0 < most):1 ≤ mOf ns most ∧ (mOf ns most:Int) ≤ most:=by
 have e:=mOf_eq ns most h
 have a:=Int.emod_nonneg (mx ns 0) (show most ≠ 0 by omega)
 have b:=Int.emod_lt_of_pos (mx ns 0) h
 omega
theorem table_ev (ns:List Int) (most:Int) (h0:0 < most) (h1:most ≤ 6):M__law_table [scr ns,.int most]=some (.tup [tN (mOf ns most),.tup ((rowsOf ns (mOf ns most)).map tupN)]):=by
 have hm:=mOf_ok ns most h0
 have em:=mOf_eq ns most h0
 obtain ⟨ρ2,hl,o4,o5,e⟩:=loopF_range (g:=gNm 4) (b:=B1__law_table) (fun i ρ=>∃ o4 o5,ρ=[some (.pu (scr ns)),some (.pu (.int most)),some (.pu (.int (1 + mx ns 0 % most))),some (.ow (((List.range i).map (rowOf ns (mOf ns most))).map tupN)),o4,o5]) (thOf ns)
  [some (.pu (scr ns)),some (.pu (.int most)),some (.pu (.int (1 + mx ns 0 % most))),some (.ow []),none,none] (fun i ρ hi ⟨o4,o5,e⟩=>by
   subst e
   refine ⟨_,_,b_gNm (set_s (set_s (set_s (set_s set_z)))),table_turn ns most (1 + mx ns 0 % most) i _ o5 (by omega) (by omega) ?_,some (.pu (tN i)),some (.pu (tupN (rowOf ns (1 + mx ns 0 % most).toNat i))),?_⟩
   ·simp; unfold thOf at hi; omega
   ·rw [List.range_succ,List.map_append,List.map_append]; rfl) ⟨none,none,rfl⟩
 subst e
 unfold thOf at hl
 refine I__law_table ?_
 unfold F__law_table
 walk_at "tl"
 rw [← em]; rfl
local macro_rules | `(tactic| walk_at "tl call")=>`(tactic| with_reducible refine table_ev _ _ (by omega) (by omega))
def upB (many:Int):Int → List T → Bool
 | _,[]=>true
 | l,.int i :: ts=>decide (l ≤ i) && decide (i < many) && upB many (i + 1) ts
 | _,_ :: _=>false
def areM (t:T) (many:Int):Bool:=match t with
 | .tup ts=>upB many 0 ts
 | _=>false
def wholeB:T → Bool
 | .int _=>true
 | _=>false
@[simp] theorem wholeB_int {i:Int}:wholeB (.int i)=true:=rfl
@[simp] theorem wholeB_bl {i:Bool}:wholeB (.bl i)=false:=rfl
@[simp] theorem wholeB_non:wholeB .non=false:=rfl
@[simp] theorem wholeB_str {i:Str}:wholeB (.str i)=false:=rfl
@[simp] theorem wholeB_tup {i:List T}:wholeB (.tup i)=false:=rfl
@[simp] theorem wholeB_lst {i:List T}:wholeB (.lst i)=false:=rfl
@[simp] theorem wholeB_dct {d:List (List Nat × List Nat)}:wholeB (.dct d)=false:=rfl
theorem whole_ev (t:T):M_is_whole [t]=some (.bl (wholeB t)):=by
 refine I_is_whole ?_
 unfold F_is_whole
 cases t <;> (walk_at "tl")
local macro_rules | `(tactic| walk_at "tl call")=>`(tactic| with_reducible exact whole_ev _)
theorem are_marks_turn (x:T) (many l:Int) (t:T) :
  B1_are_marks [some (.pu x),some (.pu (.int many)),some (.pu (.int l)),some (.pu t)] =
   match t with
   | .int i=>if l ≤ i ∧ i < many then some (.nx [some (.pu x),some (.pu (.int many)),some (.pu (.int (i + 1))),some (.pu t)]) else some (.rt (.bl false))
   | _=>some (.rt (.bl false)):=by
 unfold B1_are_marks
 cases t with
 | int i =>
   dsimp only
   by_cases h:l ≤ i ∧ i < many
   ·rw [if_pos h]
    walk_at "tl"
   ·rw [if_neg h]
    walk_at "tl"
 | _=>(walk_at "tl")
theorem are_marks_loop (x:T) (many:Int):∀ (ts:List T) (l:Int) (o:Option Sl),
  (upB many l ts=true → ∃ l' o',loopF (gNm 3) B1_are_marks ts [some (.pu x),some (.pu (.int many)),some (.pu (.int l)),o]=some (.nx [some (.pu x),some (.pu (.int many)),some (.pu (.int l')),o'])) ∧
  (upB many l ts=false → loopF (gNm 3) B1_are_marks ts [some (.pu x),some (.pu (.int many)),some (.pu (.int l)),o]=some (.rt (.bl false)))
 | [],l,o=>⟨fun _=>⟨l,o,rfl⟩,fun h=>by simp [upB] at h⟩
 | t :: ts,l,o=>by
   have e:gNm 3 t [some (.pu x),some (.pu (.int many)),some (.pu (.int l)),o]=some [some (.pu x),some (.pu (.int many)),some (.pu (.int l)),some (.pu t)]:=rfl
   unfold loopF
   rw [e]
   dsimp only
   rw [are_marks_turn]
   cases t with
   | int i =>
     dsimp only
     by_cases h:l ≤ i ∧ i < many
     ·rw [if_pos h]
      dsimp only
      have ih:=are_marks_loop x many ts (i + 1) (some (.pu (.int i)))
      have eu:upB many l (.int i :: ts)=upB many (i + 1) ts:=by simp [upB,h]
      rw [eu]
      exact ih
     ·rw [if_neg h]
      dsimp only
      have eu:upB many l (.int i :: ts)=false:=by simp [upB]; omega
      rw [eu]
      exact ⟨fun z=>(nomatch z),fun _=>rfl⟩
   | _=>exact ⟨fun z=>by simp [upB] at z,fun _=>rfl⟩
theorem are_marks_ev (t:T) (many:Int):M_are_marks [t,.int many]=some (.bl (areM t many)):=by
 refine I_are_marks ?_
 unfold F_are_marks
 cases t with
 | tup ts =>
   have hl:=are_marks_loop (.tup ts) many ts 0 none
   cases hu:upB many 0 ts with
   | true =>
     obtain ⟨l',o',hl⟩:=hl.1 hu
     walk_at "tl"
     simp [areM,hu]
   | false =>
     have hl:=hl.2 hu
     walk_at "tl"
     simp [areM,hu]
 | _=>(walk_at "tl")
local macro_rules | `(tactic| walk_at "tl call")=>`(tactic| with_reducible exact are_marks_ev _ _)
mutual
def wfB:T → Bool
 | .tup ts=>decide (ts.length ≤ 1000) && wfL ts
 | .lst ts=>decide (ts.length ≤ 1000) && wfL ts
 | _=>true
def wfL:List T → Bool
 | []=>true
 | t :: ts=>wfB t && wfL ts
end
theorem wfL_all:∀ (ts:List T),wfL ts=ts.all wfB
 | []=>by simp [wfL]
 | t :: ts=>by simp [wfL,wfL_all ts]
theorem wfL_mem {ts:List T} (h:wfL ts=true) {t:T} (ht:t ∈ ts):wfB t=true:=by
 rw [wfL_all,List.all_eq_true] at h
 exact h t ht
theorem depL_le:∀ {ts:List T} {n:Nat},(∀ t ∈ ts,dep t ≤ n) → depL ts ≤ n
 | [],n,_=>by simp [depL]
 | t :: ts,n,h=>by
   simp only [depL]
   exact Nat.max_le.mpr ⟨h t List.mem_cons_self,depL_le fun u hu=>h u (List.mem_cons_of_mem _ hu)⟩
theorem depL_mem {ts:List T} {t:T} (h:t ∈ ts):dep t ≤ depL ts:=by
 obtain ⟨i,hi,e⟩:=List.mem_iff_getElem.mp h
 exact dep_mem (j:=i) (by rw [← e]; exact List.getElem?_eq_getElem hi)
theorem dep_tup {ts:List T}:dep (.tup ts)=depL ts + 1:=by simp [dep]
theorem dep_lst {ts:List T}:dep (.lst ts)=depL ts + 1:=by simp [dep]
structure Wf (d:Nat) (t:T):Prop where
 w:wfB t=true
 d:dep t ≤ d
theorem Wf.tup_mem {d:Nat} {ts:List T} (h:Wf (d + 1) (.tup ts)) {t:T} (ht:t ∈ ts):Wf d t:=by
 have h1:=h.w
 have h2:=h.d
 simp only [wfB,Bool.and_eq_true] at h1
 rw [dep_tup] at h2
 exact ⟨wfL_mem h1.2 ht,by have:=depL_mem ht; omega⟩
theorem Wf.tup_len {d:Nat} {ts:List T} (h:Wf d (.tup ts)):ts.length ≤ 1000:=by
 have h1:=h.w
 simp only [wfB,Bool.and_eq_true,decide_eq_true_eq] at h1
 exact h1.1
theorem Wf.mk_tup {d:Nat} {ts:List T} (h:∀ t ∈ ts,Wf d t) (hl:ts.length ≤ 1000):Wf (d + 1) (.tup ts):=by
 refine ⟨?_,?_⟩
 ·simp only [wfB,Bool.and_eq_true,decide_eq_true_eq,wfL_all,List.all_eq_true]
  exact ⟨hl,fun t ht=>(h t ht).w⟩
 ·rw [dep_tup]
  have:=depL_le fun t ht=>(h t ht).d
  omega
theorem Wf.mono {d e:Nat} {t:T} (h:Wf d t) (hd:d ≤ e):Wf e t:=⟨h.w,Nat.le_trans h.d hd⟩
theorem Wf.int {d:Nat} (i:Int):Wf d (.int i):=⟨by simp [wfB],by rw [dep_int]; omega⟩
def numB (lo hi:Int):T → Bool
 | .int i=>decide (lo ≤ i) && decide (i ≤ hi)
 | _=>false
@[simp] theorem numB_int {lo hi i:Int}:numB lo hi (.int i)=(decide (lo ≤ i) && decide (i ≤ hi)):=rfl
@[simp] theorem numB_bl {lo hi:Int} {b:Bool}:numB lo hi (.bl b)=false:=rfl
@[simp] theorem numB_non {lo hi:Int}:numB lo hi .non=false:=rfl
@[simp] theorem numB_str {lo hi:Int} {b:Str}:numB lo hi (.str b)=false:=rfl
@[simp] theorem numB_tup {lo hi:Int} {b:List T}:numB lo hi (.tup b)=false:=rfl
@[simp] theorem numB_lst {lo hi:Int} {b:List T}:numB lo hi (.lst b)=false:=rfl
@[simp] theorem numB_dct {lo hi:Int} {d:List (List Nat × List Nat)}:numB lo hi (.dct d)=false:=rfl
theorem number_ev (t:T) (lo hi:Int):M__law_number [t,.int lo,.int hi]=some (.bl (numB lo hi t)):=by
 refine I__law_number ?_
 unfold F__law_number
 cases t <;> (walk_at "tl")
 all_goals simp [numB]
local macro_rules | `(tactic| walk_at "tl call")=>`(tactic| with_reducible exact number_ev _ _ _)
@[simp] theorem teq_nil_l {ts:List T}:teq (.lst ts) (.lst [])=ts.isEmpty:=by
 cases ts <;> simp [teq,teqL]
theorem dep_filter {ts:List T} {p:T → Bool} {d:Nat} (h:∀ t ∈ ts,dep t ≤ d):dep (.lst (ts.filter p)) ≤ d + 1:=by
 rw [dep_lst]
 have:=depL_le fun t (ht:t ∈ ts.filter p)=>h t (List.mem_filter.mp ht).1
 omega
theorem upB_num:∀ (many l:Int) (ts:List T),0 ≤ l → upB many l ts=true → ∀ t ∈ ts,numB 0 (many - 1) t=true
 | many,l,[],_,_=>fun t ht=>by simp at ht
 | many,l,.int i :: ts,hl,h=>by
   simp only [upB,Bool.and_eq_true,decide_eq_true_eq] at h
   intro t ht
   rcases List.mem_cons.mp ht with rfl | ht
   ·simp [numB]; omega
   ·exact upB_num many (i + 1) ts (by omega) h.2 t ht
 | many,l,.non :: ts,_,h=>by simp [upB] at h
 | many,l,.bl _ :: ts,_,h=>by simp [upB] at h
 | many,l,.str _ :: ts,_,h=>by simp [upB] at h
 | many,l,.tup _ :: ts,_,h=>by simp [upB] at h
 | many,l,.lst _ :: ts,_,h=>by simp [upB] at h
theorem all_ints {lo hi:Int}:∀ {ts:List T},(∀ t ∈ ts,numB lo hi t=true) → ∃ is:List Int,ts=is.map T.int ∧ ∀ i ∈ is,lo ≤ i ∧ i ≤ hi
 | [],_=>⟨[],rfl,fun i hi=>by simp at hi⟩
 | t :: ts,h=>by
   obtain ⟨is,e,hb⟩:=all_ints fun u hu=>h u (List.mem_cons_of_mem _ hu)
   have h0:=h t List.mem_cons_self
   cases t with
   | int i =>
     simp only [numB,Bool.and_eq_true,decide_eq_true_eq] at h0
     exact ⟨i :: is,by rw [e]; rfl,fun j hj=>by
      rcases List.mem_cons.mp hj with rfl | hj
      ·exact h0
      ·exact hb j hj⟩
   | _=>simp [numB] at h0
theorem upB_ints (many:Int):∀ (is:List Int) (l:Int),(∀ i ∈ is,i < many) → (upB many l (is.map T.int)=true ↔ (∀ a,is.head?=some a → l ≤ a) ∧ ∀ (k:Nat) (a b:Int),is[k]?=some a → is[k + 1]?=some b → a < b)
 | [],l,_=>by simp [upB]
 | i :: is,l,h=>by
   have ih:=upB_ints many is (i + 1) fun j hj=>h j (List.mem_cons_of_mem _ hj)
   have hi:=h i List.mem_cons_self
   simp only [List.map_cons,upB,Bool.and_eq_true,decide_eq_true_eq]
   rw [ih]
   constructor
   ·rintro ⟨⟨h1,_⟩,h2,h3⟩
    refine ⟨fun a e=>by simp at e; omega,fun k a b e1 e2=>?_⟩
    cases k with
    | zero =>
      simp at e1 e2
      subst e1
      have:=h2 b (by rw [List.head?_eq_getElem?]; exact e2)
      omega
    | succ k=>exact h3 k a b (by simpa using e1) (by simpa using e2)
   ·rintro ⟨h1,h2⟩
    refine ⟨⟨h1 i rfl,hi⟩,fun a e=>?_,fun k a b e1 e2=>h2 (k + 1) a b (by simpa using e1) (by simpa using e2)⟩
    have:=h2 0 i a rfl (by rw [List.head?_eq_getElem?] at e; simpa using e)
    omega
theorem law_are_marks_ev (t:T) (many:Int) (h:Wf 40 t):M__law_are_marks [t,.int many]=some (.bl (areM t many)):=by
 refine I__law_are_marks ?_
 unfold F__law_are_marks
 cases t with
 | tup ts =>
   have hlen:=h.tup_len
   have hd:∀ t ∈ ts,dep t ≤ 40:=fun t ht=>Nat.le_trans (h.tup_mem ht).d (by omega)
   have k1:compL (gNm 0) C1__law_are_marks (gv 0) [none,some (.pu (.int many))] ts=some (ts.filter fun t=>!numB 0 (many - 1) t):=by
    refine compL_filter _ _ fun t ht=>⟨_,b_gNm set_z,?_,fun _=>rfl⟩
    unfold C1__law_are_marks
    walk_at "tl"
   have hd1:dep (.lst (ts.filter fun t=>!numB 0 (many - 1) t)) ≤ 60:=Nat.le_trans (dep_filter hd) (by decide)
   by_cases hn:∀ t ∈ ts,numB 0 (many - 1) t=true
   ·have e0:(ts.filter fun t=>!numB 0 (many - 1) t)=[]:=by
     rw [List.filter_eq_nil_iff]
     intro t ht
     simp [hn t ht]
    rw [e0] at k1 hd1
    obtain ⟨is,rfl,hb⟩:=all_ints hn
    have k2:compL (gNm 0) C2__law_are_marks (gv 0) [none,some (.pu (.tup (is.map T.int)))] (rangeT 1 (((is.map T.int).length:Int) - 1).toNat)=some ((rangeT 1 (((is.map T.int).length:Int) - 1).toNat).filter fun t=>match t with | .int k=>decide (is.getD k.toNat 0 ≤ is.getD (k.toNat - 1) 0) | _=>false):=by
     refine compL_filter _ _ fun t ht=>?_
     obtain ⟨j,hj,rfl⟩:=List.mem_map.mp ht
     have hj:=List.mem_range.mp hj
     have hjl:j + 1 < is.length:=by simp at hj; omega
     have e1:atI (is.map T.int) (1 + (j:Int))=some (.int (is.getD (j + 1) 0)):=atI_nat' (by omega) (by
      have:(1 + (j:Int)).toNat=j + 1:=by omega
      rw [this]; simp [hjl])
     have e2:atI (is.map T.int) (1 + (j:Int) - 1)=some (.int (is.getD j 0)):=atI_nat' (by omega) (by
      have:(1 + (j:Int) - 1).toNat=j:=by omega
      rw [this]; simp [show j < is.length by omega])
     refine ⟨_,b_gNm set_z,?_,fun _=>rfl⟩
     unfold C2__law_are_marks
     apply ev_eq
     walk_at "tl"
     have:(1 + (j:Int)).toNat=j + 1:=by omega
     show _=decide (is.getD (1 + (j:Int)).toNat 0 ≤ is.getD ((1 + (j:Int)).toNat - 1) 0)
     rw [this]; rfl
    have hd2:dep (.lst ((rangeT 1 (((is.map T.int).length:Int) - 1).toNat).filter fun t=>match t with | .int k=>decide (is.getD k.toNat 0 ≤ is.getD (k.toNat - 1) 0) | _=>false)) ≤ 60:=Nat.le_trans (dep_filter (d:=0) fun t ht=>by
     obtain ⟨j,hj,rfl⟩:=List.mem_map.mp ht
     rw [dep_int]; omega) (by decide)
    have hlen':is.length ≤ 1000:=by simpa using hlen
    have e3:((rangeT 1 (((is.map T.int).length:Int) - 1).toNat).filter fun t=>match t with | .int k=>decide (is.getD k.toNat 0 ≤ is.getD (k.toNat - 1) 0) | _=>false).isEmpty=areM (.tup (is.map T.int)) many:=by
     show _=upB many 0 (is.map T.int)
     rw [Bool.eq_iff_iff,upB_ints many is 0 (fun i hi=>by have:=hb i hi; omega),List.isEmpty_iff,List.filter_eq_nil_iff]
     constructor
     ·intro hf
      refine ⟨fun a e=>(hb a (List.mem_of_mem_head? e)).1,fun k a b e1 e2=>?_⟩
      have hk:=(List.getElem?_eq_some_iff.mp e2).1
      have:=hf (.int (1 + (k:Int))) (List.mem_map.mpr ⟨k,List.mem_range.mpr (by simp; omega),rfl⟩)
      have ek:(1 + (k:Int)).toNat=k + 1:=by omega
      simp only [ek,decide_eq_true_eq,List.getD_eq_getElem?_getD,e2,Nat.add_sub_cancel,e1,Option.getD_some] at this
      omega
     ·rintro ⟨_,h2⟩ t ht
      obtain ⟨j,hj,rfl⟩:=List.mem_map.mp ht
      have hj:=List.mem_range.mp hj
      have hjl:j + 1 < is.length:=by simp at hj; omega
      have ek:(1 + (j:Int)).toNat=j + 1:=by omega
      have:=h2 j _ _ (List.getElem?_eq_getElem (show j < is.length by omega)) (List.getElem?_eq_getElem hjl)
      simp only [ek,decide_eq_true_eq,List.getD_eq_getElem?_getD,List.getElem?_eq_getElem hjl,Nat.add_sub_cancel,List.getElem?_eq_getElem (show j < is.length by omega),Option.getD_some]
      omega
    walk_at "tl"
    rw [teq_nil_l,e3]
   ·have e0:(ts.filter fun t=>!numB 0 (many - 1) t).isEmpty=false:=by
     rw [Bool.eq_false_iff]
     intro z
     apply hn
     intro t ht
     rw [List.isEmpty_iff,List.filter_eq_nil_iff] at z
     have:=z t ht
     simpa using this
    have e1:areM (.tup ts) many=false:=by
     rw [Bool.eq_false_iff]
     intro z
     exact hn (upB_num many 0 ts (by omega) z)
    walk_at "tl"
    all_goals first | (rename_i hh; exfalso; simp [e0] at hh; done) | rw [e1]
 | _=>(walk_at "tl")
local macro_rules | `(tactic| walk_at "tl call")=>`(tactic| with_reducible refine law_are_marks_ev _ _ (by assumption))
theorem pair_ev (t:T):M_is_pair [t]=some (.bl (match t with | .tup ts=>(ts.length:Int) == 2 | _=>false)):=by
 refine I_is_pair ?_
 unfold F_is_pair
 cases t <;> walk_at "tl"
local macro_rules | `(tactic| walk_at "tl call")=>`(tactic| with_reducible exact pair_ev _)
theorem atI2_0 {α:Type} {a b:α}:atI [a,b] 0=some a:=rfl
theorem atI2_1 {α:Type} {a b:α}:atI [a,b] 1=some b:=rfl
local macro_rules | `(tactic| walk_at "tl call")=>`(tactic| with_reducible exact atI2_0)
local macro_rules | `(tactic| walk_at "tl call")=>`(tactic| with_reducible exact atI2_1)
def isTab:T → Bool
 | .tup [.int m,.tup rs]=>decide (1 ≤ m) && decide (m ≤ 6) && decide (rs.length ≤ 64) && rs.all fun r=>areM r m
 | _=>false
theorem isTab_len {ts:List T} (h:ts.length ≠ 2):isTab (.tup ts)=false:=by
 match ts,h with
 | [],_=>rfl
 | [_],_=>simp [isTab]
 | [_,_],h=>simp at h
 | _ :: _ :: _ :: _,_=>simp [isTab]
theorem is_table_ev (t:T):M_is_table [t]=some (.bl (isTab t)):=by
 refine I_is_table ?_
 unfold F_is_table
 cases t with
 | tup ts =>
   by_cases h2:ts.length=2
   ·obtain ⟨a,b,rfl⟩:∃ a b,ts=[a,b]:=by
     match ts,h2 with
     | [a,b],_=>exact ⟨a,b,rfl⟩
    cases a with
    | int m =>
      cases b with
      | tup rs =>
        have key:compL (gNm 0) fYes E1_is_table [none,some (.pu (.int m))] rs=some (rs.map fun r=>T.bl (areM r m)):=by
         refine compL_all _ _ fun t ht=>⟨_,b_gNm set_z,rfl,?_⟩
         unfold E1_is_table
         walk_at "tl"
        by_cases h1:1 ≤ m ∧ m ≤ 6
        ·by_cases h3:rs.length ≤ 64
         ·have hs:rs.length ≤ sizeLine:=sizeLine_ge (by omega)
          walk_at "tl"
          simp [isTab,h1,h3]
         ·walk_at "tl"
          simp [isTab,h3]
        ·walk_at "tl"
         simp [isTab]
         omega
      | _ =>
        by_cases h1:1 ≤ m ∧ m ≤ 6
        ·walk_at "tl"
        ·walk_at "tl"
    | _=>walk_at "tl"
   ·rw [isTab_len h2]
    walk_at "tl"
 | _=>walk_at "tl"
local macro_rules | `(tactic| walk_at "tl call")=>`(tactic| with_reducible exact is_table_ev _)
theorem law_is_table_ev (t:T) (h:Wf 40 t):M__law_is_table [t]=some (.bl (isTab t)):=by
 refine I__law_is_table ?_
 unfold F__law_is_table
 cases t with
 | tup ts =>
   by_cases h2:ts.length=2
   ·obtain ⟨a,b,rfl⟩:∃ a b,ts=[a,b]:=by
     match ts,h2 with
     | [a,b],_=>exact ⟨a,b,rfl⟩
    cases a with
    | int m =>
      cases b with
      | tup rs =>
        have hb:Wf 39 (.tup rs):=h.tup_mem (by simp)
        have key:compL (gNm 0) C1__law_is_table (gv 0) [none,some (.pu (.tup [.int m,.tup rs]))] rs=some (rs.filter fun r=>!areM r m):=by
         refine compL_filter _ _ fun t ht=>⟨_,b_gNm set_z,?_,fun _=>rfl⟩
         have hw:Wf 40 t:=(hb.tup_mem ht).mono (by omega)
         unfold C1__law_is_table
         walk_at "tl"
        have hd:dep (.lst (rs.filter fun r=>!areM r m)) ≤ 60:=Nat.le_trans (dep_filter fun t ht=>(hb.tup_mem ht).d) (by decide)
        have e3:(rs.filter fun r=>!areM r m).isEmpty=rs.all fun r=>areM r m:=by
         rw [Bool.eq_iff_iff,List.isEmpty_iff,List.filter_eq_nil_iff,List.all_eq_true]
         exact ⟨fun h x hx=>by simpa using h x hx,fun h x hx=>by simpa using h x hx⟩
        by_cases h1:1 ≤ m ∧ m ≤ 6
        ·by_cases h3:rs.length ≤ 64
         ·have hs:rs.length ≤ sizeLine:=sizeLine_ge (by omega)
          walk_at "tl"
          rw [teq_nil_l,e3]
          simp [isTab,h1,h3]
         ·walk_at "tl"
          simp [isTab,h3]
        ·walk_at "tl"
         simp [isTab]
         omega
      | _ =>
        by_cases h1:1 ≤ m ∧ m ≤ 6
        ·walk_at "tl"
        ·walk_at "tl"
    | _=>walk_at "tl"
   ·rw [isTab_len h2]
    walk_at "tl"
 | _=>walk_at "tl"
local macro_rules | `(tactic| walk_at "tl call")=>`(tactic| with_reducible refine law_is_table_ev _ (by assumption))
def rulePairs (n:Int) (m:Nat) (j:Nat):List Nat × List Nat:=(mk (dr n (2 * (j:Int))) m,mk (dr n (2 * (j:Int) + 1)) m)
abbrev tRule (r:List Nat × List Nat):T:=.tup [tupN r.1,tupN r.2]
theorem rules_turn (n m:Int) (j:Nat) (rs:List T) (h0:0 ≤ m) (hm:m ≤ 1000) (hr:rs.length < 1000) :
  B1__law_rules [some (.pu (.int n)),some (.pu (.int m)),some (.ow rs),some (.pu (tN j))]=some (.nx [some (.pu (.int n)),some (.pu (.int m)),some (.ow (rs ++ [tRule (rulePairs n m.toNat j)])),some (.pu (tN j))]):=by
 unfold B1__law_rules
 walk_at "tl"
 rfl
def rulesOf (n:Int) (m c:Nat):List (List Nat × List Nat):=(List.range c).map (rulePairs n m)
theorem rules_loop (n m:Int) (c:Nat) (h0:0 ≤ m) (hm:m ≤ 1000) (hc:c ≤ 100):∃ o,loopF (gNm 3) B1__law_rules (rangeT 0 c) [some (.pu (.int n)),some (.pu (.int m)),some (.ow []),none]=some (.nx [some (.pu (.int n)),some (.pu (.int m)),some (.ow ((rulesOf n m.toNat c).map tRule)),o]):=by
 obtain ⟨ρ2,hl,o,e⟩:=loopF_range (g:=gNm 3) (b:=B1__law_rules) (fun i ρ=>∃ o,ρ=[some (.pu (.int n)),some (.pu (.int m)),some (.ow ((rulesOf n m.toNat i).map tRule)),o]) c
  [some (.pu (.int n)),some (.pu (.int m)),some (.ow []),none] (fun i ρ hi ⟨o,e⟩=>by
   subst e
   refine ⟨_,_,b_gNm (set_s (set_s (set_s set_z))),rules_turn n m i _ h0 hm (by simp [rulesOf]; omega),some (.pu (tN i)),?_⟩
   unfold rulesOf
   rw [List.range_succ,List.map_append,List.map_append]; rfl) ⟨none,rfl⟩
 subst e
 exact ⟨o,hl⟩
theorem rulesOf_ok (n:Int) (m c:Nat):∀ r ∈ rulesOf n m c,Mks m r.1 ∧ Mks m r.2:=by
 intro r hr
 obtain ⟨j,_,rfl⟩:=List.mem_map.mp hr
 exact ⟨mk_ok _ _,mk_ok _ _⟩
theorem rulesOf_len (n:Int) (m c:Nat):(rulesOf n m c).length=c:=by simp [rulesOf]
theorem rules_ev (n m:Int) (h0:0 ≤ m) (hm:m ≤ 1000):∃ c,c ≤ 8 ∧ M__law_rules [.int n,.int m]=some (.tup ((rulesOf n m.toNat c).map tRule)):=by
 obtain ⟨c,hc,e⟩:∃ c:Nat,c ≤ 8 ∧ atI [T.int 0,.int 1,.int 2,.int 3,.int 5,.int 8] (n % 6)=some (.int (c:Int)):=by
  obtain ⟨x,hx,e⟩:=atI_mem (xs:=[T.int 0,.int 1,.int 2,.int 3,.int 5,.int 8]) (i:=n % 6) (by omega) (by show _ < (6:Int); omega)
  simp only [List.mem_cons,List.not_mem_nil,or_false] at hx
  rcases hx with rfl | rfl | rfl | rfl | rfl | rfl
  ·exact ⟨0,by omega,e⟩
  ·exact ⟨1,by omega,e⟩
  ·exact ⟨2,by omega,e⟩
  ·exact ⟨3,by omega,e⟩
  ·exact ⟨5,by omega,e⟩
  ·exact ⟨8,by omega,e⟩
 obtain ⟨o,hl⟩:=rules_loop n m c h0 hm (by omega)
 refine ⟨c,hc,I__law_rules ?_⟩
 unfold F__law_rules
 have ec:((c:Nat):Int).toNat=c:=Int.toNat_natCast c
 rw [← ec] at hl
 walk_at "tl"
 rw [ec]
def isRul (m:Int):T → Bool
 | .tup [a,b]=>areM a m && areM b m
 | _=>false
theorem isRul_len {m:Int} {ts:List T} (h:ts.length ≠ 2):isRul m (.tup ts)=false:=by
 match ts,h with
 | [],_=>rfl
 | [_],_=>rfl
 | [_,_],h=>simp at h
 | _ :: _ :: _ :: _,_=>rfl
theorem is_rule_ev (t:T) (m:Int):M_is_rule [t,.int m]=some (.bl (isRul m t)):=by
 refine I_is_rule ?_
 unfold F_is_rule
 cases t with
 | tup ts =>
   by_cases h2:ts.length=2
   ·obtain ⟨a,b,rfl⟩:∃ a b,ts=[a,b]:=by
     match ts,h2 with
     | [a,b],_=>exact ⟨a,b,rfl⟩
    walk_at "tl"
   ·have h3:((ts.length:Int) == 2)=false:=by simp; omega
    walk_at "tl"
    rw [isRul_len h2]; simp [h3]
 | _=>walk_at "tl"
local macro_rules | `(tactic| walk_at "tl call")=>`(tactic| with_reducible exact is_rule_ev _ _)
def areRul (m:Int):T → Bool
 | .tup ts=>decide (ts.length ≤ 64) && ts.all fun r=>isRul m r
 | _=>false
theorem are_rules_ev (t:T) (m:Int):M_are_rules [t,.int m]=some (.bl (areRul m t)):=by
 refine I_are_rules ?_
 unfold F_are_rules
 cases t with
 | tup ts =>
   have key:compL (gNm 0) fYes E1_are_rules [none,some (.pu (.int m))] ts=some (ts.map fun r=>T.bl (isRul m r)):=by
    refine compL_all _ _ fun t ht=>⟨_,b_gNm set_z,rfl,?_⟩
    unfold E1_are_rules
    walk_at "tl"
   by_cases h3:ts.length ≤ 64
   ·walk_at "tl"
    simp [areRul,h3]
   ·walk_at "tl"
    simp [areRul,h3]
 | _=>walk_at "tl"
local macro_rules | `(tactic| walk_at "tl call")=>`(tactic| with_reducible exact are_rules_ev _ _)
theorem law_is_rule_ev (t:T) (m:Int) (h:Wf 40 t):M__law_is_rule [t,.int m]=some (.bl (isRul m t)):=by
 refine I__law_is_rule ?_
 unfold F__law_is_rule
 cases t with
 | tup ts =>
   by_cases h2:ts.length=2
   ·obtain ⟨a,b,rfl⟩:∃ a b,ts=[a,b]:=by
     match ts,h2 with
     | [a,b],_=>exact ⟨a,b,rfl⟩
    have ha:Wf 40 a:=(h.tup_mem (d:=39) (by simp)).mono (by omega)
    have hb:Wf 40 b:=(h.tup_mem (d:=39) (by simp)).mono (by omega)
    walk_at "tl"
   ·walk_at "tl"
    rw [isRul_len h2]
 | _=>walk_at "tl"
local macro_rules | `(tactic| walk_at "tl call")=>`(tactic| with_reducible refine law_is_rule_ev _ _ (by assumption))
theorem law_are_rules_ev (t:T) (m:Int) (h:Wf 40 t):M__law_are_rules [t,.int m]=some (.bl (areRul m t)):=by
 refine I__law_are_rules ?_
 unfold F__law_are_rules
 cases t with
 | tup ts =>
   have key:compL (gNm 0) C1__law_are_rules (gv 0) [none,some (.pu (.int m))] ts=some (ts.filter fun r=>!isRul m r):=by
    refine compL_filter _ _ fun t ht=>⟨_,b_gNm set_z,?_,fun _=>rfl⟩
    have hw:Wf 40 t:=(h.tup_mem (d:=39) ht).mono (by omega)
    unfold C1__law_are_rules
    walk_at "tl"
   have hd:dep (.lst (ts.filter fun r=>!isRul m r)) ≤ 60:=Nat.le_trans (dep_filter fun t ht=>(h.tup_mem (d:=39) ht).d) (by decide)
   have e3:(ts.filter fun r=>!isRul m r).isEmpty=ts.all fun r=>isRul m r:=by
    rw [Bool.eq_iff_iff,List.isEmpty_iff,List.filter_eq_nil_iff,List.all_eq_true]
    exact ⟨fun h x hx=>by simpa using h x hx,fun h x hx=>by simpa using h x hx⟩
   by_cases h3:ts.length ≤ 64
   ·walk_at "tl"
    rw [teq_nil_l,e3]
    simp [areRul,h3]
   ·walk_at "tl"
    simp [areRul,h3]
 | _=>walk_at "tl"
local macro_rules | `(tactic| walk_at "tl call")=>`(tactic| with_reducible refine law_are_rules_ev _ _ (by assumption))
theorem log_small {i:Int} (h0:-1000 ≤ i) (h1:i ≤ 1000):i.natAbs.log2 < 1920:=by
 by_cases h:i.natAbs=0
 ·rw [h]; simp
 ·rw [Nat.log2_lt h]
  exact Nat.lt_of_le_of_lt (show i.natAbs ≤ 1000 by omega) (by decide)
def dg (i:Int):Str:=toString i
theorem six_cases {i:Int} (h0:0 ≤ i) (h1:i ≤ 6):i=0 ∨ i=1 ∨ i=2 ∨ i=3 ∨ i=4 ∨ i=5 ∨ i=6:=by omega
theorem dg_len {i:Int} (h0:0 ≤ i) (h1:i ≤ 6):(dg i).length ≤ 5:=by
 rcases six_cases h0 h1 with rfl | rfl | rfl | rfl | rfl | rfl | rfl <;> decide +kernel
theorem dg_ev {i:Int} (h0:0 ≤ i) (h1:i ≤ 6):tStrOf (.int i)=some (.str (dg i)):=tStr_i (log_small (by omega) (by omega))
def Wk (ys:List Str):Prop:=∀ y ∈ ys,y.length ≤ 5
theorem Wk.app {a b:List Str} (h:Wk a) (k:Wk b):Wk (a ++ b):=fun y hy=>(List.mem_append.mp hy).elim (h y) (k y)
theorem Wk.cons {a:Str} {b:List Str} (h:a.length ≤ 5) (k:Wk b):Wk (a :: b):=fun y hy=>(List.mem_cons.mp hy).elim (fun e=>e ▸ h) (k y)
theorem Wk.nil:Wk []:=fun _ h=>nomatch h
theorem wgt_cons (y:Str) (ys:List Str):wgt (y :: ys)=y.length + 1 + wgt ys:=by simp [wgt]; omega
theorem wgt_le:∀ {ys:List Str},Wk ys → wgt ys ≤ 6 * ys.length
 | [],_=>by simp [wgt]
 | y :: ys,h=>by
   have:=wgt_le (ys:=ys) fun z hz=>h z (List.mem_cons_of_mem _ hz)
   have:=h y List.mem_cons_self
   rw [wgt_cons,List.length_cons]
   omega
theorem strsT_map:∀ (ys:List Str),strsT (ys.map T.str)=some ys
 | []=>rfl
 | y :: ys=>by rw [List.map_cons,strsT,strsT_map ys]; rfl
theorem tJoin_ev {ys:List Str} (h:wgt ys ≤ 1048576):tJoin (.str " ") (.lst (ys.map T.str))=some (.str (Str.join " " ys)):=by
 unfold tJoin
 dsimp only
 rw [strsT_map]
 exact if_pos ⟨by decide +kernel,h⟩
theorem join_two (sep x y:Str) (r:List Str):Str.join sep (x :: y :: r)=x ++ sep ++ Str.join sep (y :: r):=rfl
theorem join_app (sep:Str):∀ (a b:List Str),a ≠ [] → b ≠ [] → Str.join sep (a ++ b)=Str.join sep a ++ sep ++ Str.join sep b
 | [],_,h,_=>absurd rfl h
 | [x],y :: r,_,_=>rfl
 | [x],[],_,h=>absurd rfl h
 | x :: y :: a,b,_,hb=>by
   rw [List.cons_append,List.cons_append,join_two,join_two,← List.cons_append,join_app sep (y :: a) b (by simp) hb]
   simp only [Str.append_assoc]
theorem join_len (sep:Str) (hs:sep.length ≤ 1):∀ (a:List Str),(Str.join sep a).length ≤ wgt a
 | []=>by simp [Str.join,Str.empty,Str.length]
 | [x]=>by rw [show Str.join sep [x]=x from rfl,wgt_cons]; omega
 | x :: y :: a=>by
   have:=join_len sep hs (y :: a)
   rw [join_two,Str.length_append,Str.length_append,wgt_cons]
   omega
theorem sp1:((" ":Str)).length ≤ 1:=by decide +kernel
structure Rw (r:List Int):Prop where
 b:∀ i ∈ r,0 ≤ i ∧ i ≤ 6
 l:r.length ≤ 6
def tupI (r:List Int):T:=.tup (r.map T.int)
def wrd (a:Str) (e:List Str) (r:List Int):List Str:=a :: (r.map dg ++ e)
theorem wrd_wk {a:Str} {e:List Str} {r:List Int} (ha:a.length ≤ 5) (he:Wk e) (h:Rw r):Wk (wrd a e r):=.cons ha (.app (fun y hy=>by
 obtain ⟨i,hi,rfl⟩:=List.mem_map.mp hy
 exact dg_len (h.b i hi).1 (h.b i hi).2) he)
theorem wrd_len {a:Str} {e:List Str} {r:List Int} (h:Rw r) (he:e.length ≤ 1):(wrd a e r).length ≤ 8:=by
 have:=h.l
 simp [wrd]; omega
theorem words_comp {E:FE} {g:FG} {ρ:Rho} {r:List Int} (h:Rw r) (k:∀ i,0 ≤ i → i ≤ 6 → ∃ ρ1,g (.int i) ρ=some ρ1 ∧ E ρ1=some (.str (dg i))):compL g fYes E ρ (r.map T.int)=some ((r.map dg).map T.str):=by
 rw [compL_all (fun t=>match t with | .int i=>.str (dg i) | t=>t) (r.map T.int) fun t ht=>?_]
 ·rw [List.map_map,List.map_map]; rfl
 ·obtain ⟨i,hi,rfl⟩:=List.mem_map.mp ht
  obtain ⟨ρ1,h1,h2⟩:=k i (h.b i hi).1 (h.b i hi).2
  exact ⟨ρ1,h1,rfl,h2⟩
theorem law_row_ev {a:Str} {e:List Str} {r:List Int} (h:Rw r) (ha:a.length ≤ 5) (he:Wk e) (hl:e.length ≤ 1):M__law_row [.str a,tupI r,.lst (e.map T.str)]=some (.str (Str.join " " (wrd a e r))):=by
 refine I__law_row ?_
 unfold F__law_row
 have hr:=h.l
 have c:compL (gNm 0) fYes E1__law_row [none] (r.map T.int)=some ((r.map dg).map T.str):=words_comp h fun i h0 h1=>⟨_,b_gNm set_z,by
  unfold E1__law_row
  exact b_f1 (b_gv get_z) (dg_ev h0 h1)⟩
 refine b_ret (b_f2 b_kc (b_f2 (b_f2 (b_new (b_lst (b_cons (b_gv get_z) b_nil) (sizeLine_ge (by simp)))) (b_new (b_comp (b_itT (b_gv (get_s get_z))) (sizeLine_ge (by simp; omega)) (sub_n sub_z) c)) (tAdd_l (sizeLine_ge (by simp; omega)))) (b_gv (get_s (get_s get_z))) (tAdd_l (sizeLine_ge (by simp; omega)))) (?_:tJoin _ _=some (.str (Str.join " " (wrd a e r))))) rfl
 have:=tJoin_ev (ys:=wrd a e r) (by have:=wgt_le (wrd_wk ha he h); have:=wrd_len (a:=a) h hl; omega)
 rw [← this]
 simp [wrd]
theorem up_ints (m:Int):∀ (ts:List T) (l:Int),0 ≤ l → upB m l ts=true → ∃ is:List Int,ts=is.map T.int ∧ (∀ i ∈ is,l ≤ i ∧ i < m) ∧ ((is.length:Int) ≤ m - l ∨ is=[])
 | [],l,_,_=>⟨[],rfl,(fun i h=>by cases h),Or.inr rfl⟩
 | .int i :: ts,l,h0,h=>by
   simp only [upB,Bool.and_eq_true,decide_eq_true_eq] at h
   obtain ⟨⟨h1,h2⟩,h3⟩:=h
   obtain ⟨is,rfl,h4,h5⟩:=up_ints m ts (i + 1) (by omega) h3
   refine ⟨i :: is,rfl,fun j hj=>?_,.inl ?_⟩
   ·rcases List.mem_cons.mp hj with rfl | hj
    ·exact ⟨h1,h2⟩
    ·have:=h4 j hj; omega
   ·rcases h5 with h5 | rfl
    ·simp; omega
    ·simp; omega
 | .non :: _,_,_,h=>by simp [upB] at h
 | .bl _ :: _,_,_,h=>by simp [upB] at h
 | .str _ :: _,_,_,h=>by simp [upB] at h
 | .tup _ :: _,_,_,h=>by simp [upB] at h
 | .lst _ :: _,_,_,h=>by simp [upB] at h
 | .dct _ :: _,_,_,h=>by simp [upB] at h
theorem areM_rw {t:T} {m:Int} (hm:m ≤ 6) (h:areM t m=true):∃ r,t=tupI r ∧ Rw r:=by
 cases t with
 | tup ts =>
   obtain ⟨is,rfl,h1,h2⟩:=up_ints m ts 0 (by omega) h
   refine ⟨is,rfl,⟨fun i hi=>by have:=h1 i hi; omega,?_⟩⟩
   rcases h2 with h2 | rfl
   ·omega
   ·simp
 | _=>simp [areM] at h
theorem all_map {α:Type} {k:α → T} {P:α → Prop}:∀ {ts:List T},(∀ t ∈ ts,∃ r,t=k r ∧ P r) → ∃ rs:List α,ts=rs.map k ∧ ∀ r ∈ rs,P r
 | [],_=>⟨[],rfl,(fun i h=>by cases h)⟩
 | t :: ts,h=>by
   obtain ⟨r,rfl,hr⟩:=h t List.mem_cons_self
   obtain ⟨rs,rfl,hrs⟩:=all_map (ts:=ts) fun u hu=>h u (List.mem_cons_of_mem _ hu)
   exact ⟨r :: rs,rfl,fun x hx=>(List.mem_cons.mp hx).elim (fun e=>e ▸ hr) (hrs x)⟩
theorem w5 {s:Str} (h:s.length ≤ 5):Wk [s]:=.cons h .nil
theorem l_thing:(("thing":Str)).length ≤ 5:=by decide +kernel
theorem l_end:(("end":Str)).length ≤ 5:=by decide +kernel
theorem l_if:(("if":Str)).length ≤ 5:=by decide +kernel
theorem l_then:(("then":Str)).length ≤ 5:=by decide +kernel
theorem l_table:(("table":Str)).length ≤ 5:=by decide +kernel
theorem l_rules:(("rules":Str)).length ≤ 5:=by decide +kernel
def rowW (r:List Int):List Str:=wrd "thing" ["end"] r
theorem rowW_wk {r:List Int} (h:Rw r):Wk (rowW r):=wrd_wk l_thing (w5 l_end) h
theorem rowW_len {r:List Int} (h:Rw r):(rowW r).length ≤ 8:=wrd_len h (by simp)
def ruleW (p:List Int × List Int):List Str:=wrd "if" [] p.1 ++ wrd "then" ["end"] p.2
theorem ruleW_wk {p:List Int × List Int} (h:Rw p.1 ∧ Rw p.2):Wk (ruleW p):=.app (wrd_wk l_if .nil h.1) (wrd_wk l_then (w5 l_end) h.2)
theorem ruleW_len {p:List Int × List Int} (h:Rw p.1 ∧ Rw p.2):(ruleW p).length ≤ 16:=by
 have:=wrd_len (a:="if") (e:=[]) h.1 (by simp)
 have:=wrd_len (a:="then") (e:=["end"]) h.2 (by simp)
 simp only [ruleW,List.length_append]; omega
def tabW (m:Int) (rs:List (List Int)):List Str:=([("table":Str),dg m]:List Str) ++ rs.flatMap rowW
theorem flat_wk {α:Type} {k:α → List Str}:∀ {rs:List α},(∀ r ∈ rs,Wk (k r)) → Wk (rs.flatMap k)
 | [],_=>.nil
 | r :: rs,h=>by
   rw [List.flatMap_cons]
   exact .app (h r List.mem_cons_self) (flat_wk fun u hu=>h u (List.mem_cons_of_mem _ hu))
theorem flat_len {α:Type} {k:α → List Str} {n:Nat}:∀ {rs:List α},(∀ r ∈ rs,(k r).length ≤ n) → (rs.flatMap k).length ≤ n * rs.length
 | [],_=>by simp
 | r :: rs,h=>by
   have:=flat_len (rs:=rs) fun u hu=>h u (List.mem_cons_of_mem _ hu)
   have:=h r List.mem_cons_self
   rw [List.flatMap_cons,List.length_append,List.length_cons,Nat.mul_succ]
   omega
theorem tAdd_s {x y:Str} (h:x.length + y.length ≤ 1000000):tAdd (.str x) (.str y)=some (.str (x ++ y)):=if_pos (sizeLine_ge (by omega))
theorem law_written_loop (x:T):∀ (rs:List (List Int)) (ws:List Str) (o:Option Sl),(∀ r ∈ rs,Rw r) → Wk ws → ws ≠ [] → ws.length + 8 * rs.length ≤ 2000 →
  ∃ o',loopF (gNm 2) B1__law_written (rs.map tupI) [some (.pu x),some (.pu (.str (Str.join " " ws))),o]=some (.nx [some (.pu x),some (.pu (.str (Str.join " " (ws ++ rs.flatMap rowW)))),o'])
 | [],ws,o,_,_,_,_=>⟨o,by simp [loopF]⟩
 | r :: rs,ws,o,h,hw,hn,hl=>by
   have hr:=h r List.mem_cons_self
   have hk:=rowW_len hr
   rw [List.length_cons] at hl
   obtain ⟨o',ih⟩:=law_written_loop x rs (ws ++ rowW r) (some (.pu (tupI r))) (fun u hu=>h u (List.mem_cons_of_mem _ hu)) (.app hw (rowW_wk hr)) (by simp [rowW,wrd]) (by rw [List.length_append]; omega)
   have b1:=Nat.le_trans (join_len " " sp1 ws) (wgt_le hw)
   have b2:=Nat.le_trans (join_len " " sp1 (rowW r)) (wgt_le (rowW_wk hr))
   have b3:=sp1
   have turn:B1__law_written [some (.pu x),some (.pu (.str (Str.join " " ws))),some (.pu (tupI r))]=some (.nx [some (.pu x),some (.pu (.str (Str.join " " (ws ++ rowW r)))),some (.pu (tupI r))]):=by
    unfold B1__law_written
    rw [join_app " " ws (rowW r) hn (by simp [rowW,wrd])]
    exact b_set (b_f2 (b_f2 (b_gv (get_s get_z)) b_kc (tAdd_s (by omega))) (b_call (b_cons b_kc (b_cons (b_gv (get_s (get_s get_z))) (b_cons (b_new (b_lst (b_cons b_kc b_nil) (sizeLine_ge (by simp)))) b_nil))) rfl (law_row_ev (e:=["end"]) hr l_thing (w5 l_end) (by simp))) (tAdd_s (by rw [Str.length_append]; unfold rowW at b2 hk; omega))) (set_s set_z)
   refine ⟨o',?_⟩
   rw [List.map_cons]
   unfold loopF
   rw [show gNm 2 (tupI r) [some (.pu x),some (.pu (.str (Str.join " " ws))),o]=some [some (.pu x),some (.pu (.str (Str.join " " ws))),some (.pu (tupI r))] from rfl]
   dsimp only
   rw [turn]
   dsimp only
   rw [ih,List.flatMap_cons,List.append_assoc]
theorem law_written_ev {t:T} {m:Int} {rs:List (List Int)} (et:t=.tup [.int m,.tup (rs.map tupI)]) (h1:1 ≤ m) (h2:m ≤ 6) (h3:rs.length ≤ 64) (hr:∀ r ∈ rs,Rw r):M__law_written [t]=some (.str (Str.join " " (tabW m rs))):=by
 have dl:=dg_len (i:=m) (by omega) h2
 obtain ⟨o',hl⟩:=law_written_loop t rs [("table":Str),dg m] none hr (.cons l_table (w5 dl)) (by simp) (by simp; omega)
 refine I__law_written ?_
 unfold F__law_written
 have i0:f2 tIx (gv 0) (kc (.int 0)) [some (.pu t),none,none]=some (.int m):=b_f2 (b_gv get_z) b_kc (by rw [et]; exact tIx_t' atI2_0)
 have e0:(("table ":Str)) ++ dg m=Str.join " " [("table":Str),dg m]:=by
  rw [join_two,show Str.join " " [dg m]=dg m from rfl]
  congr 1
 have lt:(("table ":Str)).length ≤ 6:=by decide +kernel
 refine b_seq (b_set (b_f2 b_kc (b_f1 i0 (dg_ev (by omega) h2)) (tAdd_s (by omega))) (set_s set_z)) ?_
 rw [e0]
 refine b_seqFor (b_itT (b_f2 (b_gv get_z) b_kc (by rw [et]; exact tIx_t' atI2_1))) hl (b_thenN ?_)
 exact b_ret (b_gv (get_s get_z)) rfl
def tRl (p:List Int × List Int):T:=.tup [tupI p.1,tupI p.2]
def rulW (m:Int) (rs:List (List Int × List Int)):List Str:=([("rules":Str),dg m]:List Str) ++ rs.flatMap ruleW
theorem law_shown_loop (x y:T):∀ (rs:List (List Int × List Int)) (ws:List Str) (o3 o4:Option Sl),(∀ p ∈ rs,Rw p.1 ∧ Rw p.2) → Wk ws → ws ≠ [] → ws.length + 16 * rs.length ≤ 2000 →
  ∃ o3' o4',loopF (gTp2 3 4) B1__law_shown (rs.map tRl) [some (.pu x),some (.pu y),some (.pu (.str (Str.join " " ws))),o3,o4]=some (.nx [some (.pu x),some (.pu y),some (.pu (.str (Str.join " " (ws ++ rs.flatMap ruleW)))),o3',o4'])
 | [],ws,o3,o4,_,_,_,_=>⟨o3,o4,by simp [loopF]⟩
 | p :: rs,ws,o3,o4,h,hw,hn,hl=>by
   have hr:=h p List.mem_cons_self
   have hk:=ruleW_len hr
   rw [List.length_cons] at hl
   obtain ⟨o3',o4',ih⟩:=law_shown_loop x y rs (ws ++ ruleW p) (some (.pu (tupI p.1))) (some (.pu (tupI p.2))) (fun u hu=>h u (List.mem_cons_of_mem _ hu)) (.app hw (ruleW_wk hr)) (by simp [ruleW,wrd]) (by rw [List.length_append]; omega)
   have w1:Wk (wrd "if" [] p.1):=wrd_wk l_if .nil hr.1
   have w2:Wk (wrd "then" ["end"] p.2):=wrd_wk l_then (w5 l_end) hr.2
   have n1:=wrd_len (a:="if") (e:=[]) hr.1 (by simp)
   have n2:=wrd_len (a:="then") (e:=["end"]) hr.2 (by simp)
   have b1:=Nat.le_trans (join_len " " sp1 ws) (wgt_le hw)
   have b2:=Nat.le_trans (join_len " " sp1 _) (wgt_le w1)
   have b4:=Nat.le_trans (join_len " " sp1 _) (wgt_le w2)
   have b3:=sp1
   have turn:B1__law_shown [some (.pu x),some (.pu y),some (.pu (.str (Str.join " " ws))),some (.pu (tupI p.1)),some (.pu (tupI p.2))]=some (.nx [some (.pu x),some (.pu y),some (.pu (.str (Str.join " " (ws ++ ruleW p)))),some (.pu (tupI p.1)),some (.pu (tupI p.2))]):=by
    unfold B1__law_shown
    rw [ruleW,join_app " " ws _ hn (by simp [wrd]),join_app " " _ (wrd "then" ["end"] p.2) (by simp [wrd]) (by simp [wrd])]
    refine b_set (ev_eq (b_f2 (b_f2 (b_f2 (b_f2 (b_gv (get_s (get_s get_z))) b_kc (tAdd_s (by omega))) (b_call (b_cons b_kc (b_cons (b_gv (get_s (get_s (get_s get_z)))) (b_cons (b_new (b_lst b_nil (sizeLine_ge (by simp)))) b_nil))) rfl (law_row_ev (e:=[]) hr.1 l_if .nil (by simp))) (tAdd_s (by rw [Str.length_append]; omega))) b_kc (tAdd_s (by simp only [Str.length_append]; omega)))
     (b_call (b_cons b_kc (b_cons (b_gv (get_s (get_s (get_s (get_s get_z))))) (b_cons (b_new (b_lst (b_cons b_kc b_nil) (sizeLine_ge (by simp)))) b_nil))) rfl (law_row_ev (e:=["end"]) hr.2 l_then (w5 l_end) (by simp))) (tAdd_s (by simp only [Str.length_append]; omega))) ?_) (set_s (set_s set_z))
    simp only [Str.append_assoc]
   refine ⟨o3',o4',?_⟩
   rw [List.map_cons]
   unfold loopF
   rw [show gTp2 3 4 (tRl p) [some (.pu x),some (.pu y),some (.pu (.str (Str.join " " ws))),o3,o4]=some [some (.pu x),some (.pu y),some (.pu (.str (Str.join " " ws))),some (.pu (tupI p.1)),some (.pu (tupI p.2))] from rfl]
   dsimp only
   rw [turn]
   dsimp only
   rw [ih,List.flatMap_cons,List.append_assoc]
theorem law_shown_ev {t:T} {m:Int} {rs:List (List Int × List Int)} (et:t=.tup (rs.map tRl)) (h1:1 ≤ m) (h2:m ≤ 6) (h3:rs.length ≤ 64) (hr:∀ p ∈ rs,Rw p.1 ∧ Rw p.2):M__law_shown [t,.int m]=some (.str (Str.join " " (rulW m rs))):=by
 have dl:=dg_len (i:=m) (by omega) h2
 obtain ⟨o3',o4',hl⟩:=law_shown_loop t (.int m) rs [("rules":Str),dg m] none none hr (.cons l_rules (w5 dl)) (by simp) (by simp; omega)
 refine I__law_shown ?_
 unfold F__law_shown
 have e0:(("rules ":Str)) ++ dg m=Str.join " " [("rules":Str),dg m]:=by
  rw [join_two,show Str.join " " [dg m]=dg m from rfl]
  congr 1
 have lt:(("rules ":Str)).length ≤ 6:=by decide +kernel
 refine b_seq (b_set (b_f2 b_kc (b_f1 (b_gv (get_s get_z)) (dg_ev (by omega) h2)) (tAdd_s (by omega))) (set_s (set_s set_z))) ?_
 rw [e0]
 refine b_seqFor (b_itT (by rw [et]; exact b_gv get_z)) (by rw [et] at hl ⊢; exact hl) (b_thenN ?_)
 exact b_ret (b_gv (get_s (get_s get_z))) rfl
theorem b_isx {c d:Str} {i:Nat} {ρ:Rho} {b:Bool} (h:ρ[i]?=some (some (.xc c))) (hc:CS.contains c=true) (hb:subB c d=b):fIsx CS i d ρ=some (.bl b):=by
 unfold fIsx; rw [h]; simp only [hc,if_true,hb]
theorem b_isv {c:Str} {i:Nat} {ρ:Rho} (h:ρ[i]?=some (some (.xc c))) (hc:CS.contains c=true):fIsv CS i ρ=some (.bl true):=by
 unfold fIsv; rw [h]; simp only [hc,if_true]
theorem x_seqN {F G:FX} {ρ ρ':Rho} (h:F ρ=some (.ok (.nx ρ'))):xSeq F G ρ=G ρ':=by unfold xSeq; rw [h]
theorem x_seqX {F G:FX} {ρ ρ':Rho} {c:Str} (h:F ρ=some (.xc ρ' c)):xSeq F G ρ=some (.xc ρ' c):=by unfold xSeq; rw [h]
theorem x_stN {F:FS} {ρ ρ':Rho} (h:F ρ=some (.nx ρ')):xSt F ρ=some (.ok (.nx ρ')):=by unfold xSt; rw [h]; rfl
theorem x_ifT {ft:FT} {F G:FX} {ρ:Rho} (h:ft ρ=some true):xIf ft F G ρ=F ρ:=by unfold xIf; rw [h]
theorem x_ifF {ft:FT} {F G:FX} {ρ:Rho} (h:ft ρ=some false):xIf ft F G ρ=G ρ:=by unfold xIf; rw [h]
theorem x_orX {G:Rho → Option Str} {F:FS} {ρ:Rho} {c:Str} (h:G ρ=some c):xOr (xE G) F ρ=some (.xc ρ c):=by unfold xOr xE; rw [h]; rfl
theorem x_orN {G:Rho → Option Str} {F:FS} {ρ:Rho} {o:Out} (h:G ρ=none) (h2:F ρ=some o):xOr (xE G) F ρ=some (.ok o):=by unfold xOr xE; rw [h]; dsimp only [Option.map]; rw [h2]
theorem runX_t {m:Nat} {F:FX} {c:Str} {ts:List T} {ρ':Rho} (h:F (ts.map (fun t=>some (Sl.pu t)) ++ List.replicate (m - ts.length) none)=some (.xc ρ' c)):runX m F c ts=true:=by unfold runX; rw [h]; exact beq_self_eq_true _
theorem runX_f {m:Nat} {F:FX} {c:Str} {ts:List T} (h:F (ts.map (fun t=>some (Sl.pu t)) ++ List.replicate (m - ts.length) none)=none):runX m F c ts=false:=by unfold runX; rw [h]
theorem runX_o {m:Nat} {F:FX} {c:Str} {ts:List T} {o:Out} (h:F (ts.map (fun t=>some (Sl.pu t)) ++ List.replicate (m - ts.length) none)=some (.ok o)):runX m F c ts=false:=by unfold runX; rw [h]
theorem gCall_t {n:Nat} {G:List T → Bool} {c:Str} {fa:FA} {ρ:Rho} {ts:List T} (h:fa ρ=some ts) (hn:ts.length=n) (hg:G ts=true):gCallX n G c fa ρ=some c:=by unfold gCallX; rw [h]; exact if_pos ⟨hn,hg⟩
theorem gCall_f {n:Nat} {G:List T → Bool} {c:Str} {fa:FA} {ρ:Rho} {ts:List T} (h:fa ρ=some ts) (hg:G ts=false):gCallX n G c fa ρ=none:=by
 unfold gCallX; rw [h]; exact if_neg fun q=>by rw [hg] at q; cases q.2
theorem gOr_1 {G1 G2:Rho → Option Str} {ρ:Rho} {c:Str} (h:G1 ρ=some c):gOr G1 G2 ρ=some c:=by unfold gOr; rw [h]
theorem gOr_2 {G1 G2:Rho → Option Str} {ρ:Rho} (h:G1 ρ=none):gOr G1 G2 ρ=G2 ρ:=by unfold gOr; rw [h]
theorem compL_ix {g:FG} {c:FT} {e:FE} {ρ:Rho} {α:Type} (k k':α → T) (as:List α) (h:∀ a ∈ as,∃ ρ1,g (k a) ρ=some ρ1 ∧ c ρ1=some true ∧ e ρ1=some (k' a)):compL g c e ρ (as.map k)=some (as.map k'):=by
 induction as with
 | nil=>rfl
 | cons a r ih =>
   have ih:=ih fun j hj=>h j (List.mem_cons_of_mem _ hj)
   obtain ⟨ρ1,h1,h2,h3⟩:=h a List.mem_cons_self
   rw [List.map_cons]
   unfold compL
   rw [h1]
   dsimp only
   rw [h2]
   dsimp only
   rw [h3,ih]
   rfl
abbrev lS (ws:List Str):T:=.lst (ws.map T.str)
theorem teq_ss (a b:Str):teq (.str a) (.str b)=decide (a=b):=by
 have:teq (.str a) (.str b)=(a == b):=by simp [teq]
 rw [this,Bool.eq_iff_iff]; simp
theorem any_str (ys:List Str) (w:Str):((ys.map T.str).any fun y=>teq y (.str w))=decide (w ∈ ys):=by
 rw [List.any_map,Bool.eq_iff_iff,List.any_eq_true]
 simp only [Function.comp,teq_ss,decide_eq_true_eq]
 exact ⟨fun ⟨y,h1,h2⟩=>h2 ▸ h1,fun h=>⟨w,h,rfl⟩⟩
theorem dep_s (w:Str):dep (.str w)=0:=by simp [dep]
theorem dep_strs (ys:List Str):∀ y ∈ ys.map T.str,dep y ≤ 60:=by
 intro y hy
 obtain ⟨w,_,rfl⟩:=List.mem_map.mp hy
 rw [dep_s]; omega
theorem dep_lS1 (ys:List Str):dep (lS ys) ≤ 1:=by
 have:depL (ys.map T.str) ≤ 0:=depL_le fun t ht=>by
  obtain ⟨w,_,rfl⟩:=List.mem_map.mp ht
  rw [dep_s]; omega
 rw [dep_lst]; omega
theorem dep_lS (ys:List Str):dep (lS ys) ≤ 60:=Nat.le_trans (dep_lS1 ys) (by decide)
theorem teq_lS:∀ (a b:List Str),teq (lS a) (lS b)=decide (a=b):=by
 have:∀ a b:List Str,teqL (a.map T.str) (b.map T.str)=decide (a=b):=by
  intro a
  induction a with
  | nil=>intro b; cases b <;> simp [teqL]
  | cons x r ih =>
    intro b
    cases b with
    | nil=>simp [teqL]
    | cons y s =>
      simp only [List.map_cons,teqL,teq_ss,ih]
      rw [Bool.eq_iff_iff]
      simp
 intro a b
 rw [← this a b]
 simp [teq]
theorem idx_find (ys:List Str) (w:Str):idxT (ys.map T.str) (.str w)=ys.findIdx fun y=>decide (y=w):=by
 unfold idxT
 rw [List.findIdx_map]
 congr 1
theorem idx_str {ys:List Str} {w:Str} (h:w ∈ ys):idxT (ys.map T.str) (.str w) < ys.length ∧ ys[idxT (ys.map T.str) (.str w)]?=some w:=by
 have e:=idx_find ys w
 have hlt:(ys.findIdx fun y=>decide (y=w)) < ys.length:=List.findIdx_lt_length_of_exists ⟨w,h,by simp⟩
 rw [e]
 refine ⟨hlt,?_⟩
 have:=List.findIdx_getElem (p:=fun y=>decide (y=w)) (w:=hlt)
 simp only [decide_eq_true_eq] at this
 rw [List.getElem?_eq_getElem hlt,this]
theorem cut_to {α:Type} (xs:List α) (k:Nat):cutT xs none (some (k:Int))=xs.take k:=by
 unfold cutT
 rw [HT.sIx_none,HT.sIx_nat,List.drop_zero,Nat.sub_zero]
 by_cases h:k ≤ xs.length
 ·rw [Nat.min_eq_left h]
 ·rw [Nat.min_eq_right (by omega),List.take_of_length_le (Nat.le_refl _),List.take_of_length_le (by omega)]
theorem cut_from {α:Type} (xs:List α) (k:Nat):cutT xs (some (k:Int)) none=xs.drop k:=by
 unfold cutT
 rw [HT.sIx_none,HT.sIx_nat]
 by_cases h:k ≤ xs.length
 ·rw [Nat.min_eq_left h]
  exact List.take_of_length_le (by rw [List.length_drop]; omega)
 ·rw [Nat.min_eq_right (by omega),List.drop_of_length_le (Nat.le_refl _),List.drop_of_length_le (by omega)]; simp
theorem cut_mid {α:Type} (xs:List α) {a b:Nat} (h:a ≤ b) (hb:b ≤ xs.length):cutT xs (some (a:Int)) (some (b:Int))=(xs.drop a).take (b - a):=by
 unfold cutT
 rw [HT.sIx_nat,HT.sIx_nat,Nat.min_eq_left hb,Nat.min_eq_left (by omega)]
theorem cutS_to (ws:List Str) (k:Nat):cutT (ws.map T.str) none (some (k:Int))=(ws.take k).map T.str:=by rw [cut_to,List.map_take]
theorem cutS_from (ws:List Str) (k:Nat):cutT (ws.map T.str) (some (k:Int)) none=(ws.drop k).map T.str:=by rw [cut_from,List.map_drop]
def kn (m:Nat):List Str:=(List.range m).map fun (j:Nat)=>dg (j:Int)
def mkW (m:Nat) (ws:List Str):Option (List Int):=if (ws.all fun w=>decide (w ∈ kn m))=true then some (ws.map fun w=>(idxT ((kn m).map T.str) (.str w):Int)) else none
theorem mkW_some {m:Nat} {ws:List Str} {is:List Int} (h:mkW m ws=some is):ws=is.map dg ∧ ∀ i ∈ is,0 ≤ i ∧ i < m:=by
 unfold mkW at h
 split at h
 ·rename_i hall
  cases h
  have at_:∀ w ∈ ws,idxT ((kn m).map T.str) (.str w) < m ∧ dg (idxT ((kn m).map T.str) (.str w):Int)=w:=fun w hw=>by
   have:=List.all_eq_true.mp hall w hw
   obtain ⟨h1,h2⟩:=idx_str (of_decide_eq_true this)
   have hl:(kn m).length=m:=by simp [kn]
   rw [hl] at h1
   refine ⟨h1,?_⟩
   generalize idxT ((kn m).map T.str) (.str w)=x at h1 h2 ⊢
   unfold kn at h2
   rw [List.getElem?_map,List.getElem?_range h1] at h2
   exact Option.some.inj h2
  refine ⟨?_,fun i hi=>?_⟩
  ·rw [List.map_map]
   conv=>lhs; rw [← List.map_id ws]
   exact List.map_congr_left fun w hw=>(at_ w hw).2.symm
  ·obtain ⟨w,hw,rfl⟩:=List.mem_map.mp hi
   have:=(at_ w hw).1
   omega
 ·cases h
theorem kn_find:∀ m ∈ List.range 7,∀ j ∈ List.range m,(kn m).findIdx (fun y=>decide (y=dg (j:Int)))=j:=by decide +kernel
theorem kn_idx (m:Nat) (hm:m ∈ List.range 7) (j:Nat) (hj:j ∈ List.range m):idxT ((kn m).map T.str) (.str (dg (j:Int)))=j:=by rw [idx_find]; exact kn_find m hm j hj
theorem mkW_map {m:Nat} (hm:m ≤ 6) {is:List Int} (h:∀ i ∈ is,0 ≤ i ∧ i < m):mkW m (is.map dg)=some is:=by
 unfold mkW
 have nat:∀ i ∈ is,∃ j:Nat,j < m ∧ i=(j:Int):=fun i hi=>⟨i.toNat,by have:=h i hi; omega,by have:=h i hi; omega⟩
 rw [if_pos]
 ·congr 1
  rw [List.map_map]
  conv=>rhs; rw [← List.map_id is]
  refine List.map_congr_left fun i hi=>?_
  obtain ⟨j,hj,rfl⟩:=nat i hi
  show ((idxT ((kn m).map T.str) (.str (dg (j:Int))):Nat):Int)=(j:Int)
  rw [kn_idx m (List.mem_range.mpr (by omega)) j (List.mem_range.mpr hj)]
 ·rw [List.all_eq_true]
  intro w hw
  obtain ⟨i,hi,rfl⟩:=List.mem_map.mp hw
  obtain ⟨j,hj,rfl⟩:=nat i hi
  exact decide_eq_true (List.mem_map.mpr ⟨j,List.mem_range.mpr hj,rfl⟩)
theorem known_c (m:Nat) (hm:m ≤ 6):compL (gNm 0) fYes (f1 tStrOf (gv 0)) [none] (rangeT 0 (m:Int).toNat)=some ((kn m).map T.str):=by
 rw [Int.toNat_natCast,rangeT_map]
 have:=compL_ix (g:=gNm 0) (c:=fYes) (e:=f1 tStrOf (gv 0)) (ρ:=[none]) tN (fun j=>T.str (dg (j:Int))) (List.range m) fun j hj=>⟨_,b_gNm set_z,rfl,b_f1 (b_gv get_z) (dg_ev (by omega) (by have:=List.mem_range.mp hj; omega))⟩
 rw [this]
 unfold kn
 rw [List.map_map]; rfl
theorem isin_c (ys ws:List Str):compL (gNm 0) fYes (f2 (tInn false) (gv 0) (gv 1)) [none,some (.pu (lS ys))] (ws.map T.str)=some (ws.map fun w=>T.bl (decide (w ∈ ys))) :=
 compL_ix T.str _ ws fun w _=>⟨_,b_gNm set_z,rfl,ev_eq (b_f2 (b_gv get_z) (b_gv (get_s get_z)) (tInn_l (dep_strs ys))) (by rw [any_str])⟩
theorem idx_c (ys ws:List Str) (h:∀ w ∈ ws,w ∈ ys):compL (gNm 0) fYes (f2 tIndex (gv 1) (gv 0)) [none,some (.pu (lS ys))] (ws.map T.str)=some ((ws.map fun w=>(idxT (ys.map T.str) (.str w):Int)).map T.int):=by
 rw [List.map_map]
 exact compL_ix T.str _ ws fun w hw=>⟨_,b_gNm set_z,rfl,b_f2 (b_gv (get_s get_z)) (b_gv get_z) (tIndex_l (dep_strs ys) (by rw [List.length_map]; exact (idx_str (h w hw)).1))⟩
abbrev ρM (m:Nat) (ws:List Str):Rho:=[some (.pu (lS ws)),some (.pu (tN m)),some (.pu (lS (kn m)))]
theorem marks_known (m:Nat) (ws:List Str) (hm:m ≤ 6):sSet 2 (fNew (fComp [none] (fRng (gv 1)) (gNm 0) fYes (f1 tStrOf (gv 0)))) [some (.pu (lS ws)),some (.pu (tN m)),none]=some (.nx (ρM m ws)) :=
 b_set (b_new (b_comp (b_rng (b_gv (get_s get_z)) (by omega) (by omega)) (by unfold rangeT; rw [List.length_map,List.length_range]; exact sizeLine_ge (by omega)) rfl (known_c m hm))) (set_s (set_s set_z))
theorem marks_cond (m:Nat) (ws:List Str) (hw:ws.length ≤ 100000):fNot (fB (f1 tAll (fNew (fComp [none,some 2] (fIt (gv 0)) (gNm 0) fYes (f2 (tInn false) (gv 0) (gv 1)))))) (ρM m ws)=some (!(ws.all fun w=>decide (w ∈ kn m))) :=
 b_not (b_B (b_f1 (b_new (b_comp (b_it (b_gv get_z) itOf_l) (by rw [List.length_map]; exact sizeLine_ge (by omega)) rfl (isin_c (kn m) ws))) tAll_map))
theorem marks_of_ev {m:Nat} {ws:List Str} {is:List Int} (hm:m ≤ 6) (hw:ws.length ≤ 100000) (h:mkW m ws=some is):M_marks_of [lS ws,tN m]=some (tupI is):=by
 unfold mkW at h
 split at h
 ·rename_i hall
  cases h
  refine I_marks_of ?_
  unfold F_marks_of
  refine b_seq (marks_known m ws hm) (b_seqIf (marks_cond m ws hw) (fun q=>by rw [hall] at q; cases q) fun _=>b_seqNil ?_)
  exact b_ret (b_f1 (b_new (b_comp (b_it (b_gv get_z) itOf_l) (by rw [List.length_map]; exact sizeLine_ge (by omega)) rfl (idx_c (kn m) ws fun w hw=>of_decide_eq_true (List.all_eq_true.mp hall w hw)))) tTupOf_l) rfl
 ·cases h
theorem g_marks {m:Nat} {ws:List Str} (hm:m ≤ 6) (hw:ws.length ≤ 100000):G_marks_of [lS ws,tN m]=(mkW m ws).isNone:=by
 unfold mkW
 have e1:=x_stN (marks_known m ws hm)
 have e2:=marks_cond m ws hw
 cases hall:(ws.all fun w=>decide (w ∈ kn m)) with
 | true =>
   rw [hall] at e2
   rw [if_pos rfl]
   refine runX_f ?_
   show FX_marks_of [some (.pu (lS ws)),some (.pu (tN m)),none]=none
   unfold FX_marks_of
   refine (x_seqN e1).trans ((x_seqN ((x_ifF e2).trans rfl)).trans rfl)
 | false =>
   rw [hall] at e2
   rw [if_neg Bool.false_ne_true]
   refine runX_t (ρ':=ρM m ws) ?_
   show FX_marks_of [some (.pu (lS ws)),some (.pu (tN m)),none]=_
   unfold FX_marks_of
   exact (x_seqN e1).trans (x_seqX ((x_ifT e2).trans rfl))
def stp (s:List (List Str) × List Str) (w:Str):List (List Str) × List Str:=if w="end" then (s.1 ++ [s.2],[]) else (s.1,s.2 ++ [w])
def prts (ws:List Str):List (List Str) × List Str:=ws.foldl stp ([],[])
def ended (p:List Str):List Str:=p ++ [("end":Str)]
theorem prts_eq:∀ (ws:List Str) (ps:List (List Str)) (p:List Str),ps.flatMap ended ++ p ++ ws=(ws.foldl stp (ps,p)).1.flatMap ended ++ (ws.foldl stp (ps,p)).2
 | [],ps,p=>by simp
 | w :: ws,ps,p=>by
   rw [List.foldl_cons]
   by_cases h:w="end"
   ·rw [show stp (ps,p) w=(ps ++ [p],[]) by unfold stp; rw [if_pos h],← prts_eq ws (ps ++ [p]) [],h]
    simp [ended,List.flatMap_append]
   ·rw [show stp (ps,p) w=(ps,p ++ [w]) by unfold stp; rw [if_neg h],← prts_eq ws ps (p ++ [w])]
    simp
theorem prts_some {ws:List Str} {ps:List (List Str)} (h:prts ws=(ps,[])):ws=ps.flatMap ended:=by
 have:=prts_eq ws [] []
 rw [show ws.foldl stp ([],[])=(ps,[]) from h] at this
 simpa using this
theorem stp_plain (qs:List (List Str)):∀ (p q:List Str),(∀ w ∈ p,w ≠ "end") → p.foldl stp (qs,q)=(qs,q ++ p)
 | [],q,_=>by simp
 | w :: p,q,h=>by
   rw [List.foldl_cons,show stp (qs,q) w=(qs,q ++ [w]) by unfold stp; rw [if_neg (h w List.mem_cons_self)],stp_plain qs p (q ++ [w]) fun x hx=>h x (List.mem_cons_of_mem _ hx)]
   simp
theorem prts_map:∀ (ps qs:List (List Str)),(∀ p ∈ ps,∀ w ∈ p,w ≠ "end") → (ps.flatMap ended).foldl stp (qs,[])=(qs ++ ps,[])
 | [],qs,_=>by simp
 | p :: ps,qs,h=>by
   rw [List.flatMap_cons,List.foldl_append,ended,List.foldl_append,stp_plain qs p [] (h p List.mem_cons_self)]
   have e:[("end":Str)].foldl stp (qs,[] ++ p)=(qs ++ [p],[]):=by
    rw [List.nil_append]
    show stp (qs,p) "end"=_
    unfold stp; rw [if_pos rfl]
   rw [e,prts_map ps (qs ++ [p]) fun x hx=>h x (List.mem_cons_of_mem _ hx)]
   simp
theorem stp_len:∀ (ws:List Str) (ps:List (List Str)) (p:List Str),(ws.foldl stp (ps,p)).1.length ≤ ps.length + ws.length ∧ (ws.foldl stp (ps,p)).2.length ≤ p.length + ws.length
 | [],ps,p=>⟨Nat.le_refl _,Nat.le_refl _⟩
 | w :: ws,ps,p=>by
   rw [List.foldl_cons]
   by_cases h:w="end"
   ·rw [show stp (ps,p) w=(ps ++ [p],[]) by unfold stp; rw [if_pos h]]
    have:=stp_len ws (ps ++ [p]) []
    simp at this ⊢
    omega
   ·rw [show stp (ps,p) w=(ps,p ++ [w]) by unfold stp; rw [if_neg h]]
    have:=stp_len ws ps (p ++ [w])
    simp at this ⊢
    omega
theorem parts_loop (x:T):∀ (ws:List Str) (ps:List (List Str)) (p:List Str) (o:Option Sl),ps.length + ws.length ≤ 100000 → p.length + ws.length ≤ 100000 →
  ∃ o',loopF (gNm 3) B1_parts_of (ws.map T.str) [some (.pu x),some (.ow (ps.map lS)),some (.ow (p.map T.str)),o]=some (.nx [some (.pu x),some (.ow ((ws.foldl stp (ps,p)).1.map lS)),some (.ow ((ws.foldl stp (ps,p)).2.map T.str)),o'])
 | [],ps,p,o,_,_=>⟨o,rfl⟩
 | w :: ws,ps,p,o,h1,h2=>by
   rw [List.length_cons] at h1 h2
   have hc:fB (f2 tEqq (gv 3) (kc (.str "end"))) [some (.pu x),some (.ow (ps.map lS)),some (.ow (p.map T.str)),some (.pu (.str w))]=some (decide (w="end")) :=
    ev_eq (b_B (b_f2 (b_gv (get_s (get_s (get_s get_z)))) b_kc (tEqq_d (by rw [dep_s]; omega)))) (teq_ss _ _)
   have go:∀ (ps':List (List Str)) (p':List Str),stp (ps,p) w=(ps',p') → ps'.length ≤ ps.length + 1 → p'.length ≤ p.length + 1 → B1_parts_of [some (.pu x),some (.ow (ps.map lS)),some (.ow (p.map T.str)),some (.pu (.str w))]=some (.nx [some (.pu x),some (.ow (ps'.map lS)),some (.ow (p'.map T.str)),some (.pu (.str w))]) →
     ∃ o',loopF (gNm 3) B1_parts_of ((w :: ws).map T.str) [some (.pu x),some (.ow (ps.map lS)),some (.ow (p.map T.str)),o]=some (.nx [some (.pu x),some (.ow (((w :: ws).foldl stp (ps,p)).1.map lS)),some (.ow (((w :: ws).foldl stp (ps,p)).2.map T.str)),o']):=fun ps' p' es l1 l2 hb=>by
    obtain ⟨o',ih⟩:=parts_loop x ws ps' p' (some (.pu (.str w))) (by omega) (by omega)
    refine ⟨o',?_⟩
    rw [List.foldl_cons,es,List.map_cons]
    unfold loopF
    rw [show gNm 3 (T.str w) [some (.pu x),some (.ow (ps.map lS)),some (.ow (p.map T.str)),o]=some [some (.pu x),some (.ow (ps.map lS)),some (.ow (p.map T.str)),some (.pu (.str w))] from rfl]
    dsimp only
    rw [hb]
    exact ih
   by_cases h:w="end"
   ·rw [decide_eq_true h] at hc
    refine go (ps ++ [p]) [] (by unfold stp; rw [if_pos h]) (by simp) (by simp) ?_
    unfold B1_parts_of
    refine b_sif hc (fun _=>?_) fun q=>by cases q
    refine b_seq (b_frz (get_s (get_s get_z)) (set_s (set_s set_z))) (b_seq (b_app (get_s get_z) (b_gv (get_s (get_s get_z))) (Nat.lt_of_lt_of_le (show (ps.map lS).length < 100001 by rw [List.length_map]; omega) (sizeLine_ge (by omega))) (set_s set_z)) (ev_eq (b_own (b_lst b_nil (sizeLine_ge (by simp))) (set_s (set_s set_z))) ?_))
    rw [List.map_append]; rfl
   ·rw [decide_eq_false h] at hc
    refine go ps (p ++ [w]) (by unfold stp; rw [if_neg h]) (by omega) (by simp) ?_
    unfold B1_parts_of
    refine b_sif hc (fun q=>by cases q) fun _=>?_
    refine ev_eq (b_app (get_s (get_s get_z)) (b_gv (get_s (get_s (get_s get_z)))) (Nat.lt_of_lt_of_le (show (p.map T.str).length < 100001 by rw [List.length_map]; omega) (sizeLine_ge (by omega))) (set_s (set_s set_z))) ?_
    rw [List.map_append]; rfl
theorem parts_of_ev {ws:List Str} {ps:List (List Str)} (hw:ws.length ≤ 50000) (h:prts ws=(ps,[])):M_parts_of [lS ws]=some (.lst (ps.map lS)):=by
 obtain ⟨o,hl⟩:=parts_loop (lS ws) ws [] [] none (by simp; omega) (by simp; omega)
 rw [show ws.foldl stp ([],[])=(ps,[]) from h] at hl
 refine I_parts_of ?_
 unfold F_parts_of
 refine b_seq (b_own (b_lst b_nil (sizeLine_ge (by simp))) (set_s set_z)) (b_seq (b_own (b_lst b_nil (sizeLine_ge (by simp))) (set_s (set_s set_z))) (b_seqFor (b_it (b_gv get_z) itOf_l) hl (b_thenN ?_)))
 refine b_seqIf (b:=false) (b_tru (b_go (get_s (get_s get_z))) truOf_l) (fun q=>by cases q) fun _=>b_seqNil (b_retO (get_s get_z) rfl)
theorem g_parts {ws:List Str} (hw:ws.length ≤ 50000):G_parts_of [lS ws]=!(prts ws).2.isEmpty:=by
 obtain ⟨o,hl⟩:=parts_loop (lS ws) ws [] [] none (by simp; omega) (by simp; omega)
 have e0:(ws.foldl stp ([],[]))=prts ws:=rfl
 rw [e0] at hl
 have e1:=x_stN (b_own (ρ:=[some (.pu (lS ws)),none,none,none]) (i:=1) (b_lst b_nil (sizeLine_ge (by simp))) (set_s set_z))
 have e2:=x_stN (b_own (ρ:=[some (.pu (lS ws)),some (.ow []),none,none]) (i:=2) (b_lst b_nil (sizeLine_ge (by simp))) (set_s (set_s set_z)))
 have e3:xSt (sFor (fIt (gv 0)) (gNm 3) B2_parts_of) [some (.pu (lS ws)),some (.ow []),some (.ow []),none]=_:=x_stN (b_for (b_it (b_gv get_z) itOf_l) hl)
 have e4:fTru (go 2) [some (.pu (lS ws)),some (.ow ((prts ws).1.map lS)),some (.ow ((prts ws).2.map T.str)),o]=some (!(prts ws).2.isEmpty):=ev_eq (b_tru (b_go (get_s (get_s get_z))) truOf_l) (by cases (prts ws).2 <;> rfl)
 cases hb:(prts ws).2.isEmpty with
 | true =>
   rw [hb] at e4
   refine runX_f ?_
   show FX_parts_of [some (.pu (lS ws)),none,none,none]=none
   unfold FX_parts_of
   exact (x_seqN e1).trans ((x_seqN e2).trans ((x_seqN e3).trans ((x_seqN ((x_ifF e4).trans rfl)).trans rfl)))
 | false =>
   rw [hb] at e4
   refine runX_t (ρ':=[some (.pu (lS ws)),some (.ow ((prts ws).1.map lS)),some (.ow ((prts ws).2.map T.str)),o]) ?_
   show FX_parts_of [some (.pu (lS ws)),none,none,none]=_
   unfold FX_parts_of
   exact (x_seqN e1).trans ((x_seqN e2).trans ((x_seqN e3).trans (x_seqX ((x_ifT e4).trans rfl))))
theorem bind_t {x:Option T} {t:T} {f:T → Option Str} {o:Option Str} (h:x=some t) (h2:f t=o):x.bind f=o:=by rw [h]; exact h2
def rwO (m:Nat) (p:List Str):Option (List Int):=if p.take 1=[("thing":Str)] then mkW m (p.drop 1) else none
theorem take1 {p:List Str} {w:Str} (h:p.take 1=[w]):p=w :: p.drop 1:=by
 cases p with
 | nil=>cases h
 | cons a r=>simp at h; rw [h]; rfl
theorem rwO_some {m:Nat} {p:List Str} {is:List Int} (h:rwO m p=some is):ended p=rowW is ∧ ∀ i ∈ is,0 ≤ i ∧ i < m:=by
 unfold rwO at h
 split at h
 ·rename_i h1
  obtain ⟨e,b⟩:=mkW_some h
  refine ⟨?_,b⟩
  rw [take1 h1,e]
  rfl
 ·cases h
theorem rwO_map {m:Nat} (hm:m ≤ 6) {is:List Int} (h:∀ i ∈ is,0 ≤ i ∧ i < m):rwO m (("thing":Str) :: is.map dg)=some is:=by
 unfold rwO
 rw [if_pos (show List.take 1 (("thing":Str) :: is.map dg)=[("thing":Str)] from rfl)]
 exact mkW_map hm h
theorem row_cond (m:Nat) (p:List Str) (w:Str):fB (f2 tNee (fCut (gv 0) foN (foS (kc (.int 1)))) (fNew (fLst (fCons (kc (.str w)) fNil)))) [some (.pu (lS p)),some (.pu (tN m))]=some (!decide (p.take 1=[w])):=by
 refine ev_eq (b_B (b_f2 (ev_eq (b_cut (b_gv get_z) b_oN (b_oS b_kc) tCut_l) (b:=lS (p.take 1)) (congrArg T.lst (cutS_to p 1))) (b_new (b_lst (b_cons b_kc b_nil) (sizeLine_ge (by simp)))) (tNee_d (dep_lS _)))) ?_
 rw [show T.lst [T.str w]=lS [w] from rfl,teq_lS]
theorem row_args (m:Nat) (p:List Str):fCons (fCut (gv 0) (foS (kc (.int 1))) foN) (fCons (gv 1) fNil) [some (.pu (lS p)),some (.pu (tN m))]=some [lS (p.drop 1),tN m] :=
 b_cons (ev_eq (b_cut (b_gv get_z) (b_oS b_kc) b_oN tCut_l) (congrArg T.lst (cutS_from p 1))) (b_cons (b_gv (get_s get_z)) b_nil)
theorem row_of_ev {m:Nat} {p:List Str} {is:List Int} (hm:m ≤ 6) (hw:p.length ≤ 50000) (h:rwO m p=some is):M_row_of [lS p,tN m]=some (tupI is):=by
 unfold rwO at h
 split at h
 ·rename_i h1
  refine I_row_of ?_
  unfold F_row_of
  refine b_seqIf (row_cond m p "thing") (fun q=>by rw [decide_eq_true h1] at q; cases q) fun _=>b_seqNil ?_
  exact b_ret (b_call (row_args m p) rfl (marks_of_ev hm (by rw [List.length_drop]; omega) h)) rfl
 ·cases h
theorem g_row {m:Nat} {p:List Str} (hm:m ≤ 6) (hw:p.length ≤ 50000):G_row_of [lS p,tN m]=(rwO m p).isNone:=by
 unfold rwO
 have hc:=row_cond m p "thing"
 have hg:=g_marks (m:=m) (ws:=p.drop 1) hm (by rw [List.length_drop]; omega)
 by_cases h1:p.take 1=[("thing":Str)]
 ·rw [decide_eq_true h1] at hc
  rw [if_pos h1]
  cases hk:mkW m (p.drop 1) with
  | none =>
    rw [hk] at hg
    refine runX_t (ρ':=[some (.pu (lS p)),some (.pu (tN m))]) ?_
    show FX_row_of [some (.pu (lS p)),some (.pu (tN m))]=_
    unfold FX_row_of
    exact (x_seqN ((x_ifF hc).trans rfl)).trans (x_orX (gCall_t (row_args m p) rfl hg))
  | some is =>
    rw [hk] at hg
    refine runX_o (o:=.rt (tupI is)) ?_
    show FX_row_of [some (.pu (lS p)),some (.pu (tN m))]=_
    unfold FX_row_of
    exact (x_seqN ((x_ifF hc).trans rfl)).trans (x_orN (gCall_f (row_args m p) hg) (b_ret (b_call (row_args m p) rfl (marks_of_ev hm (by rw [List.length_drop]; omega) hk)) rfl))
 ·rw [decide_eq_false h1] at hc
  rw [if_neg h1]
  refine runX_t (ρ':=[some (.pu (lS p)),some (.pu (tN m))]) ?_
  show FX_row_of [some (.pu (lS p)),some (.pu (tN m))]=_
  unfold FX_row_of
  exact x_seqX ((x_ifT hc).trans rfl)
def mid (p:List Str):Nat:=idxT (p.map T.str) (.str "then")
def rlA (p:List Str):List Str:=(p.drop 1).take (mid p - 1)
def rlB (p:List Str):List Str:=p.drop (mid p + 1)
def rlO (m:Nat) (p:List Str):Option (List Int × List Int):=if p.take 1=[("if":Str)] ∧ ("then":Str) ∈ p then (mkW m (rlA p)).bind fun a=>(mkW m (rlB p)).map fun b=>(a,b) else none
theorem mid_ok {p:List Str} (h1:p.take 1=[("if":Str)]) (h2:("then":Str) ∈ p):1 ≤ mid p ∧ mid p < p.length ∧ p=("if":Str) :: (rlA p ++ ("then":Str) :: rlB p):=by
 obtain ⟨l,e⟩:=idx_str h2
 have e0:=take1 h1
 have h0:1 ≤ mid p:=by
  apply Classical.byContradiction
  intro hc
  have hz:mid p=0:=by omega
  unfold mid at hz
  rw [hz,e0] at e
  have:("if":Str)="then":=by simpa using e
  exact absurd this (by decide +kernel)
 refine ⟨h0,l,?_⟩
 conv=>lhs; rw [e0]
 congr 1
 have e1:(p.drop 1)[mid p - 1]?=some ("then":Str):=by
  rw [List.getElem?_drop,show 1 + (mid p - 1)=mid p by omega]; exact e
 obtain ⟨hl,e2⟩:=List.getElem?_eq_some_iff.mp e1
 unfold rlA rlB
 conv=>lhs; rw [← List.take_append_drop (mid p - 1) (p.drop 1),List.drop_eq_getElem_cons hl,e2]
 rw [List.drop_drop,show 1 + (mid p - 1 + 1)=mid p + 1 by omega]
theorem rlO_some {m:Nat} {p:List Str} {r:List Int × List Int} (h:rlO m p=some r):ended p=ruleW r ∧ (∀ i ∈ r.1,0 ≤ i ∧ i < m) ∧ ∀ i ∈ r.2,0 ≤ i ∧ i < m:=by
 unfold rlO at h
 split at h
 ·rename_i hc
  obtain ⟨a,e1,h⟩:=Option.bind_eq_some_iff.mp h
  obtain ⟨b,e2,rfl⟩:=Option.map_eq_some_iff.mp h
  obtain ⟨x1,y1⟩:=mkW_some e1
  obtain ⟨x2,y2⟩:=mkW_some e2
  obtain ⟨_,_,e3⟩:=mid_ok hc.1 hc.2
  refine ⟨?_,y1,y2⟩
  rw [e3,x1,x2]
  simp [ended,ruleW,wrd]
 ·cases h
theorem dg_not:∀ j ∈ List.range 7,dg (j:Int) ≠ "then" ∧ dg (j:Int) ≠ "end":=by decide +kernel
theorem dg_no {m:Nat} (hm:m ≤ 6) {i:Int} (h:0 ≤ i ∧ i < m):dg i ≠ "then" ∧ dg i ≠ "end":=by
 have:=dg_not i.toNat (List.mem_range.mpr (by omega))
 rwa [show ((i.toNat:Nat):Int)=i by omega] at this
theorem mid_map (as bs:List Str) (h:∀ w ∈ as,w ≠ "then"):mid (("if":Str) :: (as ++ ("then":Str) :: bs))=as.length + 1:=by
 unfold mid
 rw [idx_find,List.findIdx_cons]
 have n1:decide (("if":Str)="then")=false:=by decide +kernel
 rw [n1,Bool.cond_false]
 congr 1
 induction as with
 | nil=>rw [List.nil_append,List.findIdx_cons]; simp
 | cons a as ih =>
   have:=ih fun w hw=>h w (List.mem_cons_of_mem _ hw)
   rw [List.cons_append,List.findIdx_cons,decide_eq_false (h a List.mem_cons_self),Bool.cond_false,this,List.length_cons]
theorem rlO_map {m:Nat} (hm:m ≤ 6) {r:List Int × List Int} (h1:∀ i ∈ r.1,0 ≤ i ∧ i < m) (h2:∀ i ∈ r.2,0 ≤ i ∧ i < m):rlO m (("if":Str) :: (r.1.map dg ++ ("then":Str) :: r.2.map dg))=some r:=by
 have hmid:=mid_map (r.1.map dg) (r.2.map dg) fun w hw=>by
  obtain ⟨i,hi,rfl⟩:=List.mem_map.mp hw
  exact (dg_no hm (h1 i hi)).1
 unfold rlO
 rw [if_pos ⟨rfl,by simp⟩]
 have ea:rlA (("if":Str) :: (r.1.map dg ++ ("then":Str) :: r.2.map dg))=r.1.map dg:=by
  unfold rlA
  rw [hmid]
  simp
 have eb:rlB (("if":Str) :: (r.1.map dg ++ ("then":Str) :: r.2.map dg))=r.2.map dg:=by
  unfold rlB
  rw [hmid]
  simp [List.drop_append]
 rw [ea,eb,mkW_map hm h1,mkW_map hm h2]
 rfl
abbrev ρR (m:Nat) (p:List Str) (o:Option Sl):Rho:=[some (.pu (lS p)),some (.pu (tN m)),o]
theorem rule_cond (m:Nat) (p:List Str):fOr (fB (f2 tNee (fCut (gv 0) foN (foS (kc (.int 1)))) (fNew (fLst (fCons (kc (.str "if")) fNil))))) (fB (f2 (tInn true) (kc (.str "then")) (gv 0))) (ρR m p none)=some (!(decide (p.take 1=[("if":Str)]) && decide (("then":Str) ∈ p))):=by
 refine ev_eq (b_or (b_B (b_f2 (ev_eq (b_cut (b_gv get_z) b_oN (b_oS b_kc) tCut_l) (b:=lS (p.take 1)) (congrArg T.lst (cutS_to p 1))) (b_new (b_lst (b_cons b_kc b_nil) (sizeLine_ge (by simp)))) (tNee_d (dep_lS _)))) fun _=>b_B (b_f2 b_kc (b_gv get_z) (tNin_l (dep_strs p)))) ?_
 rw [show T.lst [T.str (Str.ofString "if")]=lS [("if":Str)] from rfl,teq_lS,any_str]
 cases decide (p.take 1=[("if":Str)]) <;> cases decide (("then":Str) ∈ p) <;> rfl
theorem rule_mid {m:Nat} {p:List Str} (h2:("then":Str) ∈ p):sSet 2 (f2 tIndex (gv 0) (kc (.str "then"))) (ρR m p none)=some (.nx (ρR m p (some (.pu (tN (mid p)))))) :=
 b_set (b_f2 (b_gv get_z) b_kc (tIndex_l (dep_strs p) (by rw [List.length_map]; exact (idx_str h2).1))) (set_s (set_s set_z))
theorem rule_a {m:Nat} {p:List Str} (h0:1 ≤ mid p) (hl:mid p < p.length):fCons (fCut (gv 0) (foS (kc (.int 1))) (foS (gv 2))) (fCons (gv 1) fNil) (ρR m p (some (.pu (tN (mid p)))))=some [lS (rlA p),tN m]:=by
 refine b_cons (ev_eq (b_cut (b_gv get_z) (b_oS b_kc) (b_oS (b_gv (get_s (get_s get_z)))) tCut_l) ?_) (b_cons (b_gv (get_s get_z)) b_nil)
 have:=cut_mid (p.map T.str) (a:=1) (b:=mid p) h0 (by rw [List.length_map]; omega)
 rw [show T.lst (cutT (p.map T.str) (some 1) (some (mid p:Int)))=T.lst (((p.map T.str).drop 1).take (mid p - 1)) from congrArg T.lst this,← List.map_drop,← List.map_take]; rfl
theorem rule_b {m:Nat} {p:List Str}:fCons (fCut (gv 0) (foS (f2 tAdd (gv 2) (kc (.int 1)))) foN) (fCons (gv 1) fNil) (ρR m p (some (.pu (tN (mid p)))))=some [lS (rlB p),tN m]:=by
 refine b_cons (ev_eq (b_cut (b_gv get_z) (b_oS (b_f2 (b_gv (get_s (get_s get_z))) b_kc tAdd_i)) b_oN tCut_l) ?_) (b_cons (b_gv (get_s get_z)) b_nil)
 rw [show ((mid p:Nat):Int) + 1=((mid p + 1:Nat):Int) by omega,cutS_from]; rfl
theorem rlA_len (p:List Str):(rlA p).length ≤ p.length:=by unfold rlA; rw [List.length_take,List.length_drop]; omega
theorem rlB_len (p:List Str):(rlB p).length ≤ p.length:=by unfold rlB; rw [List.length_drop]; omega
theorem rule_ret {m:Nat} {p:List Str} {a b:List Int} (hm:m ≤ 6) (hw:p.length ≤ 50000) (h0:1 ≤ mid p) (hl:mid p < p.length) (e1:mkW m (rlA p)=some a) (e2:mkW m (rlB p)=some b) :
  sRet (fTup (fCons (fCall 2 M_marks_of (fCons (fCut (gv 0) (foS (kc (.int 1))) (foS (gv 2))) (fCons (gv 1) fNil))) (fCons (fCall 2 M_marks_of (fCons (fCut (gv 0) (foS (f2 tAdd (gv 2) (kc (.int 1)))) foN) (fCons (gv 1) fNil))) fNil))) (ρR m p (some (.pu (tN (mid p)))))=some (.rt (tRl (a,b))):=by
 have l1:=rlA_len p
 have l2:=rlB_len p
 exact b_ret (b_tup (b_cons (b_call (rule_a h0 hl) rfl (marks_of_ev hm (by omega) e1)) (b_cons (b_call rule_b rfl (marks_of_ev hm (by omega) e2)) b_nil)) (sizeLine_ge (by simp))) rfl
theorem rule_of_ev {m:Nat} {p:List Str} {r:List Int × List Int} (hm:m ≤ 6) (hw:p.length ≤ 50000) (h:rlO m p=some r):M_rule_of [lS p,tN m]=some (tRl r):=by
 unfold rlO at h
 split at h
 ·rename_i hc
  obtain ⟨a,e1,h⟩:=Option.bind_eq_some_iff.mp h
  obtain ⟨b,e2,rfl⟩:=Option.map_eq_some_iff.mp h
  obtain ⟨h0,hl,_⟩:=mid_ok hc.1 hc.2
  refine I_rule_of ?_
  unfold F_rule_of
  refine b_seqIf (rule_cond m p) (fun q=>by rw [decide_eq_true hc.1,decide_eq_true hc.2] at q; cases q) fun _=>b_seqNil (b_seq (rule_mid hc.2) (rule_ret hm hw h0 hl e1 e2))
 ·cases h
theorem g_rule {m:Nat} {p:List Str} (hm:m ≤ 6) (hw:p.length ≤ 50000):G_rule_of [lS p,tN m]=(rlO m p).isNone:=by
 unfold rlO
 have hq:=rule_cond m p
 have l1:=rlA_len p
 have l2:=rlB_len p
 have ga:=g_marks (m:=m) (ws:=rlA p) hm (by omega)
 have gb:=g_marks (m:=m) (ws:=rlB p) hm (by omega)
 by_cases hc:p.take 1=[("if":Str)] ∧ ("then":Str) ∈ p
 ·rw [decide_eq_true hc.1,decide_eq_true hc.2] at hq
  rw [if_pos hc]
  obtain ⟨h0,hl,_⟩:=mid_ok hc.1 hc.2
  have s1:=x_stN (rule_mid (m:=m) hc.2)
  have go:∀ o,FX_rule_of (ρR m p none)=o ↔ xOr (xE (gOr (gCallX 2 G_marks_of "NoText" (fCons (fCut (gv 0) (foS (kc (.int 1))) (foS (gv 2))) (fCons (gv 1) fNil))) (fun ρ=>((fCall 2 M_marks_of (fCons (fCut (gv 0) (foS (kc (.int 1))) (foS (gv 2))) (fCons (gv 1) fNil))) ρ).bind fun _=>(gCallX 2 G_marks_of "NoText" (fCons (fCut (gv 0) (foS (f2 tAdd (gv 2) (kc (.int 1)))) foN) (fCons (gv 1) fNil))) ρ))) (sRet (fTup (fCons (fCall 2 M_marks_of (fCons (fCut (gv 0) (foS (kc (.int 1))) (foS (gv 2))) (fCons (gv 1) fNil))) (fCons (fCall 2 M_marks_of (fCons (fCut (gv 0) (foS (f2 tAdd (gv 2) (kc (.int 1)))) foN) (fCons (gv 1) fNil))) fNil)))) (ρR m p (some (.pu (tN (mid p)))))=o:=fun o=>by
   have:FX_rule_of (ρR m p none)=_:=(x_seqN ((x_ifF hq).trans rfl)).trans (x_seqN s1)
   rw [this]
  cases ha:mkW m (rlA p) with
  | none =>
    rw [ha] at ga
    exact runX_t (ρ':=ρR m p (some (.pu (tN (mid p))))) ((go _).mpr (x_orX (gOr_1 (gCall_t (rule_a h0 hl) rfl ga))))
  | some a =>
    rw [ha] at ga
    have fa:=b_call (n:=2) (M:=M_marks_of) (rule_a (m:=m) h0 hl) rfl (marks_of_ev hm (by omega) ha)
    have e0:=gCall_f (n:=2) (c:="NoText") (rule_a (m:=m) h0 hl) ga
    cases hb:mkW m (rlB p) with
    | none =>
      rw [hb] at gb
      refine runX_t (ρ':=ρR m p (some (.pu (tN (mid p))))) ((go _).mpr (x_orX ((gOr_2 e0).trans ?_)))
      exact bind_t fa (gCall_t rule_b rfl gb)
    | some b =>
      rw [hb] at gb
      refine runX_o (o:=.rt (tRl (a,b))) ((go _).mpr (x_orN ((gOr_2 e0).trans ?_) (rule_ret hm hw h0 hl ha hb)))
      exact bind_t fa (gCall_f rule_b gb)
 ·rw [if_neg hc]
  have hq':fOr (fB (f2 tNee (fCut (gv 0) foN (foS (kc (.int 1)))) (fNew (fLst (fCons (kc (.str "if")) fNil))))) (fB (f2 (tInn true) (kc (.str "then")) (gv 0))) (ρR m p none)=some true:=ev_eq hq (by
   by_cases c1:p.take 1=[("if":Str)]
   ·have c2:¬ ("then":Str) ∈ p:=fun z=>hc ⟨c1,z⟩
    rw [decide_eq_false c2,Bool.and_false]; rfl
   ·rw [decide_eq_false c1]; rfl)
  exact runX_t (ρ':=ρR m p none) (x_seqX ((x_ifT hq').trans rfl))
def mapO {α β:Type} (f:α → Option β):List α → Option (List β)
 | []=>some []
 | a :: as=>(f a).bind fun b=>(mapO f as).map (b :: ·)
theorem mapO_cons {α β:Type} (f:α → Option β) (a:α) (as:List α):mapO f (a :: as)=(f a).bind fun b=>(mapO f as).map (b :: ·):=rfl
theorem mapO_flat {β:Type} {f:List Str → Option β} {k:β → List Str} {P:β → Prop} (h:∀ a b,f a=some b → ended a=k b ∧ P b):∀ {as:List (List Str)} {bs:List β},mapO f as=some bs → as.flatMap ended=bs.flatMap k ∧ ∀ b ∈ bs,P b
 | [],bs,e=>by cases e; exact ⟨rfl,fun b hb=>nomatch hb⟩
 | a :: as,bs,e=>by
   obtain ⟨b,e1,e2⟩:=Option.bind_eq_some_iff.mp e
   obtain ⟨bs',e3,rfl⟩:=Option.map_eq_some_iff.mp e2
   obtain ⟨h1,h2⟩:=mapO_flat h e3
   obtain ⟨h3,h4⟩:=h a b e1
   refine ⟨by rw [List.flatMap_cons,List.flatMap_cons,h1,h3],fun c hc=>?_⟩
   rcases List.mem_cons.mp hc with rfl | hc
   ·exact h4
   ·exact h2 c hc
theorem mapO_map {β:Type} {f:List Str → Option β} {g:β → List Str}:∀ {bs:List β},(∀ b ∈ bs,f (g b)=some b) → mapO f (bs.map g)=some bs
 | [],_=>rfl
 | b :: bs,h=>by
   rw [List.map_cons]
   unfold mapO
   rw [h b List.mem_cons_self,mapO_map fun c hc=>h c (List.mem_cons_of_mem _ hc)]
   rfl
section
variable {β:Type} {f:List Str → Option β} {enc:β → T} {M:List T → Option T} {G:List T → Bool} {m:Nat}
theorem each_c:∀ {ps:List (List Str)} {rs:List β},(∀ p ∈ ps,∀ r,f p=some r → M [lS p,tN m]=some (enc r)) → mapO f ps=some rs →
  compL (gNm 0) fYes (fCall 2 M (fCons (gv 0) (fCons (gv 1) fNil))) [none,some (.pu (tN m))] (ps.map lS)=some (rs.map enc)
 | [],rs,_,e=>by cases e; rfl
 | p :: ps,rs,h,e=>by
   obtain ⟨b,e1,e2⟩:=Option.bind_eq_some_iff.mp e
   obtain ⟨bs',e3,rfl⟩:=Option.map_eq_some_iff.mp e2
   have ih:=each_c (fun q hq=>h q (List.mem_cons_of_mem _ hq)) e3
   rw [List.map_cons]
   unfold compL
   rw [show gNm 0 (lS p) [none,some (.pu (tN m))]=some [some (.pu (lS p)),some (.pu (tN m))] from rfl]
   dsimp only
   rw [show fYes [some (.pu (lS p)),some (.pu (tN m))]=some true from rfl]
   dsimp only
   rw [show fCall 2 M (fCons (gv 0) (fCons (gv 1) fNil)) [some (.pu (lS p)),some (.pu (tN m))]=some (enc b) from b_call (b_cons (b_gv get_z) (b_cons (b_gv (get_s get_z)) b_nil)) rfl (h p List.mem_cons_self b e1),ih]
   rfl
theorem loop_x:∀ {ps:List (List Str)},(∀ p ∈ ps,∀ r,f p=some r → M [lS p,tN m]=some (enc r)) → (∀ p ∈ ps,G [lS p,tN m]=(f p).isNone) →
  gLoop (gNm 0) (gCallX 2 G "NoText" (fCons (gv 0) (fCons (gv 1) fNil))) (fCall 2 M (fCons (gv 0) (fCons (gv 1) fNil))) [none,some (.pu (tN m))] (ps.map lS)=if (mapO f ps).isSome=true then none else some ("NoText":Str)
 | [],_,_=>rfl
 | p :: ps,h,g=>by
   have ih:=loop_x (fun q hq=>h q (List.mem_cons_of_mem _ hq)) fun q hq=>g q (List.mem_cons_of_mem _ hq)
   have hg:=g p List.mem_cons_self
   have ar:fCons (gv 0) (fCons (gv 1) fNil) [some (.pu (lS p)),some (.pu (tN m))]=some [lS p,tN m]:=b_cons (b_gv get_z) (b_cons (b_gv (get_s get_z)) b_nil)
   rw [List.map_cons]
   unfold gLoop
   rw [show gNm 0 (lS p) [none,some (.pu (tN m))]=some [some (.pu (lS p)),some (.pu (tN m))] from rfl]
   dsimp only
   cases hp:f p with
   | none =>
     rw [hp] at hg
     rw [gCall_t (n:=2) ar rfl hg,mapO_cons,hp]
     rfl
   | some r =>
     rw [hp] at hg
     rw [gCall_f ar hg]
     dsimp only
     rw [show fCall 2 M (fCons (gv 0) (fCons (gv 1) fNil)) [some (.pu (lS p)),some (.pu (tN m))]=some (enc r) from b_call ar rfl (h p List.mem_cons_self r hp)]
     dsimp only
     rw [ih,mapO_cons,hp]
     cases mapO f ps <;> rfl
end
theorem b_split {f g:FE} {ρ:Rho} {x y:Str} (h1:f ρ=some (.str x)) (h2:g ρ=some (.str y)) (h3:(y.length == 0)=false) (h4:x.length ≤ 100000):fSplit f g ρ=some ((Txt.split x y).map T.str):=by
 unfold fSplit
 rw [h1,Option.bind_some,h2,Option.bind_some]
 exact if_pos ⟨h3,sizeLine_ge (by omega)⟩
theorem sp0:((" ":Str).length == 0)=false:=by decide +kernel
theorem mem_len {α:Type} {k:α → List Str} {as:List α} {a:α} (h:a ∈ as):(k a).length ≤ (as.flatMap k).length:=by
 obtain ⟨l1,l2,rfl⟩:=List.append_of_mem h
 rw [List.flatMap_append,List.flatMap_cons,List.length_append,List.length_append]
 omega
theorem part_len {ws:List Str} {p:List Str} (h:p ∈ (prts ws).1):p.length ≤ ws.length:=by
 have e:=prts_eq ws [] []
 have:=mem_len (k:=ended) h
 have e2:=congrArg List.length e
 simp only [List.flatMap_nil,List.nil_append,List.length_append] at e2
 have e3:(ended p).length=p.length + 1:=by simp [ended]
 have e4:(ws.foldl stp ([],[]))=prts ws:=rfl
 rw [e4] at e2
 omega
def hds:List (List Str):=(List.range 6).map fun (j:Nat)=>[("table":Str),dg (1 + (j:Int))]
theorem idx_lS {hs:List (List Str)} {w:List Str} (h:w ∈ hs):idxT (hs.map lS) (lS w) < hs.length ∧ hs[idxT (hs.map lS) (lS w)]?=some w:=by
 have e:idxT (hs.map lS) (lS w)=hs.findIdx fun y=>decide (y=w):=by
  unfold idxT
  rw [List.findIdx_map]
  congr 1
  funext y
  exact teq_lS y w
 have hlt:(hs.findIdx fun y=>decide (y=w)) < hs.length:=List.findIdx_lt_length_of_exists ⟨w,h,by simp⟩
 rw [e]
 refine ⟨hlt,?_⟩
 have:=List.findIdx_getElem (p:=fun y=>decide (y=w)) (w:=hlt)
 simp only [decide_eq_true_eq] at this
 rw [List.getElem?_eq_getElem hlt,this]
def manyOf (W:List Str):Nat:=idxT (hds.map lS) (lS (W.take 2)) + 1
theorem many_ok {W:List Str} (h:W.take 2 ∈ hds):1 ≤ manyOf W ∧ manyOf W ≤ 6 ∧ W.take 2=[("table":Str),dg (manyOf W:Int)]:=by
 obtain ⟨h1,h2⟩:=idx_lS h
 have hl:hds.length=6:=by simp [hds]
 rw [hl] at h1
 unfold manyOf
 refine ⟨by omega,by omega,?_⟩
 generalize idxT (hds.map lS) (lS (W.take 2))=j at h1 h2
 unfold hds at h2
 rw [List.getElem?_map,List.getElem?_range h1] at h2
 rw [← Option.some.inj h2]
 show [("table":Str),dg (1 + (j:Int))]=_
 rw [show (1:Int) + (j:Int)=((j + 1:Nat):Int) by omega]
theorem heads_c:compL (gNm 0) fYes (fNew (fLst (fCons (kc (.str "table")) (fCons (f1 tStrOf (gv 0)) fNil)))) [none] (rangeT 1 ((6:Int) + 1 - 1).toNat)=some (hds.map lS):=by
 have e:rangeT 1 ((6:Int) + 1 - 1).toNat=(List.range 6).map fun (j:Nat)=>T.int (1 + (j:Int)):=rfl
 rw [e]
 have:=compL_ix (g:=gNm 0) (c:=fYes) (e:=fNew (fLst (fCons (kc (.str "table")) (fCons (f1 tStrOf (gv 0)) fNil)))) (ρ:=[none]) (fun (j:Nat)=>T.int (1 + (j:Int))) (fun j=>lS [("table":Str),dg (1 + (j:Int))]) (List.range 6) fun j hj=>⟨_,b_gNm set_z,rfl,b_new (b_lst (b_cons b_kc (b_cons (b_f1 (b_gv get_z) (dg_ev (by omega) (by have:=List.mem_range.mp hj; omega))) b_nil)) (sizeLine_ge (by simp)))⟩
 rw [this]
 unfold hds
 rw [List.map_map]; rfl
abbrev ρT (x:Str) (o1 o2 o3 o4:Option Sl):Rho:=[some (.pu (.str x)),o1,o2,o3,o4]
abbrev wd (x:Str):List Str:=Txt.split x " "
theorem split_le (x:Str) (h:x.length ≤ 40000):(wd x).length ≤ 40002:=by have:=split_len x " "; show (Txt.split x " ").length ≤ 40002; omega
theorem read_1 {x:Str} (hx:x.length ≤ 40000):sSet 1 (fNew (fSplit (gv 0) (kc (.str " ")))) (ρT x none none none none)=some (.nx (ρT x (some (.pu (lS (wd x)))) none none none)) :=
 b_set (b_new (b_split (b_gv get_z) b_kc sp0 (by omega))) (set_s set_z)
theorem read_2 (x:Str):sSet 2 (fNew (fComp [none] (fRng2 (kc (.int 1)) (f2 tAdd (kc (.int 6)) (kc (.int 1)))) (gNm 0) fYes (fNew (fLst (fCons (kc (.str "table")) (fCons (f1 tStrOf (gv 0)) fNil)))))) (ρT x (some (.pu (lS (wd x)))) none none none)=some (.nx (ρT x (some (.pu (lS (wd x)))) (some (.pu (.lst (hds.map lS)))) none none)) :=
 b_set (b_new (b_comp (b_rng2 b_kc (b_f2 b_kc b_kc tAdd_i) (by omega) (by omega) (by omega) (by omega)) (by unfold rangeT; rw [List.length_map,List.length_range]; exact sizeLine_ge (by decide)) rfl heads_c)) (set_s (set_s set_z))
theorem dep_hds:∀ y ∈ hds.map lS,dep y ≤ 60:=by
 intro y hy
 obtain ⟨w,_,rfl⟩:=List.mem_map.mp hy
 exact dep_lS w
theorem cut2 {x:Str} {o2 o3 o4:Option Sl}:fCut (gv 1) foN (foS (kc (.int 2))) (ρT x (some (.pu (lS (wd x)))) o2 o3 o4)=some (lS ((wd x).take 2)):=ev_eq (b_cut (b_gv (get_s get_z)) b_oN (b_oS b_kc) tCut_l) (congrArg T.lst (cutS_to (wd x) 2))
theorem read_3 (x:Str):fB (f2 (tInn true) (fCut (gv 1) foN (foS (kc (.int 2)))) (gv 2)) (ρT x (some (.pu (lS (wd x)))) (some (.pu (.lst (hds.map lS)))) none none)=some (!decide ((wd x).take 2 ∈ hds)):=by
 refine ev_eq (b_B (b_f2 cut2 (b_gv (get_s (get_s get_z))) (tNin_l dep_hds))) ?_
 congr 1
 rw [List.any_map,Bool.eq_iff_iff,List.any_eq_true]
 simp only [Function.comp,teq_lS,decide_eq_true_eq]
 exact ⟨fun ⟨y,h1,h2⟩=>h2 ▸ h1,fun h=>⟨_,h,rfl⟩⟩
abbrev ρ3 (x:Str) (o4:Option Sl):Rho:=ρT x (some (.pu (lS (wd x)))) (some (.pu (.lst (hds.map lS)))) (some (.pu (tN (manyOf (wd x))))) o4
theorem read_4 {x:Str} (h:(wd x).take 2 ∈ hds):sSet 3 (f2 tAdd (f2 tIndex (gv 2) (fCut (gv 1) foN (foS (kc (.int 2))))) (kc (.int 1))) (ρT x (some (.pu (lS (wd x)))) (some (.pu (.lst (hds.map lS)))) none none)=some (.nx (ρ3 x none)) :=
 b_set (t:=tN (manyOf (wd x))) (ev_eq (b_f2 (b_f2 (b_gv (get_s (get_s get_z))) cut2 (tIndex_l dep_hds (by rw [List.length_map]; exact (idx_lS h).1))) b_kc tAdd_i) (by
  show T.int _=T.int _
  congr 1)) (set_s (set_s (set_s set_z)))
theorem read_5 (x:Str):fCons (fCut (gv 1) (foS (kc (.int 2))) foN) fNil (ρ3 x none)=some [lS ((wd x).drop 2)]:=b_cons (ev_eq (b_cut (b_gv (get_s get_z)) (b_oS b_kc) b_oN tCut_l) (congrArg T.lst (cutS_from (wd x) 2))) b_nil
abbrev tbI (m:Nat) (rs:List (List Int)):T:=.tup [tN m,.tup (rs.map tupI)]
theorem read_6 {x:Str} {ps:List (List Str)} {rs:List (List Int)} (hx:x.length ≤ 40000) (hm:manyOf (wd x) ≤ 6) (h1:prts ((wd x).drop 2)=(ps,[])) (h2:mapO (rwO (manyOf (wd x))) ps=some rs) :
  sSet 4 (fTup (fCons (gv 3) (fCons (f1 tTupOf (fNew (fComp [none,some 3] (fIt (fCall 1 M_parts_of (fCons (fCut (gv 1) (foS (kc (.int 2))) foN) fNil))) (gNm 0) fYes (fCall 2 M_row_of (fCons (gv 0) (fCons (gv 1) fNil)))))) fNil))) (ρ3 x none)=some (.nx (ρ3 x (some (.pu (tbI (manyOf (wd x)) rs))))):=by
 have hl:=split_le x hx
 have hd:((wd x).drop 2).length ≤ 40002:=by rw [List.length_drop]; omega
 have l1:=(stp_len ((wd x).drop 2) [] []).1
 have e0:((wd x).drop 2).foldl stp ([],[])=(ps,[]):=h1
 rw [e0] at l1
 have hp:∀ p ∈ ps,p.length ≤ 50000:=fun p hp=>by
  have:p ∈ (prts ((wd x).drop 2)).1:=by rw [h1]; exact hp
  have:=part_len this
  omega
 refine b_set (b_tup (b_cons (b_gv rfl) (b_cons (b_f1 (b_new (b_comp (b_it (b_call (read_5 x) rfl (parts_of_ev (by omega) h1)) itOf_l) (by rw [List.length_map]; simp at l1; exact sizeLine_ge (by omega)) rfl (each_c (enc:=tupI) (fun p hq r hr=>row_of_ev hm (hp p hq) hr) h2))) tTupOf_l) b_nil)) (sizeLine_ge (by simp))) (set_s (set_s (set_s (set_s set_z))))
theorem read_7 (x:Str) (t:T):fNot (fB (fCall 1 M_is_table (fCons (gv 4) fNil))) (ρ3 x (some (.pu t)))=some (!isTab t):=b_not (b_B (b_call (b_cons (b_gv rfl) b_nil) rfl (is_table_ev t)))
def rd (x:Str):Option (Nat × List (List Int)) :=
 if (wd x).take 2 ∈ hds then (if (prts ((wd x).drop 2)).2=[] then (mapO (rwO (manyOf (wd x))) (prts ((wd x).drop 2)).1).bind fun rs=>if isTab (tbI (manyOf (wd x)) rs)=true then some (manyOf (wd x),rs) else none else none) else none
theorem read_x {x:Str} (hx:x.length ≤ 40000) (hm:manyOf (wd x) ≤ 6) (h1:(prts ((wd x).drop 2)).2=[]):gComp [none,some 3] (fIt (fCall 1 M_parts_of (fCons (fCut (gv 1) (foS (kc (.int 2))) foN) fNil))) (gNm 0) (gCallX 2 G_row_of "NoText" (fCons (gv 0) (fCons (gv 1) fNil))) (fCall 2 M_row_of (fCons (gv 0) (fCons (gv 1) fNil))) (ρ3 x none)
  = if (mapO (rwO (manyOf (wd x))) (prts ((wd x).drop 2)).1).isSome=true then none else some ("NoText":Str):=by
 have hl:=split_le x hx
 have hd:((wd x).drop 2).length ≤ 40002:=by rw [List.length_drop]; omega
 have l2:(prts ((wd x).drop 2)).1.length ≤ 40002:=by
  have l1:=(stp_len ((wd x).drop 2) [] []).1
  have e3:((wd x).drop 2).foldl stp ([],[])=prts ((wd x).drop 2):=rfl
  rw [e3,List.length_nil,Nat.zero_add] at l1
  exact Nat.le_trans l1 hd
 have hp:∀ p ∈ (prts ((wd x).drop 2)).1,p.length ≤ 50000:=fun p hp=>by
  have:=part_len hp
  omega
 have e1:prts ((wd x).drop 2)=((prts ((wd x).drop 2)).1,[]):=Prod.ext rfl h1
 have e2:fIt (fCall 1 M_parts_of (fCons (fCut (gv 1) (foS (kc (.int 2))) foN) fNil)) (ρ3 x none)=some ((prts ((wd x).drop 2)).1.map lS):=b_it (b_call (read_5 x) rfl (parts_of_ev (by omega) e1)) itOf_l
 unfold gComp
 rw [e2]
 dsimp only
 rw [if_pos (by rw [List.length_map]; exact sizeLine_ge (by omega))]
 exact loop_x (enc:=tupI) (fun p hq r hr=>row_of_ev hm (hp p hq) hr) fun p hq=>g_row hm (hp p hq)
theorem read_ev {x:Str} {m:Nat} {rs:List (List Int)} (hx:x.length ≤ 40000) (h:rd x=some (m,rs)):M_read [.str x]=some (tbI m rs):=by
 unfold rd at h
 split at h
 ·rename_i h1
  split at h
  ·rename_i h2
   obtain ⟨rs',e1,e2⟩:=Option.bind_eq_some_iff.mp h
   split at e2
   ·rename_i h3
    cases e2
    obtain ⟨_,hm,_⟩:=many_ok h1
    have e3:prts ((wd x).drop 2)=((prts ((wd x).drop 2)).1,[]):=Prod.ext rfl h2
    refine I_read ?_
    unfold F_read
    refine b_seq (read_1 hx) (b_seq (read_2 x) (b_seqIf (read_3 x) (fun q=>by rw [decide_eq_true h1] at q; cases q) fun _=>b_seqNil (b_seq (read_4 h1) (b_seq (read_6 hx hm e3 e1) (b_seqIf (read_7 x _) (fun q=>by rw [h3] at q; cases q) fun _=>b_seqNil (b_ret (b_gv rfl) rfl))))))
   ·cases e2
  ·cases h
 ·cases h
theorem g_read {x:Str} (hx:x.length ≤ 40000):G_read [.str x]=(rd x).isNone:=by
 have s1:=x_stN (read_1 hx)
 have s2:=x_stN (read_2 x)
 have s3:=read_3 x
 have hl:=split_le x hx
 have hd:((wd x).drop 2).length ≤ 50000:=by rw [List.length_drop]; omega
 unfold rd
 by_cases h1:(wd x).take 2 ∈ hds
 ·rw [if_pos h1]
  rw [decide_eq_true h1] at s3
  obtain ⟨_,hm,_⟩:=many_ok h1
  have s4:=x_stN (read_4 h1)
  have gp:=g_parts (ws:=(wd x).drop 2) hd
  have gx:=gCall_f (n:=1) (G:=G_parts_of) (c:="NoText") (read_5 x)
  have b3:(gv 3) (ρ3 x none)=some (tN (manyOf (wd x))):=b_gv rfl
  by_cases h2:(prts ((wd x).drop 2)).2=[]
  ·rw [if_pos h2]
   rw [h2] at gp
   have rx:=read_x hx hm h2
   have e3:prts ((wd x).drop 2)=((prts ((wd x).drop 2)).1,[]):=Prod.ext rfl h2
   cases hk:mapO (rwO (manyOf (wd x))) (prts ((wd x).drop 2)).1 with
   | none =>
     rw [hk,if_neg (by simp)] at rx
     exact runX_t (ρ':=ρ3 x none) ((x_seqN s1).trans ((x_seqN s2).trans ((x_seqN ((x_ifF s3).trans rfl)).trans ((x_seqN s4).trans (x_seqX (x_orX (bind_t b3 ((gOr_2 (gx gp)).trans rx))))))))
   | some rs =>
     rw [hk,if_pos (by simp)] at rx
     have s6:=read_7 x (tbI (manyOf (wd x)) rs)
     dsimp only [Option.bind]
     cases ht:isTab (tbI (manyOf (wd x)) rs) with
     | true =>
       rw [ht] at s6
       rw [if_pos rfl]
       exact runX_f ((x_seqN s1).trans ((x_seqN s2).trans ((x_seqN ((x_ifF s3).trans rfl)).trans ((x_seqN s4).trans ((x_seqN (x_orN (bind_t b3 ((gOr_2 (gx gp)).trans rx)) (read_6 hx hm e3 hk))).trans ((x_seqN ((x_ifF s6).trans rfl)).trans rfl))))))
     | false =>
       rw [ht] at s6
       rw [if_neg Bool.false_ne_true]
       exact runX_t (ρ':=ρ3 x (some (.pu (tbI (manyOf (wd x)) rs)))) ((x_seqN s1).trans ((x_seqN s2).trans ((x_seqN ((x_ifF s3).trans rfl)).trans ((x_seqN s4).trans ((x_seqN (x_orN (bind_t b3 ((gOr_2 (gx gp)).trans rx)) (read_6 hx hm e3 hk))).trans (x_seqX ((x_ifT s6).trans rfl)))))))
  ·rw [if_neg h2]
   have gp':G_parts_of [lS ((wd x).drop 2)]=true:=by
    rw [gp]
    cases hq:(prts ((wd x).drop 2)).2 with
    | nil=>exact absurd hq h2
    | cons=>rfl
   exact runX_t (ρ':=ρ3 x none) ((x_seqN s1).trans ((x_seqN s2).trans ((x_seqN ((x_ifF s3).trans rfl)).trans ((x_seqN s4).trans (x_seqX (x_orX (bind_t b3 (gOr_1 (gCall_t (read_5 x) rfl gp')))))))))
 ·rw [if_neg h1]
  rw [decide_eq_false h1] at s3
  exact runX_t (ρ':=ρT x (some (.pu (lS (wd x)))) (some (.pu (.lst (hds.map lS)))) none none) ((x_seqN s1).trans ((x_seqN s2).trans (x_seqX ((x_ifT s3).trans rfl))))
abbrev ρQ (x:Str) (m:Nat) (o2 o3:Option Sl):Rho:=[some (.pu (.str x)),some (.pu (tN m)),o2,o3]
theorem rr_1 {x:Str} {m:Nat} (hx:x.length ≤ 40000):sSet 2 (fNew (fSplit (gv 0) (kc (.str " ")))) (ρQ x m none none)=some (.nx (ρQ x m (some (.pu (lS (wd x)))) none)) :=
 b_set (b_new (b_split (b_gv get_z) b_kc sp0 (by omega))) (set_s (set_s set_z))
theorem rr_2 {x:Str} {m:Nat} (hm:m ≤ 6):fB (f2 tNee (fCut (gv 2) foN (foS (kc (.int 2)))) (fNew (fLst (fCons (kc (.str "rules")) (fCons (f1 tStrOf (gv 1)) fNil))))) (ρQ x m (some (.pu (lS (wd x)))) none)=some (!decide ((wd x).take 2=[("rules":Str),dg (m:Int)])):=by
 refine ev_eq (b_B (b_f2 (ev_eq (b_cut (b_gv (get_s (get_s get_z))) b_oN (b_oS b_kc) tCut_l) (b:=lS ((wd x).take 2)) (congrArg T.lst (cutS_to (wd x) 2))) (b_new (b_lst (b_cons b_kc (b_cons (b_f1 (b_gv (get_s get_z)) (dg_ev (by omega) (by omega))) b_nil)) (sizeLine_ge (by simp)))) (tNee_d (dep_lS _)))) ?_
 rw [show T.lst [T.str (Str.ofString "rules"),T.str (dg (m:Int))]=lS [("rules":Str),dg (m:Int)] from rfl,teq_lS]
theorem rr_3 (x:Str) (m:Nat):fCons (fCut (gv 2) (foS (kc (.int 2))) foN) fNil (ρQ x m (some (.pu (lS (wd x)))) none)=some [lS ((wd x).drop 2)]:=b_cons (ev_eq (b_cut (b_gv (get_s (get_s get_z))) (b_oS b_kc) b_oN tCut_l) (congrArg T.lst (cutS_from (wd x) 2))) b_nil
theorem rr_len {x:Str} (hx:x.length ≤ 40000):((wd x).drop 2).length ≤ 40002 ∧ (prts ((wd x).drop 2)).1.length ≤ 40002 ∧ ∀ p ∈ (prts ((wd x).drop 2)).1,p.length ≤ 50000:=by
 have hl:=split_le x hx
 have hd:((wd x).drop 2).length ≤ 40002:=by rw [List.length_drop]; omega
 have l1:=(stp_len ((wd x).drop 2) [] []).1
 have e3:((wd x).drop 2).foldl stp ([],[])=prts ((wd x).drop 2):=rfl
 rw [e3,List.length_nil,Nat.zero_add] at l1
 exact ⟨hd,Nat.le_trans l1 hd,fun p hp=>by have:=part_len hp; omega⟩
theorem rr_it {x:Str} {m:Nat} (hx:x.length ≤ 40000) (h1:(prts ((wd x).drop 2)).2=[]):fIt (fCall 1 M_parts_of (fCons (fCut (gv 2) (foS (kc (.int 2))) foN) fNil)) (ρQ x m (some (.pu (lS (wd x)))) none)=some ((prts ((wd x).drop 2)).1.map lS):=by
 have:=(rr_len hx).1
 exact b_it (b_call (rr_3 x m) rfl (parts_of_ev (by omega) (Prod.ext rfl h1))) itOf_l
theorem rr_4 {x:Str} {m:Nat} {rs:List (List Int × List Int)} (hx:x.length ≤ 40000) (hm:m ≤ 6) (h1:(prts ((wd x).drop 2)).2=[]) (h2:mapO (rlO m) (prts ((wd x).drop 2)).1=some rs) :
  sSet 3 (f1 tTupOf (fNew (fComp [none,some 1] (fIt (fCall 1 M_parts_of (fCons (fCut (gv 2) (foS (kc (.int 2))) foN) fNil))) (gNm 0) fYes (fCall 2 M_rule_of (fCons (gv 0) (fCons (gv 1) fNil)))))) (ρQ x m (some (.pu (lS (wd x)))) none)=some (.nx (ρQ x m (some (.pu (lS (wd x)))) (some (.pu (.tup (rs.map tRl)))))):=by
 obtain ⟨_,l2,hp⟩:=rr_len hx
 exact b_set (b_f1 (b_new (b_comp (rr_it hx h1) (by rw [List.length_map]; exact sizeLine_ge (by omega)) rfl (each_c (enc:=tRl) (fun p hq r hr=>rule_of_ev hm (hp p hq) hr) h2))) tTupOf_l) (set_s (set_s (set_s set_z)))
theorem rr_5 (x:Str) (m:Nat) (t:T):fNot (fB (fCall 2 M_are_rules (fCons (gv 3) (fCons (gv 1) fNil)))) (ρQ x m (some (.pu (lS (wd x)))) (some (.pu t)))=some (!areRul (m:Int) t):=b_not (b_B (b_call (b_cons (b_gv rfl) (b_cons (b_gv rfl) b_nil)) rfl (are_rules_ev t (m:Int))))
theorem rr_x {x:Str} {m:Nat} (hx:x.length ≤ 40000) (hm:m ≤ 6) (h1:(prts ((wd x).drop 2)).2=[]):gComp [none,some 1] (fIt (fCall 1 M_parts_of (fCons (fCut (gv 2) (foS (kc (.int 2))) foN) fNil))) (gNm 0) (gCallX 2 G_rule_of "NoText" (fCons (gv 0) (fCons (gv 1) fNil))) (fCall 2 M_rule_of (fCons (gv 0) (fCons (gv 1) fNil))) (ρQ x m (some (.pu (lS (wd x)))) none)
  = if (mapO (rlO m) (prts ((wd x).drop 2)).1).isSome=true then none else some ("NoText":Str):=by
 obtain ⟨_,l2,hp⟩:=rr_len hx
 unfold gComp
 rw [rr_it hx h1]
 dsimp only
 rw [if_pos (by rw [List.length_map]; exact sizeLine_ge (by omega))]
 exact loop_x (enc:=tRl) (fun p hq r hr=>rule_of_ev hm (hp p hq) hr) fun p hq=>g_rule hm (hp p hq)
def rdR (m:Nat) (x:Str):Option (List (List Int × List Int)) :=
 if (wd x).take 2=[("rules":Str),dg (m:Int)] then (if (prts ((wd x).drop 2)).2=[] then (mapO (rlO m) (prts ((wd x).drop 2)).1).bind fun rs=>if areRul (m:Int) (.tup (rs.map tRl))=true then some rs else none else none) else none
theorem read_rules_ev {x:Str} {m:Nat} {rs:List (List Int × List Int)} (hx:x.length ≤ 40000) (hm:m ≤ 6) (h:rdR m x=some rs):M_read_rules [.str x,tN m]=some (.tup (rs.map tRl)):=by
 unfold rdR at h
 split at h
 ·rename_i h1
  split at h
  ·rename_i h2
   obtain ⟨rs',e1,e2⟩:=Option.bind_eq_some_iff.mp h
   split at e2
   ·rename_i h3
    cases e2
    refine I_read_rules ?_
    unfold F_read_rules
    exact b_seq (rr_1 hx) (b_seqIf (rr_2 hm) (fun q=>by rw [decide_eq_true h1] at q; cases q) fun _=>b_seqNil (b_seq (rr_4 hx hm h2 e1) (b_seqIf (rr_5 x m _) (fun q=>by rw [h3] at q; cases q) fun _=>b_seqNil (b_ret (b_gv rfl) rfl))))
   ·cases e2
  ·cases h
 ·cases h
theorem g_read_rules {x:Str} {m:Nat} (hx:x.length ≤ 40000) (hm:m ≤ 6):G_read_rules [.str x,tN m]=(rdR m x).isNone:=by
 have s1:=x_stN (rr_1 (m:=m) hx)
 have s2:=rr_2 (x:=x) hm
 obtain ⟨hd,_,_⟩:=rr_len hx
 unfold rdR
 by_cases h1:(wd x).take 2=[("rules":Str),dg (m:Int)]
 ·rw [if_pos h1]
  rw [decide_eq_true h1] at s2
  have gp:=g_parts (ws:=(wd x).drop 2) (by omega)
  have gx:=gCall_f (n:=1) (G:=G_parts_of) (c:="NoText") (rr_3 x m)
  by_cases h2:(prts ((wd x).drop 2)).2=[]
  ·rw [if_pos h2]
   rw [h2] at gp
   have rx:=rr_x hx hm h2
   cases hk:mapO (rlO m) (prts ((wd x).drop 2)).1 with
   | none =>
     rw [hk,if_neg (by simp)] at rx
     exact runX_t (ρ':=ρQ x m (some (.pu (lS (wd x)))) none) ((x_seqN s1).trans ((x_seqN ((x_ifF s2).trans rfl)).trans (x_seqX (x_orX ((gOr_2 (gx gp)).trans rx)))))
   | some rs =>
     rw [hk,if_pos (by simp)] at rx
     have s6:=rr_5 x m (.tup (rs.map tRl))
     dsimp only [Option.bind]
     cases ht:areRul (m:Int) (.tup (rs.map tRl)) with
     | true =>
       rw [ht] at s6
       rw [if_pos rfl]
       exact runX_f ((x_seqN s1).trans ((x_seqN ((x_ifF s2).trans rfl)).trans ((x_seqN (x_orN ((gOr_2 (gx gp)).trans rx) (rr_4 hx hm h2 hk))).trans ((x_seqN ((x_ifF s6).trans rfl)).trans rfl))))
     | false =>
       rw [ht] at s6
       rw [if_neg Bool.false_ne_true]
       exact runX_t (ρ':=ρQ x m (some (.pu (lS (wd x)))) (some (.pu (.tup (rs.map tRl))))) ((x_seqN s1).trans ((x_seqN ((x_ifF s2).trans rfl)).trans ((x_seqN (x_orN ((gOr_2 (gx gp)).trans rx) (rr_4 hx hm h2 hk))).trans (x_seqX ((x_ifT s6).trans rfl)))))
  ·rw [if_neg h2]
   have gp':G_parts_of [lS ((wd x).drop 2)]=true:=by
    rw [gp]
    cases hq:(prts ((wd x).drop 2)).2 with
    | nil=>exact absurd hq h2
    | cons=>rfl
   exact runX_t (ρ':=ρQ x m (some (.pu (lS (wd x)))) none) ((x_seqN s1).trans ((x_seqN ((x_ifF s2).trans rfl)).trans (x_seqX (x_orX (gOr_1 (gCall_t (rr_3 x m) rfl gp'))))))
 ·rw [if_neg h1]
  rw [decide_eq_false h1] at s2
  exact runX_t (ρ':=ρQ x m (some (.pu (lS (wd x)))) none) ((x_seqN s1).trans (x_seqX ((x_ifT s2).trans rfl)))
theorem take_two {W:List Str} {a b:Str} (h:W.take 2=[a,b]):W=[a,b] ++ W.drop 2:=by
 conv=>lhs; rw [← List.take_append_drop 2 W,h]
theorem rd_some {x:Str} {m:Nat} {rs:List (List Int)} (h:rd x=some (m,rs)):1 ≤ m ∧ m ≤ 6 ∧ isTab (tbI m rs)=true ∧ x=Str.join " " (tabW (m:Int) rs):=by
 unfold rd at h
 split at h
 ·rename_i h1
  split at h
  ·rename_i h2
   obtain ⟨rs',e1,e2⟩:=Option.bind_eq_some_iff.mp h
   split at e2
   ·rename_i h3
    cases e2
    obtain ⟨m1,m2,m3⟩:=many_ok h1
    refine ⟨m1,m2,h3,?_⟩
    have p1:=prts_some (ws:=(wd x).drop 2) (Prod.ext rfl h2)
    obtain ⟨p2,_⟩:=mapO_flat (k:=rowW) (P:=fun _=>True) (fun a b q=>⟨(rwO_some q).1,trivial⟩) e1
    have:wd x=tabW (manyOf (wd x):Int) rs:=by
     conv=>lhs; rw [take_two m3,p1,p2]
     rfl
    rw [← this]
    exact (StrLaws.join_split x " ").symm
   ·cases e2
  ·cases h
 ·cases h
theorem rdR_some {x:Str} {m:Nat} {rs:List (List Int × List Int)} (h:rdR m x=some rs):areRul (m:Int) (.tup (rs.map tRl))=true ∧ x=Str.join " " (rulW (m:Int) rs):=by
 unfold rdR at h
 split at h
 ·rename_i h1
  split at h
  ·rename_i h2
   obtain ⟨rs',e1,e2⟩:=Option.bind_eq_some_iff.mp h
   split at e2
   ·rename_i h3
    cases e2
    refine ⟨h3,?_⟩
    have p1:=prts_some (ws:=(wd x).drop 2) (Prod.ext rfl h2)
    obtain ⟨p2,_⟩:=mapO_flat (k:=ruleW) (P:=fun _=>True) (fun a b q=>⟨(rlO_some q).1,trivial⟩) e1
    have:wd x=rulW (m:Int) rs:=by
     conv=>lhs; rw [take_two h1,p1,p2]
     rfl
    rw [← this]
    exact (StrLaws.join_split x " ").symm
   ·cases e2
  ·cases h
 ·cases h
theorem cat_inj {c:Nat}:∀ {x y A B:List Nat},c ∉ x → c ∉ y → x ++ c :: A=y ++ c :: B → x=y ∧ A=B
 | [],[],A,B,_,_,h=>⟨rfl,by simpa using h⟩
 | [],b :: y,A,B,_,hy,h=>by
   simp at h
   exact absurd (h.1 ▸ List.mem_cons_self) hy
 | a :: x,[],A,B,hx,_,h=>by
   simp at h
   exact absurd (h.1 ▸ List.mem_cons_self) hx
 | a :: x,b :: y,A,B,hx,hy,h=>by
   simp only [List.cons_append,List.cons.injEq] at h
   obtain ⟨h1,h2⟩:=cat_inj (fun z=>hx (List.mem_cons_of_mem _ z)) (fun z=>hy (List.mem_cons_of_mem _ z)) h.2
   exact ⟨by rw [h.1,h1],h2⟩
def free (ws:List Str):Prop:=∀ w ∈ ws,32 ∉ w.cps.toList
theorem sp_cps:(" ":Str)=⟨#[32]⟩:=by decide +kernel
theorem cps_three (x y:Str):(x ++ (" ":Str) ++ y).cps.toList=x.cps.toList ++ 32 :: y.cps.toList:=by
 rw [sp_cps]
 show ((x.cps ++ #[32]) ++ y.cps).toList=_
 simp
theorem str_ext {a b:Str} (h:a.cps.toList=b.cps.toList):a=b:=Str.ext' (Array.toList_inj.mp h)
theorem join_inj:∀ {a b:List Str},a ≠ [] → b ≠ [] → free a → free b → Str.join " " a=Str.join " " b → a=b
 | [],_,h,_,_,_,_=>absurd rfl h
 | _ :: _,[],_,h,_,_,_=>absurd rfl h
 | [x],[y],_,_,_,_,h=>by
   have:x=y:=h
   rw [this]
 | [x],y :: y' :: r,_,_,hx,_,h=>by
   have h':x=y ++ (" ":Str) ++ Str.join " " (y' :: r):=h
   have:=congrArg (fun s:Str=>s.cps.toList) h'
   simp only [cps_three] at this
   exact absurd (by rw [this]; simp) (hx x List.mem_cons_self)
 | x :: x' :: r,[y],_,_,_,hy,h=>by
   have h':x ++ (" ":Str) ++ Str.join " " (x' :: r)=y:=h
   have:=congrArg (fun s:Str=>s.cps.toList) h'
   simp only [cps_three] at this
   exact absurd (by rw [← this]; simp) (hy y List.mem_cons_self)
 | x :: x' :: r,y :: y' :: q,_,_,hx,hy,h=>by
   have h':x ++ (" ":Str) ++ Str.join " " (x' :: r)=y ++ (" ":Str) ++ Str.join " " (y' :: q):=h
   have:=congrArg (fun s:Str=>s.cps.toList) h'
   simp only [cps_three] at this
   obtain ⟨e1,e2⟩:=cat_inj (hx x List.mem_cons_self) (hy y List.mem_cons_self) this
   have ih:=join_inj (a:=x' :: r) (b:=y' :: q) (by simp) (by simp) (fun w hw=>hx w (List.mem_cons_of_mem _ hw)) (fun w hw=>hy w (List.mem_cons_of_mem _ hw)) (str_ext e2)
   rw [str_ext e1,ih]
theorem split_ne (x:Str):wd x ≠ []:=by
 show Txt.split x " " ≠ []
 unfold Txt.split
 split
 ·simp
 ·split
  ·simp
  ·intro h
   have:=congrArg List.length h
   rw [length_partsBetween] at this
   simp at this
theorem split_free' (x:Str):free (wd x):=fun w hw=>by
 have hw':w ∈ Txt.split x " ":=hw
 rw [sp_cps] at hw'
 exact StrLaws.split_free x 32 w hw'
theorem split_join {ws:List Str} (hn:ws ≠ []) (hf:free ws):wd (Str.join " " ws)=ws :=
 join_inj (split_ne _) hn (split_free' _) hf (StrLaws.join_split _ " ")
theorem int_map_inj:∀ {a b:List Int},a.map T.int=b.map T.int → a=b
 | [],[],_=>rfl
 | [],_ :: _,h=>by simp at h
 | _ :: _,[],h=>by simp at h
 | x :: a,y :: b,h=>by
   simp only [List.map_cons,List.cons.injEq,T.int.injEq] at h
   rw [h.1,int_map_inj h.2]
theorem areM_b {m:Int} {r:List Int} (h:areM (tupI r) m=true):∀ i ∈ r,0 ≤ i ∧ i < m:=by
 obtain ⟨is,e,b,_⟩:=up_ints m (r.map T.int) 0 (by omega) h
 rw [int_map_inj e]; exact b
theorem areM_R {m:Int} {r:List Int} (hm:m ≤ 6) (h:areM (tupI r) m=true):Rw r:=by
 obtain ⟨r',e,k⟩:=areM_rw hm h
 have e':r.map T.int=r'.map T.int:=by
  unfold tupI at e
  exact T.tup.inj e
 rw [int_map_inj e']; exact k
theorem tab_b {m:Nat} {rs:List (List Int)} (h:isTab (tbI m rs)=true):(1 ≤ m ∧ m ≤ 6) ∧ rs.length ≤ 64 ∧ ∀ r ∈ rs,(∀ i ∈ r,0 ≤ i ∧ i < (m:Int)) ∧ Rw r:=by
 unfold isTab at h
 simp only [Bool.and_eq_true,decide_eq_true_eq,List.length_map,List.all_eq_true] at h
 obtain ⟨⟨⟨h1,h2⟩,h3⟩,h4⟩:=h
 refine ⟨⟨by omega,by omega⟩,h3,fun r hr=>?_⟩
 have:=h4 (tupI r) (List.mem_map.mpr ⟨r,hr,rfl⟩)
 exact ⟨areM_b this,areM_R h2 this⟩
theorem rul_b {m:Nat} (hm:m ≤ 6) {rs:List (List Int × List Int)} (h:areRul (m:Int) (.tup (rs.map tRl))=true):rs.length ≤ 64 ∧ ∀ p ∈ rs,((∀ i ∈ p.1,0 ≤ i ∧ i < (m:Int)) ∧ ∀ i ∈ p.2,0 ≤ i ∧ i < (m:Int)) ∧ Rw p.1 ∧ Rw p.2:=by
 unfold areRul at h
 simp only [Bool.and_eq_true,decide_eq_true_eq,List.length_map,List.all_eq_true] at h
 refine ⟨h.1,fun p hp=>?_⟩
 have:=h.2 (tRl p) (List.mem_map.mpr ⟨p,hp,rfl⟩)
 unfold tRl isRul at this
 simp only [Bool.and_eq_true] at this
 exact ⟨⟨areM_b this.1,areM_b this.2⟩,areM_R (by omega) this.1,areM_R (by omega) this.2⟩
theorem dg_free:∀ j ∈ List.range 7,32 ∉ (dg (j:Int)).cps.toList:=by decide +kernel
theorem dg_fr {m:Nat} (hm:m ≤ 6) {i:Int} (h:0 ≤ i ∧ i ≤ m):32 ∉ (dg i).cps.toList:=by
 have:=dg_free i.toNat (List.mem_range.mpr (by omega))
 rwa [show ((i.toNat:Nat):Int)=i by omega] at this
theorem wd_free:32 ∉ ("table":Str).cps.toList ∧ 32 ∉ ("rules":Str).cps.toList ∧ 32 ∉ ("thing":Str).cps.toList ∧ 32 ∉ ("if":Str).cps.toList ∧ 32 ∉ ("then":Str).cps.toList ∧ 32 ∉ ("end":Str).cps.toList:=by decide +kernel
theorem free.app {a b:List Str} (h:free a) (k:free b):free (a ++ b):=fun w hw=>(List.mem_append.mp hw).elim (h w) (k w)
theorem free.cons {a:Str} {b:List Str} (h:32 ∉ a.cps.toList) (k:free b):free (a :: b):=fun w hw=>(List.mem_cons.mp hw).elim (fun e=>e ▸ h) (k w)
theorem free.nil:free []:=fun _ h=>nomatch h
theorem free_dg {m:Nat} (hm:m ≤ 6) {r:List Int} (h:∀ i ∈ r,0 ≤ i ∧ i < (m:Int)):free (r.map dg):=fun w hw=>by
 obtain ⟨i,hi,rfl⟩:=List.mem_map.mp hw
 exact dg_fr hm (by have:=h i hi; omega)
theorem free_flat {α:Type} {k:α → List Str} {as:List α} (h:∀ a ∈ as,free (k a)):free (as.flatMap k):=fun w hw=>by
 obtain ⟨a,ha,hw⟩:=List.mem_flatMap.mp hw
 exact h a ha w hw
theorem dg_inj:∀ a ∈ List.range 7,∀ b ∈ List.range 7,dg (a:Int)=dg (b:Int) → a=b:=by decide +kernel
theorem wds:("thing":Str) ≠ "end" ∧ ("if":Str) ≠ "end" ∧ ("then":Str) ≠ "end":=by decide +kernel
theorem rd_map {m:Nat} {rs:List (List Int)} (h:isTab (tbI m rs)=true):rd (Str.join " " (tabW (m:Int) rs))=some (m,rs):=by
 obtain ⟨⟨m1,m2⟩,_,hr⟩:=tab_b h
 obtain ⟨f1,_,f3,_,_,f6⟩:=wd_free
 have hW:wd (Str.join " " (tabW (m:Int) rs))=tabW (m:Int) rs:=split_join (by simp [tabW]) (.app (.cons f1 (.cons (dg_fr m2 (by omega)) .nil)) (free_flat fun r hq=>.cons f3 (.app (free_dg m2 (hr r hq).1) (.cons f6 .nil))))
 have t2:(tabW (m:Int) rs).take 2=[("table":Str),dg (m:Int)]:=rfl
 have in_:(tabW (m:Int) rs).take 2 ∈ hds:=by
  rw [t2]
  refine List.mem_map.mpr ⟨m - 1,List.mem_range.mpr (by omega),?_⟩
  rw [show (1:Int) + ((m - 1:Nat):Int)=(m:Int) by omega]
 obtain ⟨k1,k2,k3⟩:=many_ok in_
 have em:manyOf (tabW (m:Int) rs)=m:=by
  rw [t2] at k3
  simp only [List.cons.injEq,and_true,true_and] at k3
  exact (dg_inj m (List.mem_range.mpr (by omega)) _ (List.mem_range.mpr (by omega)) k3).symm
 have ep:prts ((tabW (m:Int) rs).drop 2)=(rs.map fun r=>("thing":Str) :: r.map dg,[]):=by
  have e1:(tabW (m:Int) rs).drop 2=(rs.map fun r=>("thing":Str) :: r.map dg).flatMap ended:=by
   rw [List.flatMap_map]; rfl
  rw [e1]
  refine prts_map _ [] fun p hp w hw=>?_
  obtain ⟨r,hq,rfl⟩:=List.mem_map.mp hp
  rcases List.mem_cons.mp hw with rfl | hw
  ·exact wds.1
  ·obtain ⟨i,hi,rfl⟩:=List.mem_map.mp hw
   exact (dg_no m2 ((hr r hq).1 i hi)).2
 unfold rd
 rw [hW,if_pos in_,ep,em,if_pos rfl]
 dsimp only
 rw [mapO_map fun r hq=>rwO_map m2 (hr r hq).1]
 dsimp only [Option.bind]
 rw [if_pos h]
theorem rdR_map {m:Nat} {rs:List (List Int × List Int)} (hm:m ≤ 6) (h:areRul (m:Int) (.tup (rs.map tRl))=true):wd (Str.join " " (rulW (m:Int) rs))=rulW (m:Int) rs ∧ rdR m (Str.join " " (rulW (m:Int) rs))=some rs:=by
 obtain ⟨_,hr⟩:=rul_b hm h
 obtain ⟨_,f2,_,f4,f5,f6⟩:=wd_free
 have hW:wd (Str.join " " (rulW (m:Int) rs))=rulW (m:Int) rs:=split_join (by simp [rulW]) (.app (.cons f2 (.cons (dg_fr hm (by omega)) .nil)) (free_flat fun p hq=>.app (.cons f4 (.app (free_dg hm (hr p hq).1.1) .nil)) (.cons f5 (.app (free_dg hm (hr p hq).1.2) (.cons f6 .nil)))))
 refine ⟨hW,?_⟩
 have t2:(rulW (m:Int) rs).take 2=[("rules":Str),dg (m:Int)]:=rfl
 have ep:prts ((rulW (m:Int) rs).drop 2)=(rs.map fun p=>("if":Str) :: (p.1.map dg ++ ("then":Str) :: p.2.map dg),[]):=by
  have e1:(rulW (m:Int) rs).drop 2=(rs.map fun p=>("if":Str) :: (p.1.map dg ++ ("then":Str) :: p.2.map dg)).flatMap ended:=by
   rw [List.flatMap_map]
   show rs.flatMap ruleW=_
   congr 1
   funext p
   simp [ruleW,wrd,ended]
  rw [e1]
  refine prts_map _ [] fun q hq w hw=>?_
  obtain ⟨p,hp,rfl⟩:=List.mem_map.mp hq
  rcases List.mem_cons.mp hw with rfl | hw
  ·exact wds.2.1
  ·rcases List.mem_append.mp hw with hw | hw
   ·obtain ⟨i,hi,rfl⟩:=List.mem_map.mp hw
    exact (dg_no hm ((hr p hp).1.1 i hi)).2
   ·rcases List.mem_cons.mp hw with rfl | hw
    ·exact wds.2.2
    ·obtain ⟨i,hi,rfl⟩:=List.mem_map.mp hw
     exact (dg_no hm ((hr p hp).1.2 i hi)).2
 unfold rdR
 rw [hW,if_pos t2,ep,if_pos rfl]
 dsimp only
 rw [mapO_map fun p hp=>rlO_map hm (hr p hp).1.1 (hr p hp).1.2]
 dsimp only [Option.bind]
 rw [if_pos h]
theorem rdR_other {m k:Nat} {rs:List (List Int × List Int)} (hm:m ≤ 6) (hk:k ≤ 6) (hne:k ≠ m) (h:areRul (m:Int) (.tup (rs.map tRl))=true):rdR k (Str.join " " (rulW (m:Int) rs))=none:=by
 have hW:=(rdR_map hm h).1
 unfold rdR
 rw [hW]
 refine if_neg fun e=>?_
 have e':[("rules":Str),dg (m:Int)]=[("rules":Str),dg (k:Int)]:=e
 simp only [List.cons.injEq,and_true,true_and] at e'
 exact hne (dg_inj m (List.mem_range.mpr (by omega)) k (List.mem_range.mpr (by omega)) e').symm
theorem found_suite (a b:T):hAs CS "NoText" 3 B1__law_found (fun _ _=>none) "NoText" [some (.pu a),some (.pu b),none,none,none,none]=some (.rt .non):=by
 have hc:CS.contains ("NoText":Str)=true:=by decide +kernel
 have hs:subB "NoText" "NoText"=true:=by decide +kernel
 unfold hAs
 rw [if_pos hc,if_pos hs]
 show (B1__law_found [some (.pu a),some (.pu b),none,some (.xc "NoText"),none,none]).map (gone 3)=_
 have e:B1__law_found [some (.pu a),some (.pu b),none,some (.xc "NoText"),none,none]=some (.rt .non):=by
  have at3:∀ o o',([some (.pu a),some (.pu b),none,some (.xc "NoText"),o,o']:Rho)[3]?=some (some (.xc "NoText")):=fun o o'=>rfl
  unfold B1__law_found
  refine b_seq (b_set (b_new (b_lst (b_cons (b_isx (at3 _ _) hc (b:=false) (by decide +kernel)) (b_cons (b_isx (at3 _ _) hc (b:=false) (by decide +kernel)) (b_cons (b_isx (at3 _ _) hc (b:=false) (by decide +kernel)) (b_cons (b_isx (at3 _ _) hc (b:=false) (by decide +kernel)) b_nil)))) (sizeLine_ge (by simp)))) (set_s (set_s (set_s (set_s set_z))))) ?_
  refine b_seq (b_set (b_andV (b_isx (at3 _ _) hc (b:=true) (by decide +kernel)) fun _=>b_isv (at3 _ _) hc) (set_s (set_s (set_s (set_s (set_s set_z)))))) ?_
  have any0:tAny (.lst [.bl false,.bl false,.bl false,.bl false])=some (.bl false):=rfl
  refine b_ret (t:=.non) (b_f2 (b_new (b_lst (b_cons (b_tup (b_cons b_kc b_nil) (sizeLine_ge (by simp))) (b_cons b_kc b_nil)) (sizeLine_ge (by simp)))) (b_f1 (b_andV (b_gv rfl) fun _=>b_notV (b_f1 (b_gv rfl) any0)) rfl) rfl) rfl
 rw [e]
 rfl
theorem found_ret {a b t:T} (h:tIsN t=some (.bl false)):sRet (f2 tIx (fNew (fLst (fCons (gv 2) (fCons (fTup (fCons (kc (.str "")) fNil)) fNil)))) (f1 tIntB (f1 tIsN (gv 2)))) [some (.pu a),some (.pu b),some (.pu t),none,none,none]=some (.rt t) :=
 b_ret (b_f2 (b_new (b_lst (b_cons (b_gv rfl) (b_cons (b_tup (b_cons b_kc b_nil) (sizeLine_ge (by simp))) b_nil)) (sizeLine_ge (by simp)))) (b_f1 (b_f1 (b_gv rfl) h) rfl) rfl) rfl
theorem found_x {a b:T} (h:X1__law_found [some (.pu a),some (.pu b),none,none,none,none]=some (.xc [some (.pu a),some (.pu b),none,none,none,none] "NoText")):M__law_found [a,b]=some .non:=by
 refine I__law_found ?_
 unfold F__law_found
 refine b_seqR (t:=.non) ?_ rfl
 unfold sTry
 rw [h]
 exact found_suite a b
theorem found_v {a b t:T} (h:X1__law_found [some (.pu a),some (.pu b),none,none,none,none]=some (.ok (.nx [some (.pu a),some (.pu b),some (.pu t),none,none,none]))) (hn:tIsN t=some (.bl false)):M__law_found [a,b]=some t:=by
 refine I__law_found ?_
 unfold F__law_found
 refine b_seq (ρ':=[some (.pu a),some (.pu b),some (.pu t),none,none,none]) ?_ (found_ret hn)
 unfold sTry
 rw [h]
theorem found_c (x:T) (k:Nat):fB (f2 tEqq (gv 1) (kc (.int 0))) [some (.pu x),some (.pu (tN k)),none,none,none,none]=some (decide (k=0)):=by
 refine ev_eq (b_B (b_f2 (b_gv rfl) b_kc (tEqq_d (by rw [dep_int]; omega)))) ?_
 rw [teq_ii,Bool.eq_iff_iff]
 simp
def fnd (x:Str) (k:Nat):T:=if k=0 then (match rd x with | some q=>tbI q.1 q.2 | none=>.non) else (match rdR k x with | some rs=>.tup (rs.map tRl) | none=>.non)
theorem found_ev {x:Str} {k:Nat} (hx:x.length ≤ 40000) (hk:k ≤ 6):M__law_found [.str x,tN k]=some (fnd x k):=by
 have hc:=found_c (.str x) k
 unfold fnd
 by_cases h0:k=0
 ·rw [decide_eq_true h0] at hc
  rw [if_pos h0]
  have hg:=g_read hx
  have ar:fCons (gv 0) fNil [some (.pu (.str x)),some (.pu (tN k)),none,none,none,none]=some [.str x]:=b_cons (b_gv rfl) b_nil
  cases hr:rd x with
  | none =>
    rw [hr] at hg
    exact found_x ((x_ifT hc).trans (x_orX (gCall_t ar rfl hg)))
  | some q =>
    rw [hr] at hg
    exact found_v ((x_ifT hc).trans (x_orN (gCall_f ar hg) (b_set (b_call ar rfl (read_ev hx hr)) (set_s (set_s set_z))))) rfl
 ·rw [decide_eq_false h0] at hc
  rw [if_neg h0]
  have hg:=g_read_rules (m:=k) hx hk
  have ar:fCons (gv 0) (fCons (gv 1) fNil) [some (.pu (.str x)),some (.pu (tN k)),none,none,none,none]=some [.str x,tN k]:=b_cons (b_gv rfl) (b_cons (b_gv rfl) b_nil)
  cases hr:rdR k x with
  | none =>
    rw [hr] at hg
    exact found_x ((x_ifF hc).trans (x_orX (gCall_t ar rfl hg)))
  | some rs =>
    rw [hr] at hg
    exact found_v ((x_ifF hc).trans (x_orN (gCall_f ar hg) (b_set (b_call ar rfl (read_rules_ev hx hk hr)) (set_s (set_s set_z))))) rfl
theorem tupI_wf {r:List Int} (h:Rw r) (d:Nat):Wf (d + 1) (tupI r):=.mk_tup (fun t ht=>by
 obtain ⟨j,_,rfl⟩:=List.mem_map.mp ht
 exact .int _) (by have:=h.l; simp; omega)
theorem tbI_wf {m:Nat} {rs:List (List Int)} (hl:rs.length ≤ 64) (hr:∀ r ∈ rs,Rw r):Wf 40 (tbI m rs):=.mk_tup (d:=39) (fun t ht=>by
 simp only [List.mem_cons,List.not_mem_nil,or_false] at ht
 rcases ht with rfl | rfl
 ·exact .int _
 ·refine .mk_tup (d:=38) (fun u hu=>?_) (by simp; omega)
  obtain ⟨r,hq,rfl⟩:=List.mem_map.mp hu
  exact tupI_wf (hr r hq) 37) (by simp)
theorem tRl_wf {rs:List (List Int × List Int)} (hl:rs.length ≤ 64) (hr:∀ p ∈ rs,Rw p.1 ∧ Rw p.2):Wf 40 (.tup (rs.map tRl)):=.mk_tup (d:=39) (fun u hu=>by
 obtain ⟨p,hq,rfl⟩:=List.mem_map.mp hu
 refine .mk_tup (d:=38) (fun v hv=>?_) (by simp)
 simp only [List.mem_cons,List.not_mem_nil,or_false] at hv
 rcases hv with rfl | rfl
 ·exact tupI_wf (hr p hq).1 37
 ·exact tupI_wf (hr p hq).2 37) (by simp; omega)
theorem good_n (x:T) (k:T):M__law_good [.non,x,k]=some (.bl true):=by
 refine I__law_good ?_
 unfold F__law_good
 exact b_seqIf (b:=true) (b_B (b_f1 (b_gv rfl) rfl)) (fun _=>b_seqRet (b_ret b_kc rfl)) fun q=>by cases q
theorem good_ev {x:Str} {k:Nat} (hk:k ≤ 6):M__law_good [fnd x k,.str x,tN k]=some (.bl true):=by
 unfold fnd
 have cc:∀ t:T,fB (f2 tEqq (gv 2) (kc (.int 0))) [some (.pu t),some (.pu (.str x)),some (.pu (tN k))]=some (decide (k=0)):=fun t=>by
  refine ev_eq (b_B (b_f2 (b_gv rfl) b_kc (tEqq_d (by rw [dep_int]; omega)))) ?_
  rw [teq_ii,Bool.eq_iff_iff]
  simp
 by_cases h0:k=0
 ·rw [if_pos h0]
  cases hr:rd x with
  | none=>exact good_n _ _
  | some q =>
    obtain ⟨m,rs⟩:=q
    obtain ⟨m1,m2,ht,ex⟩:=rd_some hr
    obtain ⟨_,hl,hb⟩:=tab_b ht
    refine I__law_good ?_
    unfold F__law_good
    refine b_seqIf (b:=false) (b_B (b_f1 (b_gv rfl) rfl)) (fun q=>by cases q) fun _=>b_seqNil (b_seqIf (cc _) (fun _=>b_seqRet ?_) fun q=>by rw [decide_eq_true h0] at q; cases q)
    refine b_ret (b_andV (b_call (b_cons (b_gv rfl) b_nil) rfl (law_is_table_ev _ (tbI_wf hl fun r hq=>(hb r hq).2))) fun _=>b_f2 (b_call (b_cons (b_gv rfl) b_nil) rfl (law_written_ev rfl (by omega) (by omega) hl fun r hq=>(hb r hq).2)) (b_gv rfl) (tEqq_d (by rw [dep_s]; omega))) ?_
    rw [ht,← ex,teq_refl]; rfl
 ·rw [if_neg h0]
  cases hr:rdR k x with
  | none=>exact good_n _ _
  | some rs =>
    obtain ⟨ht,ex⟩:=rdR_some hr
    obtain ⟨hl,hb⟩:=rul_b hk ht
    refine I__law_good ?_
    unfold F__law_good
    refine b_seqIf (b:=false) (b_B (b_f1 (b_gv rfl) rfl)) (fun q=>by cases q) fun _=>b_seqNil (b_seqIf (cc _) (fun q=>by rw [decide_eq_false h0] at q; cases q) fun _=>b_seqNil ?_)
    refine b_ret (b_andV (b_call (b_cons (b_gv rfl) (b_cons (b_gv rfl) b_nil)) rfl (law_are_rules_ev _ _ (tRl_wf hl fun p hq=>(hb p hq).2))) fun _=>b_f2 (b_call (b_cons (b_gv rfl) (b_cons (b_gv rfl) b_nil)) rfl (law_shown_ev rfl (by omega) (by omega) hl fun p hq=>(hb p hq).2)) (b_gv rfl) (tEqq_d (by rw [dep_s]; omega))) ?_
    rw [ht,← ex,teq_refl]; rfl
theorem wgt_app (a b:List Str):wgt (a ++ b)=wgt a + wgt b:=by simp [wgt]; omega
theorem sp_len:(" ":Str).length=1:=by decide +kernel
theorem join_wgt:∀ {a:List Str},a ≠ [] → (Str.join " " a).length + 1=wgt a
 | [],h=>absurd rfl h
 | [x],_=>by rw [show Str.join " " [x]=x from rfl,wgt_cons]; simp [wgt]
 | x :: y :: a,_=>by
   have:=join_wgt (a:=y :: a) (by simp)
   rw [join_two,Str.length_append,Str.length_append,sp_len,wgt_cons]
   omega
theorem wd_wgt (x:Str):wgt (wd x)=x.length + 1:=by
 rw [← join_wgt (split_ne x)]
 congr 2
 exact StrLaws.join_split x " "
theorem wgt_split (W:List Str) (k:Nat):wgt (W.take k) + wgt (W.drop k)=wgt W:=by rw [← wgt_app,List.take_append_drop]
theorem cut_any {α:Type} (xs:List α) {a b:Nat} (h:a ≤ b):cutT xs (some (a:Int)) (some (b:Int))=(xs.drop a).take (b - a):=by
 unfold cutT
 rw [HT.sIx_nat,HT.sIx_nat]
 by_cases hb:b ≤ xs.length
 ·rw [Nat.min_eq_left hb,Nat.min_eq_left (by omega)]
 ·rw [Nat.min_eq_right (show xs.length ≤ b by omega)]
  by_cases ha:a ≤ xs.length
  ·rw [Nat.min_eq_left ha,List.take_of_length_le (by rw [List.length_drop]; omega),List.take_of_length_le (by rw [List.length_drop]; omega)]
  ·rw [Nat.min_eq_right (by omega),List.drop_of_length_le (Nat.le_refl _),List.drop_of_length_le (by omega)]; simp
theorem b_cutS {f:FE} {lo hi:FO} {ρ:Rho} {x:Str} {l h:Option Int} (h1:f ρ=some (.str x)) (h2:lo ρ=some l) (h3:hi ρ=some h) (hx:x.length ≤ 100000):fCutS f lo hi ρ=some (.str (Txt.slice x l h)):=by
 unfold fCutS
 rw [h1,Option.bind_some,h2,Option.bind_some,h3,Option.bind_some]
 exact if_pos (sizeLine_ge (by omega))
theorem tLen_s {x:Str} (h:x.length ≤ 100000):tLen (.str x)=some (.int x.length):=if_pos (sizeLine_ge (by omega))
def sgn:Str:=" 01256-_eT\n\t"
theorem sgn_at:∀ j ∈ List.range 12,(atI sgn.cps.toList (j:Int)).isSome=true:=by decide +kernel
theorem sgn_len:sgn.length ≤ 100:=by decide +kernel
theorem sign_ev {i:Int} (h0:0 ≤ i) (h1:i < 12):∃ c:Str,tIxS (.str " 01256-_eT\n\t") (.int i)=some (.str c) ∧ c.length=1:=by
 have:=sgn_at i.toNat (List.mem_range.mpr (by omega))
 rw [show ((i.toNat:Nat):Int)=i by omega] at this
 obtain ⟨c,hc⟩:=Option.isSome_iff_exists.mp this
 refine ⟨⟨#[c]⟩,?_,rfl⟩
 show tIxS (.str sgn) (.int i)=_
 unfold tIxS
 dsimp only
 rw [if_pos (sizeLine_ge (Nat.le_trans sgn_len (by omega))),hc]
 rfl
def smw:List Str:=["table","rules","thing","if","then","end","0","1","2","5","6","7","00","-1","a"]
def smt:Str:="table rules thing if then end 0 1 2 5 6 7 00 -1 a"
theorem smt_join:smt=Str.join " " smw:=by decide +kernel
theorem smw_ok:∀ w ∈ smw,32 ∉ w.cps.toList ∧ w.length ≤ 5:=by decide +kernel
theorem smt_wd:wd smt=smw:=by
 rw [smt_join]
 exact split_join (by simp [smw]) fun w hw=>(smw_ok w hw).1
theorem smt_len:smt.length ≤ 100:=by decide +kernel
abbrev ρC (x:Str) (n:Int) (a p:Nat) (k:Int) (o6 o7 o8:Option Sl):Rho:=[some (.pu (.str x)),some (.pu (.int n)),some (.pu (lS (wd x))),some (.pu (tN a)),some (.pu (tN p)),some (.pu (.int k)),o6,o7,o8]
theorem kind_c {x:Str} {n:Int} {a p:Nat} {k:Int} {o6 o7 o8:Option Sl} (j:Int):fB (f2 tEqq (gv 5) (kc (.int j))) (ρC x n a p k o6 o7 o8)=some (decide (k=j)):=by
 refine ev_eq (b_B (b_f2 (b_gv rfl) b_kc (tEqq_d (by rw [dep_int]; omega)))) ?_
 rw [teq_ii,Bool.eq_iff_iff]
 simp
theorem words_j {x:Str} {ws:List Str} (h:wgt ws ≤ 1000000) {f:FE} {ρ:Rho} (hf:f ρ=some (lS ws)):f2 tJoin (kc (.str " ")) f ρ=some (.str (Str.join " " ws)):=b_f2 b_kc hf (tJoin_ev (by omega))
theorem add_S {a b:List Str} (h:a.length + b.length ≤ 1000000):tAdd (lS a) (lS b)=some (lS (a ++ b)):=by
 rw [tAdd_l (sizeLine_ge (by rw [List.length_map,List.length_map]; exact h)),← List.map_append]
theorem changed_ev {x:Str} {n:Int} (hx:x.length ≤ 20000) (hn:0 ≤ n):∃ y,M__law_changed [.str x,.int n]=some (.str y) ∧ y.length ≤ 2 * x.length + 20:=by
 have hw:=wd_wgt x
 have hl:=split_le x (by omega)
 have hne:=split_ne x
 have hpos:0 < (wd x).length:=by
  cases h:wd x with
  | nil=>exact absurd h hne
  | cons=>simp
 obtain ⟨a,ea,ha⟩:∃ a:Nat,(a:Int)=n / 8 % ((wd x).length:Int) ∧ a < (wd x).length:=by
  have h1:=Int.emod_nonneg (n / 8) (show ((wd x).length:Int) ≠ 0 by omega)
  have h2:=Int.emod_lt_of_pos (n / 8) (show (0:Int) < (wd x).length by omega)
  exact ⟨(n / 8 % ((wd x).length:Int)).toNat,by omega,by omega⟩
 obtain ⟨p,ep,hp⟩:∃ p:Nat,(p:Int)=n / 8 % ((x.length:Int) + 1) ∧ p ≤ x.length:=by
  have h1:=Int.emod_nonneg (n / 8) (show ((x.length:Int) + 1) ≠ 0 by omega)
  have h2:=Int.emod_lt_of_pos (n / 8) (show (0:Int) < (x.length:Int) + 1 by omega)
  exact ⟨(n / 8 % ((x.length:Int) + 1)).toNat,by omega,by omega⟩
 obtain ⟨k,ek⟩:∃ k:Int,k=n % 8:=⟨_,rfl⟩
 have k0:0 ≤ k ∧ k < 8:=by omega
 have s2:sSet 2 (fNew (fSplit (gv 0) (kc (.str " ")))) [some (.pu (.str x)),some (.pu (.int n)),none,none,none,none,none,none,none]=some (.nx [some (.pu (.str x)),some (.pu (.int n)),some (.pu (lS (wd x))),none,none,none,none,none,none]):=b_set (b_new (b_split (b_gv rfl) b_kc sp0 (by omega))) (set_s (set_s set_z))
 have s3:sSet 3 (f2 tMd (f2 tFd (gv 1) (kc (.int 8))) (f1 tLen (gv 2))) [some (.pu (.str x)),some (.pu (.int n)),some (.pu (lS (wd x))),none,none,none,none,none,none]=some (.nx [some (.pu (.str x)),some (.pu (.int n)),some (.pu (lS (wd x))),some (.pu (tN a)),none,none,none,none,none]) :=
  b_set (t:=tN a) (ev_eq (b_f2 (b_f2 (b_gv rfl) b_kc (tFd_i (by omega) (by omega))) (b_f1 (b_gv rfl) tLen_l) (tMd_i (by rw [List.length_map]; omega))) (by rw [List.length_map,← ea])) (set_s (set_s (set_s set_z)))
 have s4:sSet 4 (f2 tMd (f2 tFd (gv 1) (kc (.int 8))) (f2 tAdd (f1 tLen (gv 0)) (kc (.int 1)))) [some (.pu (.str x)),some (.pu (.int n)),some (.pu (lS (wd x))),some (.pu (tN a)),none,none,none,none,none]=some (.nx [some (.pu (.str x)),some (.pu (.int n)),some (.pu (lS (wd x))),some (.pu (tN a)),some (.pu (tN p)),none,none,none,none]) :=
  b_set (t:=tN p) (ev_eq (b_f2 (b_f2 (b_gv rfl) b_kc (tFd_i (by omega) (by omega))) (b_f2 (b_f1 (b_gv rfl) (tLen_s (by omega))) b_kc tAdd_i) (tMd_i (by omega))) (by rw [← ep])) (set_s (set_s (set_s (set_s set_z))))
 have s5:sSet 5 (f2 tMd (gv 1) (kc (.int 8))) [some (.pu (.str x)),some (.pu (.int n)),some (.pu (lS (wd x))),some (.pu (tN a)),some (.pu (tN p)),none,none,none,none]=some (.nx (ρC x n a p k none none none)) :=
  b_set (t:=.int k) (ev_eq (b_f2 (b_gv rfl) b_kc (tMd_i (by omega))) (by rw [← ek])) (set_s (set_s (set_s (set_s (set_s set_z)))))
 have sl:∀ l h:Option Int,(Txt.slice x l h).length ≤ x.length:=fun l h=>Txt.slice_le x l h
 have wt:∀ j,wgt ((wd x).take j) + wgt ((wd x).drop j)=x.length + 1:=fun j=>by rw [wgt_split,hw]
 have w1:wgt (((wd x).drop a).take 1) + wgt ((wd x).drop (a + 1))=wgt ((wd x).drop a):=by
  have:=wgt_split ((wd x).drop a) 1
  rwa [List.drop_drop] at this
 have w2:wgt (((wd x).drop (a + 1)).take 1) + wgt ((wd x).drop (a + 2))=wgt ((wd x).drop (a + 1)):=by
  have:=wgt_split ((wd x).drop (a + 1)) 1
  rwa [List.drop_drop] at this
 have wa:=wt a
 have cTo:∀ {o6 o7 o8},fCut (gv 2) foN (foS (gv 3)) (ρC x n a p k o6 o7 o8)=some (lS ((wd x).take a)):=fun {o6 o7 o8}=>ev_eq (b_cut (b_gv rfl) b_oN (b_oS (b_gv rfl)) tCut_l) (congrArg T.lst (cutS_to (wd x) a))
 have cFr:∀ {o6 o7 o8},fCut (gv 2) (foS (gv 3)) foN (ρC x n a p k o6 o7 o8)=some (lS ((wd x).drop a)):=fun {o6 o7 o8}=>ev_eq (b_cut (b_gv rfl) (b_oS (b_gv rfl)) b_oN tCut_l) (congrArg T.lst (cutS_from (wd x) a))
 have cF1:∀ {o6 o7 o8},fCut (gv 2) (foS (f2 tAdd (gv 3) (kc (.int 1)))) foN (ρC x n a p k o6 o7 o8)=some (lS ((wd x).drop (a + 1))):=fun {o6 o7 o8}=>ev_eq (b_cut (b_gv rfl) (b_oS (b_f2 (b_gv rfl) b_kc tAdd_i)) b_oN tCut_l) (by
  rw [show (a:Int) + 1=((a + 1:Nat):Int) by omega]; exact congrArg T.lst (cutS_from (wd x) (a + 1)))
 have cF2:∀ {o6 o7 o8},fCut (gv 2) (foS (f2 tAdd (gv 3) (kc (.int 2)))) foN (ρC x n a p k o6 o7 o8)=some (lS ((wd x).drop (a + 2))):=fun {o6 o7 o8}=>ev_eq (b_cut (b_gv rfl) (b_oS (b_f2 (b_gv rfl) b_kc tAdd_i)) b_oN tCut_l) (by
  rw [show (a:Int) + 2=((a + 2:Nat):Int) by omega]; exact congrArg T.lst (cutS_from (wd x) (a + 2)))
 have cM:∀ {o6 o7 o8},fCut (gv 2) (foS (gv 3)) (foS (f2 tAdd (gv 3) (kc (.int 1)))) (ρC x n a p k o6 o7 o8)=some (lS (((wd x).drop a).take 1)):=fun {o6 o7 o8}=>ev_eq (b_cut (b_gv rfl) (b_oS (b_gv rfl)) (b_oS (b_f2 (b_gv rfl) b_kc tAdd_i)) tCut_l) (by
  rw [show (a:Int) + 1=((a + 1:Nat):Int) by omega,cut_any _ (by omega),show a + 1 - a=1 by omega,← List.map_drop,← List.map_take])
 have cM1:∀ {o6 o7 o8},fCut (gv 2) (foS (f2 tAdd (gv 3) (kc (.int 1)))) (foS (f2 tAdd (gv 3) (kc (.int 2)))) (ρC x n a p k o6 o7 o8)=some (lS (((wd x).drop (a + 1)).take 1)):=fun {o6 o7 o8}=>ev_eq (b_cut (b_gv rfl) (b_oS (b_f2 (b_gv rfl) b_kc tAdd_i)) (b_oS (b_f2 (b_gv rfl) b_kc tAdd_i)) tCut_l) (by
  rw [show (a:Int) + 1=((a + 1:Nat):Int) by omega,show (a:Int) + 2=((a + 2:Nat):Int) by omega,cut_any _ (by omega),show a + 2 - (a + 1)=1 by omega,← List.map_drop,← List.map_take])
 have lt:((wd x).take a).length ≤ 40002:=by rw [List.length_take]; omega
 have ld:∀ j,((wd x).drop j).length ≤ 40002:=fun j=>by rw [List.length_drop]; omega
 have lm:∀ j,(((wd x).drop j).take 1).length ≤ 1:=fun j=>by rw [List.length_take]; omega
 have la:=lm a
 have la1:=lm (a + 1)
 have d0:=ld a
 have d1:=ld (a + 1)
 have d2:=ld (a + 2)
 have fin:∀ {y:Str},y.length ≤ 2 * x.length + 20 → F__law_changed [some (.pu (.str x)),some (.pu (.int n)),none,none,none,none,none,none,none]=some (.rt (.str y)) → ∃ y,M__law_changed [.str x,.int n]=some (.str y) ∧ y.length ≤ 2 * x.length + 20:=fun {y} hy h=>⟨y,I__law_changed h,hy⟩
 have jl:∀ ws:List Str,(Str.join " " ws).length ≤ wgt ws:=fun ws=>join_len " " sp1 ws
 by_cases c0:k=0
 ·refine fin (y:=Txt.slice x none (some (p:Int)) ++ Txt.slice x (some ((p:Int) + 1)) none) (by rw [Str.length_append]; have:=sl none (some (p:Int)); have:=sl (some ((p:Int) + 1)) none; omega) ?_
  unfold F__law_changed
  refine b_seq s2 (b_seq s3 (b_seq s4 (b_seq s5 (b_seqIf (kind_c 0) (fun _=>b_seqRet ?_) fun q=>by rw [decide_eq_true c0] at q; cases q))))
  exact b_ret (b_f2 (b_cutS (b_gv rfl) b_oN (b_oS (b_gv rfl)) (by omega)) (b_cutS (b_gv rfl) (b_oS (b_f2 (b_gv rfl) b_kc tAdd_i)) b_oN (by omega)) (tAdd_s (by have:=sl none (some (p:Int)); have:=sl (some ((p:Int) + 1)) none; omega))) rfl
 by_cases c1:k < 3
 ·obtain ⟨c,ec,lc⟩:=sign_ev (i:=n / 7 % 12) (by omega) (by omega)
  refine fin (y:=Txt.slice x none (some (p:Int)) ++ c ++ Txt.slice x (some ((p:Int) + k - 1)) none) (by rw [Str.length_append,Str.length_append]; have:=sl none (some (p:Int)); have:=sl (some ((p:Int) + k - 1)) none; omega) ?_
  unfold F__law_changed
  refine b_seq s2 (b_seq s3 (b_seq s4 (b_seq s5 (b_seqIf (kind_c 0) (fun q=>by rw [decide_eq_false c0] at q; cases q) fun _=>b_seqNil (b_seqIf (b_B (b_f2 (b_gv rfl) b_kc tLtI_i)) (fun _=>b_seqSeq ?_) fun q=>by rw [decide_eq_true c1] at q; cases q)))))
  refine b_seq (b_set (b_f2 b_kc (b_f2 (b_f2 (b_gv rfl) b_kc (tFd_i (by omega) (by omega))) b_kc (tMd_i (by omega))) ec) (set_s (set_s (set_s (set_s (set_s (set_s set_z))))))) (b_seqRet ?_)
  exact b_ret (b_f2 (b_f2 (b_cutS (b_gv rfl) b_oN (b_oS (b_gv rfl)) (by omega)) (b_gv rfl) (tAdd_s (by have:=sl none (some (p:Int)); omega))) (b_cutS (b_gv rfl) (b_oS (b_f2 (b_f2 (b_gv rfl) (b_gv rfl) tAdd_i) b_kc tSub_i)) b_oN (by omega)) (tAdd_s (by rw [Str.length_append]; have:=sl none (some (p:Int)); have:=sl (some ((p:Int) + k - 1)) none; omega))) rfl
 have pre:∀ {R:FS} {o:Out},R (ρC x n a p k none none none)=some o → ∀ A B C:FS,sSeq (sIf (fB (f2 tEqq (gv 5) (kc (.int 0)))) A sNil) (sSeq (sIf (fB (f2 tLtI (gv 5) (kc (.int 3)))) B sNil) R) (ρC x n a p k none none none)=some o:=fun {R o} h A B C =>
  b_seqIf (kind_c 0) (fun q=>by rw [decide_eq_false c0] at q; cases q) fun _=>b_seqNil (b_seqIf (b_B (b_f2 (b_gv rfl) b_kc tLtI_i)) (fun q=>by rw [decide_eq_false c1] at q; cases q) fun _=>b_seqNil h)
 by_cases c3:k=3
 ·refine fin (y:=Str.join " " ((wd x).take a ++ (wd x).drop (a + 1))) (by have:=jl ((wd x).take a ++ (wd x).drop (a + 1)); rw [wgt_app] at this; omega) ?_
  unfold F__law_changed
  refine b_seq s2 (b_seq s3 (b_seq s4 (b_seq s5 (pre (b_seqIf (kind_c 3) (fun _=>b_seqRet ?_) fun q=>by rw [decide_eq_true c3] at q; cases q) _ _ sNil))))
  exact b_ret (words_j (x:=x) (by rw [wgt_app]; omega) (b_f2 cTo cF1 (add_S (by omega)))) rfl
 by_cases c4:k=4
 ·refine fin (y:=Str.join " " ((wd x).take a ++ ((wd x).drop a).take 1 ++ (wd x).drop a)) (by have:=jl ((wd x).take a ++ ((wd x).drop a).take 1 ++ (wd x).drop a); rw [wgt_app,wgt_app] at this; omega) ?_
  unfold F__law_changed
  refine b_seq s2 (b_seq s3 (b_seq s4 (b_seq s5 (pre (b_seqIf (kind_c 3) (fun q=>by rw [decide_eq_false c3] at q; cases q) fun _=>b_seqNil (b_seqIf (kind_c 4) (fun _=>b_seqRet ?_) fun q=>by rw [decide_eq_true c4] at q; cases q)) _ _ sNil))))
  exact b_ret (words_j (x:=x) (by rw [wgt_app,wgt_app]; omega) (b_f2 (b_f2 cTo cM (add_S (by omega))) cFr (add_S (by rw [List.length_append]; omega)))) rfl
 by_cases c5:k=5
 ·refine fin (y:=Str.join " " ((wd x).take a ++ (((wd x).drop (a + 1)).take 1 ++ ((wd x).drop a).take 1) ++ (wd x).drop (a + 2))) (by have:=jl ((wd x).take a ++ (((wd x).drop (a + 1)).take 1 ++ ((wd x).drop a).take 1) ++ (wd x).drop (a + 2)); rw [wgt_app,wgt_app,wgt_app] at this; omega) ?_
  unfold F__law_changed
  refine b_seq s2 (b_seq s3 (b_seq s4 (b_seq s5 (pre (b_seqIf (kind_c 3) (fun q=>by rw [decide_eq_false c3] at q; cases q) fun _=>b_seqNil (b_seqIf (kind_c 4) (fun q=>by rw [decide_eq_false c4] at q; cases q) fun _=>b_seqNil (b_seqIf (kind_c 5) (fun _=>b_seqSeq ?_) fun q=>by rw [decide_eq_true c5] at q; cases q))) _ _ sNil))))
  refine b_seq (b_set (b_f2 cM1 cM (add_S (by omega))) (set_s (set_s (set_s (set_s (set_s (set_s (set_s set_z)))))))) (b_seqRet ?_)
  exact b_ret (words_j (x:=x) (by rw [wgt_app,wgt_app,wgt_app]; omega) (b_f2 (b_f2 cTo (b_gv rfl) (add_S (by rw [List.length_append]; omega))) cF2 (add_S (by rw [List.length_append,List.length_append]; omega)))) rfl
 ·obtain ⟨j,ej,hj⟩:∃ j:Nat,(j:Int)=n / 7 % 15 ∧ j < 15:=⟨(n / 7 % 15).toNat,by omega,by omega⟩
  have hm:smw.getD j "" ∈ smw ∧ (wd smt)[j]?=some (smw.getD j ""):=by
   have hl':smw.length=15:=by simp [smw]
   have e1:smw[j]?=some (smw.getD j ""):=by
    have:j < smw.length:=by omega
    simp [List.getD,this]
   exact ⟨List.mem_of_getElem? e1,by rw [smt_wd]; exact e1⟩
  have lw:=(smw_ok _ hm.1).2
  generalize smw.getD j ""=w at hm lw
  have ww:wgt [w] ≤ 6:=by rw [wgt_cons]; simp [wgt]; omega
  have ix:atI ((wd smt).map T.str) (n / 7 % 15)=some (.str w):=by
   rw [← ej]
   exact atI_nat' (by omega) (by rw [Int.toNat_natCast,List.getElem?_map,hm.2]; rfl)
  refine fin (y:=Str.join " " ((wd x).take a ++ [w] ++ (wd x).drop (a + 1))) (by have:=jl ((wd x).take a ++ [w] ++ (wd x).drop (a + 1)); rw [wgt_app,wgt_app] at this; omega) ?_
  unfold F__law_changed
  refine b_seq s2 (b_seq s3 (b_seq s4 (b_seq s5 (pre (b_seqIf (kind_c 3) (fun q=>by rw [decide_eq_false c3] at q; cases q) fun _=>b_seqNil (b_seqIf (kind_c 4) (fun q=>by rw [decide_eq_false c4] at q; cases q) fun _=>b_seqNil (b_seqIf (kind_c 5) (fun q=>by rw [decide_eq_false c5] at q; cases q) fun _=>b_seqNil ?_))) _ _ sNil))))
  refine b_seq (b_set (t:=lS (wd smt)) (b_new (b_split b_kc b_kc sp0 (Nat.le_trans smt_len (by omega)))) (set_s (set_s (set_s (set_s (set_s (set_s (set_s (set_s set_z))))))))) ?_
  exact b_ret (words_j (x:=x) (by rw [wgt_app,wgt_app]; omega) (b_f2 (b_f2 cTo (b_new (b_lst (b_cons (b_f2 (b_gv rfl) (b_f2 (b_f2 (b_gv rfl) b_kc (tFd_i (by omega) (by omega))) b_kc (tMd_i (by omega))) (tIx_l' ix)) b_nil) (sizeLine_ge (by simp)))) (add_S (b:=[w]) (by simp; omega))) cF1 (add_S (by rw [List.length_append]; simp; omega)))) rfl
def cst (r:List Nat):List Int:=r.map fun (j:Nat)=>(j:Int)
theorem cst_tup (r:List Nat):tupN r=tupI (cst r):=by
 unfold tupI cst
 rw [List.map_map]; rfl
theorem upB_up {m:Nat}:∀ (r:List Nat) (l:Nat),(∀ j ∈ r,l ≤ j ∧ j < m) → r.Pairwise (·< ·) → upB (m:Int) (l:Int) ((cst r).map T.int)=true
 | [],_,_,_=>rfl
 | j :: r,l,h,hp=>by
   rw [List.pairwise_cons] at hp
   have hj:=h j List.mem_cons_self
   have ih:=upB_up r (j + 1) (fun i hi=>⟨hp.1 i hi,(h i (List.mem_cons_of_mem _ hi)).2⟩) hp.2
   show (decide ((l:Int) ≤ (j:Int)) && decide ((j:Int) < (m:Int)) && upB (m:Int) ((j:Int) + 1) ((cst r).map T.int))=true
   rw [show (j:Int) + 1=((j + 1:Nat):Int) by omega,ih,decide_eq_true (by omega),decide_eq_true (by omega)]
   rfl
theorem mks_areM {m:Nat} {r:List Nat} (h:Mks m r):areM (tupI (cst r)) (m:Int)=true:=upB_up r 0 (fun j hj=>⟨Nat.zero_le _,h.lt j hj⟩) h.up
theorem tab_drawn {m:Nat} {rows:List (List Nat)} (h1:1 ≤ m) (hm:m ≤ 6) (hr:rows.length ≤ 8) (hro:∀ r ∈ rows,Mks m r):isTab (tbI m (rows.map cst))=true:=by
 unfold isTab
 simp only [Bool.and_eq_true,decide_eq_true_eq,List.length_map,List.all_eq_true]
 refine ⟨⟨⟨by omega,by omega⟩,by omega⟩,fun t ht=>?_⟩
 obtain ⟨r',hr',rfl⟩:=List.mem_map.mp ht
 obtain ⟨r,hq,rfl⟩:=List.mem_map.mp hr'
 exact mks_areM (hro r hq)
theorem rul_drawn {m:Nat} {rs:List (List Nat × List Nat)} (hr:rs.length ≤ 8) (hro:∀ r ∈ rs,Mks m r.1 ∧ Mks m r.2):areRul (m:Int) (.tup ((rs.map fun r=>(cst r.1,cst r.2)).map tRl))=true:=by
 unfold areRul
 simp only [Bool.and_eq_true,decide_eq_true_eq,List.length_map,List.all_eq_true]
 refine ⟨by omega,fun t ht=>?_⟩
 obtain ⟨p,hp,rfl⟩:=List.mem_map.mp ht
 obtain ⟨r,hq,rfl⟩:=List.mem_map.mp hp
 show (areM (tupI (cst r.1)) (m:Int) && areM (tupI (cst r.2)) (m:Int))=true
 rw [mks_areM (hro r hq).1,mks_areM (hro r hq).2]; rfl
theorem dep_fnd (x:Str) {k:Nat} (hk:k ≤ 6):dep (fnd x k) ≤ 60:=by
 unfold fnd
 split
 ·split
  ·rename_i q hq
   obtain ⟨m,rs⟩:=q
   obtain ⟨_,_,ht,_⟩:=rd_some hq
   obtain ⟨_,hl,hb⟩:=tab_b ht
   exact Nat.le_trans (tbI_wf hl fun r hq=>(hb r hq).2).d (by omega)
  ·simp [dep]
 ·split
  ·rename_i rs hq
   obtain ⟨ht,_⟩:=rdR_some hq
   obtain ⟨hl,hb⟩:=rul_b hk ht
   exact Nat.le_trans (tRl_wf hl fun p hq=>(hb p hq).2).d (by omega)
  ·simp [dep]
abbrev ρL (s t:T) (x:Str) (k:Nat) (o4 o5 o6 o7:Option Sl):Rho:=[some (.pu s),some (.pu t),some (.pu (.str x)),some (.pu (tN k)),o4,o5,o6,o7]
theorem law_end {s t:T} {x1 x:Str} {k:Nat} {o4 o6:Option Sl} (hk:k ≤ 6) (hx:x.length ≤ 40000) (hf:fnd x1 k=t):R8_law (ρL s t x1 k o4 (some (.pu (.str x))) o6 none)=some (.rt (.bl true)):=by
 unfold R8_law
 refine b_seq (b_set (b_call (b_cons (b_gv rfl) (b_cons (b_gv rfl) b_nil)) rfl (found_ev hx hk)) (set_s (set_s (set_s (set_s (set_s (set_s (set_s set_z)))))))) ?_
 have hg:fCall 3 M__law_good (fCons (gv 7) (fCons (gv 5) (fCons (gv 3) fNil))) (ρL s t x1 k o4 (some (.pu (.str x))) o6 (some (.pu (fnd x k))))=some (.bl true):=b_call (b_cons (b_gv rfl) (b_cons (b_gv rfl) (b_cons (b_gv rfl) b_nil))) rfl (good_ev hk)
 have hc:fB (f2 tEqq (gv 5) (gv 2)) (ρL s t x1 k o4 (some (.pu (.str x))) o6 (some (.pu (fnd x k))))=some (decide (x=x1)):=ev_eq (b_B (b_f2 (b_gv rfl) (b_gv rfl) (tEqq_d (by rw [dep_s]; omega)))) (teq_ss _ _)
 unfold R9_law
 refine b_seqIf hc (fun q=>?_) fun _=>b_seqNil ?_
 ·have e:x=x1:=of_decide_eq_true q
  subst e
  refine b_seqRet (b_ret (b_andV (b_f2 (b_gv rfl) (b_gv rfl) (tEqq_d (dep_fnd x hk))) fun _=>hg) ?_)
  rw [hf,teq_refl]; rfl
 ·unfold R10_law
  exact b_ret hg rfl
theorem law_tail {ns:List Int} {t:T} {x1:Str} {k:Nat} (hk:k ≤ 6) (hx:x1.length ≤ 800) (hf:fnd x1 k=t) (ho:0 < k → fnd x1 (1 + k % 6)=.non):R4_law (ρL (scr ns) t x1 k none none none none)=some (.rt (.bl true)):=by
 have n0:=mx_lo ns 2
 have hM:=mixed_ev ns 2 (by omega)
 unfold R4_law
 refine b_seq (b_set (b_call (b_cons (b_gv rfl) (b_cons b_kc b_nil)) rfl hM) (set_s (set_s (set_s (set_s set_z))))) ?_
 generalize mx ns 2=n at n0
 unfold R5_law
 have hc:fAnd (fB (f2 tGtI (gv 3) (kc (.int 0)))) (fB (f1 tNotN (fCall 2 M__law_found (fCons (gv 2) (fCons (f2 tAdd (kc (.int 1)) (f2 tMd (gv 3) (kc (.int 6)))) fNil))))) (ρL (scr ns) t x1 k (some (.pu (.int n))) none none none)=some false:=by
  have hA:fB (f2 tGtI (gv 3) (kc (.int 0))) (ρL (scr ns) t x1 k (some (.pu (.int n))) none none none)=some (decide (0 < k)):=ev_eq (b_B (b_f2 (b_gv rfl) b_kc tGtI_i)) (by rw [decide_eq_decide]; omega)
  by_cases h0:0 < k
  ·rw [decide_eq_true h0] at hA
   have ar:fCons (gv 2) (fCons (f2 tAdd (kc (.int 1)) (f2 tMd (gv 3) (kc (.int 6)))) fNil) (ρL (scr ns) t x1 k (some (.pu (.int n))) none none none)=some [.str x1,tN (1 + k % 6)]:=b_cons (b_gv rfl) (b_cons (ev_eq (b_f2 b_kc (b_f2 (b_gv rfl) b_kc (tMd_i (by omega))) tAdd_i) (by
    show T.int _=T.int _
    congr 1)) b_nil)
   refine b_and hA fun _=>b_B (b_f1 (b_call ar rfl (found_ev (k:=1 + k % 6) (by omega) (by omega))) ?_)
   rw [ho h0]; rfl
  ·rw [decide_eq_false h0] at hA
   exact b_and (b:=false) hA fun q=>by cases q
 refine b_seqIf hc (fun q=>by cases q) fun _=>b_seqNil ?_
 unfold R6_law
 refine b_seq (b_set (b_gv rfl) (set_s (set_s (set_s (set_s (set_s set_z)))))) ?_
 obtain ⟨c,ec,hc4⟩:∃ c:Nat,(c:Int)=n % 3 * (1 + n / 3 % 2) ∧ c ≤ 4:=by
  have h2:n / 3 % 2=0 ∨ n / 3 % 2=1:=by omega
  have h3:n % 3=0 ∨ n % 3=1 ∨ n % 3=2:=by omega
  rcases h2 with h2 | h2 <;> rcases h3 with h3 | h3 | h3 <;> rw [h2,h3]
  ·exact ⟨0,rfl,by omega⟩
  ·exact ⟨1,rfl,by omega⟩
  ·exact ⟨2,rfl,by omega⟩
  ·exact ⟨0,rfl,by omega⟩
  ·exact ⟨2,rfl,by omega⟩
  ·exact ⟨4,rfl,by omega⟩
 obtain ⟨ρ2,hl,x,o6,e,hb⟩:=loopF_range (g:=gNm 6) (b:=B1_law) (fun i ρ=>∃ (x:Str) (o6:Option Sl),ρ=ρL (scr ns) t x1 k (some (.pu (.int n))) (some (.pu (.str x))) o6 none ∧ x.length + 20 ≤ 820 * 2 ^ i) c
  (ρL (scr ns) t x1 k (some (.pu (.int n))) (some (.pu (.str x1))) none none) (fun i ρ hi ⟨x,o6,e,hb⟩=>by
   subst e
   have p4:2 ^ i ≤ 2 ^ 4:=Nat.pow_le_pow_right (by omega) (by omega)
   have p5:2 ^ (i + 1)=2 ^ i * 2:=Nat.pow_succ 2 i
   obtain ⟨y,hy,ly⟩:=changed_ev (x:=x) (n:=dr n (i:Int)) (by omega) (dr_lo _ _)
   refine ⟨_,_,b_gNm (set_s (set_s (set_s (set_s (set_s (set_s set_z)))))),b_set (b_call (b_cons (b_gv rfl) (b_cons (b_call (b_cons (b_gv rfl) (b_cons (b_gv rfl) b_nil)) rfl (drawn_ev n (i:Int))) b_nil)) rfl hy) (set_s (set_s (set_s (set_s (set_s set_z))))),y,some (.pu (tN i)),rfl,by omega⟩) ⟨x1,none,rfl,by omega⟩
 subst e
 have p4:2 ^ c ≤ 2 ^ 4:=Nat.pow_le_pow_right (by omega) hc4
 unfold R7_law
 have hmul:f2 tMul (f2 tMd (gv 4) (kc (.int 3))) (f2 tAdd (kc (.int 1)) (f2 tMd (f2 tFd (gv 4) (kc (.int 3))) (kc (.int 2)))) (ρL (scr ns) t x1 k (some (.pu (.int n))) (some (.pu (.str x1))) none none)=some (.int (c:Int)):=ev_eq (b_f2 (b_f2 (b_gv rfl) b_kc (tMd_i (by omega))) (b_f2 b_kc (b_f2 (b_f2 (b_gv rfl) b_kc (tFd_i (by omega) (by omega))) b_kc (tMd_i (by omega))) tAdd_i) (tMul_l (by omega) (by omega))) (by rw [← ec])
 refine b_seqFor (ts:=rangeT 0 c) (ev_eq (b_rng hmul (by omega) (by omega)) (by rw [Int.toNat_natCast])) hl (b_thenN ?_)
 exact law_end hk (by omega) hf
theorem rw_ok {m:Nat} {r:List Nat} (hm:m ≤ 6) (h:Mks m r):Rw (cst r):=areM_R (by omega) (mks_areM h)
theorem law_true (ns:List Int) (h:ns.length ≤ 63):M_law [.lst (ns.map T.int)]=some (.bl true):=by
 have hmo:=mOf_ok ns 6 (by decide)
 have hrl:=rowsOf_len ns (mOf ns 6)
 have hro:=rowsOf_ok ns (mOf ns 6)
 have ht:=table_ev ns 6 (by decide) (by decide)
 generalize mOf ns 6=m at hmo hrl hro ht
 generalize rowsOf ns m=rows at hrl hro ht
 have hm:m ≤ 6:=by omega
 have er:rows.map tupN=(rows.map cst).map tupI:=by
  rw [List.map_map]
  exact List.map_congr_left fun r _=>cst_tup r
 rw [er] at ht
 have hT:=tab_drawn hmo.1 hm hrl hro
 have l1:(rows.map cst).length ≤ 8:=by rw [List.length_map]; exact hrl
 have hR:∀ r ∈ rows.map cst,Rw r:=fun r hr=>by
  obtain ⟨q,hq,rfl⟩:=List.mem_map.mp hr
  exact rw_ok hm (hro q hq)
 generalize rows.map cst=rs at ht hT l1 hR
 have hW:=law_written_ev (t:=tbI m rs) rfl (by omega) (by omega) (by omega) hR
 have lx:(Str.join " " (tabW (m:Int) rs)).length ≤ 800:=by
  have w:Wk (tabW (m:Int) rs):=.app (.cons l_table (w5 (dg_len (by omega) (by omega)))) (flat_wk fun r hq=>rowW_wk (hR r hq))
  have l:(rs.flatMap rowW).length ≤ 8 * rs.length:=flat_len fun r hq=>rowW_len (hR r hq)
  have:=Nat.le_trans (join_len " " sp1 _) (wgt_le w)
  simp only [tabW,List.length_append,List.length_cons,List.length_nil] at this ⊢
  omega
 refine I_law ?_
 unfold F_law
 refine b_seq (b_set (b_call (b_cons (b_gv rfl) (b_cons b_kc b_nil)) rfl ht) (set_s set_z)) ?_
 unfold R1_law
 refine b_seq (b_set (b_call (b_cons (b_gv rfl) b_nil) rfl hW) (set_s (set_s set_z))) ?_
 unfold R2_law
 refine b_seq (b_set (t:=tN 0) b_kc (set_s (set_s (set_s set_z)))) ?_
 have hF:fnd (Str.join " " (tabW (m:Int) rs)) 0=tbI m rs:=by
  unfold fnd
  rw [if_pos rfl,rd_map hT]
 generalize Str.join " " (tabW (m:Int) rs)=x1 at hF lx
 unfold R3_law
 have hq:fB (f2 tEqq (f2 tMd (fCall 2 M__law_mixed (fCons (gv 0) (fCons (kc (.int 1)) fNil))) (kc (.int 2))) (kc (.int 1))) (ρL (scr ns) (tbI m rs) x1 0 none none none none)=some (teq (.int (mx ns 1 % 2)) (.int 1)):=b_B (b_f2 (b_f2 (b_call (b_cons (b_gv rfl) (b_cons b_kc b_nil)) rfl (mixed_ev ns 1 (by omega))) b_kc (tMd_i (by omega))) b_kc (tEqq_d (by rw [dep_int]; omega)))
 refine b_seqIf hq (fun _=>?_) fun _=>b_seqNil (law_tail (by omega) lx hF fun z=>by omega)
 obtain ⟨c,hc8,hru⟩:=rules_ev (mx ns 12) (m:Int) (by omega) (by omega)
 rw [Int.toNat_natCast] at hru
 have hok:=rulesOf_ok (mx ns 12) m c
 have hle:=rulesOf_len (mx ns 12) m c
 generalize rulesOf (mx ns 12) m c=us at hru hok hle
 have eu:us.map tRule=(us.map fun r=>(cst r.1,cst r.2)).map tRl:=by
  rw [List.map_map]
  refine List.map_congr_left fun r _=>?_
  show T.tup [tupN r.1,tupN r.2]=T.tup [tupI (cst r.1),tupI (cst r.2)]
  rw [cst_tup,cst_tup]
 rw [eu] at hru
 have hU:=rul_drawn (by omega) hok
 have l2:(us.map fun r=>(cst r.1,cst r.2)).length ≤ 8:=by rw [List.length_map]; omega
 have hP:∀ p ∈ us.map (fun r=>(cst r.1,cst r.2)),Rw p.1 ∧ Rw p.2:=fun p hp=>by
  obtain ⟨q,hq,rfl⟩:=List.mem_map.mp hp
  exact ⟨rw_ok hm (hok q hq).1,rw_ok hm (hok q hq).2⟩
 generalize us.map (fun r=>(cst r.1,cst r.2))=vs at hru hU l2 hP
 have hS:=law_shown_ev (t:=.tup (vs.map tRl)) (m:=(m:Int)) rfl (by omega) (by omega) (by omega) hP
 have ly:(Str.join " " (rulW (m:Int) vs)).length ≤ 800:=by
  have w:Wk (rulW (m:Int) vs):=.app (.cons l_rules (w5 (dg_len (by omega) (by omega)))) (flat_wk fun r hq=>ruleW_wk (hP r hq))
  have l:(vs.flatMap ruleW).length ≤ 16 * vs.length:=flat_len fun r hq=>ruleW_len (hP r hq)
  have:=Nat.le_trans (join_len " " sp1 _) (wgt_le w)
  simp only [rulW,List.length_append,List.length_cons,List.length_nil] at this ⊢
  omega
 have m0:m ≠ 0:=by omega
 have hG:fnd (Str.join " " (rulW (m:Int) vs)) m=.tup (vs.map tRl):=by
  unfold fnd
  rw [if_neg m0,(rdR_map hm hU).2]
 have hO:fnd (Str.join " " (rulW (m:Int) vs)) (1 + m % 6)=.non:=by
  unfold fnd
  rw [if_neg (by omega),rdR_other hm (by omega) (by omega) hU]
 refine b_seqSeq (b_seq (b_set (t:=tN m) (b_f2 (b_gv rfl) b_kc (tIx_t' atI2_0)) (set_s (set_s (set_s set_z)))) (b_seqSeq (b_seq (b_set (b_call (b_cons (b_call (b_cons (b_gv rfl) (b_cons b_kc b_nil)) rfl (mixed_ev ns 12 (by omega))) (b_cons (b_gv rfl) b_nil)) rfl hru) (set_s set_z)) (b_seq (b_set (b_call (b_cons (b_gv rfl) (b_cons (b_gv rfl) b_nil)) rfl hS) (set_s (set_s set_z))) ?_))))
 exact law_tail hm ly hG fun _=>hO
end G
set_option maxHeartbeats 4000000
namespace G
open PySem L2
open TL hiding er_of ev_new ev_var er_own ev_int ev_bl ev_non ev_str ev_globI ea_nil ea_cons ev_tup ef_lst ev_op ev_cmp et_val et_cmp et_not ew_and1 ew_or1 ew_and ew_or et_w ev_one ev_and ev_not ev_chain et_chain ev_ix eo_none eo_some ev_slice ev_b1 ev_y1 ev_isi ev_min ir_seq ip_seq ip_range ip_range2 ir_of eg_name eg_tup2 ss_nil ss_cons ss_one s_ret s_retO s_set s_own s_app s_if s_for ev_has ef_comp' et_ifs1 et_ifs0 s_setC et_tru ev_index ev_join ev_isx ev_isv s_no x_raise x_if x_one x_cons x_nil x_st x_never hj_nil hj_as s_try ev_sliceS ev_ixS ef_split xe_call xe_tup1 xe_tup2 xe_or xe_y1 xe_comp xe_iter x_setF x_retE s_nox ss_frz ev_isN et_isN et_notN x_or
open TL.W
def DefIn (K:PySem.W.Frag) (x:Str) (st:Stmt):Prop:=∃ (f:Addr) (oc:Value) (od an:Option Addr) (osl:Array (Option Value)) (kV doc pm cdv ct:Value),PySem.W.nsIn K mainGlobals x=some (some (.ref f)) ∧ K.lookup f=some ⟨oc,od,.func (PySem.W.fnOf x x (defArgs st) (defBody st) (defScope st) .none kV doc pm an cdv ct),osl⟩ ∧ PySem.W.codeIn K cdv x=true ∧ PySem.W.keepIn K (.ref f)=true
theorem defIn_mk {K:PySem.W.Frag} {x:Str} {st:Stmt} {f:Addr} {oc:Value} {od an:Option Addr} {osl:Array (Option Value)} {kV doc pm cdv ct:Value} (a:PySem.W.nsIn K mainGlobals x=some (some (.ref f))) (l:K.lookup f=some ⟨oc,od,.func (PySem.W.fnOf x x (defArgs st) (defBody st) (defScope st) .none kV doc pm an cdv ct),osl⟩)
  (c:PySem.W.codeIn K cdv x=true) (k:PySem.W.keepIn K (.ref f)=true):DefIn K x st:=⟨f,oc,od,an,osl,kV,doc,pm,cdv,ct,a,l,c,k⟩
theorem src_of {K:PySem.W.Frag} {mg:Str → Option Value} {h:Heap} {x:Str} {st:Stmt} {ps:List Str} (X:K.In h) (G:h.Ns mainGlobals mg) (d:DefIn K x st)
  (hb:∀ (kV doc pm:Value) (an:Option Addr) (cdv ct:Value) (us:List Value),us.length=ps.length → bindArgs (PySem.W.fnOf x x (defArgs st) (defBody st) (defScope st) .none kV doc pm an cdv ct) ⟨us,[]⟩=pure (ps.zip us)):Src K mg x st ps :=
 let ⟨_,_,_,_,_,_,_,_,_,_,a,l,c,k⟩:=d
 src_mk X G a l c k hb
variable {P:Program} {w:World} {K:PySem.W.Frag} {mg:Str → Option Value} {base:Heap}
def top (i:Nat):Stmt:=PySem.Challenge.pw_markhall_k04_whole_read.main.body.getD i (.Pass ⟨0,0,0,0⟩)
abbrev S__law_drawn:Stmt:=top 27
abbrev N__law_drawn:List Str:=["_law_number_here","_law_k","_law_drawn_here"]
theorem sc__law_drawn:FnScope N__law_drawn ["_law_number_here","_law_k"] (defScope S__law_drawn):=⟨rfl,rfl,rfl,by decide +kernel,rfl,by decide +kernel,by decide +kernel⟩
theorem has__law_drawn (src:Src K mg "_law_drawn" S__law_drawn ["_law_number_here","_law_k"]) :Has P w K mg base "_law_drawn" 1 2 M__law_drawn :=
 by
 refine has_of'' (k:=0) (F:=F__law_drawn) rfl rfl src sc__law_drawn fun f cdv A outer s H E z hr hz=>?_
 unfold F__law_drawn
 show sVs _ _ (defBody S__law_drawn) _
 conv=>arg 2; whnf
 exact
  (ss_cons (s_set 2 sc__law_drawn.nd (ev_op hz o_md (er_of (ev_op hz o_mul (er_of (ev_op hz o_add (er_of (ev_op hz o_add (er_of (ev_var 0)) (er_of (ev_op hz o_mul (er_of ev_int) (er_of (ev_var 1)))))) (er_of ev_int))) (er_of ev_int))) (er_of ev_int)))
  (ss_one (s_ret (ev_op hz o_md (er_of (ev_op hz o_add (er_of (ev_op hz o_add (er_of (ev_op hz o_mul (er_of (ev_var 2)) (er_of (ev_var 2)))) (er_of (ev_op hz o_mul (er_of ev_int) (er_of (ev_var 2)))))) (er_of (ev_var 1)))) (er_of ev_int)))))
abbrev S__law_marks:Stmt:=top 28
abbrev N__law_marks:List Str:=["_law_number_here","_law_many","_law_share"]
theorem sc__law_marks:FnScope N__law_marks ["_law_number_here","_law_many"] (defScope S__law_marks):=⟨rfl,rfl,rfl,by decide +kernel,rfl,by decide +kernel,by decide +kernel⟩
theorem has__law_marks (src:Src K mg "_law_marks" S__law_marks ["_law_number_here","_law_many"]) (h__law_drawn:Has P w K mg base "_law_drawn" 1 2 M__law_drawn) (n_range:mg "range"=none) (n_tuple:mg "tuple"=none):Has P w K mg base "_law_marks" 2 2 M__law_marks :=
 by
 refine has_of'' (k:=1) (F:=F__law_marks) rfl rfl src sc__law_marks fun f cdv A outer s H E z hr hz=>?_
 unfold F__law_marks C1__law_marks
 show sVs _ _ (defBody S__law_marks) _
 conv=>arg 2; whnf
 exact
  (ss_cons (s_set 2 sc__law_marks.nd (ev_op hz o_add (er_of ev_int) (er_of (ev_op hz o_md (er_of (ev_var 0)) (er_of ev_int)))))
  (ss_one (s_ret (ev_y1 hz b_tuple rfl n_tuple rfl (er_of (ev_new (ef_comp' N__law_marks (defScope S__law_marks) ["_law_mark","_law_number_here","_law_share"] [none,some 0,some 2] [0] (by decide +kernel) hz (ir_of (ip_range rfl n_range (ev_var 1))) (fun C s H fp z' (hz':z'.K=K)=>(eg_name 0 (show List.Nodup (["_law_mark","_law_number_here","_law_share"]:List Str) by decide +kernel))) (fun C s H fp z' (hz':z'.K=K)=>(et_ifs1 (et_cmp hz' (o_eq (hr).units) (er_of (ev_op hz' o_md (er_of (ev_has hz' h__law_drawn (hr.mono (by decide)) (ea_cons (ev_var 1) (ea_cons (ev_var 0) ea_nil st_Name) st_Name))) (er_of (ev_var 2)))) (er_of ev_int) (nomark _)))) (fun C s H fp z' (hz':z'.K=K)=>(ev_var 0)))))))))
abbrev S__law_cell_at:Stmt:=top 25
abbrev N__law_cell_at:List Str:=["_law_script","_law_k"]
theorem sc__law_cell_at:FnScope N__law_cell_at ["_law_script","_law_k"] (defScope S__law_cell_at):=⟨rfl,rfl,rfl,by decide +kernel,rfl,by decide +kernel,by decide +kernel⟩
theorem has__law_cell_at (src:Src K mg "_law_cell_at" S__law_cell_at ["_law_script","_law_k"]) (n_len:mg "len"=none):Has P w K mg base "_law_cell_at" 1 2 M__law_cell_at :=
 by
 refine has_of'' (k:=0) (F:=F__law_cell_at) rfl rfl src sc__law_cell_at fun f cdv A outer s H E z hr hz=>?_
 unfold F__law_cell_at
 show sVs _ _ (defBody S__law_cell_at) _
 conv=>arg 2; whnf
 exact
  (ss_cons (s_if (et_cmp hz o_lt (er_of (ev_var 1)) (er_of (ev_b1 hz b_len rfl n_len PySem.boot_len (er_of (ev_var 0)))) (nomark _))
   (ss_one (s_ret (ev_ix hz (er_of (ev_var 0)) (ev_var 1) (fun _ _=>rfl))))
   ss_nil)
  (ss_one (s_ret ev_int)))
abbrev S__law_mixed:Stmt:=top 26
abbrev N__law_mixed:List Str:=["_law_script","_law_k","_law_drawn_here"]
theorem sc__law_mixed:FnScope N__law_mixed ["_law_script","_law_k"] (defScope S__law_mixed):=⟨rfl,rfl,rfl,by decide +kernel,rfl,by decide +kernel,by decide +kernel⟩
theorem has__law_mixed (src:Src K mg "_law_mixed" S__law_mixed ["_law_script","_law_k"]) (h__law_cell_at:Has P w K mg base "_law_cell_at" 1 2 M__law_cell_at):Has P w K mg base "_law_mixed" 2 2 M__law_mixed :=
 by
 refine has_of'' (k:=1) (F:=F__law_mixed) rfl rfl src sc__law_mixed fun f cdv A outer s H E z hr hz=>?_
 unfold F__law_mixed
 show sVs _ _ (defBody S__law_mixed) _
 conv=>arg 2; whnf
 exact
  (ss_cons (s_set 2 sc__law_mixed.nd (ev_op hz o_md (er_of (ev_op hz o_mul (er_of (ev_op hz o_add (er_of (ev_op hz o_add (er_of (ev_has hz h__law_cell_at (hr.mono (by decide)) (ea_cons (ev_var 0) (ea_cons (ev_var 1) ea_nil st_Name) st_Name))) (er_of (ev_op hz o_mul (er_of ev_int) (er_of (ev_var 1)))))) (er_of ev_int))) (er_of ev_int))) (er_of ev_int)))
  (ss_one (s_ret (ev_op hz o_md (er_of (ev_op hz o_add (er_of (ev_op hz o_add (er_of (ev_op hz o_mul (er_of (ev_var 2)) (er_of (ev_var 2)))) (er_of (ev_op hz o_mul (er_of ev_int) (er_of (ev_var 2)))))) (er_of (ev_var 1)))) (er_of ev_int)))))
abbrev S__law_table:Stmt:=top 29
abbrev N__law_table:List Str:=["_law_script","_law_most","_law_many","_law_rows","_law_k","_law_row_here"]
theorem sc__law_table:FnScope N__law_table ["_law_script","_law_most"] (defScope S__law_table):=⟨rfl,rfl,rfl,by decide +kernel,rfl,by decide +kernel,by decide +kernel⟩
theorem has__law_table (src:Src K mg "_law_table" S__law_table ["_law_script","_law_most"]) (h__law_marks:Has P w K mg base "_law_marks" 2 2 M__law_marks) (h__law_mixed:Has P w K mg base "_law_mixed" 2 2 M__law_mixed) (n_len:mg "len"=none) (n_min:mg "min"=none) (n_range:mg "range"=none) (n_tuple:mg "tuple"=none):Has P w K mg base "_law_table" 3 2 M__law_table :=
 by
 refine has_of'' (k:=2) (F:=F__law_table) rfl rfl src sc__law_table fun f cdv A outer s H E z hr hz=>?_
 unfold F__law_table B1__law_table C1__law_table
 show sVs _ _ (defBody S__law_table) _
 conv=>arg 2; whnf
 exact
  (ss_cons (s_set 2 sc__law_table.nd (ev_op hz o_add (er_of ev_int) (er_of (ev_op hz o_md (er_of (ev_has hz h__law_mixed (hr.mono (by decide)) (ea_cons (ev_var 0) (ea_cons ev_int ea_nil st_Constant) st_Name))) (er_of (ev_var 1))))))
  (ss_cons (s_own 3 sc__law_table.nd (ef_lst ea_nil))
  (ss_cons (s_for PassesOwn.never rfl (ip_range rfl n_range (ev_min rfl rfl n_min (ev_op hz o_md (er_of (ev_op hz o_fd (er_of (ev_has hz h__law_mixed (hr.mono (by decide)) (ea_cons (ev_var 0) (ea_cons ev_int ea_nil st_Constant) st_Name))) (er_of ev_int))) (er_of ev_int)) (ev_op hz o_add (er_of ev_int) (er_of (ev_b1 hz b_len rfl n_len PySem.boot_len (er_of (ev_var 0))))))) (eg_name 4 sc__law_table.nd)
   (ss_cons (s_set 5 sc__law_table.nd (ev_has hz h__law_marks (hr.mono (by decide)) (ea_cons (ev_has hz h__law_mixed (hr.mono (by decide)) (ea_cons (ev_var 0) (ea_cons (ev_op hz o_add (er_of ev_int) (er_of (ev_var 4))) ea_nil st_BinOp) st_Name)) (ea_cons (ev_var 2) ea_nil st_Name) st_Call)))
   (ss_cons (s_if (et_cmp hz (o_eq (hr).units) (er_of (ev_op hz o_md (er_of (ev_op hz o_fd (er_of (ev_has hz h__law_mixed (hr.mono (by decide)) (ea_cons (ev_var 0) (ea_cons ev_int ea_nil st_Constant) st_Name))) (er_of ev_int))) (er_of ev_int))) (er_of ev_int) (nomark _))
    (ss_one (s_set 5 sc__law_table.nd (ev_y1 hz b_tuple rfl n_tuple rfl (er_of (ev_new (ef_comp' N__law_table (defScope S__law_table) ["_law_mark","_law_row_here"] [none,some 5] [0] (by decide +kernel) hz (ir_of (ip_range rfl n_range (ev_var 2))) (fun C s H fp z' (hz':z'.K=K)=>(eg_name 0 (show List.Nodup (["_law_mark","_law_row_here"]:List Str) by decide +kernel))) (fun C s H fp z' (hz':z'.K=K)=>(et_ifs1 (et_cmp hz' (o_notin (hr).units) (er_of (ev_var 0)) (er_of (ev_var 1)) (by with_unfolding_all rfl)))) (fun C s H fp z' (hz':z'.K=K)=>(ev_var 0))))))))
    ss_nil)
   (ss_one (s_app 3 (pe_bm PySem.F.plainAttrs_list PySem.F.slot_list_append PySem.F.type_list_append mt_append (pv 3) (pa_cons (eV.p (by exact (ev_var 5))) pa_nil)))))))
  (ss_one (s_ret (ev_tup (ea_cons (ev_var 2) (ea_cons (ev_y1 hz b_tuple rfl n_tuple rfl (er_own 3)) ea_nil st_Call) st_Name)))))))
abbrev S__law_row:Stmt:=top 37
abbrev N__law_row:List Str:=["_law_first","_law_marks_here","_law_last"]
theorem sc__law_row:FnScope N__law_row ["_law_first","_law_marks_here","_law_last"] (defScope S__law_row):=⟨rfl,rfl,rfl,by decide +kernel,rfl,by decide +kernel,by decide +kernel⟩
theorem has__law_row (src:Src K mg "_law_row" S__law_row ["_law_first","_law_marks_here","_law_last"]) (n_str:mg "str"=none):Has P w K mg base "_law_row" 1 3 M__law_row :=
 by
 refine has_of'' (k:=0) (F:=F__law_row) rfl rfl src sc__law_row fun f cdv A outer s H E z hr hz=>?_
 unfold F__law_row E1__law_row
 show sVs _ _ (defBody S__law_row) _
 conv=>arg 2; whnf
 exact
  (ss_one (s_ret (ev_join hz ev_str (er_of (ev_op hz o_add (er_of (ev_op hz o_add (er_of (ev_new (ef_lst (ea_cons (ev_var 0) ea_nil st_Name)))) (er_of (ev_new (ef_comp' N__law_row (defScope S__law_row) ["_law_mark"] [none] [0] (by decide +kernel) hz (ir_seq hz (er_of (ev_var 1))) (fun C s H fp z' (hz':z'.K=K)=>(eg_name 0 (show List.Nodup (["_law_mark"]:List Str) by decide +kernel))) (fun C s H fp z' (hz':z'.K=K)=>et_ifs0) (fun C s H fp z' (hz':z'.K=K)=>(ev_y1 hz' b_str rfl n_str rfl (er_of (ev_var 0))))))))) (er_of (ev_var 2)))))))
abbrev S__law_written:Stmt:=top 38
abbrev N__law_written:List Str:=["_law_table_here","_law_found_here","_law_row_here"]
theorem sc__law_written:FnScope N__law_written ["_law_table_here"] (defScope S__law_written):=⟨rfl,rfl,rfl,by decide +kernel,rfl,by decide +kernel,by decide +kernel⟩
theorem has__law_written (src:Src K mg "_law_written" S__law_written ["_law_table_here"]) (h__law_row:Has P w K mg base "_law_row" 1 3 M__law_row) (n_str:mg "str"=none):Has P w K mg base "_law_written" 2 1 M__law_written :=
 by
 refine has_of'' (k:=1) (F:=F__law_written) rfl rfl src sc__law_written fun f cdv A outer s H E z hr hz=>?_
 unfold F__law_written B1__law_written
 show sVs _ _ (defBody S__law_written) _
 conv=>arg 2; whnf
 exact
  (ss_cons (s_set 1 sc__law_written.nd (ev_op hz o_add (er_of ev_str) (er_of (ev_y1 hz b_str rfl n_str rfl (er_of (ev_ix hz (er_of (ev_var 0)) ev_int (fun _ _=>rfl)))))))
  (ss_cons (s_for PassesOwn.never rfl (ip_seq hz (ev_ix hz (er_of (ev_var 0)) ev_int (fun _ _=>rfl))) (eg_name 2 sc__law_written.nd)
   (ss_one (s_set 1 sc__law_written.nd (ev_op hz o_add (er_of (ev_op hz o_add (er_of (ev_var 1)) (er_of ev_str))) (er_of (ev_has hz h__law_row (hr.mono (by decide)) (ea_cons ev_str (ea_cons (ev_var 2) (ea_cons (ev_new (ef_lst (ea_cons ev_str ea_nil st_Constant))) ea_nil st_List) st_Name) st_Constant)))))))
  (ss_one (s_ret (ev_var 1)))))
abbrev S_is_pair:Stmt:=top 12
abbrev N_is_pair:List Str:=["thing"]
theorem sc_is_pair:FnScope N_is_pair ["thing"] (defScope S_is_pair):=⟨rfl,rfl,rfl,by decide +kernel,rfl,by decide +kernel,by decide +kernel⟩
theorem has_is_pair (src:Src K mg "is_pair" S_is_pair ["thing"]) (n_isinstance:mg "isinstance"=none) (n_len:mg "len"=none) (n_tuple:mg "tuple"=none):Has P w K mg base "is_pair" 1 1 M_is_pair :=
 by
 refine has_of'' (k:=0) (F:=F_is_pair) rfl rfl src sc_is_pair fun f cdv A outer s H E z hr hz=>?_
 unfold F_is_pair
 show sVs _ _ (defBody S_is_pair) _
 conv=>arg 2; whnf
 exact
  (ss_one (s_ret (ev_and (ev_isi hz (kit_tuple _) rfl n_isinstance rfl n_tuple rfl (er_of (ev_var 0))) (ev_one (ev_cmp hz (o_eq (hr).units) (er_of (ev_b1 hz b_len rfl n_len PySem.boot_len (er_of (ev_var 0)))) (er_of ev_int) (nomark _))))))
abbrev S_is_whole:Stmt:=top 11
abbrev N_is_whole:List Str:=["thing"]
theorem sc_is_whole:FnScope N_is_whole ["thing"] (defScope S_is_whole):=⟨rfl,rfl,rfl,by decide +kernel,rfl,by decide +kernel,by decide +kernel⟩
theorem has_is_whole (src:Src K mg "is_whole" S_is_whole ["thing"]) (n_bool:mg "bool"=none) (n_int:mg "int"=none) (n_isinstance:mg "isinstance"=none):Has P w K mg base "is_whole" 1 1 M_is_whole :=
 by
 refine has_of'' (k:=0) (F:=F_is_whole) rfl rfl src sc_is_whole fun f cdv A outer s H E z hr hz=>?_
 unfold F_is_whole
 show sVs _ _ (defBody S_is_whole) _
 conv=>arg 2; whnf
 exact
  (ss_one (s_ret (ev_and (ev_isi hz (kit_int _) rfl n_isinstance rfl n_int rfl (er_of (ev_var 0))) (ev_one (ev_not (ev_isi hz (kit_bool _) rfl n_isinstance rfl n_bool rfl (er_of (ev_var 0))))))))
abbrev S_are_marks:Stmt:=top 13
abbrev N_are_marks:List Str:=["thing","many","least","mark"]
theorem sc_are_marks:FnScope N_are_marks ["thing","many"] (defScope S_are_marks):=⟨rfl,rfl,rfl,by decide +kernel,rfl,by decide +kernel,by decide +kernel⟩
theorem has_are_marks (src:Src K mg "are_marks" S_are_marks ["thing","many"]) (h_is_whole:Has P w K mg base "is_whole" 1 1 M_is_whole) (n_isinstance:mg "isinstance"=none) (n_tuple:mg "tuple"=none):Has P w K mg base "are_marks" 2 2 M_are_marks :=
 by
 refine has_of'' (k:=1) (F:=F_are_marks) rfl rfl src sc_are_marks fun f cdv A outer s H E z hr hz=>?_
 unfold F_are_marks B1_are_marks
 show sVs _ _ (defBody S_are_marks) _
 conv=>arg 2; whnf
 exact
  (ss_cons (s_if (et_not (et_val (ev_isi hz (kit_tuple _) rfl n_isinstance rfl n_tuple rfl (er_of (ev_var 0)))))
   (ss_one (s_ret ev_bl))
   ss_nil)
  (ss_cons (s_set 2 sc_are_marks.nd ev_int)
  (ss_cons (s_for PassesOwn.never rfl (ip_seq hz (ev_var 0)) (eg_name 3 sc_are_marks.nd)
   (ss_cons (s_if (et_w (ew_or (et_not (et_val (ev_has hz h_is_whole (hr.mono (by decide)) (ea_cons (ev_var 3) ea_nil st_Name)))) (ew_or1 (et_not (et_chain hz o_le o_lt (er_of (ev_var 2)) (er_of (ev_var 3)) (er_of (ev_var 1)))))))
    (ss_one (s_ret ev_bl))
    ss_nil)
   (ss_one (s_set 2 sc_are_marks.nd (ev_op hz o_add (er_of (ev_var 3)) (er_of ev_int))))))
  (ss_one (s_ret ev_bl)))))
abbrev S_is_table:Stmt:=top 14
abbrev N_is_table:List Str:=["thing","many","rows"]
theorem sc_is_table:FnScope N_is_table ["thing"] (defScope S_is_table):=⟨rfl,rfl,rfl,by decide +kernel,rfl,by decide +kernel,by decide +kernel⟩
theorem has_is_table (src:Src K mg "is_table" S_is_table ["thing"]) (h_is_pair:Has P w K mg base "is_pair" 1 1 M_is_pair) (h_is_whole:Has P w K mg base "is_whole" 1 1 M_is_whole) (h_are_marks:Has P w K mg base "are_marks" 2 2 M_are_marks) (n_all:mg "all"=none) (n_isinstance:mg "isinstance"=none) (n_len:mg "len"=none) (n_tuple:mg "tuple"=none) {tk_MOST_MARKS:Tok} (g_MOST_MARKS:mg "MOST_MARKS"=some (.int 6 tk_MOST_MARKS)) {tk_MOST_ROWS:Tok} (g_MOST_ROWS:mg "MOST_ROWS"=some (.int 64 tk_MOST_ROWS)):Has P w K mg base "is_table" 3 1 M_is_table :=
 by
 refine has_of'' (k:=2) (F:=F_is_table) rfl rfl src sc_is_table fun f cdv A outer s H E z hr hz=>?_
 unfold F_is_table E1_is_table
 show sVs _ _ (defBody S_is_table) _
 conv=>arg 2; whnf
 exact
  (ss_cons (s_if (et_not (et_val (ev_has hz h_is_pair (hr.mono (by decide)) (ea_cons (ev_var 0) ea_nil st_Name))))
   (ss_one (s_ret ev_bl))
   ss_nil)
  (ss_cons (s_set 1 sc_is_table.nd (ev_ix hz (er_of (ev_var 0)) ev_int (fun _ _=>rfl)))
  (ss_cons (s_set 2 sc_is_table.nd (ev_ix hz (er_of (ev_var 0)) ev_int (fun _ _=>rfl)))
  (ss_cons (s_if (et_w (ew_or (et_not (et_val (ev_has hz h_is_whole (hr.mono (by decide)) (ea_cons (ev_var 1) ea_nil st_Name)))) (ew_or1 (et_not (et_chain hz o_le o_le (er_of ev_int) (er_of (ev_var 1)) (er_of (ev_globI rfl g_MOST_MARKS)))))))
   (ss_one (s_ret ev_bl))
   ss_nil)
  (ss_cons (s_if (et_w (ew_or (et_not (et_val (ev_isi hz (kit_tuple _) rfl n_isinstance rfl n_tuple rfl (er_of (ev_var 2))))) (ew_or1 (et_cmp hz o_gt (er_of (ev_b1 hz b_len rfl n_len PySem.boot_len (er_of (ev_var 2)))) (er_of (ev_globI rfl g_MOST_ROWS)) (nomark _)))))
   (ss_one (s_ret ev_bl))
   ss_nil)
  (ss_one (s_ret (ev_b1 hz (b_all rfl) rfl n_all rfl (er_of (ev_new (ef_comp' N_is_table (defScope S_is_table) ["row","many"] [none,some 1] [0] (by decide +kernel) hz (ir_seq hz (er_of (ev_var 2))) (fun C s H fp z' (hz':z'.K=K)=>(eg_name 0 (show List.Nodup (["row","many"]:List Str) by decide +kernel))) (fun C s H fp z' (hz':z'.K=K)=>et_ifs0) (fun C s H fp z' (hz':z'.K=K)=>(ev_has hz' h_are_marks (hr.mono (by decide)) (ea_cons (ev_var 0) (ea_cons (ev_var 1) ea_nil st_Name) st_Name))))))))))))))
abbrev S_marks_of:Stmt:=top 18
abbrev N_marks_of:List Str:=["words","many","known"]
theorem sc_marks_of:FnScope N_marks_of ["words","many"] (defScope S_marks_of):=⟨rfl,rfl,rfl,by decide +kernel,rfl,by decide +kernel,by decide +kernel⟩
theorem has_marks_of (src:Src K mg "marks_of" S_marks_of ["words","many"]) (er:Er CS K mg) (n_all:mg "all"=none) (n_range:mg "range"=none) (n_str:mg "str"=none) (n_tuple:mg "tuple"=none):Has P w K mg base "marks_of" 1 2 M_marks_of :=
 by
 refine has_of'' (k:=0) (F:=F_marks_of) rfl rfl src sc_marks_of fun f cdv A outer s H E z hr hz=>?_
 unfold F_marks_of E3_marks_of E2_marks_of E1_marks_of
 show sVs _ _ (defBody S_marks_of) _
 conv=>arg 2; whnf
 exact
  (ss_cons (s_set 2 sc_marks_of.nd (ev_new (ef_comp' N_marks_of (defScope S_marks_of) ["mark"] [none] [0] (by decide +kernel) hz (ir_of (ip_range rfl n_range (ev_var 1))) (fun C s H fp z' (hz':z'.K=K)=>(eg_name 0 (show List.Nodup (["mark"]:List Str) by decide +kernel))) (fun C s H fp z' (hz':z'.K=K)=>et_ifs0) (fun C s H fp z' (hz':z'.K=K)=>(ev_y1 hz' b_str rfl n_str rfl (er_of (ev_var 0)))))))
  (ss_cons (s_if (et_not (et_val (ev_b1 hz (b_all rfl) rfl n_all rfl (er_of (ev_new (ef_comp' N_marks_of (defScope S_marks_of) ["word","known"] [none,some 2] [0] (by decide +kernel) hz (ir_seq hz (er_of (ev_var 0))) (fun C s H fp z' (hz':z'.K=K)=>(eg_name 0 (show List.Nodup (["word","known"]:List Str) by decide +kernel))) (fun C s H fp z' (hz':z'.K=K)=>et_ifs0) (fun C s H fp z' (hz':z'.K=K)=>(ev_cmp hz' (o_in (hr).units) (er_of (ev_var 0)) (er_of (ev_var 1)) (by with_unfolding_all rfl)))))))))
   (ss_one s_no)
   ss_nil)
  (ss_one (s_ret (ev_y1 hz b_tuple rfl n_tuple rfl (er_of (ev_new (ef_comp' N_marks_of (defScope S_marks_of) ["word","known"] [none,some 2] [0] (by decide +kernel) hz (ir_seq hz (er_of (ev_var 0))) (fun C s H fp z' (hz':z'.K=K)=>(eg_name 0 (show List.Nodup (["word","known"]:List Str) by decide +kernel))) (fun C s H fp z' (hz':z'.K=K)=>et_ifs0) (fun C s H fp z' (hz':z'.K=K)=>(ev_index hz' (hr).units (er_of (ev_var 1)) (ev_var 0)))))))))))
theorem hasX_marks_of (src:Src K mg "marks_of" S_marks_of ["words","many"]) (er:Er CS K mg) (n_all:mg "all"=none) (n_range:mg "range"=none) (n_str:mg "str"=none) (n_tuple:mg "tuple"=none):HasX P w K mg base "marks_of" 1 2 G_marks_of "NoText" :=
 by
 refine hasX_of2'' (k:=0) (F:=FX_marks_of) rfl rfl src sc_marks_of fun f cdv A outer s H E z hr hz pins kx hL hL2=>?_
 unfold FX_marks_of E5_marks_of E4_marks_of
 show xVs _ _ _ _ (defBody S_marks_of) _
 conv=>arg 5; whnf
 exact
  (x_cons (x_st (s_set 2 sc_marks_of.nd (ev_new (ef_comp' N_marks_of (defScope S_marks_of) ["mark"] [none] [0] (by decide +kernel) hz (ir_of (ip_range rfl n_range (ev_var 1))) (fun C s H fp z' (hz':z'.K=K)=>(eg_name 0 (show List.Nodup (["mark"]:List Str) by decide +kernel))) (fun C s H fp z' (hz':z'.K=K)=>et_ifs0) (fun C s H fp z' (hz':z'.K=K)=>(ev_y1 hz' b_str rfl n_str rfl (er_of (ev_var 0))))))))
  (x_cons (x_if (et_not (et_val (ev_b1 hz (b_all rfl) rfl n_all rfl (er_of (ev_new (ef_comp' N_marks_of (defScope S_marks_of) ["word","known"] [none,some 2] [0] (by decide +kernel) hz (ir_seq hz (er_of (ev_var 0))) (fun C s H fp z' (hz':z'.K=K)=>(eg_name 0 (show List.Nodup (["word","known"]:List Str) by decide +kernel))) (fun C s H fp z' (hz':z'.K=K)=>et_ifs0) (fun C s H fp z' (hz':z'.K=K)=>(ev_cmp hz' (o_in (hr).units) (er_of (ev_var 0)) (er_of (ev_var 1)) (by with_unfolding_all rfl)))))))))
   (x_one (x_raise er hz hL))
   x_nil)
  x_never))
abbrev S_row_of:Stmt:=top 20
abbrev N_row_of:List Str:=["part","many"]
theorem sc_row_of:FnScope N_row_of ["part","many"] (defScope S_row_of):=⟨rfl,rfl,rfl,by decide +kernel,rfl,by decide +kernel,by decide +kernel⟩
theorem has_row_of (src:Src K mg "row_of" S_row_of ["part","many"]) (h_marks_of:Has P w K mg base "marks_of" 1 2 M_marks_of) (hx_marks_of:HasX P w K mg base "marks_of" 1 2 G_marks_of "NoText") (er:Er CS K mg):Has P w K mg base "row_of" 2 2 M_row_of :=
 by
 refine has_of'' (k:=1) (F:=F_row_of) rfl rfl src sc_row_of fun f cdv A outer s H E z hr hz=>?_
 unfold F_row_of
 show sVs _ _ (defBody S_row_of) _
 conv=>arg 2; whnf
 exact
  (ss_cons (s_if (et_cmp hz (o_ne (hr).units) (er_of (ev_slice hz (er_of (ev_var 0)) eo_none (eo_some ev_int))) (er_of (ev_new (ef_lst (ea_cons ev_str ea_nil st_Constant)))) (nomark _))
   (ss_one s_no)
   ss_nil)
  (ss_one (s_ret (ev_has hz h_marks_of (hr.mono (by decide)) (ea_cons (ev_slice hz (er_of (ev_var 0)) (eo_some ev_int) eo_none) (ea_cons (ev_var 1) ea_nil st_Name) st_Subscript)))))
theorem hasX_row_of (src:Src K mg "row_of" S_row_of ["part","many"]) (h_marks_of:Has P w K mg base "marks_of" 1 2 M_marks_of) (hx_marks_of:HasX P w K mg base "marks_of" 1 2 G_marks_of "NoText") (er:Er CS K mg):HasX P w K mg base "row_of" 2 2 G_row_of "NoText" :=
 by
 refine hasX_of2'' (k:=1) (F:=FX_row_of) rfl rfl src sc_row_of fun f cdv A outer s H E z hr hz pins kx hL hL2=>?_
 unfold FX_row_of
 show xVs _ _ _ _ (defBody S_row_of) _
 conv=>arg 5; whnf
 exact
  (x_cons (x_if (et_cmp hz (o_ne (hr).units) (er_of (ev_slice hz (er_of (ev_var 0)) eo_none (eo_some ev_int))) (er_of (ev_new (ef_lst (ea_cons ev_str ea_nil st_Constant)))) (nomark _))
   (x_one (x_raise er hz hL))
   x_nil)
  (x_one (x_or (x_retE (xe_call hL2.lands hz hx_marks_of (hr.mono (by decide)) (ea_cons (ev_slice hz (er_of (ev_var 0)) (eo_some ev_int) eo_none) (ea_cons (ev_var 1) ea_nil st_Name) st_Subscript))) (s_ret (ev_has hz h_marks_of (hr.mono (by decide)) (ea_cons (ev_slice hz (er_of (ev_var 0)) (eo_some ev_int) eo_none) (ea_cons (ev_var 1) ea_nil st_Name) st_Subscript))))))
abbrev S_parts_of:Stmt:=top 19
abbrev N_parts_of:List Str:=["words","parts","part","word"]
theorem sc_parts_of:FnScope N_parts_of ["words"] (defScope S_parts_of):=⟨rfl,rfl,rfl,by decide +kernel,rfl,by decide +kernel,by decide +kernel⟩
theorem has_parts_of (src:Src K mg "parts_of" S_parts_of ["words"]) (er:Er CS K mg):Has P w K mg base "parts_of" 1 1 M_parts_of :=
 by
 refine has_of'' (k:=0) (F:=F_parts_of) rfl rfl src sc_parts_of fun f cdv A outer s H E z hr hz=>?_
 unfold F_parts_of B1_parts_of
 show sVs _ _ (defBody S_parts_of) _
 conv=>arg 2; whnf
 exact
  (ss_cons (s_own 1 sc_parts_of.nd (ef_lst ea_nil))
  (ss_cons (s_own 2 sc_parts_of.nd (ef_lst ea_nil))
  (ss_cons (s_for PassesOwn.never rfl (ip_seq hz (ev_var 0)) (eg_name 3 sc_parts_of.nd)
   (ss_one (s_if (et_cmp hz (o_eq (hr).units) (er_of (ev_var 3)) (er_of ev_str) (nomark _))
    (ss_frz 2
    (ss_cons (s_app 1 (pe_bm PySem.F.plainAttrs_list PySem.F.slot_list_append PySem.F.type_list_append mt_append (pv 1) (pa_cons (eV.p (by exact (ev_var 2))) pa_nil)))
    (ss_one (s_own 2 sc_parts_of.nd (ef_lst ea_nil)))))
    (ss_one (s_app 2 (pe_bm PySem.F.plainAttrs_list PySem.F.slot_list_append PySem.F.type_list_append mt_append (pv 2) (pa_cons (eV.p (by exact (ev_var 3))) pa_nil)))))))
  (ss_cons (s_if (et_tru hz (er_own 2))
   (ss_one s_no)
   ss_nil)
  (ss_one (s_retO 1))))))
theorem hasX_parts_of (src:Src K mg "parts_of" S_parts_of ["words"]) (er:Er CS K mg):HasX P w K mg base "parts_of" 1 1 G_parts_of "NoText" :=
 by
 refine hasX_of2'' (k:=0) (F:=FX_parts_of) rfl rfl src sc_parts_of fun f cdv A outer s H E z hr hz pins kx hL hL2=>?_
 unfold FX_parts_of B2_parts_of
 show xVs _ _ _ _ (defBody S_parts_of) _
 conv=>arg 5; whnf
 exact
  (x_cons (x_st (s_own 1 sc_parts_of.nd (ef_lst ea_nil)))
  (x_cons (x_st (s_own 2 sc_parts_of.nd (ef_lst ea_nil)))
  (x_cons (x_st (s_nox (s_for PassesOwn.never rfl (ip_seq hz (ev_var 0)) (eg_name 3 sc_parts_of.nd)
   (ss_one (s_if (et_cmp hz (o_eq (hr).units) (er_of (ev_var 3)) (er_of ev_str) (nomark _))
    (ss_frz 2
    (ss_cons (s_app 1 (pe_bm PySem.F.plainAttrs_list PySem.F.slot_list_append PySem.F.type_list_append mt_append (pv 1) (pa_cons (eV.p (by exact (ev_var 2))) pa_nil)))
    (ss_one (s_own 2 sc_parts_of.nd (ef_lst ea_nil)))))
    (ss_one (s_app 2 (pe_bm PySem.F.plainAttrs_list PySem.F.slot_list_append PySem.F.type_list_append mt_append (pv 2) (pa_cons (eV.p (by exact (ev_var 3))) pa_nil)))))))))
  (x_cons (x_if (et_tru hz (er_own 2))
   (x_one (x_raise er hz hL))
   x_nil)
  x_never))))
abbrev S_read:Stmt:=top 22
abbrev N_read:List Str:=["text","words","heads","many","table"]
theorem sc_read:FnScope N_read ["text"] (defScope S_read):=⟨rfl,rfl,rfl,by decide +kernel,rfl,by decide +kernel,by decide +kernel⟩
theorem has_read (src:Src K mg "read" S_read ["text"]) (h_is_table:Has P w K mg base "is_table" 3 1 M_is_table) (h_row_of:Has P w K mg base "row_of" 2 2 M_row_of) (h_parts_of:Has P w K mg base "parts_of" 1 1 M_parts_of) (hx_parts_of:HasX P w K mg base "parts_of" 1 1 G_parts_of "NoText") (hx_row_of:HasX P w K mg base "row_of" 2 2 G_row_of "NoText") (er:Er CS K mg) (n_range:mg "range"=none) (n_str:mg "str"=none) (n_tuple:mg "tuple"=none) {tk_MOST_MARKS:Tok} (g_MOST_MARKS:mg "MOST_MARKS"=some (.int 6 tk_MOST_MARKS)):Has P w K mg base "read" 4 1 M_read :=
 by
 refine has_of'' (k:=3) (F:=F_read) rfl rfl src sc_read fun f cdv A outer s H E z hr hz=>?_
 unfold F_read E2_read E1_read
 show sVs _ _ (defBody S_read) _
 conv=>arg 2; whnf
 exact
  (ss_cons (s_set 1 sc_read.nd (ev_new (ef_split (ev_var 0) ev_str)))
  (ss_cons (s_setC 2 sc_read.nd N_read (defScope S_read) ["number"] [none] [0] (by decide +kernel) hz (ir_of (ip_range2 rfl n_range ev_int (ev_op hz o_add (er_of (ev_globI rfl g_MOST_MARKS)) (er_of ev_int)))) (fun C s H fp z' (hz':z'.K=K)=>(eg_name 0 (show List.Nodup (["number"]:List Str) by decide +kernel))) (fun C s H fp z' (hz':z'.K=K)=>et_ifs0) (fun C s H fp z' (hz':z'.K=K)=>(ev_new (ef_lst (ea_cons ev_str (ea_cons (ev_y1 hz' b_str rfl n_str rfl (er_of (ev_var 0))) ea_nil st_Call) st_Constant)))))
  (ss_cons (s_if (et_cmp hz (o_notin (hr).units) (er_of (ev_slice hz (er_of (ev_var 1)) eo_none (eo_some ev_int))) (er_of (ev_var 2)) (by with_unfolding_all rfl))
   (ss_one s_no)
   ss_nil)
  (ss_cons (s_set 3 sc_read.nd (ev_op hz o_add (er_of (ev_index hz (hr).units (er_of (ev_var 2)) (ev_slice hz (er_of (ev_var 1)) eo_none (eo_some ev_int)))) (er_of ev_int)))
  (ss_cons (s_set 4 sc_read.nd (ev_tup (ea_cons (ev_var 3) (ea_cons (ev_y1 hz b_tuple rfl n_tuple rfl (er_of (ev_new (ef_comp' N_read (defScope S_read) ["part","many"] [none,some 3] [0] (by decide +kernel) hz (ir_seq hz (er_of (ev_has hz h_parts_of (hr.mono (by decide)) (ea_cons (ev_slice hz (er_of (ev_var 1)) (eo_some ev_int) eo_none) ea_nil st_Subscript)))) (fun C s H fp z' (hz':z'.K=K)=>(eg_name 0 (show List.Nodup (["part","many"]:List Str) by decide +kernel))) (fun C s H fp z' (hz':z'.K=K)=>et_ifs0) (fun C s H fp z' (hz':z'.K=K)=>(ev_has hz' h_row_of (hr.mono (by decide)) (ea_cons (ev_var 0) (ea_cons (ev_var 1) ea_nil st_Name) st_Name))))))) ea_nil st_Call) st_Name)))
  (ss_cons (s_if (et_not (et_val (ev_has hz h_is_table (hr.mono (by decide)) (ea_cons (ev_var 4) ea_nil st_Name))))
   (ss_one s_no)
   ss_nil)
  (ss_one (s_ret (ev_var 4)))))))))
theorem hasX_read (src:Src K mg "read" S_read ["text"]) (h_is_table:Has P w K mg base "is_table" 3 1 M_is_table) (h_row_of:Has P w K mg base "row_of" 2 2 M_row_of) (h_parts_of:Has P w K mg base "parts_of" 1 1 M_parts_of) (hx_parts_of:HasX P w K mg base "parts_of" 1 1 G_parts_of "NoText") (hx_row_of:HasX P w K mg base "row_of" 2 2 G_row_of "NoText") (er:Er CS K mg) (n_range:mg "range"=none) (n_str:mg "str"=none) (n_tuple:mg "tuple"=none) {tk_MOST_MARKS:Tok} (g_MOST_MARKS:mg "MOST_MARKS"=some (.int 6 tk_MOST_MARKS)):HasX P w K mg base "read" 4 1 G_read "NoText" :=
 by
 refine hasX_of2'' (k:=3) (F:=FX_read) rfl rfl src sc_read fun f cdv A outer s H E z hr hz pins kx hL hL2=>?_
 unfold FX_read E5_read E4_read G1_read E3_read
 show xVs _ _ _ _ (defBody S_read) _
 conv=>arg 5; whnf
 exact
  (x_cons (x_st (s_set 1 sc_read.nd (ev_new (ef_split (ev_var 0) ev_str))))
  (x_cons (x_st (s_setC 2 sc_read.nd N_read (defScope S_read) ["number"] [none] [0] (by decide +kernel) hz (ir_of (ip_range2 rfl n_range ev_int (ev_op hz o_add (er_of (ev_globI rfl g_MOST_MARKS)) (er_of ev_int)))) (fun C s H fp z' (hz':z'.K=K)=>(eg_name 0 (show List.Nodup (["number"]:List Str) by decide +kernel))) (fun C s H fp z' (hz':z'.K=K)=>et_ifs0) (fun C s H fp z' (hz':z'.K=K)=>(ev_new (ef_lst (ea_cons ev_str (ea_cons (ev_y1 hz' b_str rfl n_str rfl (er_of (ev_var 0))) ea_nil st_Call) st_Constant))))))
  (x_cons (x_if (et_cmp hz (o_notin (hr).units) (er_of (ev_slice hz (er_of (ev_var 1)) eo_none (eo_some ev_int))) (er_of (ev_var 2)) (by with_unfolding_all rfl))
   (x_one (x_raise er hz hL))
   x_nil)
  (x_cons (x_st (s_set 3 sc_read.nd (ev_op hz o_add (er_of (ev_index hz (hr).units (er_of (ev_var 2)) (ev_slice hz (er_of (ev_var 1)) eo_none (eo_some ev_int)))) (er_of ev_int))))
  (x_cons (x_or (x_setF (xe_tup2 (ev_var 3) (xe_y1 rfl n_tuple rfl (xe_or (xe_iter N_read (defScope S_read) ["part","many"] [none,some 3] [0] (by decide +kernel) (xe_call hL2.lands hz hx_parts_of (hr.mono (by decide)) (ea_cons (ev_slice hz (er_of (ev_var 1)) (eo_some ev_int) eo_none) ea_nil st_Subscript))) (xe_comp N_read (defScope S_read) ["part","many"] [none,some 3] [0] (by decide +kernel) hL2 hz (ir_seq hz (er_of (ev_has hz h_parts_of (hr.mono (by decide)) (ea_cons (ev_slice hz (er_of (ev_var 1)) (eo_some ev_int) eo_none) ea_nil st_Subscript)))) (fun C s H fp z' (hz':z'.K=K)=>(eg_name 0 (show List.Nodup (["part","many"]:List Str) by decide +kernel))) (fun C s H fp z' (hz':z'.K=K)=>(ev_has hz' h_row_of (hr.mono (by decide)) (ea_cons (ev_var 0) (ea_cons (ev_var 1) ea_nil st_Name) st_Name))) (fun C s H fp z' E P kx' (hz':z'.K=K) l=>(xe_call l hz' hx_row_of (hr.mono (by decide)) (ea_cons (ev_var 0) (ea_cons (ev_var 1) ea_nil st_Name) st_Name)))))))) (s_set 4 sc_read.nd (ev_tup (ea_cons (ev_var 3) (ea_cons (ev_y1 hz b_tuple rfl n_tuple rfl (er_of (ev_new (ef_comp' N_read (defScope S_read) ["part","many"] [none,some 3] [0] (by decide +kernel) hz (ir_seq hz (er_of (ev_has hz h_parts_of (hr.mono (by decide)) (ea_cons (ev_slice hz (er_of (ev_var 1)) (eo_some ev_int) eo_none) ea_nil st_Subscript)))) (fun C s H fp z' (hz':z'.K=K)=>(eg_name 0 (show List.Nodup (["part","many"]:List Str) by decide +kernel))) (fun C s H fp z' (hz':z'.K=K)=>et_ifs0) (fun C s H fp z' (hz':z'.K=K)=>(ev_has hz' h_row_of (hr.mono (by decide)) (ea_cons (ev_var 0) (ea_cons (ev_var 1) ea_nil st_Name) st_Name))))))) ea_nil st_Call) st_Name))))
  (x_cons (x_if (et_not (et_val (ev_has hz h_is_table (hr.mono (by decide)) (ea_cons (ev_var 4) ea_nil st_Name))))
   (x_one (x_raise er hz hL))
   x_nil)
  x_never))))))
abbrev S_is_rule:Stmt:=top 15
abbrev N_is_rule:List Str:=["thing","many"]
theorem sc_is_rule:FnScope N_is_rule ["thing","many"] (defScope S_is_rule):=⟨rfl,rfl,rfl,by decide +kernel,rfl,by decide +kernel,by decide +kernel⟩
theorem has_is_rule (src:Src K mg "is_rule" S_is_rule ["thing","many"]) (h_is_pair:Has P w K mg base "is_pair" 1 1 M_is_pair) (h_are_marks:Has P w K mg base "are_marks" 2 2 M_are_marks):Has P w K mg base "is_rule" 3 2 M_is_rule :=
 by
 refine has_of'' (k:=2) (F:=F_is_rule) rfl rfl src sc_is_rule fun f cdv A outer s H E z hr hz=>?_
 unfold F_is_rule
 show sVs _ _ (defBody S_is_rule) _
 conv=>arg 2; whnf
 exact
  (ss_one (s_ret (ev_and (ev_has hz h_is_pair (hr.mono (by decide)) (ea_cons (ev_var 0) ea_nil st_Name)) (ev_and (ev_has hz h_are_marks (hr.mono (by decide)) (ea_cons (ev_ix hz (er_of (ev_var 0)) ev_int (fun _ _=>rfl)) (ea_cons (ev_var 1) ea_nil st_Name) st_Subscript)) (ev_one (ev_has hz h_are_marks (hr.mono (by decide)) (ea_cons (ev_ix hz (er_of (ev_var 0)) ev_int (fun _ _=>rfl)) (ea_cons (ev_var 1) ea_nil st_Name) st_Subscript)))))))
abbrev S_are_rules:Stmt:=top 16
abbrev N_are_rules:List Str:=["thing","many"]
theorem sc_are_rules:FnScope N_are_rules ["thing","many"] (defScope S_are_rules):=⟨rfl,rfl,rfl,by decide +kernel,rfl,by decide +kernel,by decide +kernel⟩
theorem has_are_rules (src:Src K mg "are_rules" S_are_rules ["thing","many"]) (h_is_rule:Has P w K mg base "is_rule" 3 2 M_is_rule) (n_all:mg "all"=none) (n_isinstance:mg "isinstance"=none) (n_len:mg "len"=none) (n_tuple:mg "tuple"=none) {tk_MOST_RULES:Tok} (g_MOST_RULES:mg "MOST_RULES"=some (.int 64 tk_MOST_RULES)):Has P w K mg base "are_rules" 4 2 M_are_rules :=
 by
 refine has_of'' (k:=3) (F:=F_are_rules) rfl rfl src sc_are_rules fun f cdv A outer s H E z hr hz=>?_
 unfold F_are_rules E1_are_rules
 show sVs _ _ (defBody S_are_rules) _
 conv=>arg 2; whnf
 exact
  (ss_cons (s_if (et_w (ew_or (et_not (et_val (ev_isi hz (kit_tuple _) rfl n_isinstance rfl n_tuple rfl (er_of (ev_var 0))))) (ew_or1 (et_cmp hz o_gt (er_of (ev_b1 hz b_len rfl n_len PySem.boot_len (er_of (ev_var 0)))) (er_of (ev_globI rfl g_MOST_RULES)) (nomark _)))))
   (ss_one (s_ret ev_bl))
   ss_nil)
  (ss_one (s_ret (ev_b1 hz (b_all rfl) rfl n_all rfl (er_of (ev_new (ef_comp' N_are_rules (defScope S_are_rules) ["part","many"] [none,some 1] [0] (by decide +kernel) hz (ir_seq hz (er_of (ev_var 0))) (fun C s H fp z' (hz':z'.K=K)=>(eg_name 0 (show List.Nodup (["part","many"]:List Str) by decide +kernel))) (fun C s H fp z' (hz':z'.K=K)=>et_ifs0) (fun C s H fp z' (hz':z'.K=K)=>(ev_has hz' h_is_rule (hr.mono (by decide)) (ea_cons (ev_var 0) (ea_cons (ev_var 1) ea_nil st_Name) st_Name))))))))))
abbrev S_rule_of:Stmt:=top 21
abbrev N_rule_of:List Str:=["part","many","middle"]
theorem sc_rule_of:FnScope N_rule_of ["part","many"] (defScope S_rule_of):=⟨rfl,rfl,rfl,by decide +kernel,rfl,by decide +kernel,by decide +kernel⟩
theorem has_rule_of (src:Src K mg "rule_of" S_rule_of ["part","many"]) (h_marks_of:Has P w K mg base "marks_of" 1 2 M_marks_of) (hx_marks_of:HasX P w K mg base "marks_of" 1 2 G_marks_of "NoText") (er:Er CS K mg):Has P w K mg base "rule_of" 2 2 M_rule_of :=
 by
 refine has_of'' (k:=1) (F:=F_rule_of) rfl rfl src sc_rule_of fun f cdv A outer s H E z hr hz=>?_
 unfold F_rule_of
 show sVs _ _ (defBody S_rule_of) _
 conv=>arg 2; whnf
 exact
  (ss_cons (s_if (et_w (ew_or (et_cmp hz (o_ne (hr).units) (er_of (ev_slice hz (er_of (ev_var 0)) eo_none (eo_some ev_int))) (er_of (ev_new (ef_lst (ea_cons ev_str ea_nil st_Constant)))) (nomark _)) (ew_or1 (et_cmp hz (o_notin (hr).units) (er_of ev_str) (er_of (ev_var 0)) (by with_unfolding_all rfl)))))
   (ss_one s_no)
   ss_nil)
  (ss_cons (s_set 2 sc_rule_of.nd (ev_index hz (hr).units (er_of (ev_var 0)) ev_str))
  (ss_one (s_ret (ev_tup (ea_cons (ev_has hz h_marks_of (hr.mono (by decide)) (ea_cons (ev_slice hz (er_of (ev_var 0)) (eo_some ev_int) (eo_some (ev_var 2))) (ea_cons (ev_var 1) ea_nil st_Name) st_Subscript)) (ea_cons (ev_has hz h_marks_of (hr.mono (by decide)) (ea_cons (ev_slice hz (er_of (ev_var 0)) (eo_some (ev_op hz o_add (er_of (ev_var 2)) (er_of ev_int))) eo_none) (ea_cons (ev_var 1) ea_nil st_Name) st_Subscript)) ea_nil st_Call) st_Call))))))
theorem hasX_rule_of (src:Src K mg "rule_of" S_rule_of ["part","many"]) (h_marks_of:Has P w K mg base "marks_of" 1 2 M_marks_of) (hx_marks_of:HasX P w K mg base "marks_of" 1 2 G_marks_of "NoText") (er:Er CS K mg):HasX P w K mg base "rule_of" 2 2 G_rule_of "NoText" :=
 by
 refine hasX_of2'' (k:=1) (F:=FX_rule_of) rfl rfl src sc_rule_of fun f cdv A outer s H E z hr hz pins kx hL hL2=>?_
 unfold FX_rule_of
 show xVs _ _ _ _ (defBody S_rule_of) _
 conv=>arg 5; whnf
 exact
  (x_cons (x_if (et_w (ew_or (et_cmp hz (o_ne (hr).units) (er_of (ev_slice hz (er_of (ev_var 0)) eo_none (eo_some ev_int))) (er_of (ev_new (ef_lst (ea_cons ev_str ea_nil st_Constant)))) (nomark _)) (ew_or1 (et_cmp hz (o_notin (hr).units) (er_of ev_str) (er_of (ev_var 0)) (by with_unfolding_all rfl)))))
   (x_one (x_raise er hz hL))
   x_nil)
  (x_cons (x_st (s_set 2 sc_rule_of.nd (ev_index hz (hr).units (er_of (ev_var 0)) ev_str)))
  (x_one (x_or (x_retE (xe_or (xe_tup1 (xe_call hL2.lands hz hx_marks_of (hr.mono (by decide)) (ea_cons (ev_slice hz (er_of (ev_var 0)) (eo_some ev_int) (eo_some (ev_var 2))) (ea_cons (ev_var 1) ea_nil st_Name) st_Subscript))) (xe_tup2 (ev_has hz h_marks_of (hr.mono (by decide)) (ea_cons (ev_slice hz (er_of (ev_var 0)) (eo_some ev_int) (eo_some (ev_var 2))) (ea_cons (ev_var 1) ea_nil st_Name) st_Subscript)) (xe_call hL2.lands hz hx_marks_of (hr.mono (by decide)) (ea_cons (ev_slice hz (er_of (ev_var 0)) (eo_some (ev_op hz o_add (er_of (ev_var 2)) (er_of ev_int))) eo_none) (ea_cons (ev_var 1) ea_nil st_Name) st_Subscript))))) (s_ret (ev_tup (ea_cons (ev_has hz h_marks_of (hr.mono (by decide)) (ea_cons (ev_slice hz (er_of (ev_var 0)) (eo_some ev_int) (eo_some (ev_var 2))) (ea_cons (ev_var 1) ea_nil st_Name) st_Subscript)) (ea_cons (ev_has hz h_marks_of (hr.mono (by decide)) (ea_cons (ev_slice hz (er_of (ev_var 0)) (eo_some (ev_op hz o_add (er_of (ev_var 2)) (er_of ev_int))) eo_none) (ea_cons (ev_var 1) ea_nil st_Name) st_Subscript)) ea_nil st_Call) st_Call)))))))
abbrev S_read_rules:Stmt:=top 23
abbrev N_read_rules:List Str:=["text","many","words","rules"]
theorem sc_read_rules:FnScope N_read_rules ["text","many"] (defScope S_read_rules):=⟨rfl,rfl,rfl,by decide +kernel,rfl,by decide +kernel,by decide +kernel⟩
theorem has_read_rules (src:Src K mg "read_rules" S_read_rules ["text","many"]) (h_parts_of:Has P w K mg base "parts_of" 1 1 M_parts_of) (h_are_rules:Has P w K mg base "are_rules" 4 2 M_are_rules) (h_rule_of:Has P w K mg base "rule_of" 2 2 M_rule_of) (hx_parts_of:HasX P w K mg base "parts_of" 1 1 G_parts_of "NoText") (hx_rule_of:HasX P w K mg base "rule_of" 2 2 G_rule_of "NoText") (er:Er CS K mg) (n_str:mg "str"=none) (n_tuple:mg "tuple"=none):Has P w K mg base "read_rules" 5 2 M_read_rules :=
 by
 refine has_of'' (k:=4) (F:=F_read_rules) rfl rfl src sc_read_rules fun f cdv A outer s H E z hr hz=>?_
 unfold F_read_rules E1_read_rules
 show sVs _ _ (defBody S_read_rules) _
 conv=>arg 2; whnf
 exact
  (ss_cons (s_set 2 sc_read_rules.nd (ev_new (ef_split (ev_var 0) ev_str)))
  (ss_cons (s_if (et_cmp hz (o_ne (hr).units) (er_of (ev_slice hz (er_of (ev_var 2)) eo_none (eo_some ev_int))) (er_of (ev_new (ef_lst (ea_cons ev_str (ea_cons (ev_y1 hz b_str rfl n_str rfl (er_of (ev_var 1))) ea_nil st_Call) st_Constant)))) (nomark _))
   (ss_one s_no)
   ss_nil)
  (ss_cons (s_set 3 sc_read_rules.nd (ev_y1 hz b_tuple rfl n_tuple rfl (er_of (ev_new (ef_comp' N_read_rules (defScope S_read_rules) ["part","many"] [none,some 1] [0] (by decide +kernel) hz (ir_seq hz (er_of (ev_has hz h_parts_of (hr.mono (by decide)) (ea_cons (ev_slice hz (er_of (ev_var 2)) (eo_some ev_int) eo_none) ea_nil st_Subscript)))) (fun C s H fp z' (hz':z'.K=K)=>(eg_name 0 (show List.Nodup (["part","many"]:List Str) by decide +kernel))) (fun C s H fp z' (hz':z'.K=K)=>et_ifs0) (fun C s H fp z' (hz':z'.K=K)=>(ev_has hz' h_rule_of (hr.mono (by decide)) (ea_cons (ev_var 0) (ea_cons (ev_var 1) ea_nil st_Name) st_Name))))))))
  (ss_cons (s_if (et_not (et_val (ev_has hz h_are_rules (hr.mono (by decide)) (ea_cons (ev_var 3) (ea_cons (ev_var 1) ea_nil st_Name) st_Name))))
   (ss_one s_no)
   ss_nil)
  (ss_one (s_ret (ev_var 3)))))))
theorem hasX_read_rules (src:Src K mg "read_rules" S_read_rules ["text","many"]) (h_parts_of:Has P w K mg base "parts_of" 1 1 M_parts_of) (h_are_rules:Has P w K mg base "are_rules" 4 2 M_are_rules) (h_rule_of:Has P w K mg base "rule_of" 2 2 M_rule_of) (hx_parts_of:HasX P w K mg base "parts_of" 1 1 G_parts_of "NoText") (hx_rule_of:HasX P w K mg base "rule_of" 2 2 G_rule_of "NoText") (er:Er CS K mg) (n_str:mg "str"=none) (n_tuple:mg "tuple"=none):HasX P w K mg base "read_rules" 5 2 G_read_rules "NoText" :=
 by
 refine hasX_of2'' (k:=4) (F:=FX_read_rules) rfl rfl src sc_read_rules fun f cdv A outer s H E z hr hz pins kx hL hL2=>?_
 unfold FX_read_rules E3_read_rules E2_read_rules G1_read_rules
 show xVs _ _ _ _ (defBody S_read_rules) _
 conv=>arg 5; whnf
 exact
  (x_cons (x_st (s_set 2 sc_read_rules.nd (ev_new (ef_split (ev_var 0) ev_str))))
  (x_cons (x_if (et_cmp hz (o_ne (hr).units) (er_of (ev_slice hz (er_of (ev_var 2)) eo_none (eo_some ev_int))) (er_of (ev_new (ef_lst (ea_cons ev_str (ea_cons (ev_y1 hz b_str rfl n_str rfl (er_of (ev_var 1))) ea_nil st_Call) st_Constant)))) (nomark _))
   (x_one (x_raise er hz hL))
   x_nil)
  (x_cons (x_or (x_setF (xe_y1 rfl n_tuple rfl (xe_or (xe_iter N_read_rules (defScope S_read_rules) ["part","many"] [none,some 1] [0] (by decide +kernel) (xe_call hL2.lands hz hx_parts_of (hr.mono (by decide)) (ea_cons (ev_slice hz (er_of (ev_var 2)) (eo_some ev_int) eo_none) ea_nil st_Subscript))) (xe_comp N_read_rules (defScope S_read_rules) ["part","many"] [none,some 1] [0] (by decide +kernel) hL2 hz (ir_seq hz (er_of (ev_has hz h_parts_of (hr.mono (by decide)) (ea_cons (ev_slice hz (er_of (ev_var 2)) (eo_some ev_int) eo_none) ea_nil st_Subscript)))) (fun C s H fp z' (hz':z'.K=K)=>(eg_name 0 (show List.Nodup (["part","many"]:List Str) by decide +kernel))) (fun C s H fp z' (hz':z'.K=K)=>(ev_has hz' h_rule_of (hr.mono (by decide)) (ea_cons (ev_var 0) (ea_cons (ev_var 1) ea_nil st_Name) st_Name))) (fun C s H fp z' E P kx' (hz':z'.K=K) l=>(xe_call l hz' hx_rule_of (hr.mono (by decide)) (ea_cons (ev_var 0) (ea_cons (ev_var 1) ea_nil st_Name) st_Name))))))) (s_set 3 sc_read_rules.nd (ev_y1 hz b_tuple rfl n_tuple rfl (er_of (ev_new (ef_comp' N_read_rules (defScope S_read_rules) ["part","many"] [none,some 1] [0] (by decide +kernel) hz (ir_seq hz (er_of (ev_has hz h_parts_of (hr.mono (by decide)) (ea_cons (ev_slice hz (er_of (ev_var 2)) (eo_some ev_int) eo_none) ea_nil st_Subscript)))) (fun C s H fp z' (hz':z'.K=K)=>(eg_name 0 (show List.Nodup (["part","many"]:List Str) by decide +kernel))) (fun C s H fp z' (hz':z'.K=K)=>et_ifs0) (fun C s H fp z' (hz':z'.K=K)=>(ev_has hz' h_rule_of (hr.mono (by decide)) (ea_cons (ev_var 0) (ea_cons (ev_var 1) ea_nil st_Name) st_Name)))))))))
  (x_cons (x_if (et_not (et_val (ev_has hz h_are_rules (hr.mono (by decide)) (ea_cons (ev_var 3) (ea_cons (ev_var 1) ea_nil st_Name) st_Name))))
   (x_one (x_raise er hz hL))
   x_nil)
  x_never))))
abbrev S__law_found:Stmt:=top 41
abbrev N__law_found:List Str:=["_law_text","_law_many","_law_found_here","e","_law_some","_law_good_here"]
theorem sc__law_found:FnScope N__law_found ["_law_text","_law_many"] (defScope S__law_found):=⟨rfl,rfl,rfl,by decide +kernel,rfl,by decide +kernel,by decide +kernel⟩
theorem has__law_found (src:Src K mg "_law_found" S__law_found ["_law_text","_law_many"]) (h_read:Has P w K mg base "read" 4 1 M_read) (h_read_rules:Has P w K mg base "read_rules" 5 2 M_read_rules) (hx_read:HasX P w K mg base "read" 4 1 G_read "NoText") (hx_read_rules:HasX P w K mg base "read_rules" 5 2 G_read_rules "NoText") (er:Er CS K mg) (n_ValueError:mg "ValueError"=none) (n_any:mg "any"=none) (n_int:mg "int"=none) (n_isinstance:mg "isinstance"=none):Has P w K mg base "_law_found" 6 2 M__law_found :=
 by
 refine has_of'' (k:=5) (F:=F__law_found) rfl rfl src sc__law_found fun f cdv A outer s H E z hr hz=>?_
 unfold F__law_found X1__law_found B1__law_found
 show sVs _ _ (defBody S__law_found) _
 conv=>arg 2; whnf
 exact
  (ss_cons (s_try hz (fun E pins kx hL=>(x_one (x_if (et_cmp hz (o_eq (hr).units) (er_of (ev_var 1)) (er_of ev_int) (nomark _))
    (x_one (x_or (x_setF (xe_call hL hz hx_read (hr.mono (by decide)) (ea_cons (ev_var 0) ea_nil st_Name))) (s_set 2 sc__law_found.nd (ev_has hz h_read (hr.mono (by decide)) (ea_cons (ev_var 0) ea_nil st_Name)))))
    (x_one (x_or (x_setF (xe_call hL hz hx_read_rules (hr.mono (by decide)) (ea_cons (ev_var 0) (ea_cons (ev_var 1) ea_nil st_Name) st_Name))) (s_set 2 sc__law_found.nd (ev_has hz h_read_rules (hr.mono (by decide)) (ea_cons (ev_var 0) (ea_cons (ev_var 1) ea_nil st_Name) st_Name))))))))
   (hj_as er hz 3 sc__law_found.nd (fun ea oe E sx =>
    (ss_cons (s_set 4 sc__law_found.nd (ev_new (ef_lst (by refine ea_cons (ev_isx er hz 3 n_isinstance) ?_ st_Call; refine ea_cons (ev_isx er hz 3 n_isinstance) ?_ st_Call; refine ea_cons (ev_isx er hz 3 n_isinstance) ?_ st_Call; refine ea_cons (ev_isx er hz 3 n_isinstance) ?_ st_Call; exact ea_nil))))
    (ss_cons (s_set 5 sc__law_found.nd (ev_and (ev_isx er hz 3 n_isinstance) (ev_one (ev_isv er hz 3 n_isinstance n_ValueError))))
    (ss_one (s_ret (ev_ix hz (er_of (ev_new (ef_lst (ea_cons (ev_tup (ea_cons ev_str ea_nil st_Constant)) (ea_cons ev_non ea_nil st_Constant) st_Tuple)))) (ev_y1 hz b_intB rfl n_int rfl (er_of (ev_and (ev_var 5) (ev_one (ev_not (ev_b1 hz (b_anyX sx) rfl n_any rfl (er_of (ev_var 4)))))))) (fun _ _=>rfl))))))) hj_nil))
  (ss_one (s_ret (ev_ix hz (er_of (ev_new (ef_lst (ea_cons (ev_var 2) (ea_cons (ev_tup (ea_cons ev_str ea_nil st_Constant)) ea_nil st_Tuple) st_Name)))) (ev_y1 hz b_intB rfl n_int rfl (er_of (ev_isN (ev_var 2)))) (fun _ _=>rfl)))))
abbrev S__law_number:Stmt:=top 32
abbrev N__law_number:List Str:=["_law_thing","_law_low","_law_high"]
theorem sc__law_number:FnScope N__law_number ["_law_thing","_law_low","_law_high"] (defScope S__law_number):=⟨rfl,rfl,rfl,by decide +kernel,rfl,by decide +kernel,by decide +kernel⟩
theorem has__law_number (src:Src K mg "_law_number" S__law_number ["_law_thing","_law_low","_law_high"]) (n_bool:mg "bool"=none) (n_int:mg "int"=none) (n_isinstance:mg "isinstance"=none):Has P w K mg base "_law_number" 1 3 M__law_number :=
 by
 refine has_of'' (k:=0) (F:=F__law_number) rfl rfl src sc__law_number fun f cdv A outer s H E z hr hz=>?_
 unfold F__law_number
 show sVs _ _ (defBody S__law_number) _
 conv=>arg 2; whnf
 exact
  (ss_one (s_ret (ev_and (ev_isi hz (kit_int _) rfl n_isinstance rfl n_int rfl (er_of (ev_var 0))) (ev_and (ev_not (ev_isi hz (kit_bool _) rfl n_isinstance rfl n_bool rfl (er_of (ev_var 0)))) (ev_one (ev_chain hz o_le o_le (er_of (ev_var 1)) (er_of (ev_var 0)) (er_of (ev_var 2))))))))
abbrev S__law_are_marks:Stmt:=top 33
abbrev N__law_are_marks:List Str:=["_law_thing","_law_many"]
theorem sc__law_are_marks:FnScope N__law_are_marks ["_law_thing","_law_many"] (defScope S__law_are_marks):=⟨rfl,rfl,rfl,by decide +kernel,rfl,by decide +kernel,by decide +kernel⟩
theorem has__law_are_marks (src:Src K mg "_law_are_marks" S__law_are_marks ["_law_thing","_law_many"]) (h__law_number:Has P w K mg base "_law_number" 1 3 M__law_number) (n_isinstance:mg "isinstance"=none) (n_len:mg "len"=none) (n_range:mg "range"=none) (n_tuple:mg "tuple"=none):Has P w K mg base "_law_are_marks" 2 2 M__law_are_marks :=
 by
 refine has_of'' (k:=1) (F:=F__law_are_marks) rfl rfl src sc__law_are_marks fun f cdv A outer s H E z hr hz=>?_
 unfold F__law_are_marks C2__law_are_marks C1__law_are_marks
 show sVs _ _ (defBody S__law_are_marks) _
 conv=>arg 2; whnf
 exact
  (ss_cons (s_if (et_w (ew_or (et_not (et_val (ev_isi hz (kit_tuple _) rfl n_isinstance rfl n_tuple rfl (er_of (ev_var 0))))) (ew_or1 (et_cmp hz (o_ne (hr).units) (er_of (ev_new (ef_comp' N__law_are_marks (defScope S__law_are_marks) ["_law_part","_law_many"] [none,some 1] [0] (by decide +kernel) hz (ir_seq hz (er_of (ev_var 0))) (fun C s H fp z' (hz':z'.K=K)=>(eg_name 0 (show List.Nodup (["_law_part","_law_many"]:List Str) by decide +kernel))) (fun C s H fp z' (hz':z'.K=K)=>(et_ifs1 (et_not (et_val (ev_has hz' h__law_number (hr.mono (by decide)) (ea_cons (ev_var 0) (ea_cons ev_int (ea_cons (ev_op hz' o_sub (er_of (ev_var 1)) (er_of ev_int)) ea_nil st_BinOp) st_Constant) st_Name)))))) (fun C s H fp z' (hz':z'.K=K)=>(ev_var 0))))) (er_of (ev_new (ef_lst ea_nil))) (nomark _)))))
   (ss_one (s_ret ev_bl))
   ss_nil)
  (ss_one (s_ret (ev_cmp hz (o_eq (hr).units) (er_of (ev_new (ef_comp' N__law_are_marks (defScope S__law_are_marks) ["_law_k","_law_thing"] [none,some 0] [0] (by decide +kernel) hz (ir_of (ip_range2 rfl n_range ev_int (ev_b1 hz b_len rfl n_len PySem.boot_len (er_of (ev_var 0))))) (fun C s H fp z' (hz':z'.K=K)=>(eg_name 0 (show List.Nodup (["_law_k","_law_thing"]:List Str) by decide +kernel))) (fun C s H fp z' (hz':z'.K=K)=>(et_ifs1 (et_cmp hz' o_ge (er_of (ev_ix hz' (er_of (ev_var 1)) (ev_op hz' o_sub (er_of (ev_var 0)) (er_of ev_int)) (fun _ _=>rfl))) (er_of (ev_ix hz' (er_of (ev_var 1)) (ev_var 0) (fun _ _=>rfl))) (nomark _)))) (fun C s H fp z' (hz':z'.K=K)=>(ev_var 0))))) (er_of (ev_new (ef_lst ea_nil))) (nomark _)))))
abbrev S__law_is_rule:Stmt:=top 35
abbrev N__law_is_rule:List Str:=["_law_thing","_law_many"]
theorem sc__law_is_rule:FnScope N__law_is_rule ["_law_thing","_law_many"] (defScope S__law_is_rule):=⟨rfl,rfl,rfl,by decide +kernel,rfl,by decide +kernel,by decide +kernel⟩
theorem has__law_is_rule (src:Src K mg "_law_is_rule" S__law_is_rule ["_law_thing","_law_many"]) (h__law_are_marks:Has P w K mg base "_law_are_marks" 2 2 M__law_are_marks) (n_isinstance:mg "isinstance"=none) (n_len:mg "len"=none) (n_tuple:mg "tuple"=none):Has P w K mg base "_law_is_rule" 3 2 M__law_is_rule :=
 by
 refine has_of'' (k:=2) (F:=F__law_is_rule) rfl rfl src sc__law_is_rule fun f cdv A outer s H E z hr hz=>?_
 unfold F__law_is_rule
 show sVs _ _ (defBody S__law_is_rule) _
 conv=>arg 2; whnf
 exact
  (ss_cons (s_if (et_w (ew_or (et_not (et_val (ev_isi hz (kit_tuple _) rfl n_isinstance rfl n_tuple rfl (er_of (ev_var 0))))) (ew_or1 (et_cmp hz (o_ne (hr).units) (er_of (ev_b1 hz b_len rfl n_len PySem.boot_len (er_of (ev_var 0)))) (er_of ev_int) (nomark _)))))
   (ss_one (s_ret ev_bl))
   ss_nil)
  (ss_one (s_ret (ev_and (ev_has hz h__law_are_marks (hr.mono (by decide)) (ea_cons (ev_ix hz (er_of (ev_var 0)) ev_int (fun _ _=>rfl)) (ea_cons (ev_var 1) ea_nil st_Name) st_Subscript)) (ev_one (ev_has hz h__law_are_marks (hr.mono (by decide)) (ea_cons (ev_ix hz (er_of (ev_var 0)) ev_int (fun _ _=>rfl)) (ea_cons (ev_var 1) ea_nil st_Name) st_Subscript)))))))
abbrev S__law_are_rules:Stmt:=top 36
abbrev N__law_are_rules:List Str:=["_law_thing","_law_many"]
theorem sc__law_are_rules:FnScope N__law_are_rules ["_law_thing","_law_many"] (defScope S__law_are_rules):=⟨rfl,rfl,rfl,by decide +kernel,rfl,by decide +kernel,by decide +kernel⟩
theorem has__law_are_rules (src:Src K mg "_law_are_rules" S__law_are_rules ["_law_thing","_law_many"]) (h__law_is_rule:Has P w K mg base "_law_is_rule" 3 2 M__law_is_rule) (n_isinstance:mg "isinstance"=none) (n_len:mg "len"=none) (n_tuple:mg "tuple"=none):Has P w K mg base "_law_are_rules" 4 2 M__law_are_rules :=
 by
 refine has_of'' (k:=3) (F:=F__law_are_rules) rfl rfl src sc__law_are_rules fun f cdv A outer s H E z hr hz=>?_
 unfold F__law_are_rules C1__law_are_rules
 show sVs _ _ (defBody S__law_are_rules) _
 conv=>arg 2; whnf
 exact
  (ss_cons (s_if (et_w (ew_or (et_not (et_val (ev_isi hz (kit_tuple _) rfl n_isinstance rfl n_tuple rfl (er_of (ev_var 0))))) (ew_or1 (et_cmp hz o_gt (er_of (ev_b1 hz b_len rfl n_len PySem.boot_len (er_of (ev_var 0)))) (er_of ev_int) (nomark _)))))
   (ss_one (s_ret ev_bl))
   ss_nil)
  (ss_one (s_ret (ev_cmp hz (o_eq (hr).units) (er_of (ev_new (ef_comp' N__law_are_rules (defScope S__law_are_rules) ["_law_rule","_law_many"] [none,some 1] [0] (by decide +kernel) hz (ir_seq hz (er_of (ev_var 0))) (fun C s H fp z' (hz':z'.K=K)=>(eg_name 0 (show List.Nodup (["_law_rule","_law_many"]:List Str) by decide +kernel))) (fun C s H fp z' (hz':z'.K=K)=>(et_ifs1 (et_not (et_val (ev_has hz' h__law_is_rule (hr.mono (by decide)) (ea_cons (ev_var 0) (ea_cons (ev_var 1) ea_nil st_Name) st_Name)))))) (fun C s H fp z' (hz':z'.K=K)=>(ev_var 0))))) (er_of (ev_new (ef_lst ea_nil))) (nomark _)))))
abbrev S__law_is_table:Stmt:=top 34
abbrev N__law_is_table:List Str:=["_law_thing"]
theorem sc__law_is_table:FnScope N__law_is_table ["_law_thing"] (defScope S__law_is_table):=⟨rfl,rfl,rfl,by decide +kernel,rfl,by decide +kernel,by decide +kernel⟩
theorem has__law_is_table (src:Src K mg "_law_is_table" S__law_is_table ["_law_thing"]) (h__law_number:Has P w K mg base "_law_number" 1 3 M__law_number) (h__law_are_marks:Has P w K mg base "_law_are_marks" 2 2 M__law_are_marks) (n_isinstance:mg "isinstance"=none) (n_len:mg "len"=none) (n_tuple:mg "tuple"=none):Has P w K mg base "_law_is_table" 3 1 M__law_is_table :=
 by
 refine has_of'' (k:=2) (F:=F__law_is_table) rfl rfl src sc__law_is_table fun f cdv A outer s H E z hr hz=>?_
 unfold F__law_is_table C1__law_is_table
 show sVs _ _ (defBody S__law_is_table) _
 conv=>arg 2; whnf
 exact
  (ss_cons (s_if (et_w (ew_or (et_not (et_val (ev_isi hz (kit_tuple _) rfl n_isinstance rfl n_tuple rfl (er_of (ev_var 0))))) (ew_or (et_cmp hz (o_ne (hr).units) (er_of (ev_b1 hz b_len rfl n_len PySem.boot_len (er_of (ev_var 0)))) (er_of ev_int) (nomark _)) (ew_or1 (et_not (et_val (ev_has hz h__law_number (hr.mono (by decide)) (ea_cons (ev_ix hz (er_of (ev_var 0)) ev_int (fun _ _=>rfl)) (ea_cons ev_int (ea_cons ev_int ea_nil st_Constant) st_Constant) st_Subscript))))))))
   (ss_one (s_ret ev_bl))
   ss_nil)
  (ss_cons (s_if (et_w (ew_or (et_not (et_val (ev_isi hz (kit_tuple _) rfl n_isinstance rfl n_tuple rfl (er_of (ev_ix hz (er_of (ev_var 0)) ev_int (fun _ _=>rfl)))))) (ew_or1 (et_cmp hz o_gt (er_of (ev_b1 hz b_len rfl n_len PySem.boot_len (er_of (ev_ix hz (er_of (ev_var 0)) ev_int (fun _ _=>rfl))))) (er_of ev_int) (nomark _)))))
   (ss_one (s_ret ev_bl))
   ss_nil)
  (ss_one (s_ret (ev_cmp hz (o_eq (hr).units) (er_of (ev_new (ef_comp' N__law_is_table (defScope S__law_is_table) ["_law_row_here","_law_thing"] [none,some 0] [0] (by decide +kernel) hz (ir_seq hz (er_of (ev_ix hz (er_of (ev_var 0)) ev_int (fun _ _=>rfl)))) (fun C s H fp z' (hz':z'.K=K)=>(eg_name 0 (show List.Nodup (["_law_row_here","_law_thing"]:List Str) by decide +kernel))) (fun C s H fp z' (hz':z'.K=K)=>(et_ifs1 (et_not (et_val (ev_has hz' h__law_are_marks (hr.mono (by decide)) (ea_cons (ev_var 0) (ea_cons (ev_ix hz' (er_of (ev_var 1)) ev_int (fun _ _=>rfl)) ea_nil st_Subscript) st_Name)))))) (fun C s H fp z' (hz':z'.K=K)=>(ev_var 0))))) (er_of (ev_new (ef_lst ea_nil))) (nomark _))))))
abbrev S__law_shown:Stmt:=top 39
abbrev N__law_shown:List Str:=["_law_rules_here","_law_many","_law_found_here","_law_ahead","_law_behind"]
theorem sc__law_shown:FnScope N__law_shown ["_law_rules_here","_law_many"] (defScope S__law_shown):=⟨rfl,rfl,rfl,by decide +kernel,rfl,by decide +kernel,by decide +kernel⟩
theorem has__law_shown (src:Src K mg "_law_shown" S__law_shown ["_law_rules_here","_law_many"]) (h__law_row:Has P w K mg base "_law_row" 1 3 M__law_row) (n_str:mg "str"=none):Has P w K mg base "_law_shown" 2 2 M__law_shown :=
 by
 refine has_of'' (k:=1) (F:=F__law_shown) rfl rfl src sc__law_shown fun f cdv A outer s H E z hr hz=>?_
 unfold F__law_shown B1__law_shown
 show sVs _ _ (defBody S__law_shown) _
 conv=>arg 2; whnf
 exact
  (ss_cons (s_set 2 sc__law_shown.nd (ev_op hz o_add (er_of ev_str) (er_of (ev_y1 hz b_str rfl n_str rfl (er_of (ev_var 1))))))
  (ss_cons (s_for PassesOwn.never rfl (ip_seq hz (ev_var 0)) (eg_tup2 hz rfl 3 4 sc__law_shown.nd)
   (ss_one (s_set 2 sc__law_shown.nd (ev_op hz o_add (er_of (ev_op hz o_add (er_of (ev_op hz o_add (er_of (ev_op hz o_add (er_of (ev_var 2)) (er_of ev_str))) (er_of (ev_has hz h__law_row (hr.mono (by decide)) (ea_cons ev_str (ea_cons (ev_var 3) (ea_cons (ev_new (ef_lst ea_nil)) ea_nil st_List) st_Name) st_Constant))))) (er_of ev_str))) (er_of (ev_has hz h__law_row (hr.mono (by decide)) (ea_cons ev_str (ea_cons (ev_var 4) (ea_cons (ev_new (ef_lst (ea_cons ev_str ea_nil st_Constant))) ea_nil st_List) st_Name) st_Constant)))))))
  (ss_one (s_ret (ev_var 2)))))
abbrev S__law_good:Stmt:=top 42
abbrev N__law_good:List Str:=["_law_found_here","_law_text","_law_many"]
theorem sc__law_good:FnScope N__law_good ["_law_found_here","_law_text","_law_many"] (defScope S__law_good):=⟨rfl,rfl,rfl,by decide +kernel,rfl,by decide +kernel,by decide +kernel⟩
theorem has__law_good (src:Src K mg "_law_good" S__law_good ["_law_found_here","_law_text","_law_many"]) (h__law_written:Has P w K mg base "_law_written" 2 1 M__law_written) (h__law_are_rules:Has P w K mg base "_law_are_rules" 4 2 M__law_are_rules) (h__law_is_table:Has P w K mg base "_law_is_table" 3 1 M__law_is_table) (h__law_shown:Has P w K mg base "_law_shown" 2 2 M__law_shown):Has P w K mg base "_law_good" 5 3 M__law_good :=
 by
 refine has_of'' (k:=4) (F:=F__law_good) rfl rfl src sc__law_good fun f cdv A outer s H E z hr hz=>?_
 unfold F__law_good
 show sVs _ _ (defBody S__law_good) _
 conv=>arg 2; whnf
 exact
  (ss_cons (s_if (et_isN (ev_var 0))
   (ss_one (s_ret ev_bl))
   ss_nil)
  (ss_cons (s_if (et_cmp hz (o_eq (hr).units) (er_of (ev_var 2)) (er_of ev_int) (nomark _))
   (ss_one (s_ret (ev_and (ev_has hz h__law_is_table (hr.mono (by decide)) (ea_cons (ev_var 0) ea_nil st_Name)) (ev_one (ev_cmp hz (o_eq (hr).units) (er_of (ev_has hz h__law_written (hr.mono (by decide)) (ea_cons (ev_var 0) ea_nil st_Name))) (er_of (ev_var 1)) (nomark _))))))
   ss_nil)
  (ss_one (s_ret (ev_and (ev_has hz h__law_are_rules (hr.mono (by decide)) (ea_cons (ev_var 0) (ea_cons (ev_var 2) ea_nil st_Name) st_Name)) (ev_one (ev_cmp hz (o_eq (hr).units) (er_of (ev_has hz h__law_shown (hr.mono (by decide)) (ea_cons (ev_var 0) (ea_cons (ev_var 2) ea_nil st_Name) st_Name))) (er_of (ev_var 1)) (nomark _))))))))
abbrev S__law_rules:Stmt:=top 30
abbrev N__law_rules:List Str:=["_law_number_here","_law_many","_law_found_here","_law_k"]
theorem sc__law_rules:FnScope N__law_rules ["_law_number_here","_law_many"] (defScope S__law_rules):=⟨rfl,rfl,rfl,by decide +kernel,rfl,by decide +kernel,by decide +kernel⟩
theorem has__law_rules (src:Src K mg "_law_rules" S__law_rules ["_law_number_here","_law_many"]) (h__law_drawn:Has P w K mg base "_law_drawn" 1 2 M__law_drawn) (h__law_marks:Has P w K mg base "_law_marks" 2 2 M__law_marks) (n_range:mg "range"=none) (n_tuple:mg "tuple"=none):Has P w K mg base "_law_rules" 3 2 M__law_rules :=
 by
 refine has_of'' (k:=2) (F:=F__law_rules) rfl rfl src sc__law_rules fun f cdv A outer s H E z hr hz=>?_
 unfold F__law_rules B1__law_rules
 show sVs _ _ (defBody S__law_rules) _
 conv=>arg 2; whnf
 exact
  (ss_cons (s_own 2 sc__law_rules.nd (ef_lst ea_nil))
  (ss_cons (s_for PassesOwn.never rfl (ip_range rfl n_range (ev_ix hz (er_of (ev_tup (by refine ea_cons ev_int ?_ st_Constant; refine ea_cons ev_int ?_ st_Constant; refine ea_cons ev_int ?_ st_Constant; refine ea_cons ev_int ?_ st_Constant; refine ea_cons ev_int ?_ st_Constant; refine ea_cons ev_int ?_ st_Constant; exact ea_nil))) (ev_op hz o_md (er_of (ev_var 0)) (er_of ev_int)) (fun _ _=>rfl))) (eg_name 3 sc__law_rules.nd)
   (ss_one (s_app 2 (pe_bm PySem.F.plainAttrs_list PySem.F.slot_list_append PySem.F.type_list_append mt_append (pv 2) (pa_cons (eV.p (by exact (ev_tup (ea_cons (ev_has hz h__law_marks (hr.mono (by decide)) (ea_cons (ev_has hz h__law_drawn (hr.mono (by decide)) (ea_cons (ev_var 0) (ea_cons (ev_op hz o_mul (er_of ev_int) (er_of (ev_var 3))) ea_nil st_BinOp) st_Name)) (ea_cons (ev_var 1) ea_nil st_Name) st_Call)) (ea_cons (ev_has hz h__law_marks (hr.mono (by decide)) (ea_cons (ev_has hz h__law_drawn (hr.mono (by decide)) (ea_cons (ev_var 0) (ea_cons (ev_op hz o_add (er_of (ev_op hz o_mul (er_of ev_int) (er_of (ev_var 3)))) (er_of ev_int)) ea_nil st_BinOp) st_Name)) (ea_cons (ev_var 1) ea_nil st_Name) st_Call)) ea_nil st_Call) st_Call)))) pa_nil)))))
  (ss_one (s_ret (ev_y1 hz b_tuple rfl n_tuple rfl (er_own 2))))))
abbrev S__law_changed:Stmt:=top 40
abbrev N__law_changed:List Str:=["_law_text","_law_number_here","_law_words","_law_at","_law_place","_law_kind","_law_sign","_law_swapped","_law_some"]
theorem sc__law_changed:FnScope N__law_changed ["_law_text","_law_number_here"] (defScope S__law_changed):=⟨rfl,rfl,rfl,by decide +kernel,rfl,by decide +kernel,by decide +kernel⟩
theorem has__law_changed (src:Src K mg "_law_changed" S__law_changed ["_law_text","_law_number_here"]) (n_len:mg "len"=none):Has P w K mg base "_law_changed" 1 2 M__law_changed :=
 by
 refine has_of'' (k:=0) (F:=F__law_changed) rfl rfl src sc__law_changed fun f cdv A outer s H E z hr hz=>?_
 unfold F__law_changed
 show sVs _ _ (defBody S__law_changed) _
 conv=>arg 2; whnf
 exact
  (ss_cons (s_set 2 sc__law_changed.nd (ev_new (ef_split (ev_var 0) ev_str)))
  (ss_cons (s_set 3 sc__law_changed.nd (ev_op hz o_md (er_of (ev_op hz o_fd (er_of (ev_var 1)) (er_of ev_int))) (er_of (ev_b1 hz b_len rfl n_len PySem.boot_len (er_of (ev_var 2))))))
  (ss_cons (s_set 4 sc__law_changed.nd (ev_op hz o_md (er_of (ev_op hz o_fd (er_of (ev_var 1)) (er_of ev_int))) (er_of (ev_op hz o_add (er_of (ev_b1 hz b_len rfl n_len PySem.boot_len (er_of (ev_var 0)))) (er_of ev_int)))))
  (ss_cons (s_set 5 sc__law_changed.nd (ev_op hz o_md (er_of (ev_var 1)) (er_of ev_int)))
  (ss_cons (s_if (et_cmp hz (o_eq (hr).units) (er_of (ev_var 5)) (er_of ev_int) (nomark _))
   (ss_one (s_ret (ev_op hz o_add (er_of (ev_sliceS (ev_var 0) eo_none (eo_some (ev_var 4)))) (er_of (ev_sliceS (ev_var 0) (eo_some (ev_op hz o_add (er_of (ev_var 4)) (er_of ev_int))) eo_none)))))
   ss_nil)
  (ss_cons (s_if (et_cmp hz o_lt (er_of (ev_var 5)) (er_of ev_int) (nomark _))
   (ss_cons (s_set 6 sc__law_changed.nd (ev_ixS ev_str (ev_op hz o_md (er_of (ev_op hz o_fd (er_of (ev_var 1)) (er_of ev_int))) (er_of ev_int)) (fun _ _=>rfl)))
   (ss_one (s_ret (ev_op hz o_add (er_of (ev_op hz o_add (er_of (ev_sliceS (ev_var 0) eo_none (eo_some (ev_var 4)))) (er_of (ev_var 6)))) (er_of (ev_sliceS (ev_var 0) (eo_some (ev_op hz o_sub (er_of (ev_op hz o_add (er_of (ev_var 4)) (er_of (ev_var 5)))) (er_of ev_int))) eo_none))))))
   ss_nil)
  (ss_cons (s_if (et_cmp hz (o_eq (hr).units) (er_of (ev_var 5)) (er_of ev_int) (nomark _))
   (ss_one (s_ret (ev_join hz ev_str (er_of (ev_op hz o_add (er_of (ev_slice hz (er_of (ev_var 2)) eo_none (eo_some (ev_var 3)))) (er_of (ev_slice hz (er_of (ev_var 2)) (eo_some (ev_op hz o_add (er_of (ev_var 3)) (er_of ev_int))) eo_none)))))))
   ss_nil)
  (ss_cons (s_if (et_cmp hz (o_eq (hr).units) (er_of (ev_var 5)) (er_of ev_int) (nomark _))
   (ss_one (s_ret (ev_join hz ev_str (er_of (ev_op hz o_add (er_of (ev_op hz o_add (er_of (ev_slice hz (er_of (ev_var 2)) eo_none (eo_some (ev_var 3)))) (er_of (ev_slice hz (er_of (ev_var 2)) (eo_some (ev_var 3)) (eo_some (ev_op hz o_add (er_of (ev_var 3)) (er_of ev_int))))))) (er_of (ev_slice hz (er_of (ev_var 2)) (eo_some (ev_var 3)) eo_none)))))))
   ss_nil)
  (ss_cons (s_if (et_cmp hz (o_eq (hr).units) (er_of (ev_var 5)) (er_of ev_int) (nomark _))
   (ss_cons (s_set 7 sc__law_changed.nd (ev_op hz o_add (er_of (ev_slice hz (er_of (ev_var 2)) (eo_some (ev_op hz o_add (er_of (ev_var 3)) (er_of ev_int))) (eo_some (ev_op hz o_add (er_of (ev_var 3)) (er_of ev_int))))) (er_of (ev_slice hz (er_of (ev_var 2)) (eo_some (ev_var 3)) (eo_some (ev_op hz o_add (er_of (ev_var 3)) (er_of ev_int)))))))
   (ss_one (s_ret (ev_join hz ev_str (er_of (ev_op hz o_add (er_of (ev_op hz o_add (er_of (ev_slice hz (er_of (ev_var 2)) eo_none (eo_some (ev_var 3)))) (er_of (ev_var 7)))) (er_of (ev_slice hz (er_of (ev_var 2)) (eo_some (ev_op hz o_add (er_of (ev_var 3)) (er_of ev_int))) eo_none))))))))
   ss_nil)
  (ss_cons (s_set 8 sc__law_changed.nd (ev_new (ef_split ev_str ev_str)))
  (ss_one (s_ret (ev_join hz ev_str (er_of (ev_op hz o_add (er_of (ev_op hz o_add (er_of (ev_slice hz (er_of (ev_var 2)) eo_none (eo_some (ev_var 3)))) (er_of (ev_new (ef_lst (ea_cons (ev_ix hz (er_of (ev_var 8)) (ev_op hz o_md (er_of (ev_op hz o_fd (er_of (ev_var 1)) (er_of ev_int))) (er_of ev_int)) (fun _ _=>rfl)) ea_nil st_Subscript)))))) (er_of (ev_slice hz (er_of (ev_var 2)) (eo_some (ev_op hz o_add (er_of (ev_var 3)) (er_of ev_int))) eo_none)))))))))))))))))
abbrev S_law:Stmt:=top 43
abbrev N_law:List Str:=["_law_script","_law_thing","_law_first","_law_many","_law_number_here","_law_text","_law_k","_law_found_here"]
theorem sc_law:FnScope N_law ["_law_script"] (defScope S_law):=⟨rfl,rfl,rfl,by decide +kernel,rfl,by decide +kernel,by decide +kernel⟩
theorem law_ok {fa:Addr} {fd:FuncData} (src:Fun K "law" "law" S_law fa fd) (h__law_drawn:Has P w K mg base "_law_drawn" 1 2 M__law_drawn) (h__law_mixed:Has P w K mg base "_law_mixed" 2 2 M__law_mixed) (h__law_table:Has P w K mg base "_law_table" 3 2 M__law_table) (h__law_written:Has P w K mg base "_law_written" 2 1 M__law_written) (h__law_found:Has P w K mg base "_law_found" 6 2 M__law_found) (h__law_shown:Has P w K mg base "_law_shown" 2 2 M__law_shown) (h__law_good:Has P w K mg base "_law_good" 5 3 M__law_good) (h__law_rules:Has P w K mg base "_law_rules" 3 2 M__law_rules) (h__law_changed:Has P w K mg base "_law_changed" 1 2 M__law_changed) (n_range:mg "range"=none):FnOk P w K mg base CX0 7 fa fd ["_law_script"] (spT K 1 M_law) :=
 by
 refine fn_ok'' (k:=6) (F:=F_law) rfl rfl src sc_law fun cdv A outer s H E z hr hz=>?_
 unfold F_law R1_law R2_law R3_law R4_law R5_law R6_law R7_law R8_law R9_law R10_law B1_law
 show sVs _ _ (defBody S_law) _
 conv=>arg 2; whnf
 exact
  (ss_cons (s_set 1 sc_law.nd (ev_has hz h__law_table (hr.mono (by decide)) (ea_cons (ev_var 0) (ea_cons ev_int ea_nil st_Constant) st_Name)))
  (ss_cons (s_set 2 sc_law.nd (ev_has hz h__law_written (hr.mono (by decide)) (ea_cons (ev_var 1) ea_nil st_Name)))
  (ss_cons (s_set 3 sc_law.nd ev_int)
  (ss_cons (s_if (et_cmp hz (o_eq (hr).units) (er_of (ev_op hz o_md (er_of (ev_has hz h__law_mixed (hr.mono (by decide)) (ea_cons (ev_var 0) (ea_cons ev_int ea_nil st_Constant) st_Name))) (er_of ev_int))) (er_of ev_int) (nomark _))
   (ss_cons (s_set 3 sc_law.nd (ev_ix hz (er_of (ev_var 1)) ev_int (fun _ _=>rfl)))
   (ss_cons (s_set 1 sc_law.nd (ev_has hz h__law_rules (hr.mono (by decide)) (ea_cons (ev_has hz h__law_mixed (hr.mono (by decide)) (ea_cons (ev_var 0) (ea_cons ev_int ea_nil st_Constant) st_Name)) (ea_cons (ev_var 3) ea_nil st_Name) st_Call)))
   (ss_one (s_set 2 sc_law.nd (ev_has hz h__law_shown (hr.mono (by decide)) (ea_cons (ev_var 1) (ea_cons (ev_var 3) ea_nil st_Name) st_Name))))))
   ss_nil)
  (ss_cons (s_set 4 sc_law.nd (ev_has hz h__law_mixed (hr.mono (by decide)) (ea_cons (ev_var 0) (ea_cons ev_int ea_nil st_Constant) st_Name)))
  (ss_cons (s_if (et_w (ew_and (et_cmp hz o_gt (er_of (ev_var 3)) (er_of ev_int) (nomark _)) (ew_and1 (et_notN (ev_has hz h__law_found (hr.mono (by decide)) (ea_cons (ev_var 2) (ea_cons (ev_op hz o_add (er_of ev_int) (er_of (ev_op hz o_md (er_of (ev_var 3)) (er_of ev_int)))) ea_nil st_BinOp) st_Name))))))
   (ss_one (s_ret ev_bl))
   ss_nil)
  (ss_cons (s_set 5 sc_law.nd (ev_var 2))
  (ss_cons (s_for PassesOwn.never rfl (ip_range rfl n_range (ev_op hz o_mul (er_of (ev_op hz o_md (er_of (ev_var 4)) (er_of ev_int))) (er_of (ev_op hz o_add (er_of ev_int) (er_of (ev_op hz o_md (er_of (ev_op hz o_fd (er_of (ev_var 4)) (er_of ev_int))) (er_of ev_int))))))) (eg_name 6 sc_law.nd)
   (ss_one (s_set 5 sc_law.nd (ev_has hz h__law_changed (hr.mono (by decide)) (ea_cons (ev_var 5) (ea_cons (ev_has hz h__law_drawn (hr.mono (by decide)) (ea_cons (ev_var 4) (ea_cons (ev_var 6) ea_nil st_Name) st_Name)) ea_nil st_Call) st_Name)))))
  (ss_cons (s_set 7 sc_law.nd (ev_has hz h__law_found (hr.mono (by decide)) (ea_cons (ev_var 5) (ea_cons (ev_var 3) ea_nil st_Name) st_Name)))
  (ss_cons (s_if (et_cmp hz (o_eq (hr).units) (er_of (ev_var 5)) (er_of (ev_var 2)) (nomark _))
   (ss_one (s_ret (ev_and (ev_cmp hz (o_eq (hr).units) (er_of (ev_var 7)) (er_of (ev_var 1)) (nomark _)) (ev_one (ev_has hz h__law_good (hr.mono (by decide)) (ea_cons (ev_var 7) (ea_cons (ev_var 5) (ea_cons (ev_var 3) ea_nil st_Name) st_Name) st_Name))))))
   ss_nil)
  (ss_one (s_ret (ev_has hz h__law_good (hr.mono (by decide)) (ea_cons (ev_var 7) (ea_cons (ev_var 5) (ea_cons (ev_var 3) ea_nil st_Name) st_Name) st_Name))))))))))))))
theorem all_mk {P:Program} {w:World} {K:PySem.W.Frag} {h:Heap} {mg:Str → Option Value} {fa:Addr} (X:K.In h) (G:h.Ns mainGlobals mg) (hfa:mg "law"=some (.ref fa)) {f_law:Addr} {oc_law kV_law dc_law pm_law cd_law ct_law:Value} {od_law an_law:Option Addr} {sl_law:Array (Option Value)} {tk_MOST_MARKS:Tok} {tk_MOST_ROWS:Tok} {tk_MOST_RULES:Tok}
  (d__law_drawn:DefIn K "_law_drawn" S__law_drawn)
  (d__law_marks:DefIn K "_law_marks" S__law_marks)
  (d__law_cell_at:DefIn K "_law_cell_at" S__law_cell_at)
  (d__law_mixed:DefIn K "_law_mixed" S__law_mixed)
  (d__law_table:DefIn K "_law_table" S__law_table)
  (d__law_row:DefIn K "_law_row" S__law_row)
  (d__law_written:DefIn K "_law_written" S__law_written)
  (d_is_pair:DefIn K "is_pair" S_is_pair)
  (d_is_whole:DefIn K "is_whole" S_is_whole)
  (d_are_marks:DefIn K "are_marks" S_are_marks)
  (d_is_table:DefIn K "is_table" S_is_table)
  (d_marks_of:DefIn K "marks_of" S_marks_of)
  (d_row_of:DefIn K "row_of" S_row_of)
  (d_parts_of:DefIn K "parts_of" S_parts_of)
  (d_read:DefIn K "read" S_read)
  (d_is_rule:DefIn K "is_rule" S_is_rule)
  (d_are_rules:DefIn K "are_rules" S_are_rules)
  (d_rule_of:DefIn K "rule_of" S_rule_of)
  (d_read_rules:DefIn K "read_rules" S_read_rules)
  (d__law_found:DefIn K "_law_found" S__law_found)
  (d__law_number:DefIn K "_law_number" S__law_number)
  (d__law_are_marks:DefIn K "_law_are_marks" S__law_are_marks)
  (d__law_is_rule:DefIn K "_law_is_rule" S__law_is_rule)
  (d__law_are_rules:DefIn K "_law_are_rules" S__law_are_rules)
  (d__law_is_table:DefIn K "_law_is_table" S__law_is_table)
  (d__law_shown:DefIn K "_law_shown" S__law_shown)
  (d__law_good:DefIn K "_law_good" S__law_good)
  (d__law_rules:DefIn K "_law_rules" S__law_rules)
  (d__law_changed:DefIn K "_law_changed" S__law_changed)
  (a_law:PySem.W.nsIn K mainGlobals "law"=some (some (.ref f_law))) (l_law:K.lookup f_law=some ⟨oc_law,od_law,.func (PySem.W.fnOf "law" "law" (defArgs S_law) (defBody S_law) (defScope S_law) .none kV_law dc_law pm_law an_law cd_law ct_law),sl_law⟩) (c_law:PySem.W.codeIn K cd_law "law"=true) (k_law:PySem.W.keepIn K (.ref f_law)=true)
  (ers:ersB CS K=true)
  (z_ValueError:PySem.W.nsIn K mainGlobals "ValueError"=some none)
  (z_all:PySem.W.nsIn K mainGlobals "all"=some none)
  (z_any:PySem.W.nsIn K mainGlobals "any"=some none)
  (z_bool:PySem.W.nsIn K mainGlobals "bool"=some none)
  (z_int:PySem.W.nsIn K mainGlobals "int"=some none)
  (z_isinstance:PySem.W.nsIn K mainGlobals "isinstance"=some none)
  (z_len:PySem.W.nsIn K mainGlobals "len"=some none)
  (z_min:PySem.W.nsIn K mainGlobals "min"=some none)
  (z_range:PySem.W.nsIn K mainGlobals "range"=some none)
  (z_str:PySem.W.nsIn K mainGlobals "str"=some none)
  (z_tuple:PySem.W.nsIn K mainGlobals "tuple"=some none)
  (y_MOST_MARKS:PySem.W.nsIn K mainGlobals "MOST_MARKS"=some (some (.int 6 tk_MOST_MARKS)))
  (y_MOST_ROWS:PySem.W.nsIn K mainGlobals "MOST_ROWS"=some (some (.int 64 tk_MOST_ROWS)))
  (y_MOST_RULES:PySem.W.nsIn K mainGlobals "MOST_RULES"=some (some (.int 64 tk_MOST_RULES))) :
  ∃ fd:FuncData,(∀ (s:Shared) (v:Value),BindsTo s fd ⟨[v],[]⟩ [("_law_script",v)]) ∧ ∀ base:Heap,K.In base → base.Ns mainGlobals mg → FnOk P w K mg base CX0 7 fa fd ["_law_script"] (spT K 1 M_law):=by
 have e:=hfa.symm.trans (PySem.W.mg_of X G a_law)
 cases e
 have s__law_drawn:Src K mg "_law_drawn" S__law_drawn ["_law_number_here","_law_k"]:=src_of X G d__law_drawn fun _ _ _ _ _ _ us hl=>match us,hl with | [_,_],_=>rfl
 have s__law_marks:Src K mg "_law_marks" S__law_marks ["_law_number_here","_law_many"]:=src_of X G d__law_marks fun _ _ _ _ _ _ us hl=>match us,hl with | [_,_],_=>rfl
 have s__law_cell_at:Src K mg "_law_cell_at" S__law_cell_at ["_law_script","_law_k"]:=src_of X G d__law_cell_at fun _ _ _ _ _ _ us hl=>match us,hl with | [_,_],_=>rfl
 have s__law_mixed:Src K mg "_law_mixed" S__law_mixed ["_law_script","_law_k"]:=src_of X G d__law_mixed fun _ _ _ _ _ _ us hl=>match us,hl with | [_,_],_=>rfl
 have s__law_table:Src K mg "_law_table" S__law_table ["_law_script","_law_most"]:=src_of X G d__law_table fun _ _ _ _ _ _ us hl=>match us,hl with | [_,_],_=>rfl
 have s__law_row:Src K mg "_law_row" S__law_row ["_law_first","_law_marks_here","_law_last"]:=src_of X G d__law_row fun _ _ _ _ _ _ us hl=>match us,hl with | [_,_,_],_=>rfl
 have s__law_written:Src K mg "_law_written" S__law_written ["_law_table_here"]:=src_of X G d__law_written fun _ _ _ _ _ _ us hl=>match us,hl with | [_],_=>rfl
 have s_is_pair:Src K mg "is_pair" S_is_pair ["thing"]:=src_of X G d_is_pair fun _ _ _ _ _ _ us hl=>match us,hl with | [_],_=>rfl
 have s_is_whole:Src K mg "is_whole" S_is_whole ["thing"]:=src_of X G d_is_whole fun _ _ _ _ _ _ us hl=>match us,hl with | [_],_=>rfl
 have s_are_marks:Src K mg "are_marks" S_are_marks ["thing","many"]:=src_of X G d_are_marks fun _ _ _ _ _ _ us hl=>match us,hl with | [_,_],_=>rfl
 have s_is_table:Src K mg "is_table" S_is_table ["thing"]:=src_of X G d_is_table fun _ _ _ _ _ _ us hl=>match us,hl with | [_],_=>rfl
 have s_marks_of:Src K mg "marks_of" S_marks_of ["words","many"]:=src_of X G d_marks_of fun _ _ _ _ _ _ us hl=>match us,hl with | [_,_],_=>rfl
 have s_row_of:Src K mg "row_of" S_row_of ["part","many"]:=src_of X G d_row_of fun _ _ _ _ _ _ us hl=>match us,hl with | [_,_],_=>rfl
 have s_parts_of:Src K mg "parts_of" S_parts_of ["words"]:=src_of X G d_parts_of fun _ _ _ _ _ _ us hl=>match us,hl with | [_],_=>rfl
 have s_read:Src K mg "read" S_read ["text"]:=src_of X G d_read fun _ _ _ _ _ _ us hl=>match us,hl with | [_],_=>rfl
 have s_is_rule:Src K mg "is_rule" S_is_rule ["thing","many"]:=src_of X G d_is_rule fun _ _ _ _ _ _ us hl=>match us,hl with | [_,_],_=>rfl
 have s_are_rules:Src K mg "are_rules" S_are_rules ["thing","many"]:=src_of X G d_are_rules fun _ _ _ _ _ _ us hl=>match us,hl with | [_,_],_=>rfl
 have s_rule_of:Src K mg "rule_of" S_rule_of ["part","many"]:=src_of X G d_rule_of fun _ _ _ _ _ _ us hl=>match us,hl with | [_,_],_=>rfl
 have s_read_rules:Src K mg "read_rules" S_read_rules ["text","many"]:=src_of X G d_read_rules fun _ _ _ _ _ _ us hl=>match us,hl with | [_,_],_=>rfl
 have s__law_found:Src K mg "_law_found" S__law_found ["_law_text","_law_many"]:=src_of X G d__law_found fun _ _ _ _ _ _ us hl=>match us,hl with | [_,_],_=>rfl
 have s__law_number:Src K mg "_law_number" S__law_number ["_law_thing","_law_low","_law_high"]:=src_of X G d__law_number fun _ _ _ _ _ _ us hl=>match us,hl with | [_,_,_],_=>rfl
 have s__law_are_marks:Src K mg "_law_are_marks" S__law_are_marks ["_law_thing","_law_many"]:=src_of X G d__law_are_marks fun _ _ _ _ _ _ us hl=>match us,hl with | [_,_],_=>rfl
 have s__law_is_rule:Src K mg "_law_is_rule" S__law_is_rule ["_law_thing","_law_many"]:=src_of X G d__law_is_rule fun _ _ _ _ _ _ us hl=>match us,hl with | [_,_],_=>rfl
 have s__law_are_rules:Src K mg "_law_are_rules" S__law_are_rules ["_law_thing","_law_many"]:=src_of X G d__law_are_rules fun _ _ _ _ _ _ us hl=>match us,hl with | [_,_],_=>rfl
 have s__law_is_table:Src K mg "_law_is_table" S__law_is_table ["_law_thing"]:=src_of X G d__law_is_table fun _ _ _ _ _ _ us hl=>match us,hl with | [_],_=>rfl
 have s__law_shown:Src K mg "_law_shown" S__law_shown ["_law_rules_here","_law_many"]:=src_of X G d__law_shown fun _ _ _ _ _ _ us hl=>match us,hl with | [_,_],_=>rfl
 have s__law_good:Src K mg "_law_good" S__law_good ["_law_found_here","_law_text","_law_many"]:=src_of X G d__law_good fun _ _ _ _ _ _ us hl=>match us,hl with | [_,_,_],_=>rfl
 have s__law_rules:Src K mg "_law_rules" S__law_rules ["_law_number_here","_law_many"]:=src_of X G d__law_rules fun _ _ _ _ _ _ us hl=>match us,hl with | [_,_],_=>rfl
 have s__law_changed:Src K mg "_law_changed" S__law_changed ["_law_text","_law_number_here"]:=src_of X G d__law_changed fun _ _ _ _ _ _ us hl=>match us,hl with | [_,_],_=>rfl
 have n_ValueError:=PySem.W.mg_none_of X G z_ValueError
 have n_all:=PySem.W.mg_none_of X G z_all
 have n_any:=PySem.W.mg_none_of X G z_any
 have n_bool:=PySem.W.mg_none_of X G z_bool
 have n_int:=PySem.W.mg_none_of X G z_int
 have n_isinstance:=PySem.W.mg_none_of X G z_isinstance
 have n_len:=PySem.W.mg_none_of X G z_len
 have n_min:=PySem.W.mg_none_of X G z_min
 have n_range:=PySem.W.mg_none_of X G z_range
 have n_str:=PySem.W.mg_none_of X G z_str
 have n_tuple:=PySem.W.mg_none_of X G z_tuple
 have g_MOST_MARKS:=PySem.W.mg_of X G y_MOST_MARKS
 have g_MOST_ROWS:=PySem.W.mg_of X G y_MOST_ROWS
 have g_MOST_RULES:=PySem.W.mg_of X G y_MOST_RULES
 have er:Er CS K mg:=er_mk X G ers
 refine ⟨PySem.W.fnOf "law" "law" (defArgs S_law) (defBody S_law) (defScope S_law) .none kV_law dc_law pm_law an_law cd_law ct_law,fun s v=>.of_eq rfl,fun base _ _=>?_⟩
 have h__law_drawn:=has__law_drawn (P:=P) (w:=w) (mg:=mg) (base:=base) s__law_drawn 
 have h__law_marks:=has__law_marks (P:=P) (w:=w) (mg:=mg) (base:=base) s__law_marks h__law_drawn n_range n_tuple
 have h__law_cell_at:=has__law_cell_at (P:=P) (w:=w) (mg:=mg) (base:=base) s__law_cell_at n_len
 have h__law_mixed:=has__law_mixed (P:=P) (w:=w) (mg:=mg) (base:=base) s__law_mixed h__law_cell_at
 have h__law_table:=has__law_table (P:=P) (w:=w) (mg:=mg) (base:=base) s__law_table h__law_marks h__law_mixed n_len n_min n_range n_tuple
 have h__law_row:=has__law_row (P:=P) (w:=w) (mg:=mg) (base:=base) s__law_row n_str
 have h__law_written:=has__law_written (P:=P) (w:=w) (mg:=mg) (base:=base) s__law_written h__law_row n_str
 have h_is_pair:=has_is_pair (P:=P) (w:=w) (mg:=mg) (base:=base) s_is_pair n_isinstance n_len n_tuple
 have h_is_whole:=has_is_whole (P:=P) (w:=w) (mg:=mg) (base:=base) s_is_whole n_bool n_int n_isinstance
 have h_are_marks:=has_are_marks (P:=P) (w:=w) (mg:=mg) (base:=base) s_are_marks h_is_whole n_isinstance n_tuple
 have h_is_table:=has_is_table (P:=P) (w:=w) (mg:=mg) (base:=base) s_is_table h_is_pair h_is_whole h_are_marks n_all n_isinstance n_len n_tuple g_MOST_MARKS g_MOST_ROWS
 have h_marks_of:=has_marks_of (P:=P) (w:=w) (mg:=mg) (base:=base) s_marks_of er n_all n_range n_str n_tuple
 have hx_marks_of:=hasX_marks_of (P:=P) (w:=w) (mg:=mg) (base:=base) s_marks_of er n_all n_range n_str n_tuple
 have h_row_of:=has_row_of (P:=P) (w:=w) (mg:=mg) (base:=base) s_row_of h_marks_of hx_marks_of er
 have hx_row_of:=hasX_row_of (P:=P) (w:=w) (mg:=mg) (base:=base) s_row_of h_marks_of hx_marks_of er
 have h_parts_of:=has_parts_of (P:=P) (w:=w) (mg:=mg) (base:=base) s_parts_of er
 have hx_parts_of:=hasX_parts_of (P:=P) (w:=w) (mg:=mg) (base:=base) s_parts_of er
 have h_read:=has_read (P:=P) (w:=w) (mg:=mg) (base:=base) s_read h_is_table h_row_of h_parts_of hx_parts_of hx_row_of er n_range n_str n_tuple g_MOST_MARKS
 have hx_read:=hasX_read (P:=P) (w:=w) (mg:=mg) (base:=base) s_read h_is_table h_row_of h_parts_of hx_parts_of hx_row_of er n_range n_str n_tuple g_MOST_MARKS
 have h_is_rule:=has_is_rule (P:=P) (w:=w) (mg:=mg) (base:=base) s_is_rule h_is_pair h_are_marks
 have h_are_rules:=has_are_rules (P:=P) (w:=w) (mg:=mg) (base:=base) s_are_rules h_is_rule n_all n_isinstance n_len n_tuple g_MOST_RULES
 have h_rule_of:=has_rule_of (P:=P) (w:=w) (mg:=mg) (base:=base) s_rule_of h_marks_of hx_marks_of er
 have hx_rule_of:=hasX_rule_of (P:=P) (w:=w) (mg:=mg) (base:=base) s_rule_of h_marks_of hx_marks_of er
 have h_read_rules:=has_read_rules (P:=P) (w:=w) (mg:=mg) (base:=base) s_read_rules h_parts_of h_are_rules h_rule_of hx_parts_of hx_rule_of er n_str n_tuple
 have hx_read_rules:=hasX_read_rules (P:=P) (w:=w) (mg:=mg) (base:=base) s_read_rules h_parts_of h_are_rules h_rule_of hx_parts_of hx_rule_of er n_str n_tuple
 have h__law_found:=has__law_found (P:=P) (w:=w) (mg:=mg) (base:=base) s__law_found h_read h_read_rules hx_read hx_read_rules er n_ValueError n_any n_int n_isinstance
 have h__law_number:=has__law_number (P:=P) (w:=w) (mg:=mg) (base:=base) s__law_number n_bool n_int n_isinstance
 have h__law_are_marks:=has__law_are_marks (P:=P) (w:=w) (mg:=mg) (base:=base) s__law_are_marks h__law_number n_isinstance n_len n_range n_tuple
 have h__law_is_rule:=has__law_is_rule (P:=P) (w:=w) (mg:=mg) (base:=base) s__law_is_rule h__law_are_marks n_isinstance n_len n_tuple
 have h__law_are_rules:=has__law_are_rules (P:=P) (w:=w) (mg:=mg) (base:=base) s__law_are_rules h__law_is_rule n_isinstance n_len n_tuple
 have h__law_is_table:=has__law_is_table (P:=P) (w:=w) (mg:=mg) (base:=base) s__law_is_table h__law_number h__law_are_marks n_isinstance n_len n_tuple
 have h__law_shown:=has__law_shown (P:=P) (w:=w) (mg:=mg) (base:=base) s__law_shown h__law_row n_str
 have h__law_good:=has__law_good (P:=P) (w:=w) (mg:=mg) (base:=base) s__law_good h__law_written h__law_are_rules h__law_is_table h__law_shown
 have h__law_rules:=has__law_rules (P:=P) (w:=w) (mg:=mg) (base:=base) s__law_rules h__law_drawn h__law_marks n_range n_tuple
 have h__law_changed:=has__law_changed (P:=P) (w:=w) (mg:=mg) (base:=base) s__law_changed n_len
 exact law_ok (fun_mk (st:=S_law) l_law c_law k_law) h__law_drawn h__law_mixed h__law_table h__law_written h__law_found h__law_shown h__law_good h__law_rules h__law_changed n_range
end G
namespace G
open PySem L2 TL
theorem walk {l:PySem.W.OpenLaw} {q:Program} {loose:List Str} {XP:(Str → Option Value) → Heap → Prop} {YP:World → Heap → Prop} {d:DefRec} {K:Params → PySem.W.Frag} (hn:l.most=some 63) (hdf:d.params.defaults=[])
  (hY:∀ (w:World) (h:Heap),YP w h → (K w.params).In h)
  (F:∀ (w:World) (mg:Str → Option Value) (fa:Addr) (h:Heap),(K w.params).In h → h.Ns mainGlobals mg → mg d.name=some (.ref fa) →
   ∃ fd:FuncData,(∀ (s:Shared) (u:Value),BindsTo s fd ⟨[u],[]⟩ [("_law_script",u)]) ∧ ∀ base:Heap,(K w.params).In base → base.Ns mainGlobals mg → FnOk l.prog w (K w.params) mg base CX0 7 fa fd ["_law_script"] (spT (K w.params) 1 M_law)) :
  PySem.W.WalkO q loose XP YP l.row.toRowW d [] (fun f vs=>PySem.call f vs) :=
 L2.walk_ofK (n:=63) (k:=7) (x:="_law_script") (CX:=CX0) (sp:=fun K=>spT K 1 M_law) hn (by decide) hdf ⟨rfl,by decide,by decide⟩ hY F
  (fun K H a ns hl _ hS=>⟨H,[.lst (ns.map T.int)],.bl true,rfl,.refl _,.one (by unfold Rep; exact ⟨a,_,rfl,hS,RepL.ints.mpr rfl⟩),law_true ns hl,fun v _ _ _ r=>r.b⟩) fun _ _ _ _ z=>z
end G
local macro_rules | `(tactic| walk_at "dk")=>`(tactic| (refine' G.defIn_mk ?a ?l ?c ?k; (case a=>k_is); (case l=>k_is); (case c=>k_is); (case k=>k_is)))
open PySem PySem.W PyProof.Rows
set_option maxRecDepth 100000 in
set_option maxHeartbeats 0 in
theorem PySem.Challenge.cw_markhall_k04_whole_read_holds : PySem.Challenge.rw_markhall_k04_whole_read.Holds := by
 refine Hd.top ?_
 k_fill
 refine G.walk (l:=PySem.Challenge.rw_markhall_k04_whole_read) rfl rfl (fun w h Y=>PySem.W.kIn_of Y) ?F
 case F =>
  intro w mg fa h KX GX hmg
  refine' G.all_mk KX GX hmg ?d__law_drawn ?d__law_marks ?d__law_cell_at ?d__law_mixed ?d__law_table ?d__law_row ?d__law_written ?d_is_pair ?d_is_whole ?d_are_marks ?d_is_table ?d_marks_of ?d_row_of ?d_parts_of ?d_read ?d_is_rule ?d_are_rules ?d_rule_of ?d_read_rules ?d__law_found ?d__law_number ?d__law_are_marks ?d__law_is_rule ?d__law_are_rules ?d__law_is_table ?d__law_shown ?d__law_good ?d__law_rules ?d__law_changed ?a_law ?l_law ?c_law ?k_law ?ers ?z_ValueError ?z_all ?z_any ?z_bool ?z_int ?z_isinstance ?z_len ?z_min ?z_range ?z_str ?z_tuple ?y_MOST_MARKS ?y_MOST_ROWS ?y_MOST_RULES
  (case d__law_drawn=>walk_at "dk"); (case d__law_marks=>walk_at "dk"); (case d__law_cell_at=>walk_at "dk"); (case d__law_mixed=>walk_at "dk"); (case d__law_table=>walk_at "dk"); (case d__law_row=>walk_at "dk")
  (case d__law_written=>walk_at "dk"); (case d_is_pair=>walk_at "dk"); (case d_is_whole=>walk_at "dk"); (case d_are_marks=>walk_at "dk"); (case d_is_table=>walk_at "dk"); (case d_marks_of=>walk_at "dk")
  (case d_row_of=>walk_at "dk"); (case d_parts_of=>walk_at "dk"); (case d_read=>walk_at "dk"); (case d_is_rule=>walk_at "dk"); (case d_are_rules=>walk_at "dk"); (case d_rule_of=>walk_at "dk")
  (case d_read_rules=>walk_at "dk"); (case d__law_found=>walk_at "dk"); (case d__law_number=>walk_at "dk"); (case d__law_are_marks=>walk_at "dk"); (case d__law_is_rule=>walk_at "dk"); (case d__law_are_rules=>walk_at "dk")
  (case d__law_is_table=>walk_at "dk"); (case d__law_shown=>walk_at "dk"); (case d__law_good=>walk_at "dk"); (case d__law_rules=>walk_at "dk"); (case d__law_changed=>walk_at "dk"); (case a_law=>k_is)
  (case l_law=>k_is); (case c_law=>k_is); (case k_law=>k_is); (case ers=>kernel_rfl); (case z_ValueError=>k_is); (case z_all=>k_is)
  (case z_any=>k_is); (case z_bool=>k_is); (case z_int=>k_is); (case z_isinstance=>k_is); (case z_len=>k_is); (case z_min=>k_is)
  (case z_range=>k_is); (case z_str=>k_is); (case z_tuple=>k_is); (case y_MOST_MARKS=>k_is); (case y_MOST_ROWS=>k_is); (case y_MOST_RULES=>k_is)
