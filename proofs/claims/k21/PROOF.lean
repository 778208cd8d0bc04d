import PyProof.Rows.All
import Wide.All
import OpenK.AllK
import Wide.FinOn
import Lean
import PyProof.EqAt
import PyProof.EqKinds
import PyProof.TupleCall
import PySem.Challenge.RW_feedweb_k21_unread
set_option tactic.hygienic false
set_option Elab.async false
set_option linter.all false
set_option maxRecDepth 100000
section
open PySem PySem.Spec PyProof.Rows
noncomputable def N00:=@List.mem_cons_self
noncomputable def N01:=@List.length_map
noncomputable def N02:=@List.mem_cons_of_mem
noncomputable def N03:=@wpAny_bind
noncomputable def N04:=@List.getElem?_eq_some_iff
noncomputable def N05:=@List.mem_append_right
noncomputable def N06:=@List.length_append
noncomputable def N07:=@Nat.le_refl
noncomputable def N08:=@List.getElem?_eq_getElem
noncomputable def N09:=@List.map_cons
noncomputable def N0a:=@List.mem_append
noncomputable def N0b:=@Option.some.inj
noncomputable def N0c:=@List.mem_cons
noncomputable def N0d:=@Bool.false_ne_true
noncomputable def N0e:=@decide_eq_false
noncomputable def N0f:=@List.mem_singleton
noncomputable def N0g:=@Array.length_toList
noncomputable def N0h:=@List.length_cons
noncomputable def N0i:=@List.getElem?_map
noncomputable def N0j:=@if_pos
noncomputable def N0k:=@Or.inl
noncomputable def N0l:=@if_neg
noncomputable def N0m:=@List.size_toArray
noncomputable def N0n:=@Nat.lt_of_lt_of_le
noncomputable def N0o:=@decide_eq_true
noncomputable def N0p:=@wpAny_mono
noncomputable def N0q:=@Bool.and_eq_true
noncomputable def N0r:=@Or.inr
noncomputable def N0s:=@Int.emod_nonneg
noncomputable def N0t:=@Int.emod_lt_of_pos
noncomputable def N0u:=@List.mem_of_getElem?
noncomputable def N0v:=@Nat.le_trans
noncomputable def N0w:=@List.mem_append_left
noncomputable def N0x:=@List.getElem?_append_left
noncomputable def N0y:=@wpAny_pure
noncomputable def N0z:=@List.getElem_mem
noncomputable def N10:=@List.append_nil
noncomputable def N11:=@List.length_singleton
noncomputable def N12:=@Nat.ne_of_lt
noncomputable def N13:=@List.length_replicate
noncomputable def N14:=@List.map_append
noncomputable def N15:=@List.lookup_cons
noncomputable def N16:=@List.length_take
noncomputable def N17:=@List.length_range
noncomputable def N18:=@beq_eq_false_iff_ne
noncomputable def N19:=@List.getElem?_append_right
noncomputable def N1a:=@Nat.lt_irrefl
noncomputable def N1b:=@Nat.zero_le
noncomputable def N1c:=@List.drop_eq_nil_iff
noncomputable def N1d:=@List.not_mem_nil
noncomputable def N1e:=@List.filter_cons
noncomputable def N1f:=@Ne.symm
noncomputable def N1g:=@List.extract_eq_take_drop
noncomputable def N1h:=@List.length_set
noncomputable def N1i:=@List.drop_length
noncomputable def N1j:=@List.any_cons
noncomputable def N1k:=@List.getElem?_range
noncomputable def N1l:=@List.take_of_length_le
noncomputable def N1m:=@Array.getElem?_eq_some_iff
noncomputable def N1n:=@List.length_drop
noncomputable def N1o:=@wpAny_holding
noncomputable def N1p:=@decide_eq_true_iff
noncomputable def N1q:=@List.map_map
end
local macro_rules | `(s! $x)=>match x.raw[0].isInterpolatedStrLit? with | some v=>`(PySem.Str.ofString $(Lean.quote v)) | none=>Lean.Macro.throwUnsupported
local macro_rules | `(tactic| omega)=>`(tactic| first | exact N0v (by assumption) (by decide) | fail)
namespace L2
open PySem PySem.Spec PyProof.Rows
noncomputable abbrev Key:=Sum Int Str
noncomputable def q65:Key->Value->Bool
 | .inl k,v=>Value.isInt k v
 | .inr x,v=>Value.isStrOf x v
noncomputable def q9X (w:World):Key->Int
 | .inl k=>hashInt k
 | .inr x=>hashStr w x
theorem keyIs_shape:∀ {k:Key}{v:Value},q65 k v=true->(∃ i t,k=Sum.inl i/\v=Value.int i t)\/(∃ x t,k=Sum.inr x/\v=Value.str x t)
 | .inl i,v,h=>by
  obtain ⟨t,e⟩:=Value.isInt_shape (k:=i) (v:=v) h
  exact .inl ⟨i,t,rfl,e⟩
 | .inr x,v,h=>by
  obtain ⟨t,e⟩:=Value.isStrOf_shape (x:=x) (v:=v) h
  exact .inr ⟨x,t,rfl,e⟩
theorem q6M (i:Int) (t:Tok):q65 (.inl i) (.int i t)=true:=by simp [q65,Value.isInt]
theorem q6N (x:Str) (t:Tok):q65 (.inr x) (.str x t)=true:=by simp [q65,Value.isStrOf]
theorem z2d (a b:Int):decide ((Sum.inl a:Key)=Sum.inl b)=(a==b):=by
 by_cases e:a=b
 ·subst e;simp
 ·have h:¬ (Sum.inl a:Key)=Sum.inl b:=λ q=>e (Sum.inl.inj q)
  rw [N0e h]
  exact (N18.mpr e).symm
theorem z2e (a b:Str):decide ((Sum.inr a:Key)=Sum.inr b)=decide (a=b):=by
 by_cases e:a=b
 ·subst e;simp
 ·have h:¬ (Sum.inr a:Key)=Sum.inr b:=λ q=>e (Sum.inr.inj q)
  rw [N0e h,N0e e]
theorem z2f (a:Int) (b:Str):decide ((Sum.inl a:Key)=Sum.inr b)=false:=N0e (λ q=>nomatch q)
theorem z2g (a:Str) (b:Int):decide ((Sum.inr a:Key)=Sum.inl b)=false:=N0e (λ q=>nomatch q)
noncomputable def mixKind (prog:Program) (w:World):PySem.KeyKind prog w Key where
 is:=q65
 hash:=q9X w
 inj:=λ v a b ha hb=>by
  rcases keyIs_shape ha with ⟨i,t,rfl,rfl⟩ | ⟨x,t,rfl,rfl⟩
  ·rcases keyIs_shape hb with ⟨j,u,rfl,e⟩ | ⟨y,u,rfl,e⟩
   ·injection e with e1 _;rw [e1]
   ·exact nomatch e
  ·rcases keyIs_shape hb with ⟨j,u,rfl,e⟩ | ⟨y,u,rfl,e⟩
   ·exact nomatch e
   ·injection e with e1 _;rw [e1]
 byValue:=λ k v h=>by
  rcases keyIs_shape h with ⟨i,t,rfl,rfl⟩ | ⟨x,t,rfl,rfl⟩<;>rfl
 pyHash:=λ hv h=>by
  rcases keyIs_shape hv with ⟨i,t,rfl,rfl⟩ | ⟨x,t,rfl,rfl⟩
  ·exact wpAny_pyHash_int h
  ·exact wpAny_pyHash_str h
 eqBool:=λ hu hv h=>by
  rcases keyIs_shape hu with ⟨i,t,rfl,rfl⟩ | ⟨x,t,rfl,rfl⟩
  ·rcases keyIs_shape hv with ⟨j,u,rfl,rfl⟩ | ⟨y,u,rfl,rfl⟩
   ·rw [z2d] at h;exact wpAny_eqBool_int h
   ·rw [z2f] at h;exact SeqAt.EqAt.int_str i t y u _ _ _ _ h
  ·rcases keyIs_shape hv with ⟨j,u,rfl,rfl⟩ | ⟨y,u,rfl,rfl⟩
   ·rw [z2g] at h;exact SeqAt.EqAt.str_int x t j u _ _ _ _ h
   ·rw [z2e] at h;exact wpAny_eqBool_str h
 «strs»:=λ k x t v h=>by
  rcases keyIs_shape h with ⟨i,u,rfl,e⟩ | ⟨y,u,rfl,e⟩
  ·exact nomatch e
  ·injection e with e1 _
   subst e1
   cases v<;>rfl
theorem q4r (prog:Program) (w:World) (i:Int) (t:Tok):(mixKind prog w).is (.inl i) (.int i t)=true:=q6M i t
theorem q0v (prog:Program) (w:World) (x:Str) (t:Tok):(mixKind prog w).is (.inr x) (.str x t)=true:=q6N x t
inductive V where
 | non | bl (b:Bool) | int (i:Int) | str (x:Str) | byt (b:Array UInt8) | flt (b:UInt64) | ref (a:Addr) | ty (n:String)
 deriving DecidableEq
noncomputable def y4:V->Value->Prop
 | .non,u=>u=Value.none
 | .bl b,u=>u=Value.bool b
 | .int i,u=>∃ t,u=Value.int i t
 | .str x,u=>∃ t,u=Value.str x t
 | .byt b,u=>∃ t,u=Value.bytes b t
 | .flt b,u=>∃ t,u=Value.float b t
 | .ref a,u=>u=Value.ref a
 | .ty n,u=>u=Value.type n
noncomputable abbrev Vals:List V->List Value->Prop:=Paired y4
theorem Vals.length {xs:List V}{us:List Value}(r:Vals xs us):xs.length=us.length:=Paired.length r
theorem Vals.get:∀ {xs:List V}{us:List Value}{i:Nat}{x:V},Vals xs us->xs[i]? = some x->∃ u,us[i]? = some u/\y4 x u
 | _,_,_,_,.nil,e=>by simp at e
 | _,_,0,_,.cons r _,e=>by simp at e;subst e;exact ⟨_,rfl,r⟩
 | _,_,i+1,x,.cons _ t,e=>by
  obtain ⟨u,h1,h2⟩:=Vals.get (i:=i) (x:=x) t (by simpa using e)
  exact ⟨u,by simpa using h1,h2⟩
theorem Vals.set {x:V}{u:Value}(r:y4 x u):∀ {xs:List V}{us:List Value}(i:Nat),Vals xs us->Vals (xs.set i x) (us.set i u)
 | _,_,_,.nil=>.nil
 | _,_,0,.cons _ t=>.cons r t
 | _,_,i+1,.cons q t=>.cons q (Vals.set r i t)
theorem Vals.append:∀ {xs ys:List V}{us ws:List Value},Vals xs us->Vals ys ws->Vals (xs++ys) (us++ws)
 | _,_,_,_,.nil,s=>s
 | _,_,_,_,.cons r t,s=>.cons r (Vals.append t s)
theorem Vals.take:∀ {xs:List V}{us:List Value}(n:Nat),Vals xs us->Vals (xs.take n) (us.take n)
 | _,_,0,_=>.nil
 | _,_,_+1,.nil=>.nil
 | _,_,n+1,.cons r t=>.cons r (Vals.take n t)
theorem Vals.drop:∀ {xs:List V}{us:List Value}(n:Nat),Vals xs us->Vals (xs.drop n) (us.drop n)
 | _,_,0,r=>r
 | _,_,_+1,.nil=>.nil
 | _,_,n+1,.cons _ t=>Vals.drop n t
noncomputable def q4o:Option V->Option Value->Prop
 | some v,some u=>y4 v u
 | none,none=>True
 | _,_=>False
noncomputable def KV {κ:Type}:List (κ×V)->List (κ×Value)->Prop:=Paired λ (p:κ×V) (q:κ×Value)=>p.1=q.1/\y4 p.2 q.2
noncomputable def kV:Key->V
 | .inl i=>.int i
 | .inr x=>.str x
inductive HO where
 | lst (xs:List V)
 | tup (xs:List V)
 | dK (kvs:List (Key×V)) | dT (kvs:List (List Key×V))
 | set (S:Int->Bool) (n:Nat)
 | ins (C dx:Addr) (fs:List (Str×V))
 | own (x:Addr)
 | xd (fs:List (Str×V))
 | met (f x:Addr)
 | rng (lo hi:Int)
 | frz (o:Obj) (u:HO)
 | tbl (ps:Array Value)
 | ext (φ:Heap->Prop)
noncomputable abbrev Hp:=Addr->Option HO
noncomputable def upd (H:Hp) (a:Addr) (o:HO):Hp:=λ b=>if b=a then some o else H b
theorem Z0 {H:Hp}{a:Addr}{o:HO}:upd H a o a=some o:=by unfold upd;rw [N0j rfl]
theorem Z2 {H:Hp}{a b:Addr}{o:HO}(h:b≠a):upd H a o b=H b:=by unfold upd;rw [N0l h]
theorem z4z {H:Hp}{a b:Addr}{o u:HO}(h:H a=some o) (h':H b=some u) (d:o≠u):a≠b:=by
 intro e;subst e;rw [h] at h';exact d (N0b h')
theorem J4 {H:Hp}{a b:Addr}{o:HO}(h:H a=some o) (h':H b=none):a≠b:=by
 intro e;subst e;rw [h] at h';cases h'
section
variable (P:Program) (w:World)
noncomputable def X3 (H:Hp) (h:Heap) (a:Addr):HO->Prop
 | .lst xs=>xs.length<=sizeLine/\∃ (its:List Value) (n:Nat),Vals xs its/\h.get? a=some { cls:=.type "list",data:=.seq its.toArray n }
 | .tup xs=>xs.length<=sizeLine/\∃ its:List Value,Vals xs its/\IsTup h a its.toArray
 | .dK kvs=>kvs.length<=sizeLine/\(a==sysModules)=false/\∃ vs,KV kvs vs/\h.DictOf (mixKind P w) a vs
 | .dT kvs=>kvs.length<=sizeLine/\(a==sysModules)=false/\∃ xs:List (List Key×Addr×Value),
  Paired (λ (p:List Key×V) (q:List Key×Addr×Value)=>p.1=q.1/\H q.2.1=some (.tup (p.1.map kV))/\y4 p.2 q.2.2) kvs xs /\
  ∃ o es ep,h.get? a=some o/\o.ExactDict/\o.data=.dict es ep/\es.toList=xs.map (entryOfKey (tupleKind (mixKind P w)))/\(xs.map (·.1)).Nodup
 | .set S n=>h.SetOf (intKind P w) a S n
 | .ins C dx fs=>H dx=some (.own a)/\fs.length<=1000/\dx≠a/\h.get? a=some (PySem.W.instObj C dx) /\
  ∃ mA,h.Ns1 dx mA/\(∀ f,q4o (fs.lookup f) (mA f))/\PySem.Within mA (fs.map (·.1))
 | .own _=>∃ o,h.get? a=some o
 | .xd fs=>∃ mA,h.Ns1 a mA/\∀ f,q4o (fs.lookup f) (mA f)
 | .rng lo hi=>∃ t u v,h.get? a=some { cls:=.type "range",data:=.fields #[.int lo t,.int hi u,.int 1 v] }
 | .frz o u=>h.get? a=some o/\X3 H h a u
 | .tbl ps=>h.get? a=some { cls:=.none,data:=.fields ps }
 | .met f x=>h.get? a=some (PySem.W.methodObj (.ref f) (.ref x))
 | .ext φ=>φ h/\(∃ o,h.get? a=some o)/\∀ h1 h2:Heap,φ h1->(∀ o,h1.get? a=some o->h2.get? a=some o)->φ h2
noncomputable def HOk (H:Hp) (h:Heap):Prop:=∀ a o,H a=some o->X3 P w H h a o
end
section
variable {P:Program}{w:World}{H H':Hp}{h h':Heap}{a:Addr}{o:HO}
theorem X3.lt (x:X3 P w H h a o):a<h.objs.size:=by
 cases o with
 | lst xs=>obtain ⟨_,_,_,_,e⟩:=x;exact Heap.lt_size e
 | tup xs=>obtain ⟨_,_,_,p⟩:=x;exact p.lt
 | dK kvs=>obtain ⟨_,_,_,_,o,_,_,e,_⟩:=x;exact Heap.lt_size e
 | dT kvs=>obtain ⟨_,_,_,_,o,_,_,e,_⟩:=x;exact Heap.lt_size e
 | set S n=>obtain ⟨o,_,_,_,e,_⟩:=x;exact Heap.lt_size e
 | ins C dx fs=>obtain ⟨_,_,_,e,_⟩:=x;exact Heap.lt_size e
 | own y=>obtain ⟨_,e⟩:=x;exact Heap.lt_size e
 | xd fs=>obtain ⟨_,⟨_,_,_,e,_⟩,_⟩:=x;exact Heap.lt_size e
 | rng lo hi=>obtain ⟨_,_,_,e⟩:=x;exact Heap.lt_size e
 | frz ob u=>obtain ⟨e,_⟩:=x;exact Heap.lt_size e
 | tbl ps=>exact Heap.lt_size (show h.get? a=some _ from x)
 | met f y=>exact Heap.lt_size (show h.get? a=some _ from x)
 | ext φ=>obtain ⟨_,⟨_,e⟩,_⟩:=x;exact Heap.lt_size e
theorem Paired.mapP {α β:Type}{F G:α->β->Prop}:∀ {l₁:List α}{l₂:List β},Paired F l₁ l₂->(∀ a b,F a b->G a b)->Paired G l₁ l₂
 | _,_,.nil,_=>.nil
 | _,_,.cons r t,f=>.cons (f _ _ r) (Paired.mapP t f)
theorem X3.stay (x:X3 P w H h a o) (k:∀ b u,(b=a\/H b=some (.own a))->h.get? b=some u->h'.get? b=some u)
 (ho:∀ b,H b=some (.own a)->H' b=some (.own a)) (ht:∀ b xs,H b=some (.tup xs)->H' b=some (.tup xs)):X3 P w H' h' a o:=by
 induction o with
 | lst xs=>obtain ⟨z,its,n,r,e⟩:=x;exact ⟨z,its,n,r,k _ _ (.inl rfl) e⟩
 | tup xs=>obtain ⟨z,its,r,ob,e,c⟩:=x;exact ⟨z,its,r,ob,k _ _ (.inl rfl) e,c⟩
 | dK kvs=>obtain ⟨z,y,vs,r,ob,es,ep,e,c⟩:=x;exact ⟨z,y,vs,r,ob,es,ep,k _ _ (.inl rfl) e,c⟩
 | dT kvs =>
  obtain ⟨z,y,xs,r,ob,es,ep,e,c⟩:=x
  exact ⟨z,y,xs,Paired.mapP r λ p q z=>⟨z.1,ht _ _ z.2.1,z.2.2⟩,ob,es,ep,k _ _ (.inl rfl) e,c⟩
 | set S n=>obtain ⟨ob,es,ep,t,e,c⟩:=x;exact ⟨ob,es,ep,t,k _ _ (.inl rfl) e,c⟩
 | ins C dx fs =>
  obtain ⟨d,z,ne,e,mA,⟨od,es,ep,e2,c⟩,r⟩:=x
  exact ⟨ho _ d,z,ne,k _ _ (.inl rfl) e,mA,⟨od,es,ep,k _ _ (.inr d) e2,c⟩,r⟩
 | own y=>obtain ⟨ob,e⟩:=x;exact ⟨ob,k _ _ (.inl rfl) e⟩
 | xd fs=>obtain ⟨mA,⟨od,es,ep,e,c⟩,r⟩:=x;exact ⟨mA,⟨od,es,ep,k _ _ (.inl rfl) e,c⟩,r⟩
 | rng lo hi=>obtain ⟨t,u,v,e⟩:=x;exact ⟨t,u,v,k _ _ (.inl rfl) e⟩
 | frz ob u ih=>obtain ⟨e,q⟩:=x;exact ⟨k _ _ (.inl rfl) e,ih q⟩
 | tbl ps =>
  have e:h.get? a=some { cls:=.none,data:=.fields ps }:=x
  show h'.get? a=some { cls:=.none,data:=.fields ps }
  exact k a _ (.inl rfl) e
 | met f y =>
  have e:h.get? a=some (PySem.W.methodObj (.ref f) (.ref y)):=x
  show h'.get? a=some (PySem.W.methodObj (.ref f) (.ref y))
  exact k a _ (.inl rfl) e
 | ext φ=>obtain ⟨p,⟨o,e⟩,st⟩:=x;exact ⟨st _ _ p λ o q=>k _ _ (.inl rfl) q,⟨o,k _ _ (.inl rfl) e⟩,st⟩
theorem HOk.lt (x:HOk P w H h) (e:H a=some o):a<h.objs.size:=(x a o e).lt
theorem HOk.fresh (x:HOk P w H h) (e:h.objs.size<=a):H a=none:=by
 cases q:H a with
 | none=>rfl
 | some u=>exact absurd (N0n (x.lt q) e) (N1a _)
theorem HOk.kept (x:HOk P w H h) (k:∀ b u,h.get? b=some u->h'.get? b=some u):HOk P w H h':=λ a o e =>
 (x a o e).stay (λ b u o_ q=>k b u q) (λ o_ q=>q) λ o_ o_ q=>q
theorem HOk.laid (x:HOk P w H h) (k:∀ b u,h.get? b=some u->h'.get? b=some u) (hp:h.objs.size<=a) (new:X3 P w (upd H a o) h' a o):HOk P w (upd H a o) h':=λ b u e=>by
 have hn:=x.fresh hp
 by_cases hb:b=a
 ·subst hb;rw [Z0] at e;cases e;exact new
 ·rw [Z2 hb] at e
  exact (x b u e).stay (λ c v o_ q=>k c v q) (λ c q=>by rw [Z2 (J4 q hn)];exact q) λ c xs q=>by rw [Z2 (J4 q hn)];exact q
end
noncomputable def Rd (H:Hp) (a:Addr) (u:HO):Prop:=H a=some u\/∃ o,H a=some (.frz o u)
theorem Rd.of {H:Hp}{a:Addr}{u:HO}(h:H a=some u):Rd H a u:=.inl h
theorem Rd.ok {P:Program}{w:World}{H:Hp}{h:Heap}{a:Addr}{u:HO}(r:Rd H a u) (x:HOk P w H h):X3 P w H h a u:=by
 rcases r with r | ⟨o,r⟩
 ·exact x a u r
 ·obtain ⟨_,q⟩:=x a _ r
  exact q
noncomputable def Mut:Option HO->Prop
 | some (.lst _)=>True
 | some (.dK _)=>True
 | some (.dT _)=>True
 | some (.set _ _)=>True
 | some (.ins _ _ _)=>True
 | some (.ext _)=>True
 | _=>False
section
variable {P:Program}{w:World}{H:Hp}{h h':Heap}{x e:Addr}{o':HO}
theorem HOk.write (ok:HOk P w H h) (mu:Mut (H x)) (he:e=x\/H e=some (.own x)) (k:∀ b u,b≠e->h.get? b=some u->h'.get? b=some u) (heo:∃ u,h'.get? e=some u)
 (new:X3 P w (upd H x o') h' x o'):HOk P w (upd H x o') h':=λ b u q=>by
 have nown:∀ c y,H c=some (.own y)->c≠x:=λ c y r z=>by subst z;rw [r] at mu;exact mu
 have ntup:∀ c xs,H c=some (.tup xs)->c≠x:=λ c xs r z=>by subst z;rw [r] at mu;exact mu
 by_cases hb:b=x
 ·subst hb;rw [Z0] at q;cases q;exact new
 ·rw [Z2 hb] at q
  by_cases hbe:b=e
  ·have q':H b=some (.own x):=by
    rcases he with z | z
    ·exact absurd (hbe.trans z) hb
    ·rw [hbe];exact z
   rw [q] at q';cases q'
   obtain ⟨v,hv⟩:=heo
   exact ⟨v,by rw [hbe];exact hv⟩
  ·refine (ok b u q).stay (λ c v hc r=>k c v ?_ r) (λ c r=>by rw [Z2 (nown c b r)];exact r) λ c xs r=>by rw [Z2 (ntup c xs r)];exact r
   rcases hc with rfl | hc
   ·exact hbe
   ·rintro rfl
    rcases he with z | z
    ·exact nown c b hc z
    ·rw [hc] at z;cases z;exact hb rfl
end
structure Un (fs ex:List Addr) (H H':Hp) (h h':Heap):Prop where
 keep:∀ b o,h.get? b=some o->H b=none->b∉fs->b∉ex->h'.get? b=some o
 slot:∀ b o,h.get? b=some o->H b=none->b∈fs->b∉ex->∃ sl,h'.get? b=some { o with slots:=sl }
 free:∀ b o,h.get? b=some o->H b=none->b∉ex->H' b=none
 there:∀ b o,h.get? b=some o->b∉ex->∃ o',h'.get? b=some o'
 tups:∀ b xs,H b=some (.tup xs)->H' b=some (.tup xs)
 frzs:∀ b o u,H b=some (.frz o u)->H' b=some (.frz o u)
 tbls:∀ b ps,H b=some (.tbl ps)->∃ more,H' b=some (.tbl (ps++more))
section
variable {fs fs' ex ex':List Addr}{H H1 H2:Hp}{h h1 h2 h':Heap}{a x e:Addr}{o:HO}
theorem Un.any (u:Un fs ex H H1 h h1){b:Addr}{ob:Obj}(q:h.get? b=some ob) (n:H b=none) (hx:b∉ex):∃ sl,h1.get? b=some { ob with slots:=sl }:=by
 by_cases hb:b∈fs
 ·exact u.slot b ob q n hb hx
 ·exact ⟨ob.slots,u.keep b ob q n hb hx⟩
theorem Un.trans (a:Un fs ex H H1 h h1) (b:Un fs ex H1 H2 h1 h2):Un fs ex H H2 h h2 where
 keep:=λ c ob q n hc hx=>b.keep c ob (a.keep c ob q n hc hx) (a.free c ob q n hx) hc hx
 slot:=λ c ob q n hc hx=>by
  obtain ⟨sl,e1⟩:=a.slot c ob q n hc hx
  obtain ⟨sl',e2⟩:=b.slot c _ e1 (a.free c ob q n hx) hc hx
  exact ⟨sl',e2⟩
 free:=λ c ob q n hx=>by
  obtain ⟨o',e1⟩:=a.there c ob q hx
  exact b.free c o' e1 (a.free c ob q n hx) hx
 there:=λ c ob q hx=>by
  obtain ⟨o',e1⟩:=a.there c ob q hx
  exact b.there c o' e1 hx
 tups:=λ c xs q=>b.tups c xs (a.tups c xs q)
 frzs:=λ c ob xs q=>b.frzs c ob xs (a.frzs c ob xs q)
 tbls:=λ c ps q=>by
  obtain ⟨m1,e1⟩:=a.tbls c ps q
  obtain ⟨m2,e2⟩:=b.tbls c _ e1
  exact ⟨m1++m2,by rw [e2,Array.append_assoc]⟩
theorem Un.kept (k:∀ b u,h.get? b=some u->h'.get? b=some u):Un fs ex H H h h' :=
 ⟨λ b ob q o_ o_ o_=>k b ob q,λ b ob q o_ o_ o_=>⟨ob.slots,k b ob q⟩,λ o_ o_ o_ n o_=>n,λ b ob q o_=>⟨ob,k b ob q⟩,λ o_ o_ q=>q,λ o_ o_ o_ q=>q,λ o_ ps q=>⟨#[],by rw [q];simp⟩⟩
theorem Un.refl:Un fs ex H H h h:=Un.kept λ o_ o_ q=>q
theorem Un.laid (k:∀ b u,h.get? b=some u->h'.get? b=some u) (hp:h.objs.size<=a) (hn:H a=none):Un fs ex H (upd H a o) h h' where
 keep:=λ b u q o_ o_ o_=>k b u q
 slot:=λ b u q o_ o_ o_=>⟨u.slots,k b u q⟩
 free:=λ b u q n o_=>by rw [Z2 (N12 (N0n (Heap.lt_size q) hp))];exact n
 there:=λ b u q o_=>⟨u,k b u q⟩
 tups:=λ b xs q=>by rw [Z2 (J4 q hn)];exact q
 frzs:=λ b u xs q=>by rw [Z2 (J4 q hn)];exact q
 tbls:=λ b ps q=>⟨#[],by rw [Z2 (J4 q hn),q];simp⟩
theorem Un.write (mu:Mut (H x)) (he:e=x\/H e=some (.own x)) (k:∀ b u,b≠e->h.get? b=some u->h'.get? b=some u) (heo:∃ u,h'.get? e=some u):Un fs ex H (upd H x o) h h':=by
 have hx:∀ b,H b=none->b≠x:=λ b n z=>by subst z;rw [n] at mu;exact mu
 have hb:∀ b,H b=none->b≠e:=λ b n z=>by
  subst z
  rcases he with r | r
  ·exact hx b n r
  ·rw [n] at r;cases r
 have hm:∀ b u,H b=some u->¬ Mut (some u)->b≠x:=λ b u q nm z=>by subst z;rw [q] at mu;exact nm mu
 refine ⟨λ b u q n o_ o_=>k b u (hb b n) q,λ b u q n o_ o_=>⟨u.slots,k b u (hb b n) q⟩,λ b u q n o_=>by rw [Z2 (hx b n)];exact n,λ b u q o_=>?_,
  λ b xs q=>by rw [Z2 (hm b _ q λ z=>z)];exact q,λ b u xs q=>by rw [Z2 (hm b _ q λ z=>z)];exact q,λ b ps q=>⟨#[],by rw [Z2 (hm b _ q λ z=>z),q];simp⟩⟩
 by_cases hbe:b=e
 ·subst hbe;exact heo
 ·exact ⟨u,k b u hbe q⟩
theorem Un.mono (u:Un fs ex H H1 h h1) (hs:∀ b∈fs,b∈fs') (hx:∀ b∈ex,b∈ex'):Un fs' ex' H H1 h h1 :=
 ⟨λ b ob q n hb he=>u.keep b ob q n (λ z=>hb (hs b z)) λ z=>he (hx b z),λ o_ o_ q n o_ he=>u.any q n λ z=>he (hx _ z),λ b ob q n he=>u.free b ob q n λ z=>he (hx b z),λ b ob q he=>u.there b ob q λ z=>he (hx b z),u.tups,u.frzs,u.tbls⟩
end
noncomputable def trk (h:Heap) (H:Hp):List Addr:=(List.range h.objs.size).filter λ a=>(H a).isSome
noncomputable def hidT (h:Heap) (H:Hp):Heap:=PySem.W.hideAll h (trk h H)
theorem q6O (h:Heap) (H:Hp):(hidT h H).objs.size=h.objs.size:=PySem.W.hideAll_size _ _
theorem q8T {h:Heap}{H:Hp}{b:Addr}{o:Obj}(e:h.get? b=some o) (n:H b=none):(hidT h H).get? b=some o :=
 PySem.W.hideAll_get _ e λ hm=>by
  have q:(H b).isSome=true:=(List.mem_filter.mp hm).2
  rw [n] at q;simp at q
theorem z0G {h:Heap}{H:Hp}{b:Addr}{o:Obj}(e:(hidT h H).get? b=some o):h.get? b=some o/\H b=none:=by
 have e':h.get? b=some o:=PySem.W.of_hideAll (trk h H) e
 refine ⟨e',?_⟩
 cases q:H b with
 | none=>rfl
 | some x =>
  have hm:b∈trk h H:=List.mem_filter.mpr ⟨List.mem_range.mpr (Heap.lt_size e'),by simp [q]⟩
  have z:(hidT h H).get? b=none:=PySem.W.hideAll_none (trk h H) hm
  rw [z] at e;cases e
noncomputable def z0H (g h:Heap) (L:Addr):List (Addr×Obj):=(List.range h.objs.size).filterMap λ a=>if a=L\/(g.get? a).isSome=true then none else (h.get? a).map λ o=>(a,o)
noncomputable def rest (g h:Heap) (L d:Addr):List (Addr×Obj):=(z0H g h L).filter λ p=>decide (p.1≠d)
structure Mod (K:PySem.W.Frag) (mg:Str->Option Value) (base:Heap):Prop where
 kin:K.In base
 glob:base.Ns mainGlobals mg
 blt:∃ mb,base.Ns builtinsNs mb/\∀ x:Str,x≠"__name__"->mb x=bootBuiltins x
 nolimit:base.NoLimit
structure Cx where
 prog:Program
 w:World
 K:PySem.W.Frag
 mg:Str->Option Value
 base:Heap
 A:Around
 N:List Str
 s₀:Shared
 H₀:Hp
 env:Env
 outer:List Env
 stack:List Env
 ex:List Addr
 fn:Str->Bool
 calm:Bool
 pn:List (Addr×Obj)
 xe:Value->Shared->Prop
noncomputable def frs (l:List Env):List Addr:=l.filterMap (·.frame)
noncomputable abbrev Cx.fs (X:Cx):List Addr:=frs X.outer
noncomputable def Vis (sc:Scope) (x:Str):Prop:=sc.names.lookup x=some .local\/sc.names.lookup x=some .cell\/sc.names.lookup x=some .free
noncomputable def Loc (sc:Scope) (x:Str):Prop:=sc.names.lookup x=some .local\/sc.names.lookup x=some .cell
noncomputable def Look (env:Env) (h:Heap) (m:Str->Option Value) (x:Str) (u:Value):Prop :=
 (env.kindOf x=some .local/\m x=some u)\/((env.kindOf x=some .cell\/env.kindOf x=some .free)/\∃ c,env.cells.lookup x=some c/\h.IsCell c (some u))
structure Cx.Ok (X:Cx):Prop where
 mod:Mod X.K X.mg X.base
 kind:X.env.scope.kind=.function
 glob:X.env.globals=mainGlobals
 blt:X.env.builtins=builtinsNs
 above:X.s₀.heap.objs.size<=X.env.locals
 inj:∀ x y c,X.env.cells.lookup x=some c->X.env.cells.lookup y=some c->x=y
 has:∀ x,(X.env.kindOf x=some .cell\/X.env.kindOf x=some .free)->∃ c,X.env.cells.lookup x=some c
 cab:∀ x c,X.fn x=true->X.env.cells.lookup x=some c->X.s₀.heap.objs.size<=c
 hd:X.calm=true->X.A.handled=none
 frames:X.A.frames=some X.stack
 stk:X.stack=X.outer\/(X.stack=X.env::X.outer/\X.env.frame=some X.env.locals)
 exf:∀ b∈X.ex,b≠X.env.locals/\∀ x c,X.env.cells.lookup x=some c->c≠b
 bs:∀ b o,X.base.get? b=some o->X.s₀.heap.get? b=some o/\X.H₀ b=none
 bsz:X.base.objs.size<=X.s₀.heap.objs.size
 noex:∀ b o,X.base.get? b=some o->b∉X.ex
 exfs:∀ b∈X.ex,b∉X.fs
 funs:X.s₀.heap.FunFrames X.base X.outer
 frf:∀ b∈X.fs,X.H₀ b=none
structure Inv (X:Cx) (pins:List (Addr×Obj)) (σ:List (Option V)) (H:Hp) (s:Shared):Prop where
 ok:X.Ok
 os:s.os=X.s₀.os
 bare:AllBare s.gens
 base:Un X.fs X.ex X.H₀ H X.s₀.heap s.heap
 loc:∃ m,s.heap.Ns X.env.locals m/\∀ (i:Nat) (x:Str) (v:V),X.N[i]? = some x->σ[i]? = some (some v)->Vis X.env.scope x->∃ u,y4 v u/\Look X.env s.heap m x u
 cell:∀ x c,X.env.cells.lookup x=some c->∃ v,s.heap.IsCell c v
 free:H X.env.locals=none
 freeC:∀ x c,X.env.cells.lookup x=some c->H c=none
 pin:∀ p∈X.pn++pins,s.heap.get? p.1=some p.2/\H p.1=none/\p.1≠X.env.locals/\p.1∉X.fs/\∀ v,p.2.data≠.cell v
 hok:HOk X.prog X.w H s.heap
 len:σ.length=X.N.length
section
variable {X:Cx}{pins:List (Addr×Obj)}{σ:List (Option V)}{H H':Hp}{s:Shared}{h':Heap}
theorem Cx.Ok.nofr (ok:X.Ok){b:Addr}{o:Obj}(e:X.base.get? b=some o):b∉X.fs:=λ hb=>by
 have:=(ok.funs.mem hb).1
 rw [e] at this;cases this
theorem Inv.bs (I:Inv X pins σ H s):∀ b o,X.base.get? b=some o->s.heap.get? b=some o/\H b=none:=λ b o e =>
 ⟨I.base.keep b o (I.ok.bs b o e).1 (I.ok.bs b o e).2 (I.ok.nofr e) (I.ok.noex b o e),I.base.free b o (I.ok.bs b o e).1 (I.ok.bs b o e).2 (I.ok.noex b o e)⟩
theorem Inv.bk (I:Inv X pins σ H s):∀ b o,X.base.get? b=some o->s.heap.get? b=some o:=λ b o e=>(I.bs b o e).1
theorem Inv.mod (I:Inv X pins σ H s):Mod X.K X.mg X.base:=I.ok.mod
theorem Inv.kIn (I:Inv X pins σ H s):X.K.In s.heap:=I.ok.mod.kin.keeps I.bk
theorem Inv.nolimit (I:Inv X pins σ H s):s.heap.NoLimit:=I.ok.mod.nolimit.keeps I.bk
theorem Inv.lt (I:Inv X pins σ H s):X.env.locals<s.heap.objs.size:=let ⟨_,hn,_⟩:=I.loc;hn.lt
theorem Inv.sz (I:Inv X pins σ H s):X.s₀.heap.objs.size<=s.heap.objs.size:=N0v I.ok.above (Nat.le_of_lt I.lt)
theorem Inv.nofs (I:Inv X pins σ H s){a:Addr}(h:s.heap.objs.size<=a):a∉X.fs:=λ hb=>by
 obtain ⟨_,o,ho,_⟩:=I.ok.funs.mem hb
 exact absurd (N0n (Heap.lt_size ho) (N0v I.sz h)) (N1a _)
theorem Inv.cne (I:Inv X pins σ H s):∀ x c,X.env.cells.lookup x=some c->c≠X.env.locals:=λ x c e z=>by
 obtain ⟨v,o,ho,hd⟩:=I.cell x c e
 obtain ⟨m,⟨o',es,ep,ho',hd',_⟩,_⟩:=I.loc
 rw [z,ho'] at ho;cases ho;rw [hd'] at hd;cases hd
theorem Inv.funs (I:Inv X pins σ H s):s.heap.FunFrames X.base X.outer:=by
 have all:∀ (l:List Env),(∀ b∈frs l,b∈X.fs)->X.s₀.heap.FunFrames X.base l->s.heap.FunFrames X.base l:=by
  intro l
  induction l with
  | nil=>intro _ _;trivial
  | cons env r ih =>
   intro hs hl
   obtain ⟨hk,⟨L,o,hf,hn,ho,hd⟩,hr⟩:=hl
   have hL:L∈X.fs:=hs L (by unfold frs;rw [List.filterMap_cons,hf];exact N00)
   obtain ⟨sl,e⟩:=I.base.slot L o ho (I.ok.frf L hL) hL λ z=>I.ok.exfs L z hL
   exact ⟨hk,⟨L,_,hf,hn,e,hd⟩,ih (λ b hb=>hs b (by unfold frs;rw [List.filterMap_cons,hf];exact N02 _ hb)) hr⟩
 exact all X.outer (λ o_ hb=>hb) I.ok.funs
theorem Inv.stack (I:Inv X pins σ H s):s.heap.FunFrames X.base X.stack:=by
 rcases I.ok.stk with e | ⟨e,hf⟩
 ·rw [e];exact I.funs
 ·rw [e]
  obtain ⟨m,hn,_⟩:=I.loc
  refine .cons (by rw [I.ok.kind];decide) hf hn ?_ I.funs
  exact Heap.get?_none_of_le (N0v I.ok.bsz I.ok.above)
theorem Inv.stkSub (I:Inv X pins σ H s):∀ b∈frs X.stack,b∈X.env.locals::X.fs:=λ b hb=>by
 rcases I.ok.stk with e | ⟨e,hf⟩
 ·rw [e] at hb;exact N02 _ hb
 ·rw [e] at hb
  unfold frs at hb
  rw [List.filterMap_cons,hf] at hb
  exact hb
theorem Inv.stkFree (I:Inv X pins σ H s):∀ b∈frs X.stack,H b=none:=λ b hb=>by
 rcases N0c.mp (I.stkSub b hb) with e | hb
 ·rw [e];exact I.free
 ·obtain ⟨_,o,ho,_⟩:=I.ok.funs.mem hb
  exact I.base.free b o ho (I.ok.frf b hb) λ z=>I.ok.exfs b z hb
theorem Inv.step {g':Array GenState}{t':Nat}{d':Drawn}{ch:List Addr}(I:Inv X pins σ H s)
 (hch:∀ b∈ch,(b∈X.ex\/X.s₀.heap.objs.size<=b)/\b≠X.env.locals/\(∀ x c,X.env.cells.lookup x=some c->c≠b)/\∀ p∈X.pn++pins,p.1≠b)
 (keep:∀ b o,b≠X.env.locals->b∉X.fs->b∉ch->s.heap.get? b=some o->H b=none->h'.get? b=some o)
 (slot:∀ b o,b≠X.env.locals->b∈X.fs->b∉ch->s.heap.get? b=some o->H b=none->∃ sl,h'.get? b=some { o with slots:=sl }) (free:∀ b o,b∉ch->s.heap.get? b=some o->H b=none->H' b=none)
 (there:∀ b o,b∉ch->s.heap.get? b=some o->∃ o',h'.get? b=some o')
 (tups:∀ b xs,H b=some (.tup xs)->H' b=some (.tup xs)) (frzs:∀ b o u,H b=some (.frz o u)->H' b=some (.frz o u)) (tbls:∀ b ps,H b=some (.tbl ps)->∃ more,H' b=some (.tbl (ps++more)))
 (ns:∀ m,s.heap.Ns X.env.locals m->h'.Ns X.env.locals m) (hok:HOk X.prog X.w H' h') (hg:AllBare g') :
 Inv X pins σ H' { s with heap:=h',gens:=g',drawn:=d',toks:=t' }:=by
 have neL:∀ b o,X.s₀.heap.get? b=some o->b≠X.env.locals:=λ b o e=>N12 (N0n (Heap.lt_size e) I.ok.above)
 have neC:∀ b o,X.s₀.heap.get? b=some o->b∉X.ex->b∉ch:=λ b o e hx hb=>by
  rcases (hch b hb).1 with z | z
  ·exact hx z
  ·exact absurd (N0n (Heap.lt_size e) z) (N1a _)
 have cellK:∀ x c,X.env.cells.lookup x=some c->∀ v,s.heap.IsCell c v->h'.IsCell c v:=λ x c e v ⟨o,ho,hd⟩=>by
  have nch:c∉ch:=λ z=>(hch c z).2.2.1 x c e rfl
  by_cases hc:c∈X.fs
  ·obtain ⟨sl,q⟩:=slot c o (I.cne x c e) hc nch ho (I.freeC x c e)
   exact ⟨_,q,hd⟩
  ·exact ⟨o,keep c o (I.cne x c e) hc nch ho (I.freeC x c e),hd⟩
 refine ⟨I.ok,I.os,hg,⟨λ b o e n hb hx=>?_,λ b o e n hb hx=>?_,λ b o e n hx=>?_,λ b o e hx=>?_,λ b xs e=>tups b xs (I.base.tups b xs e),λ b o xs e=>frzs b o xs (I.base.frzs b o xs e),λ b ps e=>?_⟩,?_,λ x c e=>?_,?_,λ x c e=>?_,λ p hp=>?_,hok,I.len⟩
 ·exact keep b o (neL b o e) hb (neC b o e hx) (I.base.keep b o e n hb hx) (I.base.free b o e n hx)
 ·obtain ⟨sl,e1⟩:=I.base.slot b o e n hb hx
  obtain ⟨sl',e2⟩:=slot b _ (neL b o e) hb (neC b o e hx) e1 (I.base.free b o e n hx)
  exact ⟨sl',e2⟩
 ·obtain ⟨o',e1⟩:=I.base.there b o e hx
  exact free b o' (neC b o e hx) e1 (I.base.free b o e n hx)
 ·obtain ⟨o',e1⟩:=I.base.there b o e hx
  exact there b o' (neC b o e hx) e1
 ·obtain ⟨m1,e1⟩:=I.base.tbls b ps e
  obtain ⟨m2,e2⟩:=tbls b _ e1
  exact ⟨m1++m2,by rw [e2,Array.append_assoc]⟩
 ·obtain ⟨m,hn,hl⟩:=I.loc
  refine ⟨m,ns m hn,λ i x v e1 e2 e3=>?_⟩
  obtain ⟨u,r,l⟩:=hl i x v e1 e2 e3
  refine ⟨u,r,?_⟩
  rcases l with l | ⟨k,c,e,z⟩
  ·exact .inl l
  ·exact .inr ⟨k,c,e,cellK x c e _ z⟩
 ·obtain ⟨v,z⟩:=I.cell x c e
  exact ⟨v,cellK x c e v z⟩
 ·obtain ⟨m,⟨o,_,_,ho,_⟩,_⟩:=I.loc
  exact free _ o (λ z=>(hch _ z).2.1 rfl) ho I.free
 ·obtain ⟨v,o,ho,hd⟩:=I.cell x c e
  exact free c o (λ z=>(hch c z).2.2.1 x c e rfl) ho (I.freeC x c e)
 ·obtain ⟨e,n,ne,nf,d⟩:=I.pin p hp
  have nch:p.1∉ch:=λ z=>(hch p.1 z).2.2.2 p hp rfl
  exact ⟨keep p.1 p.2 ne nf nch e n,free p.1 p.2 nch e n,ne,nf,d⟩
theorem Inv.un {t':Nat}(I:Inv X pins σ H s) (u:Un X.fs [] H H' s.heap h') (hok:HOk X.prog X.w H' h'):Inv X pins σ H' { s with heap:=h',toks:=t' }:=by
 obtain ⟨m,⟨o,es,ep,ho,r⟩,_⟩:=id I.loc
 obtain ⟨sl,hL⟩:=u.any ho I.free (by simp)
 exact I.step (g':=s.gens) (d':=s.drawn) (ch:=[]) (λ o_ z=>nomatch z) (λ b o o_ hb o_ e n=>u.keep b o e n hb (by simp)) (λ b o o_ hb o_ e n=>u.slot b o e n hb (by simp)) (λ b o o_ e n=>u.free b o e n (by simp)) (λ b o o_ e=>u.there b o e (by simp)) u.tups u.frzs u.tbls (λ m' hm=>by
  obtain ⟨o',es',ep',ho',r'⟩:=hm
  rw [ho] at ho';cases ho'
  exact ⟨_,es',ep',hL,r'⟩) hok I.bare
theorem Inv.call {g':Array GenState}{t':Nat}{d':Drawn}{ch:List Addr}(I:Inv X pins σ H s) (u:Un (frs X.stack) ch H H' s.heap h') (hok:HOk X.prog X.w H' h') (hg:AllBare g')
 (hch:∀ b∈ch,(b∈X.ex\/X.s₀.heap.objs.size<=b)/\b≠X.env.locals/\(∀ x c,X.env.cells.lookup x=some c->c≠b)/\∀ p∈X.pn++pins,p.1≠b) :
 Inv X pins σ H' { s with heap:=h',gens:=g',drawn:=d',toks:=t' }:=by
 obtain ⟨m,⟨o,es,ep,ho,r⟩,_⟩:=id I.loc
 obtain ⟨sl,hL⟩:=u.any ho I.free λ z=>(hch _ z).2.1 rfl
 exact I.step (ch:=ch) hch (λ b o hL hb hc e n=>u.keep b o e n (λ z=>(N0c.mp (I.stkSub b z)).elim hL hb) hc) (λ b o o_ o_ hc e n=>u.any e n hc) (λ b o hc e n=>u.free b o e n hc) (λ b o hc e=>u.there b o e hc) u.tups u.frzs u.tbls (λ m' hm=>by
  obtain ⟨o',es',ep',ho',r'⟩:=hm
  rw [ho] at ho';cases ho'
  exact ⟨_,es',ep',hL,r'⟩) hok hg
theorem Inv.turned {t':Nat}{it:Addr}(I:Inv X pins σ H s) (k:∀ b o,b≠it->s.heap.get? b=some o->h'.get? b=some o) (hn:H it=none) (hL:it≠X.env.locals)
 (h1:it∈X.ex\/X.s₀.heap.objs.size<=it) (h2:∀ x c,X.env.cells.lookup x=some c->c≠it) (h3:∀ p∈X.pn++pins,p.1≠it):Inv X pins σ H { s with heap:=h',toks:=t' }:=by
 have nit:∀ b u,H b=some u->b≠it:=λ b u e z=>by rw [z,hn] at e;cases e
 refine I.step (g':=s.gens) (d':=s.drawn) (ch:=[it]) (λ b hb=>?_) (λ b o o_ o_ hc e o_=>k b o (λ z=>hc (by simp [z])) e) (λ b o o_ o_ hc e o_=>⟨o.slots,k b o (λ z=>hc (by simp [z])) e⟩) (λ o_ o_ o_ o_ n=>n)
  (λ b o hc e=>⟨o,k b o (λ z=>hc (by simp [z])) e⟩) (λ o_ o_ e=>e) (λ o_ o_ o_ e=>e) (λ b ps e=>⟨#[],by rw [e];simp⟩) (λ m hm=>?_) (λ b u e=>?_) I.bare
 ·have e:b=it:=by simpa using hb
  subst e
  exact ⟨h1,hL,h2,h3⟩
 ·obtain ⟨o,es,ep,ho,r⟩:=hm
  exact ⟨o,es,ep,k _ o (N1f hL) ho,r⟩
 ·refine (I.hok b u e).stay (λ c v hc q=>k c v ?_ q) (λ o_ q=>q) λ o_ o_ q=>q
  rcases hc with z | z
  ·rw [z];exact nit b u e
  ·exact nit c _ z
theorem Inv.tok (I:Inv X pins σ H s) (t:Nat):Inv X pins σ H { s with toks:=t }:=I.un (h':=s.heap) (t':=t) Un.refl I.hok
theorem Inv.kept {t':Nat}(I:Inv X pins σ H s) (k:∀ b u,s.heap.get? b=some u->h'.get? b=some u):Inv X pins σ H { s with heap:=h',toks:=t' }:=I.un (Un.kept k) (I.hok.kept k)
theorem Inv.laid {a:Addr}{o:HO}{t':Nat}(I:Inv X pins σ H s) (k:∀ b u,s.heap.get? b=some u->h'.get? b=some u) (hp:s.heap.objs.size<=a) (new:X3 X.prog X.w (upd H a o) h' a o) :
 Inv X pins σ (upd H a o) { s with heap:=h',toks:=t' }:=I.un (Un.laid k hp (I.hok.fresh hp)) (I.hok.laid k hp new)
theorem Inv.write {x e:Addr}{o:HO}{t':Nat}(I:Inv X pins σ H s) (mu:Mut (H x)) (he:e=x\/H e=some (.own x)) (k:∀ b u,b≠e->s.heap.get? b=some u->h'.get? b=some u) (heo:∃ u,h'.get? e=some u)
 (new:X3 X.prog X.w (upd H x o) h' x o):Inv X pins σ (upd H x o) { s with heap:=h',toks:=t' }:=I.un (Un.write mu he k heo) (I.hok.write mu he k heo new)
theorem Inv.pins_of {pins':List (Addr×Obj)}(I:Inv X pins σ H s) (h:∀ p∈pins',s.heap.get? p.1=some p.2/\H p.1=none/\p.1≠X.env.locals/\p.1∉X.fs/\∀ v,p.2.data≠.cell v):Inv X pins' σ H s :=
 ⟨I.ok,I.os,I.bare,I.base,I.loc,I.cell,I.free,I.freeC,λ p hp=>(N0a.mp hp).elim (λ z=>I.pin p (N0w _ z)) (h p),I.hok,I.len⟩
theorem q5i {N:List Str}(hN:N.Nodup){i j:Nat}{x:Str}(a:N[i]? = some x) (b:N[j]? = some x):i=j:=by
 obtain ⟨h1,e1⟩:=N04.mp a
 obtain ⟨h2,e2⟩:=N04.mp b
 exact (List.getElem_inj hN).mp (e1.trans e2.symm)
theorem q6P {M:Model}{A:Around}{E:Value->Shared->Prop}{i:Nat}{x:Str}{v:V}{u:Value}{Q:Unit->Shared->Prop}(I:Inv X pins σ H s) (hN:X.N.Nodup) (hi:X.N[i]? = some x) (hx:Loc X.env.scope x) (r:y4 v u)
 (h:∀ s',Inv X pins (σ.set i (some v)) H s'->(∃ a,Heap.SameBut a s.heap s'.heap/\(a=X.env.locals\/X.env.cells.lookup x=some a))->Q () s') (hf:X.fn x=true\/X.env.scope.names.lookup x=some .local:=by first | exact .inl rfl | exact .inr rfl | assumption):wpAny M A (storeName X.env x u) Q E s:=by
 obtain ⟨m,hn,hl⟩:=id I.loc
 have hcls:(X.env.scope.kind == .class || (X.env.scope.kind == .module&&X.env.locals != X.env.globals))=false:=by rw [I.ok.kind];rfl
 have hiσ:i<σ.length:=by rw [I.len];exact (N04.mp hi).1
 have cne:=I.cne
 have tracked:∀ {a:Addr}{h':Heap},(∃ o,s.heap.get? a=some o/\H a=none)->Heap.SameBut a s.heap h'->HOk X.prog X.w H h':=λ {a h'} ha hs b ob e=>by
  obtain ⟨_,_,hfree⟩:=ha
  refine (I.hok b ob e).stay (λ c w' hc q=>(hs.2 c ?_).trans q) (λ o_ q=>q) λ o_ o_ q=>q
  rintro rfl
  rcases hc with rfl | hc
  ·rw [hfree] at e;cases e
  ·rw [hfree] at hc;cases hc
 rcases hx with hk | hk
 ·refine wpAny_storeName_local hk hn (λ h' hn' hs=>?_) hcls
  obtain ⟨oL,_,_,hoL,_⟩:=id hn
  refine h _ ⟨I.ok,I.os,I.bare,⟨λ b o e n hb hx=>?_,λ b o e n hb hx=>?_,I.base.free,λ b o e hx=>?_,I.base.tups,I.base.frzs,I.base.tbls⟩,⟨_,hn',λ j y v' e1 e2 e3=>?_⟩,λ y c e=>?_,I.free,I.freeC,λ p hp=>?_,tracked ⟨oL,hoL,I.free⟩ hs,by simpa using I.len⟩ ⟨_,hs,.inl rfl⟩
  ·exact (hs.2 b (N12 (N0n (Heap.lt_size e) I.ok.above))).trans (I.base.keep b o e n hb hx)
  ·obtain ⟨sl,e1⟩:=I.base.slot b o e n hb hx
   exact ⟨sl,(hs.2 b (N12 (N0n (Heap.lt_size e) I.ok.above))).trans e1⟩
  ·obtain ⟨o',e1⟩:=I.base.there b o e hx
   exact ⟨o',(hs.2 b (N12 (N0n (Heap.lt_size e) I.ok.above))).trans e1⟩
  ·by_cases hj:j=i
   ·subst hj
    rw [hi] at e1;cases e1
    rw [List.getElem?_set_self hiσ] at e2
    cases e2
    exact ⟨u,r,.inl ⟨hk,by simp⟩⟩
   ·rw [List.getElem?_set_ne (N1f hj)] at e2
    obtain ⟨u',r',q⟩:=hl j y v' e1 e2 e3
    refine ⟨u',r',?_⟩
    rcases q with ⟨k,e⟩ | ⟨k,c,e,z⟩
    ·refine .inl ⟨k,?_⟩
     have:y≠x:=λ e=>hj (q5i hN e1 (e▸hi))
     simp [this,e]
    ·exact .inr ⟨k,c,e,z.sameBut hs (cne y c e)⟩
  ·obtain ⟨w',z⟩:=I.cell y c e
   exact ⟨w',z.sameBut hs (cne y c e)⟩
  ·obtain ⟨e,n,ne,nf,d⟩:=I.pin p hp
   exact ⟨(hs.2 p.1 ne).trans e,n,ne,nf,d⟩
 ·have hfn:X.fn x=true:=by
   rcases hf with z | z
   ·exact z
   ·rw [z] at hk;cases hk
  obtain ⟨c,hc⟩:=I.ok.has x (.inl hk)
  obtain ⟨w',z⟩:=I.cell x c hc
  refine wpAny_storeName_cell I.ok.kind hk hc z (λ h' hc' hs=>?_)
  obtain ⟨oc,hoc,hocd⟩:=id z
  refine h { s with heap:=h' } ⟨I.ok,I.os,I.bare,⟨λ b o e n hb hx=>?_,λ b o e n hb hx=>?_,I.base.free,λ b o e hx=>?_,I.base.tups,I.base.frzs,I.base.tbls⟩,⟨m,hn.sameBut hs (N1f (cne x c hc)),λ j y v' e1 e2 e3=>?_⟩,λ y c' e=>?_,I.free,I.freeC,λ p hp=>?_,tracked ⟨oc,hoc,I.freeC x c hc⟩ hs,by simpa using I.len⟩ ⟨c,hs,.inr hc⟩
  ·exact (hs.2 b (N12 (N0n (Heap.lt_size e) (I.ok.cab x c hfn hc)))).trans (I.base.keep b o e n hb hx)
  ·obtain ⟨sl,e1⟩:=I.base.slot b o e n hb hx
   exact ⟨sl,(hs.2 b (N12 (N0n (Heap.lt_size e) (I.ok.cab x c hfn hc)))).trans e1⟩
  ·obtain ⟨o',e1⟩:=I.base.there b o e hx
   exact ⟨o',(hs.2 b (N12 (N0n (Heap.lt_size e) (I.ok.cab x c hfn hc)))).trans e1⟩
  ·by_cases hj:j=i
   ·subst hj
    rw [hi] at e1;cases e1
    rw [List.getElem?_set_self hiσ] at e2
    cases e2
    exact ⟨u,r,.inr ⟨.inl hk,c,hc,hc'⟩⟩
   ·rw [List.getElem?_set_ne (N1f hj)] at e2
    obtain ⟨u',r',q⟩:=hl j y v' e1 e2 e3
    refine ⟨u',r',?_⟩
    rcases q with q | ⟨k,c',e,z'⟩
    ·exact .inl q
    ·refine .inr ⟨k,c',e,z'.sameBut hs ?_⟩
     rintro rfl
     exact hj (q5i hN e1 (I.ok.inj _ _ _ e hc▸hi))
  ·by_cases hcc:c'=c
   ·subst hcc;exact ⟨_,hc'⟩
   ·obtain ⟨w2,z2⟩:=I.cell y c' e
    exact ⟨w2,z2.sameBut hs hcc⟩
  ·obtain ⟨e,n,ne,nf,d⟩:=I.pin p hp
   refine ⟨(hs.2 p.1 ?_).trans e,n,ne,nf,d⟩
   intro q
   rw [q,hoc] at e
   have q':oc=p.2:=N0b e
   exact d w' (by rw [<- q'];exact hocd)
theorem q1p {M:Model}{A:Around}{E:Value->Shared->Prop}{i:Nat}{x:Str}{v:V}{u:Value}{Q:Unit->Shared->Prop}(I:Inv X pins σ H s) (hN:X.N.Nodup) (hi:X.N[i]? = some x) (hx:Loc X.env.scope x) (r:y4 v u)
 (h:∀ s',Inv X pins (σ.set i (some v)) H s'->Q () s') (hf:X.fn x=true\/X.env.scope.names.lookup x=some .local:=by first | exact .inl rfl | exact .inr rfl | assumption):wpAny M A (storeName X.env x u) Q E s :=
 q6P I hN hi hx r (λ s' I' o_=>h s' I') hf
theorem Inv.call' {s':Shared}{ch:List Addr}(I:Inv X pins σ H s) (ho:s'.os=s.os) (u:Un (frs X.stack) ch H H' s.heap s'.heap) (hok:HOk X.prog X.w H' s'.heap) (hg:AllBare s'.gens)
 (hch:∀ b∈ch,(b∈X.ex\/X.s₀.heap.objs.size<=b)/\b≠X.env.locals/\(∀ x c,X.env.cells.lookup x=some c->c≠b)/\∀ p∈X.pn++pins,p.1≠b):Inv X pins σ H' s':=by
 obtain ⟨h',g',d',t',o'⟩:=s'
 have e:o'=s.os:=ho
 subst e
 exact I.call (g':=g') (t':=t') (d':=d') u hok hg hch
end
noncomputable abbrev XK:=Value->Option Addr->Hp->Prop
noncomputable abbrev St:=List (Option V)
noncomputable abbrev VK:=V->Hp->Prop
noncomputable abbrev TE:=St->Hp->VK->Prop
noncomputable abbrev TT:=St->Hp->(Bool->Hp->Prop)->Prop
noncomputable abbrev TA:=St->Hp->(List V->Hp->Prop)->Prop
structure Ends where
 nx:St->Hp->Prop
 rt:VK
 bk:St->Hp->Prop:=λ o_ o_=>False
 ct:St->Hp->Prop:=λ o_ o_=>False
noncomputable abbrev TS:=Ends->St->Hp->Prop
noncomputable def EP (X:Cx) (pins:List (Addr×Obj)) (σ:St) (Q:VK) (u:Value) (s':Shared):Prop:=∃ v H',Inv X pins σ H' s'/\y4 v u/\Q v H'
noncomputable def TP (X:Cx) (pins:List (Addr×Obj)) (σ:St) (Q:Bool->Hp->Prop) (b:Bool) (s':Shared):Prop:=∃ H',Inv X pins σ H' s'/\Q b H'
noncomputable def AP (X:Cx) (pins:List (Addr×Obj)) (σ:St) (Q:List V->Hp->Prop) (us:List Value) (s':Shared):Prop:=∃ vs H',Inv X pins σ H' s'/\Vals vs us/\Q vs H'
noncomputable def SP (X:Cx) (pins:List (Addr×Obj)) (D:Ends) (f:Flow) (s':Shared):Prop :=
 match f with
 | .next=>∃ σ' H',Inv X pins σ' H' s'/\D.nx σ' H'
 | .brk=>∃ σ' H',Inv X pins σ' H' s'/\D.bk σ' H'
 | .cont=>∃ σ' H',Inv X pins σ' H' s'/\D.ct σ' H'
 | .ret u=>∃ v σ' H',Inv X pins σ' H' s'/\y4 v u/\D.rt v H'
noncomputable def PE (X:Cx) (e:Expr) (t:TE):Prop :=
 ∀ (pins:List (Addr×Obj)) (s:Shared) (σ:St) (H:Hp) (Q:VK),Inv X pins σ H s->t σ H Q->wpAny (model X.prog X.w) X.A (eval e X.env) (EP X pins σ Q) X.xe s
noncomputable def PT (X:Cx) (e:Expr) (t:TT):Prop :=
 ∀ (pins:List (Addr×Obj)) (s:Shared) (σ:St) (H:Hp) (Q:Bool->Hp->Prop),Inv X pins σ H s->t σ H Q->wpAny (model X.prog X.w) X.A (isTrue e X.env (eval e X.env)) (TP X pins σ Q) X.xe s
noncomputable def PW (X:Cx) (e:Expr) (t:TT):Prop :=
 ∀ (whole:Sem Value) (pins:List (Addr×Obj)) (s:Shared) (σ:St) (H:Hp) (Q:Bool->Hp->Prop),Inv X pins σ H s->t σ H Q->wpAny (model X.prog X.w) X.A (isTrue e X.env whole) (TP X pins σ Q) X.xe s
theorem PW.pt {X:Cx}{e:Expr}{t:TT}(h:PW X e t):PT X e t:=h _
noncomputable def PA (X:Cx) (es:List Expr) (t:TA):Prop :=
 ∀ (pos:Pos) (pins:List (Addr×Obj)) (s:Shared) (σ:St) (H:Hp) (Q:List V->Hp->Prop),Inv X pins σ H s->t σ H Q->wpAny (model X.prog X.w) X.A (spliced (backTo pos (starEach es X.env))) (AP X pins σ Q) X.xe s
noncomputable def PS (X:Cx) (st:Stmt) (t:TS):Prop :=
 ∀ (pins:List (Addr×Obj)) (s:Shared) (σ:St) (H:Hp) (D:Ends),Inv X pins σ H s->t D σ H->wpAny (model X.prog X.w) X.A (exec st X.env) (SP X pins D) X.xe s
noncomputable def PSs (X:Cx) (st:List Stmt) (t:TS):Prop :=
 ∀ (pins:List (Addr×Obj)) (s:Shared) (σ:St) (H:Hp) (D:Ends),Inv X pins σ H s->t D σ H->wpAny (model X.prog X.w) X.A (execs st X.env) (SP X pins D) X.xe s
theorem thn {α:Type}{t:Sem α}{Q Q':α->Shared->Prop}{M:Model}{A:Around}{E:Value->Shared->Prop}{s:Shared}(h:wpAny M A t Q E s) (hQ:∀ a s,Q a s->Q' a s):wpAny M A t Q' E s:=N0p h hQ λ o_ o_ x=>x
theorem thx {α β:Type}{t:Sem α}{P:Hp→Shared→Prop}{R:β→α→Prop}{K:β→Hp→Prop}{Q':α→Shared→Prop}{M:Model}{A:Around}{E:Value→Shared→Prop}{s:Shared}(h:wpAny M A t (fun u s'=>∃ x H',P H' s'∧R x u∧K x H') E s) (hQ:∀ u s1 x H1,P H1 s1→R x u→K x H1→Q' u s1):wpAny M A t Q' E s :=
 thn h fun u s1 ⟨x,H1,I1,r,q⟩=>hQ u s1 x H1 I1 r q
section
variable {X:Cx}
theorem bin {a b:Expr}{ta tb:TE}(ha:PE X a ta) (hb:PE X b tb){pins:List (Addr×Obj)}{s:Shared}{σ:St}{H:Hp}{R:V->V->Hp->Prop}(I:Inv X pins σ H s) (h:ta σ H λ x H1=>tb σ H1 λ y H2=>R x y H2)
 {α:Type}{Q:α->Shared->Prop}{f:Value->Value->Sem α}
 (hf:∀ v u s2 x y H2,Inv X pins σ H2 s2->y4 x v->y4 y u->R x y H2->wpAny (model X.prog X.w) X.A (f v u) Q X.xe s2) :
 wpAny (model X.prog X.w) X.A (eval a X.env) (λ v s₁=>wpAny (model X.prog X.w) X.A (eval b X.env) (λ u s₂=>wpAny (model X.prog X.w) X.A (f v u) Q X.xe s₂) X.xe s₁) X.xe s:=by
 refine thx (ha pins s σ H _ I h) λ v s1 x H1 I1 r1 q1=>?_
 refine thx (hb pins s1 σ H1 _ I1 q1) λ u s2 y H2 I2 r2 q2=>?_
 exact hf v u s2 x y H2 I2 r1 r2 q2
noncomputable def tVar (i:Nat):TE:=λ σ H Q=>∃ v,σ[i]? = some (some v)/\Q v H
noncomputable def tC (v:V):TE:=λ o_ H Q=>Q v H
theorem X7 {i:Nat}{x:Str}{pos:Pos}(hN:X.N[i]? = some x) (hv:Vis X.env.scope x) (hd:(x==("__debug__" : Str))=false:=by decide) (hcd:(x==("__classdict__" : Str))=false:=by decide):PE X (.Name x pos) (tVar i):=by
 intro pins s σ H Q I h
 obtain ⟨v,e,h⟩:=h
 obtain ⟨m,hn,hl⟩:=I.loc
 obtain ⟨u,r,l⟩:=hl i x v hN e hv
 have fin:EP X pins σ Q u s:=⟨v,H,I,r,h⟩
 rcases l with ⟨hk,hm⟩ | ⟨hk,c,hc,hcell⟩
 ·exact wpAny_Name (wpAny_loadName_local I.ok.kind hk hn hm fin) hd
 ·rcases hk with hk | hk
  ·exact wpAny_Name (wpAny_loadName_cell I.ok.kind hk hc hcell fin) hd
  ·exact wpAny_Name (wpAny_loadName_free I.ok.kind hk hc hcell fin hcd) hd
theorem q9Y {i j pos}:PE X (.Constant (.int i) j pos) (tC (.int i)):=λ o_ o_ o_ H o_ I h=>wpAny_Constant_int ⟨.int i,H,I.tok _,⟨_,rfl⟩,h⟩
theorem z4A {b j pos}:PE X (.Constant (.bool b) j pos) (tC (.bl b)):=λ o_ o_ o_ H o_ I h=>Constant_bool ⟨.bl b,H,I,rfl,h⟩
theorem q0p {x j pos}:PE X (.Constant (.str x) j pos) (tC (.str x)):=λ o_ o_ o_ H o_ I h=>Calls.Constant_str ⟨.str x,H,I.tok _,⟨_,rfl⟩,h⟩
noncomputable def Gl (X:Cx) (x:Str):Prop:=X.env.kindOf x=some .globalImplicit
theorem U1 {E:Value->Shared->Prop}{pins:List (Addr×Obj)}{s:Shared}{σ:St}{H:Hp}{x:Str}{u:Value}{pos:Pos}{Q:Value->Shared->Prop}(I:Inv X pins σ H s) (hg:Gl X x) (hm:X.mg x=some u) (h:Q u s)
 (hd:(x==("__debug__" : Str))=false:=by decide):wpAny (model X.prog X.w) X.A (eval (.Name x pos) X.env) Q E s :=
 Calls.Name_function_global I.ok.kind hg (Calls.loadGlobal_global (by rw [I.ok.glob];exact I.mod.glob.keeps I.bk) hm h) hd
theorem q3t {E:Value->Shared->Prop}{pins:List (Addr×Obj)}{s:Shared}{σ:St}{H:Hp}{x:Str}{u:Value}{pos:Pos}{Q:Value->Shared->Prop}(I:Inv X pins σ H s) (hg:Gl X x) (hm:X.mg x=none) (hv:bootBuiltins x=some u) (h:Q u s)
 (hn:x≠"__name__":=by decide) (hd:(x==("__debug__" : Str))=false:=by decide):wpAny (model X.prog X.w) X.A (eval (.Name x pos) X.env) Q E s:=by
 obtain ⟨mb,h1,h2⟩:=I.mod.blt
 exact Calls.Name_function_global I.ok.kind hg (Calls.loadGlobal_builtin (by rw [I.ok.glob];exact I.mod.glob.keeps I.bk) hm (by rw [I.ok.blt];exact h1.keeps I.bk) ((h2 x hn).trans hv) h) hd
theorem q2I {x:Str}{v:V}{u:Value}{pos:Pos}(hg:Gl X x) (hm:X.mg x=some u) (r:y4 v u) (hd:(x==("__debug__" : Str))=false:=by decide):PE X (.Name x pos) (tC v) :=
 λ o_ o_ o_ H o_ I h=>U1 I hg hm ⟨v,H,I,r,h⟩ hd
noncomputable def t2I (ta tb:TE) (k:Int->Int->Hp->Prop):St->Hp->Prop:=λ σ H=>ta σ H λ x H1=>tb σ H1 λ y H2=>∃ i j,x=.int i/\y=.int j/\k i j H2
variable {a b:Expr}{ta tb:TE}{pos:Pos}
noncomputable def PC (X:Cx) (op:CmpOp) (a b:Expr) (t:TE):Prop :=
 ∀ (pins:List (Addr×Obj)) (s:Shared) (σ:St) (H:Hp) (Q:VK),Inv X pins σ H s->t σ H Q ->
  wpAny (model X.prog X.w) X.A (eval a X.env) (λ v s₁=>wpAny (model X.prog X.w) X.A (eval b X.env) (λ u s₂=>wpAny (model X.prog X.w) X.A (compareOp op v u) (EP X pins σ Q) X.xe s₂) X.xe s₁) X.xe s
theorem q8U (b:Expr){op:CmpOp}(h:op≠.In) (h2:op≠.NotIn):behindInMarks op b=false:=by
 have e1:(op==CmpOp.In)=false:=by cases op<;>first | rfl | exact absurd rfl h
 have e2:(op==CmpOp.NotIn)=false:=by cases op<;>first | rfl | exact absurd rfl h2
 cases b<;>simp [behindInMarks,e1,e2]
noncomputable def z6r (p:Int->Int->Bool) (ta tb:TE):TE:=λ σ H Q=>t2I ta tb (λ i j H2=>Q (.bl (p i j)) H2) σ H
noncomputable abbrev z6s:TE->TE->TE:=z6r λ i j=>!decide (i=j)
theorem z2h {op:CmpOp}{p:Int->Int->Bool}(ha:PE X a ta) (hb:PE X b tb)
 (rule:∀ (i j:Int) (t u:Tok) (Q:Value->Shared->Prop) (s:Shared),Q (.bool (p i j)) s->wpAny (model X.prog X.w) X.A (compareOp op (.int i t) (.int j u)) Q X.xe s):PC X op a b (z6r p ta tb):=by
 intro pins s σ H Q I h
 refine bin ha hb I h λ v u s2 x y H2 I2 rx ry q=>?_
 obtain ⟨i,j,rfl,rfl,q⟩:=q
 obtain ⟨t,rfl⟩:=rx
 obtain ⟨t',rfl⟩:=ry
 exact rule i j t t' _ s2 ⟨.bl _,H2,I2,rfl,q⟩
theorem z2i (ha:PE X a ta) (hb:PE X b tb):PC X .NotEq a b (z6s ta tb):=z2h ha hb λ o_ o_ o_ o_ o_ o_ h=>ne_int (by rw [bne,Bool.beq_eq_decide_eq];exact h)
noncomputable def tB (t:TE):TT:=λ σ H Q=>t σ H λ x H1=>∃ c,x=.bl c/\Q c H1
theorem z2j {op:CmpOp}{t:TE}(h:PC X op a b t) (h1:behindInMarks op b=false:=by first | exact q8U _ (by decide) (by decide) | rfl):PT X (.Compare a [op] [b] pos) (tB t):=by
 intro pins s σ H Q I hw
 refine wpAny_isTrue_Compare1 (thn (h pins s σ H _ I hw) λ v s1 h1=>thn h1 λ u s2 h2=>thn h2 λ c s3 hx_=>?_) h1
 obtain ⟨x,H1,I1,r1,q1⟩:=hx_
 obtain ⟨d,rfl,q⟩:=q1
 cases r1
 exact wpAny_truthy_bool ⟨H1,I1,q⟩
theorem z2k {e:Expr}{t:TE}(h:PE X e t) (he:∀ whole,isTrue e X.env whole=(do let v <- whole;standAt e.pos;holding [v] (truthy v)):=by intro _;rfl):PT X e (tB t):=by
 intro pins s σ H Q I hw
 refine isTrue_plain (thx (h pins s σ H _ I hw) λ v s1 x H1 I1 r1 q1=>?_) (he _)
 obtain ⟨d,rfl,q⟩:=q1
 cases r1
 exact wpAny_truthy_bool ⟨H1,I1,q⟩
variable {tA tB':TT}{rest:List Expr}
noncomputable def tOr (t u:TT):TT:=λ σ H Q=>t σ H λ c H1=>if c=true then Q true H1 else u σ H1 Q
noncomputable def z6t (t:TT):TT:=λ σ H Q=>t σ H λ c H1=>Q (!c) H1
theorem q9Z (ha:PT X a tA):PW X (.BoolOp .Or [a] pos) tA:=by
 intro wh pins s σ H Q I h
 refine isTrue_or (thn (ha pins s σ H Q I h) λ c s1 e=>?_)
 cases c with
 | false=>exact isTrue_or_nil e
 | true=>exact e
theorem z2l (ha:PT X a tA) (hb:PW X (.BoolOp .Or (b::rest) pos) tB'):PW X (.BoolOp .Or (a::b::rest) pos) (tOr tA tB'):=by
 intro wh pins s σ H Q I h
 refine isTrue_or (thn (ha pins s σ H _ I h) λ c s1 hx_=>?_)
 obtain ⟨H1,I1,q1⟩:=hx_
 cases c with
 | true=>exact ⟨H1,I1,q1⟩
 | false=>exact hb wh pins s1 σ H1 Q I1 q1
theorem z00 (ha:PT X a tA):PT X (.UnaryOp .Not a pos) (z6t tA):=by
 intro pins s σ H Q I h
 exact isTrue_not (ha pins s σ H (λ c H1=>Q (!c) H1) I h)
noncomputable def z4B (ta tb:TE):TE:=λ σ H Q=>ta σ H λ x H1=>∃ c,x=.bl c/\if c=true then tb σ H1 Q else Q (.bl false) H1
theorem z2m {op}{t:TE}(h:PE X a t):PE X (.BoolOp op [a] pos) t:=λ pins s σ H Q I hw=>BoolOp_one (h pins s σ H Q I hw)
theorem z2n (ha:PE X a ta) (hb:PE X (.BoolOp .And (b::rest) pos) tb):PE X (.BoolOp .And (a::b::rest) pos) (z4B ta tb):=by
 intro pins s σ H Q I h
 refine BoolOp_and (thx (ha pins s σ H _ I h) λ v s1 x H1 I1 r1 q1=>?_)
 obtain ⟨c,rfl,q1⟩:=q1
 cases r1
 refine wpAny_truthy_bool ?_
 cases c with
 | true=>exact hb pins s1 σ H1 Q I1 q1
 | false=>exact ⟨.bl false,H1,I1,rfl,q1⟩
noncomputable def tIf (t:TT) (ta tb:TE):TE:=λ σ H Q=>t σ H λ c H1=>if c=true then ta σ H1 Q else tb σ H1 Q
theorem q8V {c:Expr}(hc:PT X c tA) (ha:PE X a ta) (hb:PE X b tb):PE X (.IfExp c a b pos) (tIf tA ta tb):=by
 intro pins s σ H Q I h
 refine wpAny_IfExp (thn (hc pins s σ H _ I h) λ d s1 hx_=>?_)
 obtain ⟨H1,I1,q1⟩:=hx_
 cases d with
 | true=>exact ha pins s1 σ H1 Q I1 q1
 | false=>exact hb pins s1 σ H1 Q I1 q1
end
noncomputable def SqL (K:PySem.W.Frag) (H:Hp) (a:Addr) (xs:List V):Prop :=
 Rd H a (.lst xs) \/
  ∃ (o:Obj) (its:Array Value) (n:Nat),K.lookup a=some o/\o.cls=.type "list"/\o.dict=none/\o.data=.seq its n/\its.size<=sizeLine/\Vals xs its.toList
noncomputable def SqT (K:PySem.W.Frag) (H:Hp) (a:Addr) (xs:List V):Prop :=
 Rd H a (.tup xs) \/
  ∃ (o:Obj) (its:Array Value) (n:Nat),K.lookup a=some o/\o.cls=.type "tuple"/\o.data=.seq its n/\its.size<=sizeLine/\Vals xs its.toList
noncomputable def absV:Value->Option V
 | .none=>some .non
 | .bool b=>some (.bl b)
 | .int i _=>some (.int i)
 | .str x _=>some (.str x)
 | .bytes b _=>some (.byt b)
 | .float b _=>some (.flt b)
 | .ref a=>some (.ref a)
 | .type n=>some (.ty n)
 | _=>none
theorem y4.abs {x:V}{u:Value}(r:y4 x u):absV u=some x:=by
 cases x with
 | non=>cases r;rfl
 | bl _=>cases r;rfl
 | int _=>obtain ⟨t,rfl⟩:=r;rfl
 | str _=>obtain ⟨t,rfl⟩:=r;rfl
 | byt _=>obtain ⟨t,rfl⟩:=r;rfl
 | flt _=>obtain ⟨t,rfl⟩:=r;rfl
 | ref _=>cases r;rfl
 | ty _=>cases r;rfl
theorem y4.inj {x y:V}{u:Value}(r:y4 x u) (q:y4 y u):x=y:=N0b (r.abs.symm.trans q.abs)
theorem Vals.inj:∀ {xs ys:List V}{us:List Value},Vals xs us->Vals ys us->xs=ys
 | _,_,_,.nil,.nil=>rfl
 | _,_,_,.cons r t,.cons r' t'=>by rw [r.inj r',Vals.inj t t']
section
variable {X:Cx}{pins:List (Addr×Obj)}{σ:St}{H:Hp}{s:Shared}{a:Addr}{xs ys:List V}
theorem SqL.of {K:PySem.W.Frag}(h:H a=some (.lst xs)):SqL K H a xs:=.inl (.inl h)
theorem SqT.of {K:PySem.W.Frag}(h:H a=some (.tup xs)):SqT K H a xs:=.inl (.inl h)
theorem Inv.list (I:Inv X pins σ H s) (h:SqL X.K H a xs):∃ its:List Value,Vals xs its/\PlainL s.heap a its.toArray/\xs.length<=sizeLine:=by
 rcases h with h | ⟨o,its,n,hk,hc,hd,hs,hz,r⟩
 ·obtain ⟨z,its,n,r,e⟩:=h.ok I.hok
  exact ⟨its,r,⟨_,n,e,rfl,rfl,rfl⟩,z⟩
 ·refine ⟨its.toList,r,⟨o,n,I.kIn a o hk,hc,hd,by simpa using hs⟩,?_⟩
  have e:=r.length
  simp only [N0g] at e
  simp_all
theorem Inv.tuple (I:Inv X pins σ H s) (h:SqT X.K H a xs):∃ its:List Value,Vals xs its/\IsTup s.heap a its.toArray/\xs.length<=sizeLine:=by
 rcases h with h | ⟨o,its,n,hk,hc,hs,hz,r⟩
 ·obtain ⟨z,its,r,p⟩:=h.ok I.hok
  exact ⟨its,r,p,z⟩
 ·refine ⟨its.toList,r,⟨o,I.kIn a o hk,hc,n,by simpa using hs⟩,?_⟩
  have e:=r.length
  simp only [N0g] at e
  simp_all
theorem Inv.list_inj (I:Inv X pins σ H s) (h:SqL X.K H a xs) (h':SqL X.K H a ys):xs=ys:=by
 obtain ⟨its,r,⟨o,n,e,_,_,d⟩,_⟩:=I.list h
 obtain ⟨its',r',⟨o',n',e',_,_,d'⟩,_⟩:=I.list h'
 rw [e] at e';cases e'
 rw [d] at d'
 injection d' with d1 _
 have:its=its':=by simpa using congrArg Array.toList d1
 subst this
 exact r.inj r'
theorem Inv.tuple_inj (I:Inv X pins σ H s) (h:SqT X.K H a xs) (h':SqT X.K H a ys):xs=ys:=by
 obtain ⟨its,r,⟨o,e,_,n,d⟩,_⟩:=I.tuple h
 obtain ⟨its',r',⟨o',e',_,n',d'⟩,_⟩:=I.tuple h'
 rw [e] at e';cases e'
 rw [d] at d'
 injection d' with d1 _
 have:its=its':=by simpa using congrArg Array.toList d1
 subst this
 exact r.inj r'
end
noncomputable abbrev Cx.wish (X:Cx) (E:Value->Shared->Prop):Cx:={ X with xe:=E }
noncomputable abbrev Cx.nox (X:Cx):Cx:=X.wish λ o_ o_=>False
theorem Cx.Ok.wish {X:Cx}(ok:X.Ok) (E:Value->Shared->Prop):(X.wish E).Ok :=
 ⟨ok.mod,ok.kind,ok.glob,ok.blt,ok.above,ok.inj,ok.has,ok.cab,ok.hd,ok.frames,ok.stk,ok.exf,ok.bs,ok.bsz,ok.noex,ok.exfs,ok.funs,ok.frf⟩
theorem Cx.Ok.unwish {X:Cx}{E:Value->Shared->Prop}(ok:(X.wish E).Ok):X.Ok :=
 ⟨ok.mod,ok.kind,ok.glob,ok.blt,ok.above,ok.inj,ok.has,ok.cab,ok.hd,ok.frames,ok.stk,ok.exf,ok.bs,ok.bsz,ok.noex,ok.exfs,ok.funs,ok.frf⟩
section
variable {X:Cx}{pins:List (Addr×Obj)}{σ:St}{H:Hp}{s:Shared}{E:Value->Shared->Prop}
theorem Inv.wish (I:Inv X pins σ H s) (E:Value->Shared->Prop):Inv (X.wish E) pins σ H s:=⟨I.ok.wish E,I.os,I.bare,I.base,I.loc,I.cell,I.free,I.freeC,I.pin,I.hok,I.len⟩
theorem Inv.unwish (I:Inv (X.wish E) pins σ H s):Inv X pins σ H s:=⟨I.ok.unwish,I.os,I.bare,I.base,I.loc,I.cell,I.free,I.freeC,I.pin,I.hok,I.len⟩
theorem SP.unwish {D:Ends}{f:Flow}{s':Shared}(h:SP (X.wish E) pins D f s'):SP X pins D f s':=by
 cases f with
 | next=>obtain ⟨σ',H',I,q⟩:=h;exact ⟨σ',H',I.unwish,q⟩
 | brk=>obtain ⟨σ',H',I,q⟩:=h;exact ⟨σ',H',I.unwish,q⟩
 | cont=>obtain ⟨σ',H',I,q⟩:=h;exact ⟨σ',H',I.unwish,q⟩
 | ret u=>obtain ⟨v,σ',H',I,r,q⟩:=h;exact ⟨v,σ',H',I.unwish,r,q⟩
theorem PSs.nox {st:List Stmt}{t:TS}(h:PSs X.nox st t):PSs X st t:=λ pins s σ H D I hw =>
 N0p (h pins s σ H D (I.wish _) hw) (λ o_ o_ q=>q.unwish) λ o_ o_ z=>False.elim z
end
section
variable {X:Cx}{st:Stmt}{rest:List Stmt}{t u:TS}{e:Expr}{te:TE}{pos:Pos}
noncomputable def z2o:TS:=λ D σ H=>D.nx σ H
noncomputable def z22 (t u:TS):TS:=λ D σ H=>t { D with nx:=u D } σ H
theorem q6Q:PSs X [] z2o:=λ o_ o_ σ H o_ I h=>wpAny_execs_nil ⟨σ,H,I,h⟩
theorem q0h (h1:PS X st t) (h2:PSs X rest u):PSs X (st::rest) (z22 t u):=by
 intro pins s σ H D I h
 refine wpAny_execs_cons (thn (h1 pins s σ H { D with nx:=u D } I h) λ f s1 q=>?_)
 cases f with
 | next =>
  obtain ⟨σ',H',I',q⟩:=q
  exact h2 pins s1 σ' H' D I' q
 | ret v=>exact q
 | brk=>exact q
 | cont=>exact q
theorem q0W (h1:PS X st t):PSs X [st] t:=by
 intro pins s σ H D I h
 refine wpAny_execs_cons (thn (h1 pins s σ H D I h) λ f s1 q=>?_)
 cases f with
 | next=>exact wpAny_execs_nil q
 | ret v=>exact q
 | brk=>exact q
 | cont=>exact q
theorem Inv.quiet {pins:List (Addr×Obj)}{σ:St}{H:Hp}{s:Shared}(I:Inv X pins σ H s):interactive X.env=false:=by simp [interactive,I.ok.kind]
noncomputable def z4C (te:TE):TS:=λ D σ H=>te σ H λ o_ H1=>D.nx σ H1
theorem q1A (he:PE X e te) (hs:swapsWith e none pos.line X.env=pure false:=by rfl):PS X (.Expr e pos) (z4C te):=by
 intro pins s σ H D I h
 exact wpAny_Expr_any (thx (he pins s σ H _ I h) λ v s1 x H1 I1 r1 q1=>⟨σ,H1,I1,q1⟩) I.quiet hs
noncomputable def z4D (te:TE):TS:=λ D σ H=>te σ H D.rt
theorem q2f (he:PE X e te):PS X (.Return (some e) pos) (z4D te):=by
 intro pins s σ H D I h
 exact wpAny_Return_some (thx (he pins s σ H _ I h) λ v s1 x H1 I1 r1 q1=>⟨x,σ,H1,I1,r1,q1⟩)
noncomputable def z6u (c:TT) (t u:TS):TS:=λ D σ H=>c σ H λ b H1=>if b=true then t D σ H1 else u D σ H1
theorem z0I {c:Expr}{a b:List Stmt}{tc:TT}(hc:PT X c tc) (ha:PSs X a t) (hb:PSs X b u):PS X (.If c a b pos) (z6u tc t u):=by
 intro pins s σ H D I h
 refine wpAny_If (thn (hc pins s σ H _ I h) λ d s1 hx_=>?_)
 obtain ⟨H1,I1,q1⟩:=hx_
 cases d with
 | true=>exact ha pins s1 σ H1 D I1 q1
 | false=>exact hb pins s1 σ H1 D I1 q1
noncomputable def z01:TS:=λ o_ o_ o_=>False
theorem q8W:PS X st z01:=λ o_ o_ o_ o_ o_ o_ h=>h.elim
theorem q3u {sts:List Stmt}:PSs X sts z01:=λ o_ o_ o_ o_ o_ o_ h=>h.elim
end
noncomputable abbrev TG:=V->St->Hp->(St->Hp->Prop)->Prop
noncomputable abbrev TGs:=List V->St->Hp->(St->Hp->Prop)->Prop
noncomputable def PG (X:Cx) (target:Expr) (t:TG):Prop :=
 ∀ (pins:List (Addr×Obj)) (s:Shared) (σ:St) (H:Hp) (v:V) (u:Value) (Q:St->Hp->Prop),Inv X pins σ H s->y4 v u->t v σ H Q ->
  wpAny (model X.prog X.w) X.A (assign target X.env u) (λ o_ s'=>∃ σ' H',Inv X pins σ' H' s'/\Q σ' H') X.xe s
noncomputable def PGs (X:Cx) (ts:List Expr) (t:TGs):Prop :=
 ∀ (pins:List (Addr×Obj)) (s:Shared) (σ:St) (H:Hp) (vs:List V) (us:List Value) (Q:St->Hp->Prop),Inv X pins σ H s->Vals vs us->t vs σ H Q ->
  wpAny (model X.prog X.w) X.A (assignInOrder ((assignEach ts X.env).map (·.2)) us) (λ o_ s'=>∃ σ' H',Inv X pins σ' H' s'/\Q σ' H') X.xe s
noncomputable abbrev z4E:=V->V->V->Hp->(Hp->Prop)->Prop
noncomputable def z6v (X:Cx) (t:z4E):Prop :=
 ∀ (pins:List (Addr×Obj)) (s:Shared) (σ:St) (H:Hp) (o i v:V) (ov iv u:Value) (Q:Hp->Prop),Inv X pins σ H s->y4 o ov->y4 i iv->y4 v u->t o i v H Q ->
  wpAny (model X.prog X.w) X.A (setItem ov iv u) (λ o_ s'=>∃ H',Inv X pins σ H' s'/\Q H') X.xe s
section
variable {X:Cx}{pos:Pos}
noncomputable def q2J (i:Nat):TG:=λ v σ H Q=>Q (σ.set i (some v)) H
theorem q07 {i:Nat}{x:Str}(hN:X.N.Nodup) (hi:X.N[i]? = some x) (hx:Loc X.env.scope x) (hf:X.fn x=true\/X.env.scope.names.lookup x=some .local:=by first | exact .inl rfl | exact .inr rfl | assumption):PG X (.Name x pos) (q2J i):=by
 intro pins s σ H v u Q I r h
 exact wpAny_assign_Name (q1p I hN hi hx r (λ s' I'=>⟨_,H,I',h⟩) hf)
noncomputable def gNil:TGs:=λ vs σ H Q=>vs=[]/\Q σ H
noncomputable def gCons (t:TG) (u:TGs):TGs:=λ vs σ H Q=>∃ v r,vs=v::r/\t v σ H λ σ' H'=>u r σ' H' Q
theorem z0J:PGs X [] gNil:=by
 intro pins s σ H vs us Q I r h
 obtain ⟨e,h⟩:=h
 subst e
 cases r
 exact assignInOrder_nil ⟨σ,H,I,h⟩
theorem q2K {e:Expr}{es:List Expr}{t:TG}{u:TGs}(h1:PG X e t) (h2:PGs X es u)
 (hs:(assignEach (e::es) X.env).map (·.2)=assign e X.env::(assignEach es X.env).map (·.2):=by rfl):PGs X (e::es) (gCons t u):=by
 intro pins s σ H vs us Q I r h
 obtain ⟨v,vr,e1,h⟩:=h
 subst e1
 cases r with
 | cons r rr =>
  rw [hs]
  refine assignInOrder_cons (thn (h1 pins s σ H _ _ _ I r h) λ o1_ s1 hx_=>?_)
  obtain ⟨σ1,H1,I1,q1⟩:=hx_
  exact h2 pins s1 σ1 H1 _ _ Q I1 rr q1
noncomputable def gTup (K:PySem.W.Frag) (n:Nat) (t:TGs):TG:=λ v σ H Q=>∃ a xs,v=.ref a/\SqT K H a xs/\xs.length=n/\t xs σ H Q
theorem z2p {es:List Expr}{k:Nat}{t:TGs}{n:Nat}(hc:X.calm=true) (h:PGs X es t)
 (hn:(assignEach es X.env).length=n:=by rfl) (hst:(assignEach es X.env).findIdx? (·.1)=none:=by rfl):PG X (.Tuple es k pos) (gTup X.K n t):=by
 intro pins s σ H v u Q I r hw
 obtain ⟨a,xs,e1,hq,hl,hw⟩:=hw
 subst e1
 cases r
 obtain ⟨its,rv,ht,hz⟩:=I.tuple hq
 refine assign_Tuple_tuple (I.ok.hd hc) ht (by simp [hn,<- hl,rv.length]) hst λ h' hx=>?_
 have I1:Inv X pins σ H { s with heap:=h' }:=I.kept (t':=s.toks) λ b o e=>hx b o (N12 (Heap.lt_size e)) e
 exact h pins _ σ H xs _ Q I1 (by simpa using rv) hw
noncomputable def gSub (to ti:TE) (t:z4E):TG:=λ v σ H Q=>to σ H λ o H1=>ti σ H1 λ i H2=>t o i v H2 λ H3=>Q σ H3
theorem z2q {o i:Expr}{to ti:TE}{t:z4E}(ho:PE X o to) (hi:PE X i ti) (hs:z6v X t)
 (ha:∀ v,assign (.Subscript o i pos) X.env v=(do
  let ov <- holding [v] (eval o X.env)
  let iv <- holding [v,ov] (eval i X.env)
  standAt pos
  holding [v,ov,iv] (setItem ov iv v)
  release [v,ov,iv] []):=by intro _;rfl):PG X (.Subscript o i pos) (gSub to ti t):=by
 intro pins s σ H v u Q I r h
 rw [ha]
 refine N03 (N1o (thx (ho pins s σ H _ I h) λ ov s1 x H1 I1 r1 q1=>?_))
 refine N03 (N1o (thx (hi pins s1 σ H1 _ I1 q1) λ iv s2 y H2 I2 r2 q2=>?_))
 refine N03 (wpAny_standAt (N03 (N1o (thn (hs pins s2 σ H2 x y v ov iv u _ I2 r1 r2 r q2) λ o1_ s3 hx_=>?_))))
 obtain ⟨H3,I3,q3⟩:=hx_
 exact wpAny_release ⟨σ,H3,I3,q3⟩
noncomputable def z02 (te:TE) (g:TG):TS:=λ D σ H=>te σ H λ x H1=>g x σ H1 D.nx
theorem z03 {tg e:Expr}{te:TE}{g:TG}(he:PE X e te) (hg:PG X tg g) (hs:swapsWithSole [tg] e pos.line X.env=pure false:=by rfl) (hw:swappedStores [tg] e X.env=pure none:=by rfl)
 (h1:(assignEach [tg] X.env).map (·.2)=[assign tg X.env]:=by rfl):PS X (.Assign [tg] e pos) (z02 te g):=by
 intro pins s σ H D I h
 refine wpAny_Assign_stores (thx (he pins s σ H _ I h) λ v s1 x H1 I1 r1 q1=>?_) hs hw
 rw [h1]
 exact thn (hg pins s1 σ H1 x v _ I1 r1 q1) λ o_ s2 q=>q
theorem q3v {i:Nat}{x:Str}{e:Expr}{te:TE}{pos':Pos}(hN:X.N.Nodup) (hi:X.N[i]? = some x) (hx:Loc X.env.scope x) (he:PE X e te) (hs:swapsWith e (some (.Name x pos')) pos.line X.env=pure false:=by rfl) (hf:X.fn x=true\/X.env.scope.names.lookup x=some .local:=by first | exact .inl rfl | exact .inr rfl | assumption) :
 PS X (.Assign [.Name x pos'] e pos) (z02 te (q2J i)):=by
 intro pins s σ H D I h
 refine wpAny_Assign_Name (thx (he pins s σ H _ I h) λ v s1 y H1 I1 r1 q1=>?_) hs
 exact q1p I1 hN hi hx r1 (λ s2 I2=>⟨_,H1,I2,q1⟩) hf
end
structure It where
 go:Nat->Hp->Prop
 yld:Nat->Hp->V->Hp->Prop
 stop:Nat->Hp->Prop
noncomputable def FpOk (X:Cx) (pins:List (Addr×Obj)) (H:Hp) (b:Addr):Prop :=
 H b=none/\b≠X.env.locals/\b∉X.fs/\(b∈X.ex\/X.s₀.heap.objs.size<=b)/\(∀ x c,X.env.cells.lookup x=some c->c≠b)/\∀ p∈X.pn++pins,p.1≠b
theorem Inv.fpOk {X:Cx}{pins:List (Addr×Obj)}{σ:St}{H H':Hp}{s:Shared}{b:Addr}(I:Inv X pins σ H s) (hb:s.heap.objs.size<=b) (hn:H' b=none):FpOk X pins H' b:=by
 refine ⟨hn,Nat.ne_of_gt (N0n I.lt hb),I.nofs hb,.inr (N0v I.sz hb),λ x c e z=>?_,λ p hp z=>?_⟩
 ·obtain ⟨v,q⟩:=I.cell x c e
  exact absurd (N0n q.lt (by rw [z];exact hb)) (N1a _)
 ·exact absurd (N0n (Heap.lt_size (I.pin p hp).1) (by rw [z];exact hb)) (N1a _)
structure Turn (P:Program) (w:World) (K:PySem.W.Frag) (tg:Expr) (J:It) (fp:List Addr) (it:Addr) (tn:Nat->Heap->Prop):Prop where
 mem:it∈fp
 obj:∀ i h,tn i h->∀ b∈fp,∃ o,h.get? b=some o/\∀ v,o.data≠.cell v
 keep:∀ i h h',tn i h->(∀ b∈fp,∀ o,h.get? b=some o->h'.get? b=some o)->tn i h'
 item:∀ (X:Cx),X.prog=P->X.w=w->X.K=K->X.calm=true->∀ (i:Nat) (pins:List (Addr×Obj)) (s:Shared) (σ:St) (H:Hp) (E:Value->Shared->Prop),Inv X pins σ H s->(∀ b∈fp,FpOk X pins H b)->tn i s.heap->J.go i H ->
  wpAny (model P w) X.A (pyNext (.ref it)) (λ r s1=>∃ u,r=some u /\
   wpAny (model P w) X.A (letOwnedTupleGo tg (.ref it) u) (λ o_ s2=>∃ x H',Inv X pins σ H' s2/\y4 x u/\J.yld i H x H'/\tn (i+1) s2.heap/\∀ b∈fp,H' b=none) E s1) E s
 done:∀ (X:Cx),X.prog=P->X.w=w->X.K=K->X.calm=true->∀ (i:Nat) (pins:List (Addr×Obj)) (s:Shared) (σ:St) (H:Hp) (E:Value->Shared->Prop),Inv X pins σ H s->(∀ b∈fp,FpOk X pins H b)->tn i s.heap->J.stop i H ->
  wpAny (model P w) X.A (pyNext (.ref it)) (λ r s1=>r=none/\Inv X pins σ H s1) E s
 self:∀ (A:Around) (i:Nat) (s:Shared) (Q:Value->Shared->Prop) (E:Value->Shared->Prop),tn i s.heap->Q (.ref it) s->wpAny (model P w) A (pyIter (.ref it)) Q E s
noncomputable abbrev TI:=St->Hp->(It->Hp->Prop)->Prop
noncomputable def PIE (X:Cx) (pins:List (Addr×Obj)) (σ:St) (tg:Expr) (R:It->Hp->Prop) (itv:Value) (s2:Shared):Prop :=
 ∃ (it:Addr) (fp:List Addr) (tn:Nat->Heap->Prop) (J:It) (H':Hp),itv=.ref it/\Inv X pins σ H' s2/\Turn X.prog X.w X.K tg J fp it tn/\tn 0 s2.heap/\(∀ b∈fp,FpOk X pins H' b)/\R J H'
noncomputable def PI (X:Cx) (tg iter:Expr) (wi:TI):Prop :=
 ∀ (pins:List (Addr×Obj)) (s:Shared) (σ:St) (H:Hp) (R:It->Hp->Prop),Inv X pins σ H s->wi σ H R ->
  wpAny (model X.prog X.w) X.A (eval iter X.env) (λ v s1=>wpAny (model X.prog X.w) X.A (pyIter v) (PIE X pins σ tg R) X.xe s1) X.xe s
theorem q8X {M:Model}{A:Around}{E:Value->Shared->Prop}{s:Shared}{tg:Expr}{it:Addr}{u:Value}{o:Obj}{n:String}{vs:Array Value}{Q:Unit->Shared->Prop}(ho:s.heap.get? it=some o) (hc:o.cls=.type n) (hd:o.data=.fields vs)
 (hn:["enumerate","zip","dict_itemiterator","dict_reverseitemiterator","odict_iterator","itertools.zip_longest","itertools.pairwise"].contains n=false) (hQ:Q () s):wpAny M A (letOwnedTupleGo tg (.ref it) u) Q E s:=by
 unfold letOwnedTupleGo
 cases tg<;>first
  | exact N0y hQ
  | (cases u<;>first
   | exact N0y hQ
   | (
    refine N03 (wpAny_load ho ?_)
    rw [hc,hd]
    show wpAny M A (if (["enumerate","zip","dict_itemiterator","dict_reverseitemiterator","odict_iterator","itertools.zip_longest","itertools.pairwise"].contains n&&vs[0]? == some (rawInt _))=true then _ else _) Q E s
    rw [N0l (by intro h;rw [hn,Bool.false_and] at h;cases h)]
    exact N0y hQ))
noncomputable def Itl (K:PySem.W.Frag) (a:Addr):It :=
 ⟨λ i H=>∃ xs x,SqL K H a xs/\xs[i]? = some x,λ i H x H'=>H'=H/\∀ xs,SqL K H a xs->xs[i]? = some x,λ i H=>∃ xs,SqL K H a xs/\xs.length<=i⟩
noncomputable def Itt (K:PySem.W.Frag) (a:Addr):It :=
 ⟨λ i H=>∃ xs x,SqT K H a xs/\xs[i]? = some x,λ i H x H'=>H'=H/\∀ xs,SqT K H a xs->xs[i]? = some x,λ i H=>∃ xs,SqT K H a xs/\xs.length<=i⟩
noncomputable def Itr (lo:Int) (n:Nat):It:=⟨λ i o_=>i<n,λ i H x H'=>H'=H/\x=.int (lo+i),λ i o_=>n<=i⟩
theorem q6R {P:Program}{w:World}{K:PySem.W.Frag}{tg:Expr}(a it:Addr):Turn P w K tg (Itl K a) [it] it (λ i h=>h.IsListIter it a i) where
 mem:=by simp
 obj:=λ i h st b hb=>by
  have e:b=it:=by simpa using hb
  subst e
  obtain ⟨o,e,c,d⟩:=st
  exact ⟨o,e,λ v z=>by rw [d] at z;cases z⟩
 keep:=λ i h h' st k=>st.at λ o e=>k it (by simp) o e
 item:=by
  intro X hP hw hK hc i pins s σ H E I hf st hg
  subst hP hw hK
  obtain ⟨xs,x,hq,hx⟩:=hg
  obtain ⟨its,rv,p,hz⟩:=I.list hq
  obtain ⟨u,hu,ru⟩:=rv.get hx
  obtain ⟨f0,f1,f2,f3,f4,f5⟩:=hf it (by simp)
  refine wpAny_pyNext_list_item st p.isList (x:=u) (by simpa using hu) λ h' st' sb=>?_
  have I1:Inv X pins σ H { s with heap:=h' }:=I.turned (t':=s.toks) (λ b o hb e=>(sb.2 b hb).trans e) f0 f1 f3 f4 f5
  obtain ⟨o,e,c,d⟩:=id st'
  exact ⟨u,rfl,q8X (s:={ s with heap:=h' }) e c d (by decide) ⟨x,H,I1,ru,⟨rfl,λ ys hy=>by rw [I.list_inj hy hq];exact hx⟩,st',λ b hb=>(hf b hb).1⟩⟩
 done:=by
  intro X hP hw hK hc i pins s σ H E I hf st hg
  subst hP hw hK
  obtain ⟨xs,hq,hx⟩:=hg
  obtain ⟨its,rv,p,hz⟩:=I.list hq
  obtain ⟨f0,f1,f2,f3,f4,f5⟩:=hf it (by simp)
  have hl:=rv.length
  exact wpAny_pyNext_list_end (I.ok.hd hc) st p.isList (by simp;simp_all) λ h' eb=>⟨rfl,I.turned (t':=s.toks) (λ b o hb e=>eb b o hb e) f0 f1 f3 f4 f5⟩
 self:=λ o_ o_ o_ o_ o_ st h=>wpAny_pyIter_listiter st h
theorem q66 {P:Program}{w:World}{K:PySem.W.Frag}{tg:Expr}(a it:Addr):Turn P w K tg (Itt K a) [it] it (λ i h=>h.IsTupleIter it a i) where
 mem:=by simp
 obj:=λ i h st b hb=>by
  have e:b=it:=by simpa using hb
  subst e
  obtain ⟨o,e,c,d⟩:=st
  exact ⟨o,e,λ v z=>by rw [d] at z;cases z⟩
 keep:=λ i h h' st k=>st.at λ o e=>k it (by simp) o e
 item:=by
  intro X hP hw hK hc i pins s σ H E I hf st hg
  subst hP hw hK
  obtain ⟨xs,x,hq,hx⟩:=hg
  obtain ⟨its,rv,p,hz⟩:=I.tuple hq
  obtain ⟨u,hu,ru⟩:=rv.get hx
  obtain ⟨f0,f1,f2,f3,f4,f5⟩:=hf it (by simp)
  refine wpAny_pyNext_tuple_item st (show s.heap.IsTuple a its.toArray from p) (x:=u) (by simpa using hu) λ h' st' sb=>?_
  have I1:Inv X pins σ H { s with heap:=h' }:=I.turned (t':=s.toks) (λ b o hb e=>(sb.2 b hb).trans e) f0 f1 f3 f4 f5
  obtain ⟨o,e,c,d⟩:=id st'
  exact ⟨u,rfl,q8X (s:={ s with heap:=h' }) e c d (by decide) ⟨x,H,I1,ru,⟨rfl,λ ys hy=>by rw [I.tuple_inj hy hq];exact hx⟩,st',λ b hb=>(hf b hb).1⟩⟩
 done:=by
  intro X hP hw hK hc i pins s σ H E I hf st hg
  subst hP hw hK
  obtain ⟨xs,hq,hx⟩:=hg
  obtain ⟨its,rv,p,hz⟩:=I.tuple hq
  obtain ⟨f0,f1,f2,f3,f4,f5⟩:=hf it (by simp)
  have hl:=rv.length
  exact wpAny_pyNext_tuple_end (I.ok.hd hc) st (show s.heap.IsTuple a its.toArray from p) (by simp;simp_all) λ h' eb=>⟨rfl,I.turned (t':=s.toks) (λ b o hb e=>eb b o hb e) f0 f1 f3 f4 f5⟩
 self:=λ o_ o_ o_ o_ o_ st h=>wpAny_pyIter_tupleiter st h
theorem q67 {P:Program}{w:World}{K:PySem.W.Frag}{tg:Expr}(it:Addr) (lo:Int) (n:Nat):Turn P w K tg (Itr lo n) [it] it (λ i h=>IsRangeIter h it (lo+(i:Nat) * 1) ((n:Int) - (i:Nat)) 1) where
 mem:=by simp
 obj:=λ i h st b hb=>by
  have e:b=it:=by simpa using hb
  subst e
  exact ⟨_,st,λ v z=>by
   have z':Data.fields _=Data.cell v:=z
   cases z'⟩
 keep:=λ i h h' st k=>k it (by simp) _ st
 item:=by
  intro X hP hw hK hc i pins s σ H E I hf st hg
  subst hP hw hK
  obtain ⟨f0,f1,f2,f3,f4,f5⟩:=hf it (by simp)
  have W:=Walks.range (prog:=X.prog) (w:=X.w) (I.ok.hd hc) it lo 1 n
  refine W.item i s _ _ hg st λ v h' tk hv st' kk=>?_
  obtain ⟨t,rfl⟩:=hv
  have I1:Inv X pins σ H { s with heap:=h',toks:=tk }:=I.turned (λ b o hb e=>kk b o (by simpa using hb) e) f0 f1 f3 f4 f5
  refine ⟨_,rfl,q8X (s:={ s with heap:=h',toks:=tk }) (n:="range_iterator") st' rfl rfl (by decide) ⟨.int (lo+i),H,I1,⟨t,?_⟩,⟨rfl,rfl⟩,st',λ b hb=>(hf b hb).1⟩⟩
  rw [Int.mul_one]
 done:=by
  intro X hP hw hK hc i pins s σ H E I hf st hg
  subst hP hw hK
  obtain ⟨f0,f1,f2,f3,f4,f5⟩:=hf it (by simp)
  exact wpAny_pyNext_range_end (I.ok.hd hc) st (by have:n<=i:=hg;lia) λ h' eb=>⟨rfl,I.turned (t':=s.toks) (λ b o hb e=>eb b o hb e) f0 f1 f3 f4 f5⟩
 self:=λ o_ o_ o_ o_ o_ st h=>wpAny_pyIter_rangeiter st h
section
variable {X:Cx}{tg:Expr}
noncomputable def z4F (K:PySem.W.Frag) (tl:TE):TI:=λ σ H R=>tl σ H λ x H1=>∃ a,x=.ref a/\(∃ xs,SqL K H1 a xs)/\R (Itl K a) H1
noncomputable def iTup (K:PySem.W.Frag) (tl:TE):TI:=λ σ H R=>tl σ H λ x H1=>∃ a,x=.ref a/\(∃ xs,SqT K H1 a xs)/\R (Itt K a) H1
theorem z0K {l:Expr}{tl:TE}(hl:PE X l tl):PI X tg l (z4F X.K tl):=by
 intro pins s σ H R I h
 refine thx (hl pins s σ H _ I h) λ v s1 x H1 I1 r1 q1=>?_
 obtain ⟨a,e,⟨xs,hq⟩,q⟩:=q1
 subst e
 cases r1
 obtain ⟨its,rv,p,hz⟩:=I1.list hq
 refine wpAny_pyIter_list p.isList ?_
 refine ⟨s1.heap.objs.size,[s1.heap.objs.size],_,_,H1,rfl,I1.kept (t':=s1.toks) λ b o e=>Heap.get?_push_of_some _ e,q6R a _,⟨_,Heap.get?_push_size _ rfl,rfl,rfl⟩,λ b hb=>?_,q⟩
 have e:b=s1.heap.objs.size:=by simpa using hb
 subst e
 exact I1.fpOk (N07 _) (I1.hok.fresh (N07 _))
theorem z2r {l:Expr}{tl:TE}(hl:PE X l tl):PI X tg l (iTup X.K tl):=by
 intro pins s σ H R I h
 refine thx (hl pins s σ H _ I h) λ v s1 x H1 I1 r1 q1=>?_
 obtain ⟨a,e,⟨xs,hq⟩,q⟩:=q1
 subst e
 cases r1
 obtain ⟨its,rv,p,hz⟩:=I1.tuple hq
 refine wpAny_pyIter_tuple (show s1.heap.IsTuple a its.toArray from p) ?_
 refine ⟨s1.heap.objs.size,[s1.heap.objs.size],_,_,H1,rfl,I1.kept (t':=s1.toks) λ b o e=>Heap.get?_push_of_some _ e,q66 a _,⟨_,Heap.get?_push_size _ rfl,rfl,rfl⟩,λ b hb=>?_,q⟩
 have e:b=s1.heap.objs.size:=by simpa using hb
 subst e
 exact I1.fpOk (N07 _) (I1.hok.fresh (N07 _))
theorem q8Y {pins:List (Addr×Obj)}{σ:St}{H:Hp}{s:Shared}{R:It->Hp->Prop}{E:Value->Shared->Prop}{lo hi:Int}{t u v:Tok}{tk:Nat}(I:Inv X pins σ H s) (h1 : -(2 ^ 62)<=lo) (h2:lo<2 ^ 62) (h3 : -(2 ^ 62)<=hi) (h4:hi<2 ^ 62)
 (q:R (Itr lo (hi - lo).toNat) H):wpAny (model X.prog X.w) X.A (pyIter (.ref s.heap.objs.size)) (PIE X pins σ tg R) E { s with heap:=s.heap.push { cls:=.type "range",data:=.fields #[.int lo t,.int hi u,.int 1 v] },toks:=tk }:=by
 refine wpAny_pyIter_range (IsRange.new ..) (small_one h1 h2 h3 h4) ?_
 have I1:Inv X pins σ H { s with heap:=s.heap.push { cls:=.type "range",data:=.fields #[.int lo t,.int hi u,.int 1 v] },toks:=tk }:=I.kept λ b o e=>Heap.get?_push_of_some _ e
 refine ⟨(s.heap.push { cls:=.type "range",data:=.fields #[.int lo t,.int hi u,.int 1 v] }).objs.size,[(s.heap.push { cls:=.type "range",data:=.fields #[.int lo t,.int hi u,.int 1 v] }).objs.size],_,_,H,rfl,
  I1.kept (t':=tk) λ b o e=>Heap.get?_push_of_some _ e,q67 _ lo (hi - lo).toNat,?_,λ b hb=>?_,q⟩
 ·have e1:lo+((0:Nat):Int) * 1=lo:=by simp
  have e2:(((hi - lo).toNat:Nat):Int) - ((0:Nat):Int)=Builtin.Range.rangeSize lo hi 1:=by rw [rangeSize_one];split<;>lia
  show IsRangeIter _ _ (lo+((0:Nat):Int) * 1) ((((hi - lo).toNat:Nat):Int) - ((0:Nat):Int)) 1
  rw [e1,e2]
  exact Heap.get?_push_size _ rfl
 ·have e:b=(s.heap.push { cls:=.type "range",data:=.fields #[.int lo t,.int hi u,.int 1 v] }).objs.size:=by simpa using hb
  subst e
  exact I1.fpOk (N07 _) (I1.hok.fresh (N07 _))
noncomputable def z4G (ta:TA):TI:=λ σ H R=>ta σ H λ vs H1=>∃ j:Int,vs=[.int j] /\ -(2 ^ 62)<=j/\j<2 ^ 62/\R (Itr 0 j.toNat) H1
theorem q6S {a:Expr}{ta:TA}{p pos:Pos}(hg:Gl X "range") (hm:X.mg "range" = none) (ha:PA X [a] ta) (hs:starEach [a] X.env=[(false,eval a X.env)]:=by rfl):PI X tg (.Call (.Name "range" p) [a] [] pos) (z4G ta):=by
 intro pins s σ H R I h
 refine Call_ (q3t I hg hm boot_range (PyProof.Rows.callWith_type1 (thx (ha pos pins s σ H _ I h) λ us s1 vs H1 I1 r1 q1=>?_) hs rfl))
 obtain ⟨j,e,q1,q2,q⟩:=q1
 subst e
 cases r1 with
 | cons r rr =>
  cases rr
  obtain ⟨t,rfl⟩:=r
  exact call_range_1 (q8Y I1 (by simp) (by simp) q1 q2 (by simpa using q))
noncomputable def tFor (wi:TI) (g:TG) (tb:TS):TS:=λ D σ H=>wi σ H λ J H1=>∃ W:Nat->Nat->St->Hp->Prop,(∃ m,W 0 m σ H1)/\∀ i m σ H,W i m σ H ->
 (J.stop i H/\D.nx σ H)\/(J.go i H/\∃ N:St->Hp->Prop,(∀ σ' H',N σ' H'->∃ m',m'<m/\W (i+1) m' σ' H')/\∀ x H',J.yld i H x H'->g x σ H' λ σ2 H2=>tb { D with nx:=N,ct:=N,bk:=D.nx } σ2 H2)
noncomputable def q3w (fp:List Addr) (h:Heap):List (Addr×Obj):=fp.filterMap λ b=>(h.get? b).map λ o=>(b,o)
theorem q0i {fp:List Addr}{h:Heap}{b:Addr}{o:Obj}(hb:b∈fp) (e:h.get? b=some o):(b,o)∈q3w fp h:=List.mem_filterMap.mpr ⟨b,hb,by rw [e];rfl⟩
theorem q6T {fp:List Addr}{h:Heap}{p:Addr×Obj}(hp:p∈q3w fp h):p.1∈fp/\h.get? p.1=some p.2:=by
 obtain ⟨b,hb,e⟩:=List.mem_filterMap.mp hp
 cases q:h.get? b with
 | none=>rw [q] at e;cases e
 | some o =>
  rw [q] at e
  have e':(b,o)=p:=N0b e
  subst e'
  exact ⟨hb,q⟩
theorem Inv.pinned {pins:List (Addr×Obj)}{σ:St}{H:Hp}{s:Shared}{fp:List Addr}(I:Inv X pins σ H s) (hf:∀ b∈fp,FpOk X pins H b) (ho:∀ b∈fp,∃ o,s.heap.get? b=some o/\∀ v,o.data≠.cell v):Inv X (pins++q3w fp s.heap) σ H s :=
 I.pins_of λ p hp=>(N0a.mp hp).elim (λ z=>I.pin p (N05 _ z)) λ z=>by
  obtain ⟨hb,e⟩:=q6T z
  obtain ⟨f0,f1,f2,_⟩:=hf p.1 hb
  obtain ⟨o,e',d⟩:=ho p.1 hb
  rw [e] at e';cases e'
  exact ⟨e,f0,f1,f2,d⟩
theorem Inv.unpinned {pins pl:List (Addr×Obj)}{σ:St}{H:Hp}{s:Shared}(I:Inv X (pins++pl) σ H s):Inv X pins σ H s:=I.pins_of λ p hp=>I.pin p (N05 _ (N0w _ hp))
theorem z04 {iter:Expr}{body:List Stmt}{wi:TI}{g:TG}{tb:TS}{pos:Pos}(hp:PassesOwn (model X.prog X.w) X.A X.env X.xe) (hc:X.calm=true) (hi:PI X tg iter wi) (hg:PG X tg g) (hb:PSs X body tb)
 (hs:∀ x,foldedSetIterable iter X.env x=pure x:=by intro _;rfl):PS X (.For tg iter body [] pos) (tFor wi g tb):=by
 intro pins s σ H D I h
 refine wpAny_For (thn (hi pins s σ H _ I h) λ v s1 h1=>thn h1 λ itv s2 h2=>?_) hs
 obtain ⟨it,fp,tn,J,H2,e,I2,T,st2,f2,W,⟨m0,w0⟩,turn⟩:=h2
 subst e
 have stat:∀ {H':Hp},(∀ b∈fp,H' b=none)->∀ b∈fp,FpOk X pins H' b:=λ hn b hb=>⟨hn b hb,(f2 b hb).2⟩
 refine codeAny_forLoop_any (λ n s'=>∃ i σ' H',Inv X pins σ' H' s'/\tn i s'.heap/\(∀ b∈fp,H' b=none)/\W i n σ' H') ?_ m0 ⟨0,σ,H2,I2,st2,λ b hb=>(f2 b hb).1,w0⟩
 rintro n s3 ⟨i,σ3,H3,I3,st3,fr3,w3⟩
 rcases turn i n σ3 H3 w3 with ⟨stop,qn⟩ | ⟨go,N,hN,step⟩
 ·refine wpAny_passesOwn hp (thn (T.done X rfl rfl rfl hc i pins s3 σ3 H3 X.xe I3 (stat fr3) st3 stop) λ r s4 hx_=>?_)
  obtain ⟨hr,I4⟩:=hx_
  subst hr
  exact wpAny_execs_nil ⟨σ3,H3,I4,qn⟩
 ·refine wpAny_passesOwn hp (thn (T.item X rfl rfl rfl hc i pins s3 σ3 H3 X.xe I3 (stat fr3) st3 go) λ r s4 hx_=>?_)
  obtain ⟨u,hr,h4⟩:=hx_
  subst hr
  refine wpAny_passesOwn hp (thn h4 λ o1_ s5 hx_=>?_)
  obtain ⟨x,H5,I5,r5,y5,st5,fr5⟩:=hx_
  have I5':=I5.pinned (stat fr5) (T.obj _ _ st5)
  refine wpAny_passesOwn hp (thn (hg _ s5 σ3 H5 x u _ I5' r5 (step x H5 y5)) λ o1_ s6 hx_=>?_)
  obtain ⟨σ6,H6,I6,q6⟩:=hx_
  refine wpAny_passesOwn hp (thn (hb _ s6 σ6 H6 _ I6 q6) λ f s7 q7=>?_)
  have again:∀ {σ7:St}{H7:Hp},Inv X (pins++q3w fp s5.heap) σ7 H7 s7->N σ7 H7->∃ m,m<n/\∃ i σ' H',Inv X pins σ' H' s7/\tn i s7.heap/\(∀ b∈fp,H' b=none)/\W i m σ' H':=λ {σ7 H7} I7 n7=>by
   obtain ⟨m',hm,w7⟩:=hN σ7 H7 n7
   refine ⟨m',hm,i+1,σ7,H7,I7.unpinned,T.keep _ _ _ st5 λ b hb o e=>(I7.pin (b,o) (N05 _ (N05 _ (q0i hb e)))).1,λ b hb=>?_,w7⟩
   obtain ⟨o,e,d⟩:=T.obj _ _ st5 b hb
   exact (I7.pin (b,o) (N05 _ (N05 _ (q0i hb e)))).2.1
  cases f with
  | next=>obtain ⟨σ7,H7,I7,n7⟩:=q7;exact again I7 n7
  | cont=>obtain ⟨σ7,H7,I7,n7⟩:=q7;exact again I7 n7
  | brk=>obtain ⟨σ7,H7,I7,q7⟩:=q7;exact ⟨σ7,H7,I7.unpinned,q7⟩
  | ret v=>obtain ⟨x7,σ7,H7,I7,r7,q7⟩:=q7;exact ⟨x7,σ7,H7,I7.unpinned,r7,q7⟩
end
theorem q5j {K:PySem.W.Frag}{a:Addr}{xs:List V}{g:TG}{tb:TS}{D:Ends}{σ:St}{H:Hp}(Pv:Nat->St->Hp->Prop) (h0:Pv 0 σ H) (hl:∀ i σ H,i<=xs.length->Pv i σ H->SqL K H a xs)
 (hs:∀ i x σ H,xs[i]? = some x->Pv i σ H->g x σ H λ σ2 H2=>tb { D with nx:=Pv (i+1),ct:=Pv (i+1),bk:=D.nx } σ2 H2) (hd:∀ σ H,Pv xs.length σ H->D.nx σ H) :
 ∃ W:Nat->Nat->St->Hp->Prop,(∃ m,W 0 m σ H)/\∀ i m σ H,W i m σ H ->
  ((Itl K a).stop i H/\D.nx σ H)\/((Itl K a).go i H/\∃ N:St->Hp->Prop,(∀ σ' H',N σ' H'->∃ m',m'<m/\W (i+1) m' σ' H')/\∀ x H',(Itl K a).yld i H x H'->g x σ H' λ σ2 H2=>tb { D with nx:=N,ct:=N,bk:=D.nx } σ2 H2):=by
 refine ⟨λ i m σ H=>m=xs.length - i/\i<=xs.length/\Pv i σ H,⟨xs.length,by simp,N1b _,h0⟩,?_⟩
 rintro i m σ H ⟨rfl,hi,p⟩
 have q:=hl i σ H hi p
 by_cases hlt:i<xs.length
 ·refine .inr ⟨⟨xs,xs[i],q,by simp [hlt]⟩,Pv (i+1),λ σ' H' p'=>⟨xs.length - (i+1),by omega,rfl,hlt,p'⟩,λ x H' y=>?_⟩
  obtain ⟨e,y⟩:=y
  subst e
  exact hs i x σ _ (y xs q) p
 ·have e:i=xs.length:=by lia
  subst e
  exact .inl ⟨⟨xs,q,N07 _⟩,hd σ H p⟩
theorem q6U {K:PySem.W.Frag}{a:Addr}{xs:List V}{g:TG}{tb:TS}{D:Ends}{σ:St}{H:Hp}(Pv:Nat->St->Hp->Prop) (h0:Pv 0 σ H) (hl:∀ i σ H,i<=xs.length->Pv i σ H->SqT K H a xs)
 (hs:∀ i x σ H,xs[i]? = some x->Pv i σ H->g x σ H λ σ2 H2=>tb { D with nx:=Pv (i+1),ct:=Pv (i+1),bk:=D.nx } σ2 H2) (hd:∀ σ H,Pv xs.length σ H->D.nx σ H) :
 ∃ W:Nat->Nat->St->Hp->Prop,(∃ m,W 0 m σ H)/\∀ i m σ H,W i m σ H ->
  ((Itt K a).stop i H/\D.nx σ H)\/((Itt K a).go i H/\∃ N:St->Hp->Prop,(∀ σ' H',N σ' H'->∃ m',m'<m/\W (i+1) m' σ' H')/\∀ x H',(Itt K a).yld i H x H'->g x σ H' λ σ2 H2=>tb { D with nx:=N,ct:=N,bk:=D.nx } σ2 H2):=by
 refine ⟨λ i m σ H=>m=xs.length - i/\i<=xs.length/\Pv i σ H,⟨xs.length,by simp,N1b _,h0⟩,?_⟩
 rintro i m σ H ⟨rfl,hi,p⟩
 have q:=hl i σ H hi p
 by_cases hlt:i<xs.length
 ·refine .inr ⟨⟨xs,xs[i],q,by simp [hlt]⟩,Pv (i+1),λ σ' H' p'=>⟨xs.length - (i+1),by omega,rfl,hlt,p'⟩,λ x H' y=>?_⟩
  obtain ⟨e,y⟩:=y
  subst e
  exact hs i x σ _ (y xs q) p
 ·have e:i=xs.length:=by lia
  subst e
  exact .inl ⟨⟨xs,q,N07 _⟩,hd σ H p⟩
theorem q3x {lo:Int}{n:Nat}{g:TG}{tb:TS}{D:Ends}{σ:St}{H:Hp}(Pv:Nat->St->Hp->Prop) (h0:Pv 0 σ H)
 (hs:∀ i σ H,i<n->Pv i σ H->g (.int (lo+i)) σ H λ σ2 H2=>tb { D with nx:=Pv (i+1),ct:=Pv (i+1),bk:=D.nx } σ2 H2) (hd:∀ σ H,Pv n σ H->D.nx σ H) :
 ∃ W:Nat->Nat->St->Hp->Prop,(∃ m,W 0 m σ H)/\∀ i m σ H,W i m σ H ->
  ((Itr lo n).stop i H/\D.nx σ H)\/((Itr lo n).go i H/\∃ N:St->Hp->Prop,(∀ σ' H',N σ' H'->∃ m',m'<m/\W (i+1) m' σ' H')/\∀ x H',(Itr lo n).yld i H x H'->g x σ H' λ σ2 H2=>tb { D with nx:=N,ct:=N,bk:=D.nx } σ2 H2):=by
 refine ⟨λ i m σ H=>m=n - i/\i<=n/\Pv i σ H,⟨n,by simp,N1b _,h0⟩,?_⟩
 rintro i m σ H ⟨rfl,hi,p⟩
 by_cases hlt:i<n
 ·refine .inr ⟨hlt,Pv (i+1),λ σ' H' p'=>⟨n - (i+1),by omega,rfl,hlt,p'⟩,λ x H' y=>?_⟩
  obtain ⟨e,y⟩:=y
  subst e y
  exact hs i σ _ hlt p
 ·have e:i=n:=by lia
  subst e
  exact .inl ⟨N07 _,hd σ H p⟩
noncomputable abbrev R2:=V->V->Hp->VK->Prop
noncomputable def OpR (X:Cx) (f:Value->Value->Sem Value) (r:R2):Prop :=
 ∀ (pins:List (Addr×Obj)) (s:Shared) (σ:St) (H:Hp) (x y:V) (v u:Value) (Q:VK),Inv X pins σ H s->y4 x v->y4 y u->r x y H Q ->
  wpAny (model X.prog X.w) X.A (f v u) (EP X pins σ Q) X.xe s
noncomputable def UnR (X:Cx) (f:Value->Sem Value) (r:V->Hp->VK->Prop):Prop :=
 ∀ (pins:List (Addr×Obj)) (s:Shared) (σ:St) (H:Hp) (x:V) (v:Value) (Q:VK),Inv X pins σ H s->y4 x v->r x H Q ->
  wpAny (model X.prog X.w) X.A (f v) (EP X pins σ Q) X.xe s
noncomputable def X8 (X:Cx) (f:Value) (r:List V->Hp->VK->Prop):Prop :=
 ∀ (pins:List (Addr×Obj)) (s:Shared) (σ:St) (H:Hp) (xs:List V) (us:List Value) (Q:VK),Inv X pins σ H s->Vals xs us->r xs H Q ->
  wpAny (model X.prog X.w) X.A (call f us) (EP X pins σ Q) X.xe s
noncomputable def TruR (X:Cx) (r:V->Hp->(Bool->Hp->Prop)->Prop):Prop :=
 ∀ (pins:List (Addr×Obj)) (s:Shared) (σ:St) (H:Hp) (x:V) (v:Value) (Q:Bool->Hp->Prop),Inv X pins σ H s->y4 x v->r x H Q ->
  wpAny (model X.prog X.w) X.A (truthy v) (TP X pins σ Q) X.xe s
noncomputable def tOp (r:R2) (ta tb:TE):TE:=λ σ H Q=>ta σ H λ x H1=>tb σ H1 λ y H2=>r x y H2 Q
noncomputable def tUn (r:V->Hp->VK->Prop) (ta:TE):TE:=λ σ H Q=>ta σ H λ x H1=>r x H1 Q
noncomputable def rI (C:Int->Int->Prop) (g:Int->Int->V):R2:=λ x y H Q=>∃ i j,x=.int i/\y=.int j/\C i j/\Q (g i j) H
noncomputable def rI0 (g:Int->Int->V):R2:=λ x y H Q=>∃ i j,x=.int i/\y=.int j/\Q (g i j) H
noncomputable def rU (g:Int->V):V->Hp->VK->Prop:=λ x H Q=>∃ i,x=.int i/\Q (g i) H
section
variable {X:Cx}{a b c:Expr}{ta tb tc:TE}{pos:Pos}
theorem z4H (ha:PE X a ta) (hb:PE X b tb){pins:List (Addr×Obj)}{s:Shared}{σ:St}{H:Hp}{R:V->V->Hp->Prop}(I:Inv X pins σ H s)
 (h:ta σ H λ x H1=>tb σ H1 λ y H2=>R x y H2){Q:Value->Shared->Prop}{f:Value->Value->Sem Value}
 (hf:∀ v u s2 x y H2,Inv X pins σ H2 s2->y4 x v->y4 y u->R x y H2->wpAny (model X.prog X.w) X.A (f v u) Q X.xe s2) :
 wpAny (model X.prog X.w) X.A (eval a X.env) (λ v s₁=>wpAny (model X.prog X.w) X.A (eval b X.env) (λ u s₂=>wpAny (model X.prog X.w) X.A (f v u) Q X.xe s₂) X.xe s₁) X.xe s:=by
 refine thx (ha pins s σ H _ I h) λ v s1 x H1 I1 r1 q1=>?_
 refine thx (hb pins s1 σ H1 _ I1 q1) λ u s2 y H2 I2 r2 q2=>?_
 exact hf v u s2 x y H2 I2 r1 r2 q2
theorem q8Z {op:Operator}{r:R2}(ho:OpR X (binaryOp op) r) (ha:PE X a ta) (hb:PE X b tb):PE X (.BinOp a op b pos) (tOp r ta tb):=by
 intro pins s σ H Q I h
 exact wpAny_BinOp (z4H ha hb I h λ v u s2 x y H2 I2 rx ry q=>ho pins s2 σ H2 x y v u Q I2 rx ry q)
theorem z4I {op:UnaryOp}{r:V->Hp->VK->Prop}(ho:UnR X (unaryOp op) r) (ha:PE X a ta):PE X (.UnaryOp op a pos) (tUn r ta):=by
 intro pins s σ H Q I h
 exact UnaryOp_ (thx (ha pins s σ H _ I h) λ v s1 x H1 I1 r1 q1=>ho pins s1 σ H1 x v Q I1 r1 q1)
theorem opI {f:Value->Value->Sem Value}{C:Int->Int->Prop}{g:Int->Int->Int}
 (rule:∀ (i j:Int) (t u:Tok) (s:Shared) (Q:Value->Shared->Prop) (E:Value->Shared->Prop),C i j->Q (.int (g i j) s.toks) { s with toks:=s.toks+1 }->wpAny (model X.prog X.w) X.A (f (.int i t) (.int j u)) Q E s) :
 OpR X f (rI C λ i j=>.int (g i j)):=by
 intro pins s σ H x y v u Q I rx ry h
 obtain ⟨i,j,rfl,rfl,hc,q⟩:=h
 obtain ⟨t,rfl⟩:=rx
 obtain ⟨t',rfl⟩:=ry
 exact rule i j t t' s _ _ hc ⟨.int (g i j),H,I.tok _,⟨_,rfl⟩,q⟩
theorem z6w {f:Value->Value->Sem Value}{g:Int->Int->Int}
 (rule:∀ (i j:Int) (t u:Tok) (s:Shared) (Q:Value->Shared->Prop) (E:Value->Shared->Prop),Q (.int (g i j) s.toks) { s with toks:=s.toks+1 }->wpAny (model X.prog X.w) X.A (f (.int i t) (.int j u)) Q E s) :
 OpR X f (rI0 λ i j=>.int (g i j)):=by
 intro pins s σ H x y v u Q I rx ry h
 obtain ⟨i,j,rfl,rfl,q⟩:=h
 obtain ⟨t,rfl⟩:=rx
 obtain ⟨t',rfl⟩:=ry
 exact rule i j t t' s _ _ ⟨.int (g i j),H,I.tok _,⟨_,rfl⟩,q⟩
theorem z3U {f:Value->Value->Sem Value}{g:Int->Int->Bool}
 (rule:∀ (i j:Int) (t u:Tok) (s:Shared) (Q:Value->Shared->Prop) (E:Value->Shared->Prop),Q (.bool (g i j)) s->wpAny (model X.prog X.w) X.A (f (.int i t) (.int j u)) Q E s) :
 OpR X f (rI0 λ i j=>.bl (g i j)):=by
 intro pins s σ H x y v u Q I rx ry h
 obtain ⟨i,j,rfl,rfl,q⟩:=h
 obtain ⟨t,rfl⟩:=rx
 obtain ⟨t',rfl⟩:=ry
 exact rule i j t t' s _ _ ⟨.bl (g i j),H,I,rfl,q⟩
noncomputable def z6x (i j:Int):Prop:=0<j/\j<1073741824
noncomputable def z3V (i j:Int):Prop:=(-(2 ^ 64)<i/\i<2 ^ 64)\/(-(2 ^ 64)<j/\j<2 ^ 64)
theorem z3V.ok {i j:Int}(h:z3V i j):IntMulOk i j:=by
 rcases h with ⟨h1,h2⟩ | ⟨h1,h2⟩
 ·exact .of_left (intBits_le_64 h1 h2)
 ·exact .of_right (intBits_le_64 h1 h2)
theorem z05:OpR X (binaryOp .Add) (rI0 λ i j=>.int (i+j)):=z6w λ o_ o_ o_ o_ o_ o_ o_ q=>add_int q
theorem q6V:OpR X (binaryOp .Sub) (rI0 λ i j=>.int (i - j)):=z6w λ o_ o_ o_ o_ o_ o_ o_ q=>sub_int q
theorem q5k:OpR X (binaryOp .Mult) (rI z3V λ i j=>.int (i * j)):=opI λ o_ o_ o_ o_ o_ o_ o_ hc q=>mul_int q hc.ok
theorem y9:OpR X (binaryOp .FloorDiv) (rI z6x λ i j=>.int (i / j)):=opI λ i j o_ o_ o_ o_ o_ hc q=>by
 have h1:(0:Int)<j:=hc.1
 have h2:j<1073741824:=hc.2
 exact floordiv_int (by lia) (by rw [Int.fdiv_eq_ediv_of_nonneg i (by lia)];exact q) (.inl (PyProof.noPylong_small (by omega)))
theorem W5:OpR X (binaryOp .Mod) (rI (λ o_ j=>0<j) λ i j=>.int (i % j)):=opI λ i j o_ o_ o_ o_ o_ hc q=>by
 have h1:(0:Int)<j:=hc
 exact mod_int' (by lia) (by rw [Int.fmod_eq_emod_of_nonneg i (by lia)];exact q)
theorem unI {f:Value->Sem Value}{g:Int->Int}
 (rule:∀ (i:Int) (t:Tok) (s:Shared) (Q:Value->Shared->Prop) (E:Value->Shared->Prop),Q (.int (g i) s.toks) { s with toks:=s.toks+1 }->wpAny (model X.prog X.w) X.A (f (.int i t)) Q E s) :
 UnR X f (rU λ i=>.int (g i)):=by
 intro pins s σ H x v Q I rx h
 obtain ⟨i,rfl,q⟩:=h
 obtain ⟨t,rfl⟩:=rx
 exact rule i t s _ _ ⟨.int (g i),H,I.tok _,⟨_,rfl⟩,q⟩
theorem q3y:UnR X (unaryOp .USub) (rU λ i=>.int (-i)):=unI λ o_ o_ o_ o_ o_ q=>neg_int q
end
noncomputable def z4J:V->V->Bool
 | .non,.non=>true | .non,.int _=>true | .int _,.non=>true | .non,.bl _=>true | .bl _,.non=>true | .non,.str _=>true | .str _,.non=>true
 | .int _,.int _=>true | .bl _,.bl _=>true | .str _,.str _=>true | .byt _,.byt _=>true
 | .int _,.str _=>true | .str _,.int _=>true | .bl _,.str _=>true | .str _,.bl _=>true
 | _,_=>false
noncomputable def rEq:R2:=λ x y H Q=>z4J x y=true/\Q (.bl (decide (x=y))) H
noncomputable def rNe:R2:=λ x y H Q=>z4J x y=true/\Q (.bl (!decide (x=y))) H
theorem dec_int {i j:Int}:decide (V.int i=V.int j)=(i==j):=by
 rw [Bool.eq_iff_iff]
 simp
theorem dec_bl {i j:Bool}:decide (V.bl i=V.bl j)=(i==j):=by
 rw [Bool.eq_iff_iff]
 simp
theorem dec_str {i j:Str}:decide (V.str i=V.str j)=(i==j):=by
 rw [Bool.eq_iff_iff]
 simp
theorem q6W {i j:Array UInt8}:decide (V.byt i=V.byt j)=(i.toList==j.toList):=by
 rw [Bool.eq_iff_iff]
 cases i
 cases j
 simp
section
variable {X:Cx}{a b c:Expr}{ta tb tc:TE}{pos:Pos}
theorem fin_bl {pins:List (Addr×Obj)}{σ:St}{H:Hp}{s:Shared}{Q:VK}{k k':Bool}(I:Inv X pins σ H s) (q:Q (.bl k) H) (e:k=k'):EP X pins σ Q (.bool k') s:=by
 subst e
 exact ⟨.bl k,H,I,rfl,q⟩
theorem z4K:OpR X (compareOp .Eq) rEq:=by
 intro pins s σ H x y v u Q I rx ry h
 obtain ⟨hs,q⟩:=h
 cases x with
 | non =>
  cases rx
  cases y with
  | non=>cases ry;exact PySem.EqNone.eq_none_none (fin_bl I q (by simp))
  | bl j=>cases ry;exact PySem.EqNone.eq_none_bool (fin_bl I q (by simp))
  | int j=>obtain ⟨t',rfl⟩:=ry;exact PySem.EqNone.eq_none_int (fin_bl I q (by simp))
  | str j=>obtain ⟨t',rfl⟩:=ry;exact PySem.EqNone.eq_none_str (fin_bl I q (by simp))
  | _=>exact absurd (show false=true from hs) N0d
 | bl i =>
  cases rx
  cases y with
  | non=>cases ry;exact PySem.EqNone.eq_bool_none (fin_bl I q (by simp))
  | bl j=>cases ry;exact eq_bool (fin_bl I q dec_bl)
  | str j=>obtain ⟨t',rfl⟩:=ry;exact PySem.EqMixed.eq_bool_str (fin_bl I q (by simp))
  | _=>exact absurd (show false=true from hs) N0d
 | int i =>
  obtain ⟨t,rfl⟩:=rx
  cases y with
  | non=>cases ry;exact PySem.EqNone.eq_int_none (fin_bl I q (by simp))
  | int j=>obtain ⟨t',rfl⟩:=ry;exact eq_int (fin_bl I q dec_int)
  | str j=>obtain ⟨t',rfl⟩:=ry;exact PySem.EqMixed.eq_int_str (fin_bl I q (by simp))
  | _=>exact absurd (show false=true from hs) N0d
 | str i =>
  obtain ⟨t,rfl⟩:=rx
  cases y with
  | non=>cases ry;exact PySem.EqNone.eq_str_none (fin_bl I q (by simp))
  | bl j=>cases ry;exact PySem.EqMixed.eq_str_bool (fin_bl I q (by simp))
  | int j=>obtain ⟨t',rfl⟩:=ry;exact PySem.EqMixed.eq_str_int (fin_bl I q (by simp))
  | str j=>obtain ⟨t',rfl⟩:=ry;exact eq_str (fin_bl I q dec_str)
  | _=>exact absurd (show false=true from hs) N0d
 | byt i =>
  obtain ⟨t,rfl⟩:=rx
  cases y with
  | byt j=>obtain ⟨t',rfl⟩:=ry;exact PySem.W.eq_bytes (fin_bl I q q6W)
  | _=>exact absurd (show false=true from hs) N0d
 | _=>cases y<;>exact absurd (show false=true from hs) N0d
theorem z4L:OpR X (compareOp .NotEq) rNe:=by
 intro pins s σ H x y v u Q I rx ry h
 obtain ⟨hs,q⟩:=h
 cases x with
 | non =>
  cases rx
  cases y with
  | non=>cases ry;exact PySem.EqNone.ne_none_none (fin_bl I q (by simp))
  | bl j=>cases ry;exact PySem.EqNone.ne_none_bool (fin_bl I q (by simp))
  | int j=>obtain ⟨t',rfl⟩:=ry;exact PySem.EqNone.ne_none_int (fin_bl I q (by simp))
  | str j=>obtain ⟨t',rfl⟩:=ry;exact PySem.EqNone.ne_none_str (fin_bl I q (by simp))
  | _=>exact absurd (show false=true from hs) N0d
 | bl i =>
  cases rx
  cases y with
  | non=>cases ry;exact PySem.EqNone.ne_bool_none (fin_bl I q (by simp))
  | bl j=>cases ry;exact ne_bool (fin_bl I q (congrArg not dec_bl))
  | str j=>obtain ⟨t',rfl⟩:=ry;exact PySem.EqMixed.ne_bool_str (fin_bl I q (by simp))
  | _=>exact absurd (show false=true from hs) N0d
 | int i =>
  obtain ⟨t,rfl⟩:=rx
  cases y with
  | non=>cases ry;exact PySem.EqNone.ne_int_none (fin_bl I q (by simp))
  | int j=>obtain ⟨t',rfl⟩:=ry;exact ne_int (fin_bl I q (congrArg not dec_int))
  | str j=>obtain ⟨t',rfl⟩:=ry;exact PySem.EqMixed.ne_int_str (fin_bl I q (by simp))
  | _=>exact absurd (show false=true from hs) N0d
 | str i =>
  obtain ⟨t,rfl⟩:=rx
  cases y with
  | non=>cases ry;exact PySem.EqNone.ne_str_none (fin_bl I q (by simp))
  | bl j=>cases ry;exact PySem.EqMixed.ne_str_bool (fin_bl I q (by simp))
  | int j=>obtain ⟨t',rfl⟩:=ry;exact PySem.EqMixed.ne_str_int (fin_bl I q (by simp))
  | str j=>obtain ⟨t',rfl⟩:=ry;exact ne_str (fin_bl I q (congrArg not dec_str))
  | _=>exact absurd (show false=true from hs) N0d
 | byt i =>
  obtain ⟨t,rfl⟩:=rx
  cases y with
  | byt j=>obtain ⟨t',rfl⟩:=ry;exact PySem.W.ne_bytes (fin_bl I q (congrArg not q6W))
  | _=>exact absurd (show false=true from hs) N0d
 | _=>cases y<;>exact absurd (show false=true from hs) N0d
theorem q68:OpR X (compareOp .Lt) (rI0 λ i j=>.bl (decide (i<j))):=z3U λ o_ o_ o_ o_ o_ o_ o_ q=>lt_int q
theorem z4M:OpR X (compareOp .LtE) (rI0 λ i j=>.bl (decide (i<=j))):=z3U λ o_ o_ o_ o_ o_ o_ o_ q=>le_int q
theorem q0w:OpR X (compareOp .Gt) (rI0 λ i j=>.bl (decide (j<i))):=z3U λ o_ o_ o_ o_ o_ o_ o_ q=>gt_int q
theorem z4N:OpR X (compareOp .GtE) (rI0 λ i j=>.bl (decide (j<=i))):=z3U λ o_ o_ o_ o_ o_ o_ o_ q=>ge_int q
theorem OpR.or {f:Value->Value->Sem Value}{r r':R2}(h:OpR X f r) (h':OpR X f r'):OpR X f (λ x y H Q=>r x y H Q\/r' x y H Q):=by
 intro pins s σ H x y v u Q I rx ry q
 rcases q with q | q
 ·exact h pins s σ H x y v u Q I rx ry q
 ·exact h' pins s σ H x y v u Q I rx ry q
theorem Q8 (b:Expr){op:CmpOp}(h:op≠.In:=by decide) (h2:op≠.NotIn:=by decide):behindInMarks op b=false:=by
 have e1:(op==CmpOp.In)=false:=by cases op<;>first | rfl | exact absurd rfl h
 have e2:(op==CmpOp.NotIn)=false:=by cases op<;>first | rfl | exact absurd rfl h2
 cases b<;>simp [behindInMarks,e1,e2]
theorem z0L {op:CmpOp}{r:R2}(ho:OpR X (compareOp op) r) (ha:PE X a ta) (hb:PE X b tb) (hm:behindInMarks op b=false):PE X (.Compare a [op] [b] pos) (tOp r ta tb):=by
 intro pins s σ H Q I h
 exact wpAny_Compare1 (z4H ha hb I h λ v u s2 x y H2 I2 rx ry q=>ho pins s2 σ H2 x y v u Q I2 rx ry q) hm
noncomputable def z4O (t:TE):TT:=λ σ H Q=>t σ H λ x H'=>∃ k,x=.bl k/\Q k H'
theorem q4s {op:CmpOp}{r:R2}(ho:OpR X (compareOp op) r) (ha:PE X a ta) (hb:PE X b tb) (hm:behindInMarks op b=false):PT X (.Compare a [op] [b] pos) (z4O (tOp r ta tb)):=by
 intro pins s σ H Q I h
 refine wpAny_isTrue_Compare1 (thx (ha pins s σ H _ I h) λ v s1 x H1 I1 r1 q1=>thx (hb pins s1 σ H1 _ I1 q1) λ u s2 y H2 I2 r2 q2 =>
  thx (ho pins s2 σ H2 x y v u _ I2 r1 r2 q2) λ c s3 z H3 I3 r3 ⟨k,e,q3⟩=>?_) hm
 subst e
 cases r3
 exact wpAny_truthy_bool ⟨H3,I3,q3⟩
noncomputable def z2s (r r':R2) (ta tb tc:TE):TE:=λ σ H Q=>ta σ H λ x H1=>tb σ H1 λ y H2=>r x y H2 λ z H3=>∃ k,z=.bl k /\
 (if k=true then tc σ H3 λ w' H4=>r' y w' H4 Q else Q (.bl false) H3)
theorem q90 {op op':CmpOp}{r r':R2}(ho:OpR X (compareOp op) r) (ho':OpR X (compareOp op') r') (ha:PE X a ta) (hb:PE X b tb) (hc:PE X c tc)
 (hm:lastMarks [op,op'] [b,c]=false:=by with_unfolding_all rfl):PE X (.Compare a [op,op'] [b,c] pos) (z2s r r' ta tb tc):=by
 intro pins s σ H Q I h
 refine Compare_chain (thx (ha pins s σ H _ I h) λ v s1 x H1 I1 r1 q1=>chain_link (thx (hb pins s1 σ H1 _ I1 q1) λ u s2 y H2 I2 r2 q2 =>
  thx (ho pins s2 σ H2 x y v u _ I2 r1 r2 q2) λ d s3 z H3 I3 r3 ⟨k,e,q3⟩=>?_)) hm
 subst e
 cases r3
 refine wpAny_truthy_bool ?_
 cases k with
 | false=>exact ite_ff ⟨.bl false,H3,I3,rfl,q3⟩
 | true=>exact ite_tt (chain_last (thx (hc pins s3 σ H3 _ I3 q3) λ w' s4 z' H4 I4 r4 q4=>ho' pins s4 σ H4 y z' u w' Q I4 r2 r4 q4))
noncomputable def z6y (K:PySem.W.Frag) (x:V) (H:Hp) (k:Bool):Prop :=
 match x with
 | .non=>k=false
 | .bl b=>k=b
 | .int i=>k=(i != 0)
 | .str y=>y.length<=sizeLine/\k=((y.length:Int) != 0)
 | .byt y=>y.size<=sizeLine/\k=((y.size:Int) != 0)
 | .ref p=>(∃ xs,SqL K H p xs/\k = !xs.isEmpty)\/(∃ xs,SqT K H p xs/\k = !xs.isEmpty)\/∃ kvs,H p=some (.dK kvs)/\k = !kvs.isEmpty
 | _=>False
theorem q69 {κ:Type}{kvs:List (κ×V)}{vs:List (κ×Value)}(r:KV kvs vs):(!vs.isEmpty) = !kvs.isEmpty:=by
 cases r<;>rfl
theorem q2g {xs:List V}{its:List Value}(r:Vals xs its):(!its.toArray.isEmpty) = !xs.isEmpty:=by
 cases r<;>simp
theorem q1B:(sizeLine:Nat)<2 ^ 63:=by rw [sizeLine_eq];decide
theorem z2t:TruR X (λ x H Q=>∃ k,z6y X.K x H k/\Q k H):=by
 intro pins s σ H x v Q I rx h
 obtain ⟨k,e,q⟩:=h
 have hl:=q1B
 have hs:sizeLine=16777216:=sizeLine_eq
 cases x with
 | non =>
  cases rx
  have e':k=false:=e
  subst e'
  exact truthy_none ⟨H,I,q⟩
 | bl b =>
  cases rx
  have e':k=b:=e
  subst e'
  exact wpAny_truthy_bool ⟨H,I,q⟩
 | int i =>
  obtain ⟨t,rfl⟩:=rx
  have e':k=(i != 0):=e
  subst e'
  exact PySem.P.truthy_int ⟨H,I,q⟩
 | str y =>
  obtain ⟨t,rfl⟩:=rx
  obtain ⟨hy,e'⟩:y.length<=sizeLine/\k=((y.length:Int) != 0):=e
  subst e'
  exact PySem.P.truthy_str (by lia) ⟨H,I.tok _,q⟩
 | byt y =>
  obtain ⟨t,rfl⟩:=rx
  obtain ⟨hy,e'⟩:y.size<=sizeLine/\k=((y.size:Int) != 0):=e
  subst e'
  exact PySem.W.truthy_bytes (by omega) ⟨H,I.tok _,q⟩
 | ref p =>
  cases rx
  have e':(∃ xs,SqL X.K H p xs/\k = !xs.isEmpty)\/(∃ xs,SqT X.K H p xs/\k = !xs.isEmpty)\/∃ kvs,H p=some (.dK kvs)/\k = !kvs.isEmpty:=e
  rcases e' with ⟨xs,hx,e'⟩ | ⟨xs,hx,e'⟩ | ⟨kvs,hx,e'⟩
  ·subst e'
   obtain ⟨its,r,pl,hz⟩:=I.list hx
   have hlen:=r.length
   exact wpAny_truthy_list pl.isList (by simp only [N0m];lia) ⟨H,I.tok _,by rw [q2g r];exact q⟩
  ·subst e'
   obtain ⟨its,r,pl,hz⟩:=I.tuple hx
   have hlen:=r.length
   exact truthy_tuple pl (by simp only [N0m];lia) ⟨H,I.tok _,by rw [q2g r];exact q⟩
  ·subst e'
   obtain ⟨hz,hS,vs,r,m⟩:kvs.length<=sizeLine/\(p==sysModules)=false/\∃ vs,KV kvs vs/\s.heap.DictOf (mixKind X.prog X.w) p vs:=I.hok p _ hx
   have hlen:kvs.length=vs.length:=Paired.length r
   exact wpAny_truthy_dict hS m (by lia) ⟨H,I.tok _,by rw [q69 r];exact q⟩
 | _=>exact (show False from e).elim
theorem q91 (ha:PE X a ta) (he:∀ whole,isTrue a X.env whole=(do let v <- whole;standAt a.pos;holding [v] (truthy v))) :
 PT X a (λ σ H Q=>ta σ H λ x H'=>∃ k,z6y X.K x H' k/\Q k H'):=by
 intro pins s σ H Q I h
 exact isTrue_plain (thx (ha pins s σ H _ I h) λ v s1 x H1 I1 r1 q1=>z2t pins s1 σ H1 x v Q I1 r1 q1) (he _)
theorem q2h:OpR X (binaryOp .Add) (λ x y H Q=>∃ i j,x=.str i/\y=.str j/\i.length+j.length<=sizeLine/\Q (.str (i++j)) H):=by
 intro pins s σ H x y v u Q I rx ry h
 obtain ⟨i,j,rfl,rfl,hz,q⟩:=h
 obtain ⟨t,rfl⟩:=rx
 obtain ⟨t',rfl⟩:=ry
 exact add_str (λ t' tk=>⟨.str (i++j),H,I.tok _,⟨_,rfl⟩,q⟩) hz
theorem q4t {x:V}{us:List Value}(r:Vals [x] us):∃ u,us=[u]/\y4 x u:=by
 cases r with
 | cons r1 r2=>cases r2;exact ⟨_,rfl,r1⟩
theorem q3z:X8 X (.type "str") (λ xs H Q=>∃ i,xs=[.int i]/\i.natAbs.log2<1920/\Q (.str (toString i)) H):=by
 intro pins s σ H xs us Q I r h
 obtain ⟨i,rfl,hz,q⟩:=h
 obtain ⟨u,rfl,t,rfl⟩:=q4t r
 exact PySem.P.str_of_int hz ⟨.str _,H,I.tok _,⟨_,rfl⟩,q⟩
end
structure ObjM (h:Heap) (x dx C:Addr) (mA:Str->Option Value):Prop where
 obj:h.get? x=some (PySem.W.instObj C dx)
 ns:h.Ns1 dx mA
 ne:dx≠x
set_option tactic.hygienic true in
theorem q6X {h:Heap}{dx:Addr}{mA:Str->Option Value}(n:h.Ns1 dx mA):∃ od,h.get? dx=some od/\∀ name,PySem.W.lookIn name od=some (mA name):=by
 obtain ⟨o,es,ep,ho,hd,hk,_,hm⟩:=n
 refine ⟨o,ho,λ name=>?_⟩
 have e:=hm name
 unfold nsFind findBy at e
 rw [<- Array.find?_toList] at e
 unfold PySem.W.lookIn
 rw [hd]
 dsimp only
 split
 ·rename_i y q
  rw [q] at e
  exact congrArg some e
 ·rename_i q
  rw [q] at e
  have a:es.toList.any (·.refKey)=false:=by
   rw [List.any_eq_false]
   intro y hy
   obtain ⟨z,t,hkey⟩:=hk y (Array.mem_toList_iff.mp hy)
   simp [DictEntry.refKey,hkey]
  have a':¬ es.toList.any (·.refKey)=true:=by rw [a];exact N0d
  rw [N0l a']
  exact congrArg some e
theorem ObjM.look {h:Heap}{x dx C:Addr}{mA:Str->Option Value}(I:ObjM h x dx C mA):∃ od,PySem.W.InstAt h x (PySem.W.instObj C dx) C (some od)/\∀ name,PySem.W.lookIn name od=some (mA name) :=
 let ⟨od,ho,hl⟩:=q6X I.ns
 ⟨od,⟨I.obj,rfl,rfl,ho⟩,hl⟩
section
variable {prog:Program}{w:World}{A:Around}{E:Value->Shared->Prop}{s:Shared}{K:PySem.W.Frag}{x dx C f:Addr}{mA:Str->Option Value}{name:Str}{v:Value}
theorem z0M {expr:Bool}{Q:Value->Shared->Prop}(X:K.In s.heap) (I:ObjM s.heap x dx C mA) (hg:PySem.W.plainGet K C name=true) (hh:PySem.W.hasDictIn K C=true)
 (ha:PySem.W.findIn K (.ref C) name=some none) (hv:mA name=some v) (hv':PySem.W.handedIn v=true) (h:Q v { s with toks:=s.toks+1 }) :
 wpAny (model prog w) A (getAttr (.ref x) name expr) Q E s:=by
 obtain ⟨od,J,hl⟩:=I.look
 exact PySem.W.get_value X J (PySem.W.plainGet_of hg).1 (PySem.W.findObj_own hh ha rfl (by rw [hl,hv])) hv' h
theorem q92 {pl:Sem Bool}{Q:Value×List Value->Shared->Prop}(X:K.In s.heap) (I:ObjM s.heap x dx C mA) (hg:PySem.W.plainGet K C name=true)
 (hf:PySem.W.findIn K (.ref C) name=some (some (.ref f))) (ht:PySem.W.isFn K (.ref f)=true) (hv:mA name=none) (h:Q (.ref f,[.ref x]) s) :
 wpAny (model prog w) A (getMethod (.ref x) name pl) Q E s:=by
 obtain ⟨od,J,hl⟩:=I.look
 exact PySem.W.method_fn X J (PySem.W.plainGet_of hg).1 (PySem.W.plainGet_of hg).2 hf (beq_iff_eq.mp ht) (by show (PySem.W.lookIn name od).map (·.isSome)=some false;rw [hl,hv];rfl) h
theorem z0N {ns:List Str}{Q:Unit->Shared->Prop}(X:K.In s.heap) (I:ObjM s.heap x dx C mA)
 (hs:PySem.W.findIn K (.ref C) "__setattr__" = some (some (.builtin "object.__setattr__"))) (hp:PySem.W.plainOver K C=true) (ht:PySem.W.takerIn K C name=some none) (hh:PySem.W.hasDictIn K C=true)
 (hw:PySem.Within mA ns) (hsz:ns.length<=sizeLine)
 (h:∀ h',ObjM h' x dx C (λ y=>if y=name then some v else mA y)->Heap.SameBut dx s.heap h'->Q () { s with heap:=h',toks:=s.toks+2 }) :
 wpAny (model prog w) A (setAttr (.ref x) name v) Q E s:=by
 obtain ⟨od,J,hl⟩:=I.look
 refine PySem.W.set_plain X J hs (PySem.W.osa_open (s:={ s with toks:=s.toks+1 }) (r:=none) X J hp ht λ b=>?_)
 obtain ⟨cd,hc,hd'⟩:=PySem.W.any_some hh
 have hx:s.heap.get? x=some ⟨.ref C,some dx,.plain,#[]⟩:=I.obj
 refine N03 (N0y (N03 (N03 (wpAny_loadPart hx (N03 (PySem.W.Looks.here (s:={ s with toks:=s.toks+1 }) (PySem.W.looks_clsIn X hc) ?_))))))
 rw [hd']
 refine N0y (a:=some dx) (N03 (N0y (N03 ?_)))
 refine wpAny_nsSet1 (s:={ s with toks:=s.toks+1 }) I.ns λ h' hn2 hs2=>?_
 obtain ⟨oD,esD,epD,hoD,hdD,hcD⟩:=hn2.count (PySem.Within.cons name v hw)
 refine N03 (wpAny_lookBehind hoD (by rw [hdD];exact pastItsLine_dict (N0v hcD (by rw [N0h];simp_all))) ?_)
 exact N0y (h _ ⟨(hs2.2 _ (N1f I.ne)).trans I.obj,hn2,I.ne⟩ hs2)
theorem q93 {R:Result->Shared->Prop}{vs:List Value}{kw:List (Str×Value)}(X:K.In s.heap) (hm:PySem.W.makesIn K C=true)
 (hi:PySem.W.findIn K (.ref C) "__init__" = some (some (.ref f))) (hf:PySem.W.typeIn K (.ref f)=some (.type "function"))
 (h:codeAny (model prog w) (A.under (.builtin "type.__call__" ⟨.ref C::vs,kw⟩)) (.call (.ref f) ⟨.ref (s.heap.objs.size+1)::vs,kw⟩) (PySem.W.InitBack (s.heap.objs.size+1) R)
  { s with heap:=(s.heap.push PySem.W.emptyDict).push (PySem.W.instObj C s.heap.objs.size) }) :
 codeAny (model prog w) A (.call (.ref C) ⟨vs,kw⟩) R s:=by
 obtain ⟨hh,g,d,t,os⟩:=s
 exact PySem.W.make_core (PySem.W.makes_of X hm) (PySem.W.looks_findIn X hi) (λ self=>PySem.W.bind_fn X self hf) (.inl rfl) h
end
noncomputable def q4p (f:Str) (v:V):List (Str×V)->List (Str×V)
 | []=>[(f,v)]
 | (g,x)::r=>if g=f then (g,v)::r else (g,x)::q4p f v r
theorem q1C (f g:Str) (v:V):∀ fs:List (Str×V),(q4p f v fs).lookup g=if g=f then some v else fs.lookup g
 | []=>by
  show List.lookup g [(f,v)]=_
  by_cases h:g=f
  ·have hb:(g==f)=true:=beq_iff_eq.mpr h
   simp only [List.lookup,hb,N0j h]
  ·have hb:(g==f)=false:=N18.mpr h
   simp only [List.lookup,hb,N0l h]
 | (k,x)::r=>by
  have ih:=q1C f g v r
  rw [show q4p f v ((k,x)::r)=(if k=f then (k,v)::r else (k,x)::q4p f v r) from rfl]
  by_cases hk:k=f
  ·rw [N0j hk]
   by_cases h:g=k
   ·have hb:(g==k)=true:=beq_iff_eq.mpr h
    simp only [List.lookup,hb,N0j (h.trans hk)]
   ·have hb:(g==k)=false:=N18.mpr h
    simp only [List.lookup,hb,N0l (λ e:g=f=>h (e.trans hk.symm))]
  ·rw [N0l hk]
   by_cases h:g=k
   ·have hb:(g==k)=true:=beq_iff_eq.mpr h
    simp only [List.lookup,hb,N0l (λ e:g=f=>hk (h.symm.trans e))]
   ·have hb:(g==k)=false:=N18.mpr h
    simp only [List.lookup,hb]
    exact ih
theorem q1D (f:Str) (v:V):∀ fs:List (Str×V),f∈(q4p f v fs).map (·.1)/\∀ g,g∈fs.map (·.1)->g∈(q4p f v fs).map (·.1)
 | []=>⟨by simp [q4p],λ g h=>by simp at h⟩
 | (k,x)::r=>by
  obtain ⟨i1,i2⟩:=q1D f v r
  rw [show q4p f v ((k,x)::r)=(if k=f then (k,v)::r else (k,x)::q4p f v r) from rfl]
  by_cases hk:k=f
  ·rw [N0j hk]
   subst hk
   exact ⟨by simp,λ g h=>by simpa using h⟩
  ·rw [N0l hk]
   refine ⟨?_,λ g h=>?_⟩
   ·rw [N09]
    exact N02 _ i1
   ·rw [N09] at h ⊢
    rcases N0c.mp h with e | e
    ·exact N0c.mpr (.inl e)
    ·exact N02 _ (i2 g e)
theorem q1E (f:Str) (v:V):∀ fs:List (Str×V),(q4p f v fs).length<=fs.length+1
 | []=>by simp [q4p]
 | (k,x)::r=>by
  have ih:=q1E f v r
  rw [show q4p f v ((k,x)::r)=(if k=f then (k,v)::r else (k,x)::q4p f v r) from rfl]
  by_cases hk:k=f
  ·rw [N0j hk,N0h,N0h];simp
  ·rw [N0l hk,N0h,N0h];simp_all
theorem q4o.some_of {v:V}{o:Option Value}(r:q4o (some v) o):∃ u,o=some u/\y4 v u:=by
 cases o with
 | none=>exact (show False from r).elim
 | some u=>exact ⟨u,rfl,r⟩
theorem q4o.none_of {o:Option Value}(r:q4o none o):o=none:=by
 cases o with
 | none=>rfl
 | some u=>exact (show False from r).elim
theorem q6Y {v:V}{u:Value}(r:y4 v u):PySem.W.handedIn u=true:=by
 cases v with
 | non=>cases (show u=Value.none from r);rfl
 | bl b=>cases (show u=Value.bool b from r);rfl
 | int i=>obtain ⟨t,e⟩:=(show ∃ t,u=Value.int i t from r);cases e;rfl
 | str x=>obtain ⟨t,e⟩:=(show ∃ t,u=Value.str x t from r);cases e;rfl
 | byt b=>obtain ⟨t,e⟩:=(show ∃ t,u=Value.bytes b t from r);cases e;rfl
 | flt b=>obtain ⟨t,e⟩:=(show ∃ t,u=Value.float b t from r);cases e;rfl
 | ref a=>cases (show u=Value.ref a from r);rfl
 | ty n=>cases (show u=Value.type n from r);rfl
section
variable {P:Program}{w:World}{H H':Hp}{h h':Heap}{a C dx:Addr}{fs fs':List (Str×V)}
theorem q4u (hok:HOk P w H h) (e:H a=some (.ins C dx fs)):∃ mA,ObjM h a dx C mA/\(∀ f,q4o (fs.lookup f) (mA f))/\PySem.Within mA (fs.map (·.1))/\fs.length<=1000/\H dx=some (.own a):=by
 obtain ⟨d,z,ne,ob,mA,n,r,q⟩:=(show X3 P w H h a (.ins C dx fs) from hok a _ e)
 exact ⟨mA,⟨ob,n,ne⟩,r,q,z,d⟩
end
structure Cls (K:PySem.W.Frag) (C:Addr):Prop where
 pg:PySem.W.plainGet K C Str.empty=true
 hd:PySem.W.hasDictIn K C=true
 po:PySem.W.plainOver K C=true
 sa:PySem.W.findIn K (.ref C) "__setattr__" = some (some (.builtin "object.__setattr__"))
theorem Cls.get {K:PySem.W.Frag}{C:Addr}(c:Cls K C) (f:Str):PySem.W.plainGet K C f=true:=c.pg
noncomputable def X1 (K:PySem.W.Frag) (C:Addr) (f:Str):Prop:=PySem.W.findIn K (.ref C) f=some none
theorem X1.taker {K:PySem.W.Frag}{C:Addr}{f:Str}(n:X1 K C f):PySem.W.takerIn K C f=some none:=by
 unfold PySem.W.takerIn
 rw [show PySem.W.findIn K (.ref C) f=some none from n]
 rfl
structure Con (K:PySem.W.Frag) (C:Addr) (f:Str) (v:V) (u:Value):Prop where
 at_:PySem.W.findIn K (.ref C) f=some (some u)
 rel:y4 v u
 get:PySem.W.specialIn K u "__get__" = some none
 cp:PySem.W.copiedNames.contains f=false
structure Meth (K:PySem.W.Frag) (C:Addr) (m:Str) (f:Addr):Prop where
 at_:PySem.W.findIn K (.ref C) m=some (some (.ref f))
 fn:PySem.W.isFn K (.ref f)=true
 kp:PySem.W.keepIn K (.ref f)=true
section
variable {X:Cx}{pins:List (Addr×Obj)}{σ:St}{H:Hp}{s:Shared}{a C dx:Addr}{fs:List (Str×V)}{f:Str}{v:V}{A:Around}{E:Value->Shared->Prop}
theorem q6a {b:Bool}{Q:Value->Shared->Prop}(I:Inv X pins σ H s) (e:H a=some (.ins C dx fs)) (c:Cls X.K C) (n:X1 X.K C f) (l:fs.lookup f=some v)
 (h:∀ u s',Inv X pins σ H s'->y4 v u->Q u s'):wpAny (model X.prog X.w) A (getAttr (.ref a) f b) Q E s:=by
 obtain ⟨mA,O,r,_,_,_⟩:=q4u I.hok e
 obtain ⟨u,hu,ru⟩:=q4o.some_of (v:=v) (o:=mA f) (by rw [<- l];exact r f)
 exact z0M I.kIn O (c.get f) c.hd n hu (q6Y ru) (h u _ (I.tok _) ru)
theorem q2i {m:Str}{g:Addr}{pl:Sem Bool}{Q:Value×List Value->Shared->Prop}(I:Inv X pins σ H s) (e:H a=some (.ins C dx fs)) (c:Cls X.K C) (k:Meth X.K C m g) (l:fs.lookup m=none)
 (h:Q (.ref g,[.ref a]) s):wpAny (model X.prog X.w) A (getMethod (.ref a) m pl) Q E s:=by
 obtain ⟨mA,O,r,_,_,_⟩:=q4u I.hok e
 have hn:mA m=none:=q4o.none_of (by rw [<- l];exact r m)
 exact q92 I.kIn O (c.get m) k.at_ k.fn hn h
theorem q6b {y:V}{u:Value}{Q:Unit->Shared->Prop}(I:Inv X pins σ H s) (e:H a=some (.ins C dx fs)) (c:Cls X.K C) (n:X1 X.K C f) (hl:fs.length<1000) (ry:y4 y u)
 (h:∀ s',Inv X pins σ (upd H a (.ins C dx (q4p f y fs))) s'->Q () s'):wpAny (model X.prog X.w) A (setAttr (.ref a) f u) Q E s:=by
 obtain ⟨mA,O,r,wi,_,ho⟩:=q4u I.hok e
 have hz:(fs.map (·.1)).length<=sizeLine:=by rw [N01,sizeLine_eq];omega
 refine z0N I.kIn O c.sa c.po n.taker c.hd wi hz λ h' O' sb=>h _ ?_
 have hd:∃ o,h'.get? dx=some o:=let ⟨o,_,_,e',_⟩:=O'.ns;⟨o,e'⟩
 refine I.write (x:=a) (e:=dx) (by rw [e];exact True.intro) (.inr ho) (λ b q hb z=>(sb.2 b hb).trans z) hd ?_
 refine ⟨by rw [Z2 O.ne];exact ho,?_,O.ne,O'.obj,_,O'.ns,λ g=>?_,λ g hg=>?_⟩
 ·have:=q1E f y fs;lia
 ·show q4o ((q4p f y fs).lookup g) (if g=f then some u else mA g)
  rw [q1C]
  by_cases q:g=f
  ·rw [N0j q,N0j q];exact ry
  ·rw [N0l q,N0l q];exact r g
 ·by_cases q:g=f
  ·rw [q];exact (q1D f y fs).1
  ·refine (q1D f y fs).2 g (wi g λ z=>hg ?_)
   show (if g=f then some u else mA g)=none
   rw [N0l q];exact z
theorem Inv.made (I:Inv X pins σ H s):Inv X pins σ (upd (upd H s.heap.objs.size (.own (s.heap.objs.size+1))) (s.heap.objs.size+1) (.ins C s.heap.objs.size []))
 { s with heap:=(s.heap.push PySem.W.emptyDict).push (PySem.W.instObj C s.heap.objs.size) }:=by
 have e1:(s.heap.push PySem.W.emptyDict).get? s.heap.objs.size=some PySem.W.emptyDict:=Heap.get?_push_size s.heap rfl
 have e2:((s.heap.push PySem.W.emptyDict).push (PySem.W.instObj C s.heap.objs.size)).get? (s.heap.objs.size+1)=some (PySem.W.instObj C s.heap.objs.size):=by
  have:=Heap.get?_push_size (s.heap.push PySem.W.emptyDict) (o:=PySem.W.instObj C s.heap.objs.size) rfl
  rwa [Heap.size_push] at this
 have e3:(s.heap.push PySem.W.emptyDict).Ns s.heap.objs.size (λ o_=>none):=⟨PySem.W.emptyDict,#[],_,e1,rfl,(λ e he=>absurd he (by simp)),λ o_=>rfl⟩
 have I1:=I.laid (a:=s.heap.objs.size) (o:=.own (s.heap.objs.size+1)) (h':=s.heap.push PySem.W.emptyDict) (t':=s.toks) (λ b u q=>Heap.get?_push_of_some _ q) (N07 _) ⟨_,e1⟩
 refine I1.laid (a:=s.heap.objs.size+1) (o:=.ins C s.heap.objs.size []) (t':=s.toks) (λ b u q=>Heap.get?_push_of_some _ q) (Nat.le_of_eq (Heap.size_push _ _)) ?_
 have ne:s.heap.objs.size≠s.heap.objs.size+1:=N12 (Nat.lt_succ_self _)
 refine ⟨by rw [Z2 ne,Z0],N1b _,ne,e2,λ o_=>none,(Heap.Ns1.of_empty e3).at λ o q=>Heap.get?_push_of_some _ q,λ o_=>True.intro,λ y hy=>absurd rfl hy⟩
theorem z0O {prog:Program}{w:World}{env:Env}{e:Expr}{f:Str}{pos:Pos}{s:Shared}{Q:Value->Shared->Prop}(hb:attributeBase e f env (eval e env)=eval e env)
 (h:wpAny (model prog w) A (eval e env) (λ o s₁=>wpAny (model prog w) A (getAttr o f true) Q E s₁) E s):wpAny (model prog w) A (eval (.Attribute e f pos) env) Q E s :=
 Attribute_any_ h (by rw [arm_eval_Attribute,hb])
end
noncomputable def tFld (K:PySem.W.Frag) (ta:TE) (f:Str):TE:=λ σ H Q=>ta σ H λ x H1=>∃ a C dx fs v,x=.ref a/\H1 a=some (.ins C dx fs)/\Cls K C/\X1 K C f/\fs.lookup f=some v/\Q v H1
noncomputable def sFld (K:PySem.W.Frag) (ta tv:TE) (f:Str):TS:=λ D σ H=>tv σ H λ y H1=>ta σ H1 λ x H2=>∃ a C dx fs,x=.ref a/\H2 a=some (.ins C dx fs)/\Cls K C/\X1 K C f/\fs.length<1000 /\
 D.nx σ (upd H2 a (.ins C dx (q4p f y fs)))
section
variable {X:Cx}{o e value:Expr}{f:Str}{pos pos' tpos:Pos}{ta tv:TE}
theorem z06 (he:PE X e ta) (hb:attributeBase e f X.env (eval e X.env)=eval e X.env):PE X (.Attribute e f pos) (tFld X.K ta f):=by
 intro pins s σ H Q I h
 refine z0O hb (thx (he pins s σ H _ I h) λ u s1 x H1 I1 rx hx_=>?_)
 obtain ⟨a,C,dx,fs,v,ex,ea,c,n,l,q⟩:=hx_
 subst ex
 obtain rfl:u=Value.ref a:=rx
 exact q6a I1 ea c n l λ u' s2 I2 ru=>⟨v,H1,I2,ru,q⟩
theorem z2u (ha:PE X o ta) (hv:PE X value tv) (hs:swapsWith value (some (.Attribute o f pos')) pos.line X.env=pure false):PS X (.Assign [.Attribute o f pos'] value pos) (sFld X.K ta tv f):=by
 intro pins s σ H D I h
 refine plainObj_wpAny_Assign_Attribute (thx (hv pins s σ H _ I h) λ u s1 y H1 I1 ry q=>thx (ha pins s1 σ H1 _ I1 q) λ ov s2 x H2 I2 rx hx_=>?_) hs
 obtain ⟨a,C,dx,fs,ex,ea,c,n,l,q2⟩:=hx_
 subst ex
 obtain rfl:ov=Value.ref a:=rx
 exact q6b I2 ea c n l ry λ s3 I3=>⟨σ,_,I3,q2⟩
end
section
variable {X:Cx}{pins:List (Addr×Obj)}{σ:St}{H:Hp}{s:Shared}{A:Around}{E:Value->Shared->Prop}{Q:Value->Shared->Prop}{c:Value}{b:Bool}
inductive TyOf (K:PySem.W.Frag) (H:Hp):V->Value->Prop where
 | non:TyOf K H .non (.type "NoneType")
 | bl (x:Bool):TyOf K H (.bl x) (.type "bool")
 | int (i:Int):TyOf K H (.int i) (.type "int")
 | str (x:Str):TyOf K H (.str x) (.type "str")
 | flt (x:UInt64):TyOf K H (.flt x) (.type "float")
 | lst {a:Addr}{xs:List V}(e:H a=some (.lst xs)):TyOf K H (.ref a) (.type "list")
 | frz {a:Addr}{o:Obj}{xs:List V}(e:H a=some (.frz o (.lst xs))):TyOf K H (.ref a) (.type "list")
 | tup {a:Addr}{xs:List V}(e:H a=some (.tup xs)):TyOf K H (.ref a) (.type "tuple")
 | dK {a:Addr}{kvs:List (Key×V)}(e:H a=some (.dK kvs)):TyOf K H (.ref a) (.type "dict")
 | dT {a:Addr}{kvs:List (List Key×V)}(e:H a=some (.dT kvs)):TyOf K H (.ref a) (.type "dict")
 | ins {a C dx:Addr}{fs:List (Str×V)}(e:H a=some (.ins C dx fs)) (cl:Cls K C) (ha:PySem.W.findIn K (.ref C) "__class__" = some (some (.builtin "object.__class__")))
  (hn:PySem.W.specialIn K (.builtin "object.__class__") "__get__" = some (some (.builtin "getset_descriptor.__get__"))) (htk:PySem.W.takesIn K (.builtin "object.__class__")=some true)
  (hm:PySem.W.mroIn K C (.type "object")=some true):TyOf K H (.ref a) (.ref C)
end
structure Room (k:Nat) (A:Around):Prop where
 hd:A.handled=none
 dp:A.depth+3 * k+5<recursionLimit
 un:A.units+16 * k+200<cLine
theorem Room.mono {j k:Nat}{A:Around}(r:Room k A) (h:j<=k):Room j A:=⟨r.hd,by have:=r.dp;lia,by have:=r.un;lia⟩
theorem Room.deeper {k:Nat}{A:Around}(r:Room (k+1) A) (env:Env):Room k (A.deeper env) :=
 ⟨r.hd,by have:=r.dp;show A.depth+1+3 * k+5<_;lia,by have:=r.un;show A.units+3+16 * k+200<_;lia⟩
theorem q6c {A:Around}{C:Addr}{us:List Value}{kw:List (Str×Value)}:(A.under (.builtin "type.__call__" ⟨.ref C::us,kw⟩)).depth=A.depth+1:=by
 first | rfl | simp [Around.under,Code.weight,Code.isCreation,Code.isGuard,Code.isCaller,Code.frames,Code.isFrame,guardIds]
theorem q6d {A:Around}{C:Addr}{us:List Value}{kw:List (Str×Value)}:(A.under (.builtin "type.__call__" ⟨.ref C::us,kw⟩)).units=A.units+1:=by
 first | rfl | simp [Around.under,Code.cUnits,Code.frames,Code.isFrame]
theorem Room.make {k:Nat}{A:Around}(r:Room (k+1) A) (C:Addr) (us:List Value) (kw:List (Str×Value)):Room k (A.under (.builtin "type.__call__" ⟨.ref C::us,kw⟩)) :=
 ⟨r.hd,by have:=r.dp;rw [q6c];lia,by have:=r.un;rw [q6d];lia⟩
theorem Room.depth {k:Nat}{A:Around}(r:Room k A):A.depth<recursionLimit:=by have:=r.dp;lia
theorem Room.units {k:Nat}{A:Around}(r:Room k A):A.units+64<cLine:=by have:=r.un;lia
noncomputable def tNil:TA:=λ o_ H Q=>Q [] H
noncomputable def tCons (ta:TE) (tr:TA):TA:=λ σ H Q=>ta σ H λ x H1=>tr σ H1 λ xs H2=>Q (x::xs) H2
section
variable {X:Cx}{e:Expr}{es:List Expr}{te:TE}{t:TA}{pos:Pos}
theorem q0B:PA X [] tNil:=λ o_ o_ o_ o_ H Q I h=>Calls.spliced_nil ⟨[],H,I,.nil,h⟩
theorem W3 (ha:PE X e te) (hr:PA X es t) (hs:starEach (e::es) X.env=(false,eval e X.env)::starEach es X.env:=by rfl):PA X (e::es) (tCons te t):=by
 intro pos pins s σ H Q I h
 rw [hs]
 show wpAny _ _ (spliced ((false,eval e X.env)::backTo pos (starEach es X.env))) _ _ s
 refine Calls.spliced_cons (thx (ha pins s σ H _ I h) λ u s1 x H1 I1 r1 q1=>?_)
 exact thx (hr pos pins s1 σ H1 _ I1 q1) λ us s2 xs H2 I2 r2 q2=>⟨x::xs,H2,I2,.cons r1 r2,q2⟩
noncomputable def tTup (t:TA):TE:=λ σ H Q=>t σ H λ xs H1=>xs.length<=sizeLine/\∀ p,H1 p=none->Q (.ref p) (upd H1 p (.tup xs))
noncomputable def z3W (t:TA):TE:=λ σ H Q=>t σ H λ xs H1=>xs.length<=sizeLine/\∀ p,H1 p=none->Q (.ref p) (upd H1 p (.lst xs))
theorem z2v {x1}(h:PA X es t):PE X (.Tuple es x1 pos) (tTup t):=by
 intro pins s σ H Q I hq
 refine wpAny_Tuple_spliced (thx (h pos pins s σ H _ I hq) λ us s1 xs H1 I1 r ⟨z,q⟩=>⟨by rw [<- r.length];exact z,?_⟩)
 have hf:H1 s1.heap.objs.size=none:=I1.hok.fresh (N07 _)
 refine ⟨.ref s1.heap.objs.size,upd H1 s1.heap.objs.size (.tup xs),I1.laid (t':=s1.toks) (λ b u e=>Heap.get?_push_of_some _ e) (N07 _) ?_,rfl,q _ hf⟩
 exact ⟨z,us,r,⟨_,Heap.get?_push_size _ rfl,rfl,_,rfl⟩⟩
theorem q5l (h:PA X es t):PE X (.List es pos) (z3W t):=by
 intro pins s σ H Q I hq
 refine wpAny_List_spliced (thx (h pos pins s σ H _ I hq) λ us s1 xs H1 I1 r ⟨z,q⟩=>⟨by rw [<- r.length];exact z,?_⟩)
 have hf:H1 s1.heap.objs.size=none:=I1.hok.fresh (N07 _)
 refine ⟨.ref s1.heap.objs.size,upd H1 s1.heap.objs.size (.lst xs),I1.laid (t':=s1.toks) (λ b u e=>Heap.get?_push_of_some _ e) (N07 _) ?_,rfl,q _ hf⟩
 exact ⟨z,us,0,r,Heap.get?_push_size _ rfl⟩
end
noncomputable abbrev Sp:=List V->Hp->VK->XK->Prop
noncomputable abbrev CXT:=List Env->Hp->Shared->XK->Value->Shared->Prop
structure Env0 (P:Program) (w:World) (K:PySem.W.Frag) (mg:Str->Option Value) (base:Heap) (A:Around) (outer:List Env) (s:Shared) (H:Hp):Prop where
 frames:A.frames=some outer
 mod:Mod K mg base
 bs:∀ b o,base.get? b=some o->s.heap.get? b=some o/\H b=none
 bsz:base.objs.size<=s.heap.objs.size
 funs:s.heap.FunFrames base outer
 frf:∀ b∈frs outer,H b=none
 hok:HOk P w H s.heap
 bare:AllBare s.gens
noncomputable def CE (outer:List Env) (P:Program) (w:World) (H:Hp) (s:Shared) (Q:VK) (u:Value) (s':Shared):Prop :=
 ∃ v H',s'.os=s.os/\AllBare s'.gens/\Un (frs outer) [] H H' s.heap s'.heap/\HOk P w H' s'.heap/\y4 v u/\Q v H'
noncomputable def CR (CX:CXT) (outer:List Env) (P:Program) (w:World) (H:Hp) (s:Shared) (Q:VK) (E:XK) (r:Result) (s':Shared):Prop :=
 match r with
 | .ok (.ret u)=>CE outer P w H s Q u s'
 | .ok _=>False
 | .error e=>CX outer H s E e s'
structure FnOk (P:Program) (w:World) (K:PySem.W.Frag) (mg:Str->Option Value) (base:Heap) (CX:CXT) (k:Nat) (f:Addr) (fd:FuncData) (ps:List Str) (sp:Sp):Prop where
 len:∀ vs H Q E,sp vs H Q E->vs.length=ps.length
 run:∀ (A:Around) (outer:List Env) (s:Shared) (H:Hp) (args:Args) (us:List Value) (vs:List V) (Q:VK) (E:XK),Room k A->Env0 P w K mg base A outer s H->BindsTo s fd args (ps.zip us)->Vals vs us->sp vs H Q E ->
  codeAny (model P w) A (.call (.ref f) args) (CR CX outer P w H s Q E) s
theorem FnOk.mono {P:Program}{w:World}{K:PySem.W.Frag}{mg:Str->Option Value}{base:Heap}{CX:CXT}{j k:Nat}{f:Addr}{fd:FuncData}{ps:List Str}{sp:Sp}(F:FnOk P w K mg base CX j f fd ps sp) (h:j<=k) :
 FnOk P w K mg base CX k f fd ps sp:=⟨F.len,λ A outer s H args us vs Q E hr=>F.run A outer s H args us vs Q E (hr.mono h)⟩
theorem FnOk.imp {P:Program}{w:World}{K:PySem.W.Frag}{mg:Str->Option Value}{base:Heap}{CX:CXT}{k:Nat}{f:Addr}{fd:FuncData}{ps:List Str}{sp sp':Sp}(F:FnOk P w K mg base CX k f fd ps sp)
 (h:∀ vs H Q E,sp' vs H Q E->sp vs H Q E):FnOk P w K mg base CX k f fd ps sp' :=
 ⟨λ vs H Q E q=>F.len vs H Q E (h _ _ _ _ q),λ A outer s H args us vs Q E hr he hb hv hs=>F.run A outer s H args us vs Q E hr he hb hv (h _ _ _ _ hs)⟩
theorem Env0.make {P:Program}{w:World}{K:PySem.W.Frag}{mg:Str->Option Value}{base:Heap}{A:Around}{outer:List Env}{s:Shared}{H:Hp}(e:Env0 P w K mg base A outer s H) (C:Addr) (us:List Value) (kw:List (Str×Value)) :
 Env0 P w K mg base (A.under (.builtin "type.__call__" ⟨.ref C::us,kw⟩)) outer s H:=⟨by first | exact e.frames | (simpa [Around.under,Code.envs,Code.isFrame,pushEnvs] using e.frames),e.mod,e.bs,e.bsz,e.funs,e.frf,e.hok,e.bare⟩
section
variable {X:Cx}{pins:List (Addr×Obj)}{σ:St}{H:Hp}{s s':Shared}
theorem Inv.env0 (I:Inv X pins σ H s):Env0 X.prog X.w X.K X.mg X.base X.A X.stack s H :=
 ⟨I.ok.frames,I.ok.mod,I.bs,N0v I.ok.bsz I.sz,I.stack,I.stkFree,I.hok,I.bare⟩
theorem Inv.after {Q:VK}{u:Value}(I:Inv X pins σ H s) (h:CE X.stack X.prog X.w H s Q u s'):EP X pins σ Q u s':=by
 obtain ⟨v,H',os,bare,un,hok,r,q⟩:=h
 obtain ⟨hh,g,d,t,os'⟩:=s'
 obtain rfl:os'=s.os:=os
 exact ⟨v,H',I.call (h':=hh) (g':=g) (d':=d) (t':=t) (ch:=[]) un hok bare (λ b z=>absurd z (by simp)),r,q⟩
end
noncomputable def z2w (sp:Sp) (dvs:List V) (E:XK) (t:TA):TE:=λ σ H Q=>t σ H λ vs H1=>sp (vs++dvs) H1 Q E
noncomputable def z0P (C:Addr) (m:Str) (sp:Sp) (dvs:List V) (E:XK) (ta:TE) (t:TA):TE:=λ σ H Q=>ta σ H λ x H1=>∃ a dx fs,x=.ref a/\H1 a=some (.ins C dx fs)/\fs.lookup m=none /\
 t σ H1 λ vs H2=>sp (x::(vs++dvs)) H2 Q E
noncomputable def z4P (C:Addr) (sp:Sp) (dvs:List V) (E:XK) (t:TA):TE:=λ σ H Q=>t σ H λ vs H1=>∀ x dx,H1 x=none->H1 dx=none->dx≠x ->
 sp (.ref x::(vs++dvs)) (upd (upd H1 dx (.own x)) x (.ins C dx [])) (λ v H2=>v=.non/\Q (.ref x) H2) E
noncomputable def X9 (K:PySem.W.Frag) (fd:FuncData) (ps:List Str) (ds:List Value):Prop :=
 ∀ (s:Shared) (us:List Value),K.In s.heap->(us++ds).length=ps.length->BindsTo s fd ⟨us,[]⟩ (ps.zip (us++ds))
theorem X9.all {K:PySem.W.Frag}{fd:FuncData}{ps:List Str}(h:∀ us:List Value,us.length=ps.length->bindArgs fd ⟨us,[]⟩=pure (ps.zip us)):X9 K fd ps []:=λ s us o_ hl=>by
 rw [N10] at hl ⊢
 exact .of_eq (h us hl)
noncomputable def Passes (CX:CXT) (X:Cx) (E:XK):Prop:=∀ (pins:List (Addr×Obj)) (σ:St) (H:Hp) (s:Shared) (e:Value) (s':Shared),Inv X pins σ H s->CX X.stack H s E e s'->X.xe e s'
section
variable {X:Cx}{CX:CXT}{k:Nat}{f C:Addr}{fd:FuncData}{ps:List Str}{sp:Sp}{dvs:List V}{ds:List Value}{E:XK}{x m:Str}{p pos apos:Pos}{e o:Expr}{es:List Expr}{ta:TE}{t:TA}
theorem z07 {pins:List (Addr×Obj)}{σ:St}{H:Hp}{s:Shared}{Q:VK}{us:List Value}{vs:List V}(F:FnOk X.prog X.w X.K X.mg X.base CX k f fd ps sp) (hr:Room k X.A) (hb:X9 X.K fd ps ds) (hd:Vals dvs ds) (hx:Passes CX X E)
 (I:Inv X pins σ H s) (r:Vals vs us) (h:sp (vs++dvs) H Q E):wpAny (model X.prog X.w) X.A (call (.ref f) us) (EP X pins σ Q) X.xe s:=by
 have r2:Vals (vs++dvs) (us++ds):=r.append hd
 have hl:(us++ds).length=ps.length:=by rw [<- r2.length];exact F.len _ _ _ _ h
 refine wpAny_call (codeAny_mono (F.run X.A X.stack s H ⟨us,[]⟩ (us++ds) (vs++dvs) Q E hr I.env0 (hb s us I.kIn hl) r2 h) λ r s' hq=>?_)
 cases r with
 | error e=>exact hx pins σ H s e s' I hq
 | ok fl =>
  cases fl with
  | ret u=>exact I.after hq
  | next=>exact False.elim hq
  | brk=>exact False.elim hq
  | cont=>exact False.elim hq
theorem q4v (F:FnOk X.prog X.w X.K X.mg X.base CX k f fd ps sp) (hr:Room k X.A) (hg:Gl X x) (hm:X.mg x=some (.ref f)) (hk:PySem.W.keepIn X.K (.ref f)=true) (hb:X9 X.K fd ps ds) (hd:Vals dvs ds) (hx:Passes CX X E)
 (ha:PA X (e::es) t) (hdb:(x==("__debug__" : Str))=false:=by decide) (he:starEach (e::es) X.env=(false,eval e X.env)::starEach es X.env:=by rfl) (hpl:(backTo pos (starEach es X.env)).any (·.1)=false:=by rfl) :
 PE X (.Call (.Name x p) (e::es) [] pos) (z2w sp dvs E t):=by
 intro pins s σ H Q I h
 refine wpAny_Call_Name_kw (U1 I hg hm ?_ hdb)
 refine PySem.W.callWith_K (h₀:=X.base) I.ok.mod.kin hk (thx (ha pos pins s σ H _ I h) λ us s1 vs H1 I1 r q=>⟨I1.kIn,?_⟩) he hpl
 exact z07 F hr hb hd hx I1 r q
theorem z0Q {pl:Sem Bool}(he:PE X o ta) (c:Cls X.K C) (hm:Meth X.K C m f) (F:FnOk X.prog X.w X.K X.mg X.base CX k f fd ps sp) (hr:Room k X.A) (hb:X9 X.K fd ps ds) (hd:Vals dvs ds) (hx:Passes CX X E) (ha:PA X (e::es) t)
 (hst:starEach (e::es) X.env=(false,eval e X.env)::starEach es X.env:=by rfl) (hpl:(backTo pos (starEach es X.env)).any (·.1)=false:=by rfl)
 (ht:eval (.Call (.Attribute o m apos) (e::es) [] pos) X.env=(do
  let ov <- eval o X.env
  standAt apos.atName
  let (f,first) <- holding [ov] (getMethod ov m pl)
  callWith pos f first (backTo pos (starEach (e::es) X.env)) (backToKw pos (keywordEach [] X.env))):=by rfl) :
 PE X (.Call (.Attribute o m apos) (e::es) [] pos) (z0P C m sp dvs E ta t):=by
 intro pins s σ H Q I h
 refine PySem.W.methodCall_KW (pl:=pl) (thx (he pins s σ H _ I h) λ u s1 x H1 I1 rx hx_=>?_) ht
 obtain ⟨a,dx,fs,ex,ea,l,q⟩:=hx_
 subst ex
 obtain rfl:u=Value.ref a:=rx
 refine q2i I1 ea c hm l ?_
 refine PySem.W.callWith_K (first:=[.ref a]) (h₀:=X.base) I.ok.mod.kin hm.kp (thx (ha pos pins s1 σ H1 _ I1 q) λ us s2 vs H2 I2 r q2=>⟨I2.kIn,?_⟩) hst hpl
 exact z07 (us:=.ref a::us) (vs:=.ref a::vs) F hr hb hd hx I2 (.cons rfl r) q2
structure Mk (K:PySem.W.Frag) (C f:Addr):Prop where
 makes:PySem.W.makesIn K C=true
 init:PySem.W.findIn K (.ref C) "__init__" = some (some (.ref f))
 fn:PySem.W.isFn K (.ref f)=true
 kp:PySem.W.keepIn K (.ref C)=true
theorem q94 {pins:List (Addr×Obj)}{σ:St}{H:Hp}{s:Shared}{Q:VK}{us:List Value}{vs:List V}(M:Mk X.K C f) (F:FnOk X.prog X.w X.K X.mg X.base CX k f fd ps sp) (hr:Room (k+1) X.A) (hb:X9 X.K fd ps ds) (hd:Vals dvs ds)
 (hx:Passes CX X E) (I:Inv X pins σ H s) (r:Vals vs us)
 (h:∀ x dx,H x=none->H dx=none->dx≠x->sp (.ref x::(vs++dvs)) (upd (upd H dx (.own x)) x (.ins C dx [])) (λ v H2=>v=.non/\Q (.ref x) H2) E) :
 wpAny (model X.prog X.w) X.A (call (.ref C) us) (EP X pins σ Q) X.xe s:=by
 have hq:=h (s.heap.objs.size+1) s.heap.objs.size (I.hok.fresh (Nat.le_succ _)) (I.hok.fresh (N07 _)) (N12 (Nat.lt_succ_self _))
 have I2:=Inv.made (C:=C) I
 have r2:Vals (V.ref (s.heap.objs.size+1)::(vs++dvs)) (Value.ref (s.heap.objs.size+1)::(us++ds)):=.cons rfl (r.append hd)
 have hl:(Value.ref (s.heap.objs.size+1)::us++ds).length=ps.length:=by
  have e:=r2.length
  rw [F.len _ _ _ _ hq] at e
  exact e.symm
 refine wpAny_call (q93 (f:=f) I.kIn M.makes M.init (beq_iff_eq.mp M.fn) (codeAny_mono (F.run _ X.stack _ _ ⟨Value.ref (s.heap.objs.size+1)::us,[]⟩ (Value.ref (s.heap.objs.size+1)::(us++ds)) _ _ E (hr.make C us [])
  (I2.env0.make C us []) (hb _ (Value.ref (s.heap.objs.size+1)::us) I2.kIn hl) r2 hq) λ r s' hq'=>?_))
 cases r with
 | error e=>exact hx pins σ _ _ e s' I2 hq'
 | ok fl =>
  cases fl with
  | ret u =>
   obtain ⟨v,H',I3,rv,ev,q3⟩:=I2.after hq'
   subst ev
   exact ⟨rv,⟨V.ref (s.heap.objs.size+1),H',I3,rfl,q3⟩⟩
  | next=>exact False.elim hq'
  | brk=>exact False.elim hq'
  | cont=>exact False.elim hq'
theorem q95 (M:Mk X.K C f) (F:FnOk X.prog X.w X.K X.mg X.base CX k f fd ps sp) (hr:Room (k+1) X.A) (hg:Gl X x) (hm:X.mg x=some (.ref C)) (hb:X9 X.K fd ps ds) (hd:Vals dvs ds) (hx:Passes CX X E)
 (hdb:(x==("__debug__" : Str))=false:=by decide):PE X (.Call (.Name x p) [] [] pos) (z4P C sp dvs E tNil):=by
 intro pins s σ H Q I h
 refine wpAny_Call_Name_kw (U1 I hg hm ?_ hdb)
 exact PySem.W.callWith_K0 I.kIn M.kp (q94 (us:=[]) M F hr hb hd hx I .nil h)
end
section
variable {X:Cx}{CX:CXT}{k:Nat}{f C:Addr}{fd:FuncData}{ps ks:List Str}{sp:Sp}{E:XK}{x m:Str}{p pos apos kpos:Pos}{e o:Expr}{es:List Expr}{kws:List Keyword}{te ta:TE}{t tk:TA}{nm:Option Str}
structure KBinds (K:PySem.W.Frag) (fd:FuncData) (ps ks:List Str) (g:List Value->List Value->List Value) (gV:List V->List V->List V):Prop where
 to:∀ (s:Shared) (us ws:List Value),K.In s.heap->(g us ws).length=ps.length->BindsTo s fd ⟨us,ks.zip ws⟩ (ps.zip (g us ws))
 rel:∀ {vs:List V}{us:List Value}{zs:List V}{ws:List Value},Vals vs us->Vals zs ws->Vals (gV vs zs) (g us ws)
variable {g:List Value->List Value->List Value}{gV:List V->List V->List V}
end
structure FnScope (N P:List Str) (sc:Scope):Prop where
 kind:sc.kind=.function
 co:sc.isCoroutine=false
 gen:sc.isGenerator=false
 nd:N.Nodup
 pre:N.take P.length=P
 par:∀ x∈P,sc.names.lookup x=some .local\/sc.names.lookup x=some .cell
 nofree:∀ y∈sc.names,y.2≠.free
theorem q3A {kindOf:Str->Option NameKind}{x:Str}:∀ {binds:List (Str×Value)}{m:Str->Option Value},(∀ v,(x,v)∉binds)->bindL kindOf binds m x=m x
 | [],_,_=>rfl
 | (n,v)::r,m,h=>by
  unfold bindL
  rw [q3A λ w hw=>h w (N02 _ hw)]
  split
  ·have:x≠n:=by rintro rfl;exact h v N00
   simp [this]
  ·rfl
theorem q3B {kindOf:Str->Option NameKind}{x:Str}:∀ {binds:List (Str×Value)}{m:Str->Option Value},(∀ v,(x,v)∉binds)->bindC kindOf binds m x=m x
 | [],_,_=>rfl
 | (n,v)::r,m,h=>by
  unfold bindC
  rw [q3B λ w hw=>h w (N02 _ hw)]
  split
  ·rfl
  ·have:x≠n:=by rintro rfl;exact h v N00
   simp [this]
theorem q3C {kindOf:Str->Option NameKind}{x:Str}{v:Value}:∀ {P:List Str}{vs:List Value}{i:Nat}{m:Str->Option Value},P.Nodup->P[i]? = some x->vs[i]? = some v->kindOf x=some .local ->
 bindL kindOf (P.zip vs) m x=some v
 | [],_,_,_,_,h,_,_=>by simp at h
 | _::_,[],_,_,_,_,h,_=>by simp at h
 | p::P,w::vs,0,m,nd,h1,h2,hk=>by
  simp at h1 h2;subst h1;subst h2
  show bindL kindOf ((p,w)::P.zip vs) m p=_
  unfold bindL
  rw [q3A λ v hv=>(List.nodup_cons.mp nd).1 (List.of_mem_zip hv).1,N0j hk]
  simp
 | p::P,w::vs,i+1,m,nd,h1,h2,hk=>by
  show bindL kindOf ((p,w)::P.zip vs) m x=_
  unfold bindL
  exact q3C (i:=i) (List.nodup_cons.mp nd).2 (by simpa using h1) (by simpa using h2) hk
theorem q3D {kindOf:Str->Option NameKind}{x:Str}{v:Value}:∀ {P:List Str}{vs:List Value}{i:Nat}{m:Str->Option Value},P.Nodup->P[i]? = some x->vs[i]? = some v->kindOf x≠some .local ->
 bindC kindOf (P.zip vs) m x=some v
 | [],_,_,_,_,h,_,_=>by simp at h
 | _::_,[],_,_,_,_,h,_=>by simp at h
 | p::P,w::vs,0,m,nd,h1,h2,hk=>by
  simp at h1 h2;subst h1;subst h2
  show bindC kindOf ((p,w)::P.zip vs) m p=_
  unfold bindC
  rw [q3B λ v hv=>(List.nodup_cons.mp nd).1 (List.of_mem_zip hv).1,N0l hk]
  simp
 | p::P,w::vs,i+1,m,nd,h1,h2,hk=>by
  show bindC kindOf ((p,w)::P.zip vs) m x=_
  unfold bindC
  exact q3D (i:=i) (List.nodup_cons.mp nd).2 (by simpa using h1) (by simpa using h2) hk
noncomputable def start (N:List Str) (vs:List V):St:=vs.map some++List.replicate (N.length - vs.length) none
noncomputable def cxOf (CX:CXT) (P:Program) (w:World) (K:PySem.W.Frag) (mg:Str->Option Value) (base:Heap) (N:List Str) (qual:Str) (scope:Scope) (f:Addr) (cd:Value) (A:Around) (outer:List Env) (s:Shared) (H:Hp) (E:XK):Cx where
 prog:=P
 w:=w
 K:=K
 mg:=mg
 base:=base
 A:=A.deeper (envOfC qual scope s.heap.objs.size f cd)
 N:=N
 s₀:=s
 H₀:=H
 env:=envOfC qual scope s.heap.objs.size f cd
 outer:=outer
 stack:=envOfC qual scope s.heap.objs.size f cd::outer
 ex:=[]
 calm:=true
 fn:=λ o_=>true
 pn:=[]
 xe:=λ e s'=>wpAny (model P w) (A.deeper (envOfC qual scope s.heap.objs.size f cd)) (leaving (envOfC qual scope s.heap.objs.size f cd) e) (λ o_ s''=>CX outer H s E e s'') (λ e' s''=>CX outer H s E e' s'') s'
theorem q5m {sc:Scope}{n:Nat}{x:Str}(h:sc.names.lookup x=some .cell):∃ c,(cellsFrom n sc.names []).lookup x=some c:=by
 have q:=PySem.W.cellsFrom_some sc.names n [] (.inl h)
 exact Option.isSome_iff_exists.mp q
theorem q3E {CX:CXT}{P:Program}{w:World}{K:PySem.W.Frag}{mg:Str->Option Value}{base:Heap}{N ps:List Str}{qual:Str}{scope:Scope}{f:Addr}{cd:Value}{A:Around}{outer:List Env}{s s1:Shared}{H:Hp}{E:XK}{us:List Value}{vs:List V}
 (S:FnScope N ps scope) (hd:A.handled=none) (e0:Env0 P w K mg base A outer s H) (hl:vs.length=ps.length) (r:Vals vs us)
 (x:InCallC s s.heap.objs.size (bindL (envOfC qual scope s.heap.objs.size f cd).kindOf (ps.zip us) λ o_=>none) (cellsFrom (s.heap.objs.size+1) scope.names []) (bindC (envOfC qual scope s.heap.objs.size f cd).kindOf (ps.zip us) λ o_=>none) s1) :
 Inv (cxOf CX P w K mg base N qual scope f cd A outer s H E) [] (start N vs) H s1:=by
 have hpl:ps.length<=N.length:=by have:=congrArg List.length S.pre;rw [N16] at this;lia
 obtain ⟨h1,tk,rfl,hk⟩:=x.done
 have noA:∀ b:Addr,b∉(cxOf CX P w K mg base N qual scope f cd A outer s H E).ex:=λ b z=>absurd (show b∈([]:List Addr) from z) (by simp)
 refine ⟨⟨e0.mod,S.kind,rfl,rfl,N07 _,λ y z c h1 h2=>?_,λ y hy=>?_,λ y c o_ h=>?_,λ o_=>hd,Around.frames_deeper e0.frames,.inr ⟨rfl,rfl⟩,λ b z=>absurd z (noA b),e0.bs,e0.bsz,λ b o_ o_=>noA b,λ b z=>absurd z (noA b),e0.funs,e0.frf⟩,
  rfl,e0.bare,Un.kept hk,⟨_,x.toInCall.ns,λ i y v h1 h2 h3=>?_⟩,λ y c h=>⟨_,x.cell y c h⟩,e0.hok.fresh (N07 _),λ y c h=>?_,λ p hp=>absurd (show p∈([]:List (Addr×Obj)) from hp) (by simp),e0.hok.kept hk,?_⟩
 ·exact name_of_addr x.apart (PySem.mem_of_lookup h1) (PySem.mem_of_lookup h2)
 ·have hy:scope.names.lookup y=some .cell\/scope.names.lookup y=some .free:=hy
  rcases hy with hy | hy
  ·exact q5m hy
  ·exact absurd rfl (S.nofree _ (PySem.mem_of_lookup hy))
 ·exact Nat.le_of_lt (x.above y c (PySem.mem_of_lookup h))
 ·have hi:i<vs.length:=by
   unfold start at h2
   by_cases hi:i<vs.length
   ·exact hi
   ·rw [N19 (by simpa using hi)] at h2
    rw [List.getElem?_replicate] at h2
    split at h2<;>cases h2
  have ha:vs[i]? = some v:=by
   unfold start at h2
   rw [N0x (by simpa using hi),N0i] at h2
   cases e:vs[i]? with
   | none=>rw [e] at h2;cases h2
   | some a=>rw [e] at h2;cases h2;rfl
  obtain ⟨u,hu,rv⟩:=r.get ha
  have hp:ps[i]? = some y:=by
   rw [<- S.pre,List.getElem?_take_of_lt (by simp_all)];exact h1
  have ndP:ps.Nodup:=by rw [<- S.pre];exact S.nd.sublist (List.take_sublist _ _)
  refine ⟨u,rv,?_⟩
  rcases S.par y (N0u hp) with k | k
  ·exact .inl ⟨k,q3C ndP hp hu k⟩
  ·obtain ⟨c,e⟩:=q5m (n:=s.heap.objs.size+1) k
   refine .inr ⟨.inl k,c,e,?_⟩
   have q:=x.cell y c e
   rw [q3D ndP hp hu (by show scope.names.lookup y≠_;rw [k];decide)] at q
   exact q
 ·exact e0.hok.fresh (Nat.le_of_lt (x.above y c (PySem.mem_of_lookup h)))
 ·unfold start
  show _=N.length
  rw [N06,N01,N13]
  simp_all
theorem z2x {CX:CXT}{P:Program}{w:World}{K:PySem.W.Frag}{mg:Str->Option Value}{base:Heap}{k:Nat}{f:Addr}{name qual:Str}{params:Arguments}{body:List Stmt}{scope:Scope}{dV kV doc pm cdv ct oc:Value}{an od:Option Addr}
 {osl:Array (Option Value)}{N ps:List Str}{sp:Sp}(lk:K.lookup f=some ⟨oc,od,.func (PySem.W.fnOf name qual params body scope dV kV doc pm an cdv ct),osl⟩) (hcd:PySem.W.codeIn K cdv qual=true) (S:FnScope N ps scope)
 (len:∀ vs H Q E,sp vs H Q E->vs.length=ps.length)
 (hbody:∀ (A:Around) (outer:List Env) (s:Shared) (H:Hp) (vs:List V) (Q:VK) (E:XK),Room k (A.deeper (envOfC qual scope s.heap.objs.size f cdv))->sp vs H Q E ->
  ∃ t,PSs (cxOf CX P w K mg base N qual scope f cdv A outer s H E) body t/\t { nx:=λ o_ H'=>Q .non H',rt:=Q } (start N vs) H) :
 FnOk P w K mg base CX (k+1) f (PySem.W.fnOf name qual params body scope dV kV doc pm an cdv ct) ps sp:=by
 refine ⟨len,λ A outer s H args us vs Q E hr e0 hb r hsp=>?_⟩
 have hl:=len _ _ _ _ hsp
 have KX:K.In s.heap:=e0.mod.kin.keeps λ b o e=>(e0.bs b o e).1
 have lim:s.heap.NoLimit:=e0.mod.nolimit.keeps λ b o e=>(e0.bs b o e).1
 have hkind:∀ y∈ps.zip us,scope.names.lookup y.1=some .local\/(scope.names.lookup y.1=some .cell/\((cellsFrom (s.heap.objs.size+1) scope.names []).lookup y.1).isSome=true):=λ ⟨n,v⟩ hy=>by
  rcases S.par n (List.of_mem_zip hy).1 with q | q
  ·exact .inl q
  ·exact .inr ⟨q,PySem.W.cellsFrom_some _ _ _ (.inl q)⟩
 refine codeAny_call_function hr.depth (KX _ _ lk) rfl S.co S.gen rfl (PySem.W.codeRec_of KX hcd) (hb _ _ _ _ ?_)
 refine wpAny_newFunctionEnv_cells S.kind hkind λ env he s1 x=>?_
 subst he
 refine ⟨lim.keeps x.toInCall.keep,codeAny_func ?_⟩
 obtain ⟨t,ht,hq⟩:=hbody A outer s H vs Q E (hr.deeper _) hsp
 have I:Inv (cxOf CX P w K mg base N qual scope f cdv A outer s H E) [] (start N vs) H s1:=q3E S hr.hd e0 hl r x
 refine N0p (ht [] s1 (start N vs) H _ I hq) (λ fl s' hs=>?_) λ e s' hs=>hs
 have fin:∀ {σ':St}{H':Hp}{v:V}{u:Value},Inv (cxOf CX P w K mg base N qual scope f cdv A outer s H E) [] σ' H' s'->y4 v u->Q v H'->CE outer P w H s Q u s' :=
  λ {σ' H' v u} J rv q=>⟨v,H',J.os,J.bare,J.base,J.hok,rv,q⟩
 cases fl with
 | ret u =>
  obtain ⟨v,σ',H',J,rv,q⟩:=hs
  exact fin J rv q
 | next =>
  obtain ⟨σ',H',J,q⟩:=hs
  exact fin (v:=V.non) (u:=Value.none) J rfl q
 | brk =>
  obtain ⟨_,_,_,q⟩:=hs
  exact False.elim q
 | cont =>
  obtain ⟨_,_,_,q⟩:=hs
  exact False.elim q
section
variable {X:Cx}{x:Str}{p pos:Pos}{e:Expr}{es:List Expr}{t:TA}{id T:String}{r:List V->Hp->VK->Prop}
noncomputable def tCB (r:List V->Hp->VK->Prop) (t:TA):TE:=λ σ H Q=>t σ H λ vs H1=>r vs H1 Q
theorem q96 (hc:X8 X (.builtin id) r) (hg:Gl X x) (hm:X.mg x=none) (hv:bootBuiltins x=some (.builtin id)) (ha:PA X (e::es) t) (hn:x≠"__name__":=by decide) (hdb:(x==("__debug__" : Str))=false:=by decide)
 (he:starEach (e::es) X.env=(false,eval e X.env)::starEach es X.env:=by rfl) (hpl:(backTo pos (starEach es X.env)).any (·.1)=false:=by rfl):PE X (.Call (.Name x p) (e::es) [] pos) (tCB r t):=by
 intro pins s σ H Q I h
 refine wpAny_Call_Name_kw (q3t I hg hm hv ?_ hn hdb)
 exact PyProof.Rows.callWith_builtin1 (thx (ha pos pins s σ H _ I h) λ us s1 vs H1 I1 r1 q1=>hc pins s1 σ H1 vs us Q I1 r1 q1) he hpl
theorem q3F (hc:X8 X (.type T) r) (hg:Gl X x) (hm:X.mg x=none) (hv:bootBuiltins x=some (.type T)) (ha:PA X (e::es) t) (hn:x≠"__name__":=by decide) (hdb:(x==("__debug__" : Str))=false:=by decide)
 (he:starEach (e::es) X.env=(false,eval e X.env)::starEach es X.env:=by rfl) (hpl:(backTo pos (starEach es X.env)).any (·.1)=false:=by rfl):PE X (.Call (.Name x p) (e::es) [] pos) (tCB r t):=by
 intro pins s σ H Q I h
 refine wpAny_Call_Name_kw (q3t I hg hm hv ?_ hn hdb)
 exact PyProof.Rows.callWith_type1 (thx (ha pos pins s σ H _ I h) λ us s1 vs H1 I1 r1 q1=>hc pins s1 σ H1 vs us Q I1 r1 q1) he hpl
end
end L2
namespace HT
open PySem PyProof.Rows
section
open PySem.SeqAt
open PySem.AutoSeq1 (wpAny_loadPart')
open PySem.MeetsSeq PySem.MeetsSeq2 PySem.MeetsSeq3
end
section
variable {prog:Program}{w:World}{A:Around}{E:Value->Shared->Prop}{s:Shared}
theorem z0R {t b:Addr}{vs ws:List Value}{Q:Value->Shared->Prop}(ht:IsTup s.heap t vs.toArray) (hb:IsTup s.heap b ws.toArray) (hv:vs≠[])
 (h1:ws=[]->Q (.ref t) s) (h2:ws≠[]->Q (.ref s.heap.objs.size) { s with heap:=s.heap.push { cls:=.type "tuple",data:=.seq (vs++ws).toArray } })
 (hsz:vs.length+ws.length<=sizeLine):wpAny (model prog w) A (binaryOp .Add (.ref t) (.ref b)) Q E s:=by
 obtain ⟨⟨cls,dd,data,sl⟩,ho,hc,n,hd⟩:=id ht
 obtain ⟨⟨cls2,dd2,data2,sl2⟩,ho2,hc2,n2,hd2⟩:=id hb
 simp only at hc hd hc2 hd2
 subst hc hd hc2 hd2
 have e:vs.toArray++ws.toArray=(vs++ws).toArray:=by simp
 by_cases hw:ws=[]
 ·exact concat_meets ⟨_,ho,rfl⟩ ⟨_,ho2,rfl⟩ noFill_tuple_add seq_tuple_add PySem.F.slot_tuple_add PySem.F.entry_tuple_add (PySem.F.args_tuple_add_2 _ _)
   (tuple_addW1 t b vs.toArray ws.toArray n n2 dd dd2 sl sl2 (by simpa using hv) (by simp [hw])) ⟨ho,ho2,h1 hw⟩
 ·refine concat_meets ⟨_,ho,rfl⟩ ⟨_,ho2,rfl⟩ noFill_tuple_add seq_tuple_add PySem.F.slot_tuple_add PySem.F.entry_tuple_add (PySem.F.args_tuple_add_2 _ _)
   (tuple_addW2 t b vs.toArray ws.toArray n n2 dd dd2 sl sl2 (by simpa using hv) (by simpa using hw) (by rw [N0m,N0m];exact hsz)) ⟨ho,ho2,?_⟩
  rw [e]
  exact h2 hw
noncomputable def sIx (n d:Nat):Option Int->Nat
 | none=>d
 | some v=>if v<0 then (v+(n:Int)).toNat else min v.toNat n
end
end HT
namespace L2
open PySem PySem.Spec PyProof.Rows
noncomputable abbrev TO:=St->Hp->(Option Int->Hp->Prop)->Prop
noncomputable def PO (X:Cx) (e:Option Expr) (t:TO):Prop :=
 ∀ (pins:List (Addr×Obj)) (s:Shared) (σ:St) (H:Hp) (Q:Option Int->Hp->Prop),Inv X pins σ H s->t σ H Q ->
  wpAny (model X.prog X.w) X.A (evalPart e X.env) (λ u s'=>∃ o H',Inv X pins σ H' s'/\IsPart u o/\Q o H') X.xe s
noncomputable def z0S:TO:=λ o_ H Q=>Q none H
noncomputable def z4Q (t:TE):TO:=λ σ H Q=>t σ H λ x H1=>∃ i,x=.int i/\Q (some i) H1
theorem q6e {ns:List Int}:∀ {us:List Value},Vals (ns.map V.int) us->IntsAre us ns:=by
 induction ns with
 | nil=>intro us r;rw [List.map_nil] at r;cases r;exact .nil
 | cons n ns ih =>
  intro us r
  rw [N09] at r
  cases r with
  | cons r1 r2 =>
   obtain ⟨t,e⟩:=r1
   subst e
   exact .cons n t (ih r2)
section
variable {X:Cx}{e:Expr}{te:TE}{lo hi:Option Expr}{tl th:TO}{pos p2:Pos}
theorem z0T:PO X none z0S:=by
 intro pins s σ H Q I h
 rw [evalPart_none]
 exact N0y ⟨none,H,I,.none,h⟩
theorem z0U (h:PE X e te):PO X (some e) (z4Q te):=by
 intro pins s σ H Q I hw
 rw [evalPart_some]
 refine thx (h pins s σ H _ I hw) λ u s1 x H1 I1 r1 q1=>?_
 obtain ⟨i,rfl,q⟩:=q1
 obtain ⟨t,rfl⟩:=r1
 exact ⟨some i,H1,I1,.int i t,q⟩
noncomputable def SlR (X:Cx) (r:V->Option Int->Option Int->Hp->VK->Prop):Prop :=
 ∀ (pins:List (Addr×Obj)) (s:Shared) (σ:St) (H:Hp) (x:V) (v vl vu:Value) (lo hi:Option Int) (sl:Addr) (Q:VK),Inv X pins σ H s->y4 x v->s.heap.IsSliceOf sl vl vu .none->IsPart vl lo->IsPart vu hi->r x lo hi H Q ->
  ∃ T id,typeLookup (.type T) "__getitem__" = pure (some (.builtin id))/\s.TypeIs v T/\wpAny (model X.prog X.w) X.A (getItem v (.ref sl)) (EP X pins σ Q) X.xe s
theorem SlR.or {r r':V->Option Int->Option Int->Hp->VK->Prop}(h:SlR X r) (h':SlR X r'):SlR X (λ x lo hi H Q=>r x lo hi H Q\/r' x lo hi H Q):=by
 intro pins s σ H x v vl vu lo hi sl Q I rx hs pl pu q
 rcases q with q | q
 ·exact h pins s σ H x v vl vu lo hi sl Q I rx hs pl pu q
 ·exact h' pins s σ H x v vl vu lo hi sl Q I rx hs pl pu q
noncomputable def tSl (r:V->Option Int->Option Int->Hp->VK->Prop) (te:TE) (tl th:TO):TE:=λ σ H Q=>te σ H λ x H1=>tl σ H1 λ l H2=>th σ H2 λ u H3=>r x l u H3 Q
theorem q97 {r:V->Option Int->Option Int->Hp->VK->Prop}(hr:SlR X r) (he:PE X e te) (hl:PO X lo tl) (hu:PO X hi th):PE X (.Subscript e (.Slice lo hi none p2) pos) (tSl r te tl th):=by
 intro pins s σ H Q I h
 refine Subscript_ (thx (he pins s σ H _ I h) λ v s1 x H1 I1 r1 q1=>?_)
 refine wpAny_Slice (thx (hl pins s1 σ H1 _ I1 q1) λ vl s2 l H2 I2 pl q2=>thx (hu pins s2 σ H2 _ I2 q2) λ vu s3 u H3 I3 pu q3=>?_)
 rw [evalPart_none]
 refine N0y ?_
 have I4:Inv X pins σ H3 { s3 with heap:=s3.heap.push { cls:=.type "slice",data:=.fields #[vl,vu,.none] } }:=I3.kept (t':=s3.toks) λ b ob q=>Heap.get?_push_of_some _ q
 obtain ⟨T,id,hT,ht,hg⟩:=hr pins { s3 with heap:=s3.heap.push { cls:=.type "slice",data:=.fields #[vl,vu,.none] } } σ H3 x v vl vu l u s3.heap.objs.size Q I4 r1 (Heap.IsSliceOf.new ..) pl pu q3
 show wpAny (model X.prog X.w) X.A (subscriptTail e (.Slice lo hi none p2) v (.ref s3.heap.objs.size)) (EP X pins σ Q) X.xe { s3 with heap:=s3.heap.push { cls:=.type "slice",data:=.fields #[vl,vu,.none] } }
 exact tail_any (ops:=[.ref s3.heap.objs.size,v]) ht hT hg (by with_unfolding_all rfl)
noncomputable def cutV (xs:List V) (lo hi:Option Int):List V:=(xs.drop (HT.sIx xs.length 0 lo)).take (HT.sIx xs.length xs.length hi - HT.sIx xs.length 0 lo)
theorem q4w (xs:List V) (lo hi:Option Int):(cutV xs lo hi).length<=xs.length:=by
 unfold cutV
 rw [N16,N1n]
 lia
noncomputable def z0V (K:PySem.W.Frag):R2:=λ x y H Q=>∃ a b xs ys,x=.ref a/\y=.ref b/\SqT K H a xs/\SqT K H b ys/\xs≠[]/\xs.length+ys.length<=sizeLine /\
 (ys=[]->Q (.ref a) H)/\(ys≠[]->∀ p,H p=none->Q (.ref p) (upd H p (.tup (xs++ys))))
theorem Vals.nil_iff {xs:List V}{us:List Value}(r:Vals xs us):us=[]↔xs=[]:=by
 cases r with
 | nil=>simp
 | cons _ _=>simp
theorem q6Z:OpR X (binaryOp .Add) (z0V X.K):=by
 intro pins s σ H x y v u Q I rx ry h
 obtain ⟨a,b,xs,ys,rfl,rfl,ha,hb,hx,hz,q1,q2⟩:=h
 cases rx
 cases ry
 obtain ⟨its,r1,p1,_⟩:=I.tuple ha
 obtain ⟨its2,r2,p2,_⟩:=I.tuple hb
 refine HT.z0R p1 p2 (λ z=>hx (r1.nil_iff.mp z)) (λ z=>⟨.ref a,H,I,rfl,q1 (r2.nil_iff.mp z)⟩) (λ z=>?_) (by rw [<- r1.length,<- r2.length];exact hz)
 refine ⟨.ref s.heap.objs.size,_,I.laid (t':=s.toks) (o:=.tup (xs++ys)) (λ b ob q=>Heap.get?_push_of_some _ q) (N07 _) ?_,rfl,q2 (λ w=>z (r2.nil_iff.mpr w)) _ (I.hok.fresh (N07 _))⟩
 exact ⟨by rw [N06];exact hz,_,r1.append r2,IsTup.new _ _⟩
end
noncomputable def ixN (n:Nat) (i:Int):Option Nat:=if 0<=i then (if i<n then some i.toNat else none) else if -(n:Int)<=i then some (i+n).toNat else none
noncomputable def atI {α:Type}(xs:List α) (i:Int):Option α:=(ixN xs.length i).bind λ j=>xs[j]?
theorem q70 {n:Nat}{i:Int}{j:Nat}(h:ixN n i=some j):seqIndex? i n=some j/\j<n /\ -(n:Int)<=i/\i<n:=by
 unfold ixN at h
 by_cases h0:0<=i
 ·rw [N0j h0] at h
  by_cases h1:i<n
  ·rw [N0j h1] at h
   have e:i.toNat=j:=N0b h
   exact ⟨by rw [seqIndex_of h0 h1,e],by lia,by lia,h1⟩
  ·rw [N0l h1] at h;cases h
 ·rw [N0l h0] at h
  by_cases h1 : -(n:Int)<=i
  ·rw [N0j h1] at h
   have e:(i+n).toNat=j:=N0b h
   exact ⟨by rw [seqIndex_neg (by simp_all) h1,e],by lia,h1,by lia⟩
  ·rw [N0l h1] at h;cases h
theorem q4x {α:Type}{xs:List α}{i:Int}{v:α}(h:atI xs i=some v):∃ j,seqIndex? i xs.length=some j/\xs[j]? = some v/\j<xs.length /\ -(xs.length:Int)<=i/\i<xs.length:=by
 unfold atI at h
 cases e:ixN xs.length i with
 | none=>rw [e] at h;cases h
 | some j =>
  rw [e] at h
  obtain ⟨h1,h2,h3,h4⟩:=q70 e
  exact ⟨j,h1,h,h2,h3,h4⟩
noncomputable def q71 (b:Expr):Prop:=∀ o i,subscripted b false o i=operate [o,i] (getItem o i)
noncomputable def IxR (X:Cx) (r:R2):Prop :=
 ∀ (value slice:Expr) (pins:List (Addr×Obj)) (s:Shared) (σ:St) (H:Hp) (x y:V) (v u:Value) (Q:VK),Inv X pins σ H s->y4 x v->y4 y u->r x y H Q ->
  subscripted slice false v u=operate [v,u] (getItem v u)->wpAny (model X.prog X.w) X.A (subscriptTail value slice v u) (EP X pins σ Q) X.xe s
noncomputable def MtR (X:Cx) (id:String) (r:V->List V->Hp->VK->Prop):Prop :=
 ∀ (pins:List (Addr×Obj)) (s:Shared) (σ:St) (H:Hp) (x:V) (xs:List V) (v:Value) (us:List Value) (Q:VK),Inv X pins σ H s->y4 x v->Vals xs us->r x xs H Q ->
  wpAny (model X.prog X.w) X.A (call (.builtin id) (v::us)) (EP X pins σ Q) X.xe s
section
variable {X:Cx}{a b:Expr}{ta tb:TE}{pos:Pos}
theorem IxR.or {r r':R2}(h:IxR X r) (h':IxR X r'):IxR X (λ x y H Q=>r x y H Q\/r' x y H Q):=by
 intro value slice pins s σ H x y v u Q I rx ry q hs
 rcases q with q | q
 ·exact h value slice pins s σ H x y v u Q I rx ry q hs
 ·exact h' value slice pins s σ H x y v u Q I rx ry q hs
theorem MtR.or {id:String}{r r':V->List V->Hp->VK->Prop}(h:MtR X id r) (h':MtR X id r'):MtR X id (λ x xs H Q=>r x xs H Q\/r' x xs H Q):=by
 intro pins s σ H x xs v us Q I rx rs q
 rcases q with q | q
 ·exact h pins s σ H x xs v us Q I rx rs q
 ·exact h' pins s σ H x xs v us Q I rx rs q
theorem z2y {r:R2}(hr:IxR X r) (ha:PE X a ta) (hb:PE X b tb) (hs:q71 b):PE X (.Subscript a b pos) (tOp r ta tb):=by
 intro pins s σ H Q I h
 exact Subscript_ (z4H ha hb I h λ v u s2 x y H2 I2 rx ry q=>hr a b pins s2 σ H2 x y v u Q I2 rx ry q (hs _ _))
noncomputable def z4R (K:PySem.W.Frag):R2:=λ x y H Q=>∃ p xs i v,x=.ref p/\y=.int i/\SqL K H p xs/\atI xs i=some v/\Q v H
noncomputable def z6z (K:PySem.W.Frag):R2:=λ x y H Q=>∃ p xs i v,x=.ref p/\y=.int i/\SqT K H p xs/\atI xs i=some v/\Q v H
noncomputable def z6A:R2:=λ x y H Q=>∃ z i c,x=.str z/\y=.int i/\z.length<=sizeLine/\atI z.cps.toList i=some c/\Q (.str ⟨#[c]⟩) H
theorem q72:IxR X (z4R X.K):=by
 intro value slice pins s σ H x y v u Q I rx ry h hs
 obtain ⟨p,xs,i,z,rfl,rfl,hq,he,q⟩:=h
 cases rx
 obtain ⟨t,rfl⟩:=ry
 obtain ⟨its,r,pl,hz⟩:=I.list hq
 obtain ⟨j,h1,h2,h3,h4,h5⟩:=q4x he
 obtain ⟨w,ew,rw'⟩:=r.get h2
 have hl:=r.length
 have hn:=q1B
 have fin:EP X pins σ Q w s:=⟨z,H,I,rw',q⟩
 by_cases h0:0<=i
 ·have hj:i.toNat=j:=by
   rw [seqIndex_of h0 h5] at h1
   exact N0b h1
  exact item_listR pl.isList h0 (by lia) (by rw [hj];simpa using ew) fin hs
 ·have hj:(i+(its.toArray.size:Int)).toNat=j:=by
   rw [seqIndex_neg (by simp_all) h4] at h1
   rw [N0m,<- hl]
   exact N0b h1
  exact subscriptTail_builtinR (x:=w) pl.isList.typeIs slot_list_getitem.lookup
   (wpAny_getItem_list_neg (Q:=λ r s'=>r=w/\EP X pins σ Q r s') pl.isList (by simp_all) (by rw [N0m]<;>simp_all) (by lia) (by rw [hj];simpa using ew) ⟨rfl,fin⟩) hs
theorem z2z:IxR X (z6z X.K):=by
 intro value slice pins s σ H x y v u Q I rx ry h hs
 obtain ⟨p,xs,i,z,rfl,rfl,hq,he,q⟩:=h
 cases rx
 obtain ⟨t,rfl⟩:=ry
 obtain ⟨its,r,pl,hz⟩:=I.tuple hq
 obtain ⟨j,h1,h2,h3,h4,h5⟩:=q4x he
 obtain ⟨w,ew,rw'⟩:=r.get h2
 have hl:=r.length
 have hn:=q1B
 have fin:EP X pins σ Q w s:=⟨z,H,I,rw',q⟩
 exact subscriptTail_builtinR (x:=w) pl.typeIs slot_tuple_getitem.lookup
  (getItem_tuple (j:=j) (Q:=λ r s'=>r=w/\EP X pins σ Q r s') pl (by lia) (by lia) (by rw [N0m,<- hl];exact h1) (by simpa using ew) ⟨rfl,fin⟩) hs
theorem z2A:IxR X z6A:=by
 intro value slice pins s σ H x y v u Q I rx ry h hs
 obtain ⟨z,i,c,rfl,rfl,hz,he,q⟩:=h
 obtain ⟨t,rfl⟩:=rx
 obtain ⟨t',rfl⟩:=ry
 obtain ⟨j,h1,h2,h3,h4,h5⟩:=q4x he
 have hl:z.cps.toList.length=z.length:=by simp [Str.length]
 rw [hl] at h1 h4 h5
 have hn:=q1B
 exact tail_any (typeIs_str s z t) slot_str_getitem.lookup (getItem_str (c:=c) (by
  have e1:decide (i < -(2 ^ 63:Int))=false:=N0e (by lia)
  have e2:decide (i ≥ 2 ^ 63)=false:=N0e (by lia)
  rw [e1,e2,Bool.or_false]) (by rw [h1];simpa using h2) ⟨.str ⟨#[c]⟩,H,I.tok _,⟨_,rfl⟩,q⟩) hs
noncomputable def rIx (K:PySem.W.Frag):R2:=λ x y H Q=>z4R K x y H Q\/z6z K x y H Q\/z6A x y H Q
theorem z2B:IxR X (rIx X.K):=q72.or (z2z.or z2A)
theorem q6f (its:List Value) (n j:Nat) (u:Value):Obj.mapSeq (·.setIfInBounds j u) { cls:=.type "list",data:=.seq its.toArray n }={ cls:=.type "list",data:=.seq (its.set j u).toArray n }:=by
 simp [Obj.mapSeq]
theorem Inv.lst {pins:List (Addr×Obj)}{σ:St}{H:Hp}{s:Shared}{p:Addr}{xs:List V}(I:Inv X pins σ H s) (h:H p=some (.lst xs)) :
 ∃ (its:List Value) (n:Nat),Vals xs its/\s.heap.get? p=some { cls:=.type "list",data:=.seq its.toArray n }/\xs.length<=sizeLine:=by
 obtain ⟨z,its,n,r,e⟩:=I.hok p _ h
 exact ⟨its,n,r,e,z⟩
theorem Inv.lstUpd {pins:List (Addr×Obj)}{σ:St}{H:Hp}{s:Shared}{p:Addr}{xs ys:List V}{its its':List Value}{n n':Nat}{f:Obj->Obj}(I:Inv X pins σ H s) (h:H p=some (.lst xs))
 (ho:s.heap.get? p=some { cls:=.type "list",data:=.seq its.toArray n }) (hf:f { cls:=.type "list",data:=.seq its.toArray n }={ cls:=.type "list",data:=.seq its'.toArray n' }) (r:Vals ys its') (hz:ys.length<=sizeLine) (t:Nat) :
 Inv X pins σ (upd H p (.lst ys)) { s with heap:=s.heap.update p f,toks:=t }:=by
 have e:(s.heap.update p f).get? p=some { cls:=.type "list",data:=.seq its'.toArray n' }:=by
  rw [Heap.get?_update_self f ho (by rw [hf]<;>rfl),hf]
 refine I.write (x:=p) (e:=p) (by rw [h];trivial) (.inl rfl) (λ b u hb q=>(Heap.get?_update_other _ _ (N1f hb)).trans q) ⟨_,e⟩ ?_
 exact ⟨hz,its',n',r,e⟩
noncomputable def z4S:V->V->V->Hp->(Hp->Prop)->Prop:=λ o i v H Q=>∃ p xs k j,o=.ref p/\i=.int k/\H p=some (.lst xs)/\ixN xs.length k=some j/\Q (upd H p (.lst (xs.set j v)))
theorem q98:z6v X z4S:=by
 intro pins s σ H o i v ov iv u Q I ro ri rv h
 obtain ⟨p,xs,k,j,rfl,rfl,hp,hj,q⟩:=h
 cases ro
 obtain ⟨t,rfl⟩:=ri
 obtain ⟨its,n,r,ho,hz⟩:=I.lst hp
 obtain ⟨h1,h2,h3,h4⟩:=q70 hj
 have hl:=r.length
 have hn:=q1B
 have I':Inv X pins σ (upd H p (.lst (xs.set j v))) { s with heap:=s.heap.update p (Obj.mapSeq (·.setIfInBounds j u)) } :=
  I.lstUpd hp ho (q6f its n j u) (r.set rv j) (by rw [N1h];exact hz) s.toks
 by_cases h0:0<=k
 ·have hk:k.toNat=j:=by
   rw [seqIndex_of h0 h4] at h1
   exact N0b h1
  exact PySem.W.ki_setAt ho h0 (by lia) (by rw [N0m,<- hl];exact h4) (by rw [hk];exact ⟨_,I',q⟩)
 ·have hk:(k+(its.toArray.size:Int)).toNat=j:=by
   rw [seqIndex_neg (by simp_all) h3] at h1
   rw [N0m,<- hl]
   exact N0b h1
  exact PySem.W.ki_setBack ho (by simp_all) (by rw [N0m,<- hl];exact h3) (by lia) (by rw [hk];exact ⟨_,I',q⟩)
theorem q3G (lo hi:Option Int) (n:Nat):(sliceBounds lo hi none n).1=((HT.sIx n 0 lo:Nat):Int)/\(sliceBounds lo hi none n).2.1=((HT.sIx n n hi:Nat):Int)/\(sliceBounds lo hi none n).2.2=1:=by
 refine ⟨?_,?_,rfl⟩
 ·cases lo with
  | none=>simp [sliceBounds,HT.sIx]
  | some i =>
   simp only [sliceBounds,HT.sIx,Option.getD_none,show (1:Int) > 0 by decide,if_true]
   by_cases h:i<0
   ·simp only [h,if_true]<;>lia
   ·simp only [h,if_false]<;>lia
 ·cases hi with
  | none=>simp [sliceBounds,HT.sIx]
  | some i =>
   simp only [sliceBounds,HT.sIx,Option.getD_none,show (1:Int) > 0 by decide,if_true]
   by_cases h:i<0
   ·simp only [h,if_true]<;>lia
   ·simp only [h,if_false]<;>lia
theorem q2L (its:List Value) (lo hi:Option Int):slicePick its.toArray lo hi none=((its.drop (HT.sIx its.length 0 lo)).take (HT.sIx its.length its.length hi - HT.sIx its.length 0 lo)).toArray:=by
 obtain ⟨h1,h2,h3⟩:=q3G lo hi its.toArray.size
 unfold slicePick
 rw [h1,h2,h3]
 simp only [sliceRange_one,pick_run,N0m]<;>rfl
noncomputable def rSlL (K:PySem.W.Frag):V->Option Int->Option Int->Hp->VK->Prop:=λ x lo hi H Q=>∃ a xs,x=.ref a/\SqL K H a xs/\∀ p,H p=none->Q (.ref p) (upd H p (.lst (cutV xs lo hi)))
theorem z0W:SlR X (rSlL X.K):=by
 intro pins s σ H x v vl vu lo hi sl Q I rx hs pl pu h
 obtain ⟨a,xs,rfl,hx,q⟩:=h
 cases rx
 obtain ⟨its,r,ht,hz⟩:=I.list hx
 have hlen:=r.length
 refine ⟨"list",_,slot_list_getitem.lookup,ht.isList.typeIs,?_⟩
 refine wpAny_getItem_list_slice ht.isList hs pl pu .none (by simp) ?_ (by rw [N0m]<;>simp_all)
 rw [q2L,<- hlen]
 refine ⟨.ref s.heap.objs.size,_,I.laid (t':=s.toks) (o:=.lst (cutV xs lo hi)) (λ b ob q=>Heap.get?_push_of_some _ q) (N07 _) ?_,rfl,q _ (I.hok.fresh (N07 _))⟩
 exact ⟨N0v (q4w xs lo hi) hz,_,0,(r.drop (HT.sIx xs.length 0 lo)).take (HT.sIx xs.length xs.length hi - HT.sIx xs.length 0 lo),Heap.get?_push_size _ rfl⟩
noncomputable def q1m:V->Bool
 | .non=>true
 | .bl _=>true
 | .int _=>true
 | .str _=>true
 | _=>false
noncomputable def eqV:V->V->Bool
 | .non,.non=>true
 | .bl a,.bl b=>a==b
 | .bl a,.int b=>(if a then 1 else 0)==b
 | .int a,.bl b=>a==(if b then 1 else 0)
 | .int a,.int b=>a==b
 | .str a,.str b=>a==b
 | _,_=>false
theorem z2C {A:Around}{s:Shared}{y x:V}{u v:Value}(ry:y4 y u) (rx:y4 x v) (fy:q1m y=true) (fx:q1m x=true):SeqAt.EqAt A s u v (eqV y x):=by
 cases y with
 | non =>
  cases ry
  cases x with
  | non=>cases rx;exact SeqAt.EqAt.same _
  | bl b=>cases rx;exact SeqAt.EqAt.none_bool b
  | int b=>obtain ⟨t,rfl⟩:=rx;exact SeqAt.EqAt.none_int b t
  | str b=>obtain ⟨t,rfl⟩:=rx;exact SeqAt.EqAt.none_str b t
  | _=>exact absurd (show false=true from fx) N0d
 | bl a =>
  cases ry
  cases x with
  | non=>cases rx;exact SeqAt.EqAt.bool_none a
  | bl b=>cases rx;exact SeqAt.EqAt.bool_bool a b
  | int b=>obtain ⟨t,rfl⟩:=rx;exact SeqAt.EqAt.bool_int a b t
  | str b=>obtain ⟨t,rfl⟩:=rx;exact SeqAt.EqAt.bool_str a b t
  | _=>exact absurd (show false=true from fx) N0d
 | int a =>
  obtain ⟨t',rfl⟩:=ry
  cases x with
  | non=>cases rx;exact SeqAt.EqAt.int_none a t'
  | bl b=>cases rx;exact SeqAt.EqAt.int_bool a t' b
  | int b=>obtain ⟨t,rfl⟩:=rx;exact SeqAt.EqAt.int_int a t' b t
  | str b=>obtain ⟨t,rfl⟩:=rx;exact SeqAt.EqAt.int_str a t' b t
  | _=>exact absurd (show false=true from fx) N0d
 | str a =>
  obtain ⟨t',rfl⟩:=ry
  cases x with
  | non=>cases rx;exact SeqAt.EqAt.str_none a t'
  | bl b=>cases rx;exact SeqAt.EqAt.str_bool a t' b
  | int b=>obtain ⟨t,rfl⟩:=rx;exact SeqAt.EqAt.str_int a t' b t
  | str b=>obtain ⟨t,rfl⟩:=rx;exact SeqAt.EqAt.str_str a t' b t
  | _=>exact absurd (show false=true from fx) N0d
 | _=>exact absurd (show false=true from fy) N0d
noncomputable def eqU (x:V) (u:Value):Bool:=match u with
 | .none=>eqV .non x
 | .bool b=>eqV (.bl b) x
 | .int i _=>eqV (.int i) x
 | .str z _=>eqV (.str z) x
 | _=>false
theorem z08 {x y:V}{u:Value}(r:y4 y u) (f:q1m y=true):eqU x u=eqV y x:=by
 cases y with
 | non=>cases r;rfl
 | bl b=>cases r;rfl
 | int i=>obtain ⟨t,rfl⟩:=r;rfl
 | str z=>obtain ⟨t,rfl⟩:=r;rfl
 | _=>exact absurd (show false=true from f) N0d
theorem q4y {x:V}:∀ {xs:List V}{us:List Value},Vals xs us->xs.all q1m=true->us.any (eqU x)=xs.any λ y=>eqV y x
 | _,_,.nil,_=>rfl
 | y::xs,u::us,.cons r t,f=>by
  rw [List.all_cons,N0q] at f
  rw [N1j,N1j,z08 r f.1,q4y t f.2]
theorem q2M {A:Around}{s:Shared}{x:V}{v:Value}(rx:y4 x v) (fx:q1m x=true):∀ {xs:List V}{us:List Value},Vals xs us->xs.all q1m=true->∀ u∈us,SeqAt.EqAt A s u v (eqU x u)
 | _,_,.nil,_=>λ u hu=>by cases hu
 | y::xs,u::us,.cons r t,f=>λ u' hu=>by
  rw [List.all_cons,N0q] at f
  rcases N0c.mp hu with rfl | hu
  ·rw [z08 r f.1];exact z2C r rx f.1 fx
  ·exact q2M rx fx t f.2 u' hu
noncomputable def inV (x:V) (xs:List V):Bool:=xs.any λ y=>eqV y x
noncomputable def rIn (K:PySem.W.Frag) (neg:Bool):R2:=λ x y H Q=>∃ p xs,y=.ref p/\(SqL K H p xs\/SqT K H p xs)/\q1m x=true/\xs.all q1m=true/\Q (.bl (if neg then !inV x xs else inV x xs)) H
theorem q3H:OpR X (compareOp .In) (rIn X.K false):=by
 intro pins s σ H x y v u Q I rx ry h
 obtain ⟨p,xs,rfl,hq,fx,fs,q⟩:=h
 cases ry
 rcases hq with hq | hq
 ·obtain ⟨its,r,pl,hz⟩:=I.list hq
  refine SeqAt.in_listAt (eqU x) pl.isList (λ w hw=>q2M rx fx r fs w (by simpa using hw)) ⟨.bl _,H,I,rfl,?_⟩
  rw [show its.toArray.any (eqU x)=its.any (eqU x) by simp,q4y r fs]
  exact q
 ·obtain ⟨its,r,pl,hz⟩:=I.tuple hq
  refine SeqAt.in_tupleAt (eqU x) pl (λ w hw=>q2M rx fx r fs w (by simpa using hw)) ⟨.bl _,H,I,rfl,?_⟩
  rw [show its.toArray.any (eqU x)=its.any (eqU x) by simp,q4y r fs]
  exact q
theorem q3I:X8 X (.builtin "len") (λ xs H Q=>∃ p ys,xs=[.ref p]/\(SqL X.K H p ys\/SqT X.K H p ys)/\Q (.int ys.length) H):=by
 intro pins s σ H xs us Q I r h
 obtain ⟨p,ys,rfl,hq,q⟩:=h
 obtain ⟨u,rfl,rx⟩:=q4t r
 cases rx
 have hn:=q1B
 rcases hq with hq | hq
 ·obtain ⟨its,r',pl,hz⟩:=I.list hq
  have hlen:=r'.length
  exact Calls.call_len_list pl.isList (by simp only [N0m]<;>lia) ⟨.int ys.length,H,I.tok _,⟨s.toks+1,by rw [N0m,hlen]⟩,q⟩
 ·obtain ⟨its,r',pl,hz⟩:=I.tuple hq
  have hlen:=r'.length
  exact len_tuple pl (by simp only [N0m]<;>lia) ⟨.int ys.length,H,I.tok _,⟨s.toks+1,by rw [N0m,hlen]⟩,q⟩
theorem q3J:X8 X (.builtin "len") (λ xs H Q=>∃ z,xs=[.str z]/\z.length<=sizeLine/\Q (.int z.length) H):=by
 intro pins s σ H xs us Q I r h
 obtain ⟨z,rfl,hz,q⟩:=h
 obtain ⟨u,rfl,t,rfl⟩:=q4t r
 have hn:=q1B
 exact len_str (by lia) ⟨.int z.length,H,I.tok _,⟨_,rfl⟩,q⟩
theorem X8.or {f:Value}{r r':List V->Hp->VK->Prop}(h:X8 X f r) (h':X8 X f r'):X8 X f (λ xs H Q=>r xs H Q\/r' xs H Q):=by
 intro pins s σ H xs us Q I rs q
 rcases q with q | q
 ·exact h pins s σ H xs us Q I rs q
 ·exact h' pins s σ H xs us Q I rs q
theorem y7:X8 X (.type "tuple") (λ xs H Q=>∃ p ys,xs=[.ref p]/\((SqL X.K H p ys/\∀ l,H l=none->Q (.ref l) (upd H l (.tup ys)))\/(SqT X.K H p ys/\Q (.ref p) H))):=by
 intro pins s σ H xs us Q I r h
 obtain ⟨p,ys,rfl,h⟩:=h
 obtain ⟨u,rfl,rx⟩:=q4t r
 cases rx
 rcases h with ⟨hq,q⟩ | ⟨hq,q⟩
 ·obtain ⟨its,r',pl,hz⟩:=I.list hq
  have hlen:=r'.length
  refine call_tuple_list pl.isList (λ h' kp=>?_) (by simp only [N0m]<;>simp_all)
  have I1:Inv X pins σ H { s with heap:=h' }:=I.kept (t':=s.toks) kp
  have I2:Inv X pins σ (upd H h'.objs.size (.tup ys)) { s with heap:=h'.push { cls:=.type "tuple",data:=.seq its.toArray } } :=
   I1.laid (t':=s.toks) (λ b o e=>Heap.get?_push_of_some _ e) (N07 _) (show X3 X.prog X.w _ _ _ (.tup ys) from ⟨hz,its,r',IsTup.new _ _⟩)
  exact ⟨.ref h'.objs.size,_,I2,rfl,q _ (I1.hok.fresh (N07 _))⟩
 ·obtain ⟨its,r',pl,hz⟩:=I.tuple hq
  exact call_tuple_same pl ⟨.ref p,H,I,rfl,q⟩
noncomputable def tyV (K:PySem.W.Frag) (T:String) (x:V) (H:Hp):Prop:=match x with
 | .str _=>T="str"
 | .int _=>T="int"
 | .ref p=>(T="list"/\∃ xs,SqL K H p xs)\/(T="tuple"/\∃ o,K.lookup p=some o/\o.cls=.type "tuple"/\o.dict=none) \/
  (T="dict"/\((∃ kvs,H p=some (.dK kvs))\/∃ kvs,H p=some (.dT kvs)))\/(T="set"/\∃ S n,H p=some (.set S n))
 | _=>False
theorem z2D {pins:List (Addr×Obj)}{σ:St}{H:Hp}{s:Shared}{T:String}{x:V}{v:Value}(I:Inv X pins σ H s) (r:y4 x v) (ty:tyV X.K T x H) :
 s.TypeIs v T/\∀ a,v=.ref a->∃ ob,s.heap.get? a=some ob/\ob.dict=none:=by
 cases x with
 | str z =>
  obtain ⟨t,rfl⟩:=r
  cases (show T="str" from ty)
  exact ⟨typeIs_str s z t,λ o_ e=>nomatch e⟩
 | int i =>
  obtain ⟨t,rfl⟩:=r
  cases (show T="int" from ty)
  exact ⟨typeIs_int s i t,λ o_ e=>nomatch e⟩
 | ref p =>
  cases r
  rcases ty with ⟨rfl,xs,hq⟩ | ⟨rfl,o,hk,hc,hd⟩ | ⟨rfl,hk⟩ | ⟨rfl,S,n,hk⟩
  ·obtain ⟨its,_,pl,_⟩:=I.list hq
   refine ⟨pl.isList.typeIs,λ a e=>?_⟩
   cases e
   obtain ⟨o,n,e,c,hd,_⟩:=pl
   exact ⟨o,e,hd⟩
  ·refine ⟨⟨o,I.kIn p o hk,hc⟩,λ a e=>?_⟩
   cases e
   exact ⟨o,I.kIn _ o hk,hd⟩
  ·have z:∃ o,s.heap.get? p=some o/\o.ExactDict:=by
    rcases hk with ⟨kvs,hk⟩ | ⟨kvs,hk⟩
    ·obtain ⟨_,_,_,_,o,_,_,e,ex,_⟩:=I.hok p _ hk
     exact ⟨o,e,ex⟩
    ·obtain ⟨_,_,_,_,o,_,_,e,ex,_⟩:=I.hok p _ hk
     exact ⟨o,e,ex⟩
   obtain ⟨o,e,ex⟩:=z
   refine ⟨⟨o,e,ex.1⟩,λ a e2=>?_⟩
   cases e2
   exact ⟨o,e,ex.2.1⟩
  ·obtain ⟨o,_,_,_,e,ex,_⟩:=I.hok p _ hk
   refine ⟨⟨o,e,ex.1⟩,λ a e2=>?_⟩
   cases e2
   exact ⟨o,e,ex.2.1⟩
 | _=>exact False.elim ty
noncomputable def tBM (K:PySem.W.Frag) (T:String) (r:V->List V->Hp->VK->Prop) (to:TE) (t:TA):TE:=λ σ H Q=>to σ H λ x H1=>tyV K T x H1/\t σ H1 λ xs H2=>r x xs H2 Q
variable {o e:Expr}{es:List Expr}{to:TE}{t:TA}{name:Str}{apos cpos:Pos}{T id:String}{r:V->List V->Hp->VK->Prop}
theorem z2E (pa:PlainAttrs T) (slot:Slot T name id) (hty:typeOf (.builtin id)=pure (.type "method_descriptor")) (hm:MtR X id r) (ho:PE X o to) (ha:PA X (e::es) t)
 (hbase:attributeBase o name X.env (eval o X.env)=eval o X.env:=by rfl)
 (hfew:((backTo cpos (starEach (e::es) X.env)).all (λ x=>!x.1)&&(backToKw cpos (keywordEach [] X.env)).all (λ x=>x.1.isSome)
  && decide ((e::es).length+([]:List Keyword).length+(if ([]:List Keyword).isEmpty then 0 else 1)<30))=true:=by rfl)
 (hline:(apos.endLine==cpos.line)=true:=by rfl) (hs:starEach (e::es) X.env=(false,eval e X.env)::starEach es X.env:=by rfl) (hplain:(backTo cpos (starEach es X.env)).any (·.1)=false:=by rfl) :
 PE X (.Call (.Attribute o name apos) (e::es) [] cpos) (tBM X.K T r to t):=by
 intro pins s σ H Q I h
 refine wpAny_Call_method_late hbase hfew hline rfl (thx (ho pins s σ H _ I h) λ v s1 x H1 I1 r1 hx_=>?_)
 obtain ⟨ty,q1⟩:=hx_
 obtain ⟨h1,h2⟩:=z2D I1 r1 ty
 refine ⟨T,id,pa,slot,hty,h1,h2,?_⟩
 have hA:=ha cpos pins s1 σ H1 _ I1 q1
 rw [hs] at hA ⊢
 refine Calls.callWith_builtin (by show (false || (backTo cpos (starEach es X.env)).any (·.1))=false;rw [hplain]<;>rfl) (Calls.evalArgs_plain ?_)
 exact thn hA λ us s2 ⟨vs,H2,I2,r2,q2⟩=>hm pins s2 σ H2 x vs v us Q I2 r1 r2 q2
end
noncomputable def MtM (X:Cx) (id:String) (r:V->List V->Hp->VK->Prop):Prop :=
 ∀ (pins:List (Addr×Obj)) (s:Shared) (σ:St) (H:Hp) (x:V) (xs:List V) (v:Value) (us:List Value) (Q:VK),Inv X pins σ H s->y4 x v->Vals xs us->r x xs H Q ->
  wpAny (model X.prog X.w) X.A (call (.builtin id) (v::us)) (EP X pins σ Q) X.xe s
theorem Vals.one:∀ {x:V}{us:List Value},Vals [x] us->∃ u,us=[u]/\y4 x u
 | _,_,.cons r .nil=>⟨_,rfl,r⟩
section
variable {X:Cx}{pins:List (Addr×Obj)}{σ:St}{H:Hp}{s:Shared}{l b:Addr}{xs ys zs:List V}
theorem Inv.lset {its its':List Value}{n:Nat}{f:Array Value->Array Value}{t':Nat}(I:Inv X pins σ H s) (hH:H l=some (.lst xs))
 (e:s.heap.get? l=some { cls:=.type "list",data:=.seq its.toArray n }) (hf:f its.toArray=its'.toArray) (hv:Vals ys its') (hz:ys.length<=sizeLine) :
 Inv X pins σ (upd H l (.lst ys)) { s with heap:=s.heap.update l (Obj.mapSeq f),toks:=t' }:=by
 have q:=PySem.IsL.update e f
 rw [hf] at q
 refine I.write (x:=l) (e:=l) (by rw [hH];exact trivial) (.inl rfl) (λ b' u hb hu=>(Heap.get?_update_other s.heap (Obj.mapSeq f) (N1f hb)).trans hu) ⟨_,q⟩ ?_
 exact ⟨hz,its',_,hv,q⟩
theorem Inv.lnew {its:List Value}{t':Nat}(I:Inv X pins σ H s) (hv:Vals ys its) (hz:ys.length<=sizeLine) :
 Inv X pins σ (upd H s.heap.objs.size (.lst ys)) { s with heap:=s.heap.push { cls:=.type "list",data:=.seq its.toArray },toks:=t' } :=
 I.laid (λ o_ o_ q=>Heap.get?_push_of_some _ q) (N07 _) ⟨hz,its,0,hv,Heap.get?_push_size _ rfl⟩
theorem Inv.fresh (I:Inv X pins σ H s):H s.heap.objs.size=none:=I.hok.fresh (N07 _)
theorem Inv.lstM (I:Inv X pins σ H s) (hH:H l=some (.lst xs)):xs.length<=sizeLine/\∃ (its:List Value) (n:Nat),Vals xs its/\xs.length=its.length/\s.heap.get? l=some { cls:=.type "list",data:=.seq its.toArray n }:=by
 obtain ⟨z,its,n,r,e⟩:=I.hok l _ hH
 exact ⟨z,its,n,r,r.length,e⟩
end
section
variable {X:Cx}
noncomputable def z0X:V->List V->Hp->VK->Prop:=λ x vs H Q=>∃ l xs y,x=.ref l/\vs=[y]/\H l=some (.lst xs)/\xs.length<sizeLine/\Q .non (upd H l (.lst (xs++[y])))
theorem q73:MtM X "list.append" z0X:=by
 intro pins s σ H x vs v us Q I rx rv h
 obtain ⟨l,xs,y,rfl,rfl,hH,hz,q⟩:=h
 cases rx
 obtain ⟨u,rfl,ru⟩:=rv.one
 obtain ⟨z,its,n,r,hl,e⟩:=I.lstM hH
 refine call_meets F.slot_list_append ⟨_,e,rfl⟩ F.entry_list_append (F.args_list_append_2 _ _) (PySem.list_append l its.toArray n u (by rw [N0m];simp_all)) ⟨e,?_⟩
 refine ⟨.non,_,I.lset (its':=its++[u]) hH e (by simp) (r.append (.cons ru .nil)) ?_,rfl,q⟩
 rw [N06,N11]
 assumption
end
section
variable {κ:Type} [DecidableEq κ]
noncomputable def q6g (kvs:List (κ×V)) (k:κ):Option V:=(kvs.find? λ kv=>decide (kv.1=k)).map (·.2)
noncomputable def putK (kvs:List (κ×V)) (k:κ) (v:V):List (κ×V) :=
 if (kvs.any λ kv=>decide (kv.1=k))=true then kvs.map (λ kv=>if kv.1=k then (kv.1,v) else kv) else kvs++[(k,v)]
theorem q1q {p:κ×V}{r:List (κ×V)}{k:κ}(e:p.1=k):q6g (p::r) k=some p.2:=by simp [q6g,List.find?_cons,e]
theorem q1r {p:κ×V}{r:List (κ×V)}{k:κ}(e:¬ p.1=k):q6g (p::r) k=q6g r k:=by simp [q6g,List.find?_cons,e]
theorem q5n (k:κ):∀ kvs:List (κ×V),(kvs.any λ kv=>decide (kv.1=k))=(q6g kvs k).isSome
 | []=>rfl
 | p::r=>by
  rw [N1j]
  by_cases e:p.1=k
  ·simp only [q1q e,N0o e,Bool.true_or,Option.isSome_some]
  ·rw [q1r e,N0e e,Bool.false_or];exact q5n k r
theorem q1F (kvs:List (κ×V)) (k:κ) (v:V):(putK kvs k v).length<=kvs.length+1:=by
 unfold putK
 split
 ·rw [N01];simp
 ·rw [N06,N0h,List.length_nil];simp
theorem q4o.isSome_eq {o:Option V}{u:Option Value}(r:q4o o u):o.isSome=u.isSome:=by
 cases o with
 | none=>cases u with
  | none=>rfl
  | some _=>exact (show False from r).elim
 | some _=>cases u with
  | none=>exact (show False from r).elim
  | some _=>rfl
theorem KV.val {kvs:List (κ×V)}{vs:List (κ×Value)}(r:KV kvs vs) (k:κ):q4o (q6g kvs k) (valueAt vs k):=by
 unfold KV at r
 induction r with
 | nil=>exact True.intro
 | @cons p q ps qs h t ih =>
  obtain ⟨h1,h2⟩:=h
  by_cases e:p.1=k
  ·have e':q.1=k:=h1.symm.trans e
   have b:valueAt (q::qs) k=some q.2:=by simp [valueAt,List.find?_cons,e']
   rw [q1q e,b];exact h2
  ·have e':¬ q.1=k:=λ z=>e (h1.trans z)
   have b:valueAt (q::qs) k=valueAt qs k:=by simp [valueAt,List.find?_cons,e']
   rw [q1r e,b];exact ih
theorem KV.any {kvs:List (κ×V)}{vs:List (κ×Value)}(r:KV kvs vs) (k:κ):(kvs.any λ kv=>decide (kv.1=k))=vs.any λ kv=>decide (kv.1=k):=by
 unfold KV at r
 induction r with
 | nil=>rfl
 | cons h t ih=>rw [N1j,N1j,ih,h.1]
theorem KV.repl {kvs:List (κ×V)}{vs:List (κ×Value)}(r:KV kvs vs) (k:κ){y:V}{u:Value}(ry:y4 y u) :
 KV (kvs.map λ kv=>if kv.1=k then (kv.1,y) else kv) (vs.map λ kv=>if kv.1=k then (kv.1,u) else kv):=by
 unfold KV at r ⊢
 induction r with
 | nil=>exact .nil
 | @cons p q ps qs h t ih =>
  rw [N09,N09]
  refine .cons ?_ ih
  obtain ⟨h1,h2⟩:=h
  by_cases e:p.1=k
  ·rw [N0j e,N0j (h1.symm.trans e)];exact ⟨h1,ry⟩
  ·rw [N0l e,N0l (λ z=>e (h1.trans z))];exact ⟨h1,h2⟩
theorem KV.put {kvs:List (κ×V)}{vs:List (κ×Value)}(r:KV kvs vs) (k:κ){y:V}{u:Value}(ry:y4 y u):KV (putK kvs k y) (stored vs k u):=by
 unfold putK stored
 rw [r.any k]
 by_cases e:(vs.any λ kv=>decide (kv.1=k))=true
 ·rw [N0j e,N0j e];exact r.repl k ry
 ·rw [N0l e,N0l e];exact Paired.snoc r ⟨rfl,ry⟩
theorem KV.length {kvs:List (κ×V)}{vs:List (κ×Value)}(r:KV kvs vs):kvs.length=vs.length:=Paired.length r
end
theorem q6h {P:Program}{w:World}{k:Key}{u:Value}(r:y4 (kV k) u):(mixKind P w).is k u=true:=by
 cases k with
 | inl i=>obtain ⟨t,e⟩:=(show ∃ t,u=Value.int i t from r);subst e;exact q4r P w i t
 | inr x=>obtain ⟨t,e⟩:=(show ∃ t,u=Value.str x t from r);subst e;exact q0v P w x t
theorem q3K {P:Program}{w:World}:∀ {ks:List Key}{us:List Value},Vals (ks.map kV) us->ItemsAre (mixKind P w) ks us
 | [],_,r=>by rw [List.map_nil] at r;cases r;exact .nil
 | k::ks,_,r=>by
  rw [N09] at r
  cases r with
  | cons h t=>exact .cons (q6h h) (q3K t)
noncomputable abbrev KT (H:Hp):List (List Key×V)->List (List Key×Addr×Value)->Prop:=Paired λ p q=>p.1=q.1/\H q.2.1=some (.tup (p.1.map kV))/\y4 p.2 q.2.2
theorem KT.val {H:Hp}{kvs:List (List Key×V)}{xs:List (List Key×Addr×Value)}(r:KT H kvs xs) (k:List Key):q4o (q6g kvs k) ((atKey xs k).map (·.2)):=by
 induction r with
 | nil=>exact True.intro
 | @cons p q ps qs h t ih =>
  obtain ⟨h1,_,h2⟩:=h
  by_cases e:p.1=k
  ·have e':q.1=k:=h1.symm.trans e
   have b:atKey (q::qs) k=some q.2:=by simp [atKey,List.find?_cons,e']
   rw [q1q e,b];exact h2
  ·have e':¬ q.1=k:=λ z=>e (h1.trans z)
   have b:atKey (q::qs) k=atKey qs k:=by simp [atKey,List.find?_cons,e']
   rw [q1r e,b];exact ih
theorem KT.repl {H:Hp}{kvs:List (List Key×V)}{xs:List (List Key×Addr×Value)}(r:KT H kvs xs) (k:List Key){y:V}{u:Value}(ry:y4 y u) :
 KT H (kvs.map λ kv=>if kv.1=k then (kv.1,y) else kv) (xs.map (putAt k u)):=by
 induction r with
 | nil=>exact .nil
 | @cons p q ps qs h t ih =>
  rw [N09,N09]
  refine .cons ?_ ih
  obtain ⟨h1,h2,h3⟩:=h
  unfold putAt
  by_cases e:p.1=k
  ·rw [N0j e,N0j (h1.symm.trans e)];exact ⟨h1,h2,ry⟩
  ·rw [N0l e,N0l (λ z=>e (h1.trans z))];exact ⟨h1,h2,h3⟩
theorem KT.put {H:Hp}{kvs:List (List Key×V)}{xs:List (List Key×Addr×Value)}(r:KT H kvs xs) (k:List Key){b:Addr}{y:V}{u:Value}(hb:H b=some (.tup (k.map kV))) (ry:y4 y u) :
 KT H (putK kvs k y) (storedH xs k b u):=by
 have e:(kvs.any λ kv=>decide (kv.1=k))=(atKey xs k).isSome:=by
  rw [q5n,(r.val k).isSome_eq,Option.isSome_map]
 unfold putK storedH
 rw [e]
 by_cases q:(atKey xs k).isSome=true
 ·rw [N0j q,N0j q];exact r.repl k ry
 ·rw [N0l q,N0l q];exact Paired.snoc r ⟨rfl,hb,ry⟩
theorem KT.keeps {H H':Hp}{kvs:List (List Key×V)}{xs:List (List Key×Addr×Value)}(r:KT H kvs xs) (ht:∀ b ys,H b=some (.tup ys)->H' b=some (.tup ys)):KT H' kvs xs :=
 Paired.mapP r λ o_ o_ z=>⟨z.1,ht _ _ z.2.1,z.2.2⟩
section
variable {P:Program}{w:World}{H:Hp}{h:Heap}{a:Addr}
theorem z2F {u:HO}(ok:HOk P w H h) (e:Rd H a u):X3 P w H h a u:=e.ok ok
theorem q74 {kvs:List (Key×V)}(ok:HOk P w H h) (e:Rd H a (.dK kvs)):kvs.length<=sizeLine/\(a==sysModules)=false/\∃ vs,KV kvs vs/\h.DictOf (mixKind P w) a vs :=
 show X3 P w H h a (.dK kvs) from z2F ok e
theorem z4T {kvs:List (Key×V)}(ok:HOk P w H h) (e:H a=some (.dK kvs)):kvs.length<=sizeLine/\(a==sysModules)=false/\∃ vs,KV kvs vs/\h.DictOf (mixKind P w) a vs:=q74 ok (.inl e)
theorem q5o {ks:List Key}(ok:HOk P w H h) (e:H a=some (.tup (ks.map kV))):(tupleKind (mixKind P w)).is h ks a:=by
 obtain ⟨_,its,r,o,h1,h2,n,h3⟩:=(show X3 P w H h a (.tup (ks.map kV)) from ok a _ e)
 exact ⟨o,its.toArray,n,h1,h2,h3,by simpa using q3K r⟩
theorem q99 {kvs:List (List Key×V)}(ok:HOk P w H h) (e:Rd H a (.dT kvs)):kvs.length<=sizeLine/\(a==sysModules)=false /\
 ∃ xs,KT H kvs xs/\h.DictOfH (tupleKind (mixKind P w)) a xs:=by
 obtain ⟨z,y,xs,r,o,es,ep,h1,h2,h3,h4,h5⟩:=(show X3 P w H h a (.dT kvs) from z2F ok e)
 refine ⟨z,y,xs,r,o,es,ep,h1,h2,h3,h4,λ x hx=>?_,h5⟩
 have all:∀ {l:List (List Key×V)}{m:List (List Key×Addr×Value)},KT H l m->∀ x∈m,(tupleKind (mixKind P w)).is h x.1 x.2.1:=by
  intro l m q
  induction q with
  | nil=>intro x hx;exact nomatch hx
  | @cons p q ps qs hq t ih =>
   intro x hx
   rcases N0c.mp hx with e | hx
   ·subst e
    exact q5o ok (by rw [<- hq.1];exact hq.2.1)
   ·exact ih x hx
 exact all r x hx
theorem z4U {kvs:List (List Key×V)}(ok:HOk P w H h) (e:H a=some (.dT kvs)):kvs.length<=sizeLine/\(a==sysModules)=false /\
 ∃ xs,KT H kvs xs/\h.DictOfH (tupleKind (mixKind P w)) a xs:=q99 ok (.inl e)
end
noncomputable def q5p (H:Hp) (a:Addr) (y:V) (r:Option V):Prop :=
 (∃ kvs k,Rd H a (.dK kvs)/\y=kV k/\r=q6g kvs k)\/∃ kvs k b,Rd H a (.dT kvs)/\y=.ref b/\H b=some (.tup (k.map kV))/\r=q6g kvs k
noncomputable def z23 (H:Hp) (a:Addr) (y v:V) (H':Hp):Prop :=
 (∃ kvs k,H a=some (.dK kvs)/\y=kV k/\kvs.length<sizeLine/\H'=upd H a (.dK (putK kvs k v))) \/
 ∃ kvs k b,H a=some (.dT kvs)/\y=.ref b/\H b=some (.tup (k.map kV))/\kvs.length<sizeLine/\H'=upd H a (.dT (putK kvs k v))
theorem q5p.k {H:Hp}{a:Addr}{kvs:List (Key×V)}{k:Key}(e:H a=some (.dK kvs)):q5p H a (kV k) (q6g kvs k):=.inl ⟨kvs,k,.inl e,rfl,rfl⟩
theorem z23.k {H:Hp}{a:Addr}{kvs:List (Key×V)}{k:Key}{v:V}(e:H a=some (.dK kvs)) (hl:kvs.length<sizeLine):z23 H a (kV k) v (upd H a (.dK (putK kvs k v))):=.inl ⟨kvs,k,e,rfl,hl,rfl⟩
section
variable {X:Cx}{pins:List (Addr×Obj)}{σ:St}{H:Hp}{s:Shared}{a:Addr}{y v:V}{u r:Value}{o:Option V}{A:Around}{E:Value->Shared->Prop}
theorem Inv.big (I:Inv X pins σ H s):sysModules<s.heap.objs.size:=by
 have h:mainGlobals<s.heap.objs.size:=(I.mod.glob.keeps I.bk).lt
 exact Nat.lt_trans (by decide) h
theorem q75 {Q:Value->Shared->Prop}(hu:A.units+1<cLine) (I:Inv X pins σ H s) (g:q5p H a y (some v)) (ry:y4 y u) (h:∀ w' s',Inv X pins σ H s'->y4 v w'->Q w' s') :
 wpAny (model X.prog X.w) A (getItem (.ref a) u) Q E s:=by
 rcases g with ⟨kvs,k,e,ey,l⟩ | ⟨kvs,k,b,e,ey,eb,l⟩
 ·subst ey
  obtain ⟨z,hd,vs,rel,dd⟩:=q74 I.hok e
  obtain ⟨w',hw,rw'⟩:=q4o.some_of (v:=v) (o:=valueAt vs k) (by rw [l];exact rel.val k)
  exact wpAny_getItem_of (q6h ry) dd.mapOf hw (h w' _ (I.tok _) rw')
 ·subst ey
  cases (show u=Value.ref b from ry)
  obtain ⟨z,hd,xs,rel,dd⟩:=q99 I.hok e
  obtain ⟨w',hw,rw'⟩:=q4o.some_of (v:=v) (o:=(atKey xs k).map (·.2)) (by rw [l];exact rel.val k)
  obtain ⟨p,hp,hp2⟩:=Option.map_eq_some_iff.mp hw
  refine wpAny_getItem_heap (tupleKind_room_in1 hu) (q5o I.hok eb) dd hp ?_
  rw [hp2]
  exact h w' _ (I.tok _) rw'
theorem d_in {Q:Value->Shared->Prop}(hu:A.units+1<cLine) (I:Inv X pins σ H s) (g:q5p H a y o) (ry:y4 y u) (h:∀ s',Inv X pins σ H s'->Q (.bool o.isSome) s') :
 wpAny (model X.prog X.w) A (compareOp .In u (.ref a)) Q E s:=by
 rcases g with ⟨kvs,k,e,ey,l⟩ | ⟨kvs,k,b,e,ey,eb,l⟩
 ·subst ey
  obtain ⟨z,hd,vs,rel,dd⟩:=q74 I.hok e
  refine wpAny_in_of (q6h ry) hd dd.mapOf ?_
  rw [<- (rel.val k).isSome_eq,<- l]
  exact h _ (I.tok _)
 ·subst ey
  cases (show u=Value.ref b from ry)
  obtain ⟨z,hd,xs,rel,dd⟩:=q99 I.hok e
  refine wpAny_in_heap (tupleKind_room_in1 hu) (q5o I.hok eb) hd dd ?_
  have q:=(rel.val k).isSome_eq
  rw [Option.isSome_map] at q
  rw [<- q,<- l]
  exact h _ (I.tok _)
theorem q76 {h':Heap}{t':Nat}{ob:HO}(I:Inv X pins σ H s) (mu:Mut (H a)) (hs:Heap.SameBut a s.heap h') (he:∃ q,h'.get? a=some q) (new:X3 X.prog X.w (upd H a ob) h' a ob) :
 Inv X pins σ (upd H a ob) { s with heap:=h',toks:=t' } :=
 I.write (x:=a) (e:=a) mu (.inl rfl) (λ b q hb z=>(hs.2 b hb).trans z) he new
theorem z2G {P:Program}{w:World}{H':Hp}{h':Heap}{kvs:List (Key×V)}{vs:List (Key×Value)}(z:kvs.length<=sizeLine) (hd:(a==sysModules)=false) (rel:KV kvs vs) (dd:h'.DictOf (mixKind P w) a vs) :
 X3 P w H' h' a (.dK kvs):=⟨z,hd,vs,rel,dd⟩
theorem q77 {H':Hp}{Q:Unit->Shared->Prop}(hu:A.units+1<cLine) (I:Inv X pins σ H s) (g:z23 H a y v H') (ry:y4 y u) (rv:y4 v r) (h:∀ s',Inv X pins σ H' s'->Q () s') :
 wpAny (model X.prog X.w) A (setItem (.ref a) u r) Q E s:=by
 rcases g with ⟨kvs,k,e,ey,l,eH⟩ | ⟨kvs,k,b,e,ey,eb,l,eH⟩
 ·subst ey eH
  obtain ⟨z,hd,vs,rel,dd⟩:=z4T I.hok e
  have hz:vs.length<=sizeLine:=by rw [<- rel.length];exact z
  have hl:(putK kvs k v).length<=sizeLine:=by have:=q1F kvs k v;lia
  refine wpAny_setItem_pairs (hsz:=hz) (q6h ry) dd λ h' dd' hs=>h _ ?_
  have he:∃ q,h'.get? a=some q:=let ⟨q,_,_,hq,_⟩:=dd';⟨q,hq⟩
  exact q76 I (by rw [e];exact True.intro) hs he (z2G hl hd (rel.put k rv) dd')
 ·subst ey eH
  cases (show u=Value.ref b from ry)
  obtain ⟨z,hd,xs,rel,dd⟩:=z4U I.hok e
  have hz:xs.length<=sizeLine:=by rw [<- Paired.length rel];exact z
  have hl:(putK kvs k v).length<=sizeLine:=by have:=q1F kvs k v;lia
  refine wpAny_setItem_heap (hsz:=hz) (tupleKind_room_in1 hu) (q5o I.hok eb) dd λ h' dd' hs=>h _ ?_
  obtain ⟨q,es,ep,hq,h2,h3,h4,_,h5⟩:=dd'
  refine q76 I (by rw [e];exact True.intro) hs ⟨q,hq⟩ ⟨hl,hd,_,(rel.put k eb rv).keeps λ c ys ec=>?_,q,es,ep,hq,h2,h3,h4,h5⟩
  rw [Z2 (z4z ec e (λ z=>nomatch z))]
  exact ec
end
section
variable {X:Cx}{pins:List (Addr×Obj)}{σ:St}{H:Hp}{s:Shared}{a:Addr}{kvs:List (Key×V)}{k:Key}{u:Value}{A:Around}{E:Value->Shared->Prop}
theorem z4V {Q:Value->Shared->Prop}(I:Inv X pins σ H s) (e:Rd H a (.dK kvs)) (h:∀ t s',Inv X pins σ H s'->Q (.int kvs.length t) s'):wpAny (model X.prog X.w) A (call (.builtin "len") [.ref a]) Q E s:=by
 obtain ⟨z,hd,vs,rel,dd⟩:=q74 I.hok e
 refine call_len_dict hd dd (by rw [<- rel.length];rw [sizeLine_eq] at z;lia) ?_
 rw [<- rel.length]
 exact h _ _ (I.tok _)
end
noncomputable def z2H (i:Expr):Prop:=∀ ov iv,subscripted i false ov iv=operate [ov,iv] (getItem ov iv)
theorem q78 {prog:Program}{w:World}{A:Around}{E:Value->Shared->Prop}{s:Shared}{env:Env}{value slice:Expr}{pos:Pos}{T id:String}{Q:Value->Shared->Prop}
 (hl:typeLookup (.type T) "__getitem__" = pure (some (.builtin id))) (hs:z2H slice)
 (h:wpAny (model prog w) A (eval value env) (λ o s₁=>wpAny (model prog w) A (eval slice env) (λ i s₂=>s₂.TypeIs o T/\wpAny (model prog w) A (getItem o i) Q E s₂) E s₁) E s) :
 wpAny (model prog w) A (eval (.Subscript value slice pos) env) Q E s:=by
 refine Subscript_ (N0p h (λ o s₁ h₁=>N0p h₁ (λ i s₂ h₂=>?_) λ o_ o_ x=>x) λ o_ o_ x=>x)
 obtain ⟨hT,h₂⟩:=h₂
 unfold subscriptTail
 refine N03 ?_
 rw [getitemInPython_of_ne hT.not_modules]
 refine N03 (wpAny_specialOf hT hl ?_)
 have fin:wpAny (model prog w) A (subscripted slice false o i) (λ r s₃=>wpAny (model prog w) A (letTemporaryGo value o r >>= λ o_=>pure r) Q E s₃) E s₂:=by
  rw [hs o i]
  exact wpAny_operating (N0p h₂ (λ r s₃ h₃=>N03 (wpAny_letTemporaryGo (N0y h₃))) λ o_ o_ x=>x)
 first
  | exact N0y (N03 fin)
  | exact N03 (N0y (N03 fin))
  | exact N03 fin
theorem q4z {X:Cx}{pins:List (Addr×Obj)}{σ:St}{H:Hp}{s:Shared}{a:Addr}{y:V}{o:Option V}(I:Inv X pins σ H s) (g:q5p H a y o):s.TypeIs (.ref a) "dict":=by
 rcases g with ⟨kvs,k,e,_,_⟩ | ⟨kvs,k,b,e,_,_,_⟩
 ·obtain ⟨_,_,vs,_,dd⟩:=q74 I.hok e
  exact dd.typeIs
 ·obtain ⟨_,_,xs,_,dd⟩:=q99 I.hok e
  exact dd.typeIs
noncomputable def z4W (td ty:TE):TE:=λ σ H Q=>td σ H λ x H1=>ty σ H1 λ y H2=>∃ a v,x=.ref a/\q5p H2 a y (some v)/\Q v H2
noncomputable def z4X (td ty tv:TE):TS:=λ D σ H=>tv σ H λ v H1=>td σ H1 λ x H2=>ty σ H2 λ y H3=>∃ a H4,x=.ref a/\z23 H3 a y v H4/\D.nx σ H4
section
variable {X:Cx}{o i e value:Expr}{pos pos' tpos:Pos}{td ty tv:TE}
theorem z0Y (hu:X.A.units+1<cLine) (ho:PE X o td) (hi:PE X i ty) (hs:z2H i):PE X (.Subscript o i pos) (z4W td ty):=by
 intro pins s σ H Q I h
 refine q78 PySem.F.slot_dict_getitem.lookup hs (thx (ho pins s σ H _ I h) λ u s1 x H1 I1 rx q1=>thx (hi pins s1 σ H1 _ I1 q1) λ iv s2 y H2 I2 ry hx_=>?_)
 obtain ⟨a,v,ex,g,q2⟩:=hx_
 subst ex
 obtain rfl:u=Value.ref a:=rx
 exact ⟨q4z I2 g,q75 hu I2 g ry λ w' s3 I3 rw'=>⟨v,H2,I3,rw',q2⟩⟩
theorem q79 (hu:X.A.units+1<cLine) (ho:PE X o td) (hi:PE X i ty) (hv:PE X value tv) (hs:swapsWith value (some (.Subscript o i pos')) pos.line X.env=pure false) :
 PS X (.Assign [.Subscript o i pos'] value pos) (z4X td ty tv):=by
 intro pins s σ H D I h
 refine wpAny_Assign_Subscript (thx (hv pins s σ H _ I h) λ r s1 v H1 I1 rv q1=>thx (ho pins s1 σ H1 _ I1 q1) λ u s2 x H2 I2 rx q2=>thx (hi pins s2 σ H2 _ I2 q2) λ iv s3 y H3 I3 ry hx_=>?_) hs
 obtain ⟨a,H4,ex,g,q3⟩:=hx_
 subst ex
 obtain rfl:u=Value.ref a:=rx
 exact q77 hu I3 g ry rv λ s4 I4=>⟨σ,H4,I4,q3⟩
end
theorem q9a {P:Program}{w:World}{H:Hp}(h:Heap) (hb:sysModules<h.objs.size):X3 P w H (h.push { cls:=.type "dict",data:=.dict #[] }) h.objs.size (.dK []) :=
 ⟨N1b _,N18.mpr (N1f (N12 hb)),[],.nil,Heap.DictOf.new h⟩
noncomputable def z2I:TE:=λ o_ H Q=>∀ p,H p=none->Q (.ref p) (upd H p (.dK []))
section
variable {X:Cx}{pos:Pos}
theorem q9b:PE X (.Dict [] [] pos) z2I:=λ pins s σ H Q I h =>
 wpAny_Dict_empty ⟨.ref s.heap.objs.size,_,I.laid (a:=s.heap.objs.size) (o:=.dK []) (t':=s.toks) (λ o_ o_ q=>Heap.get?_push_of_some _ q) (N07 _) (q9a s.heap I.big),rfl,h _ (I.hok.fresh (N07 _))⟩
end
structure M1 (X:Cx) (o:Expr) (m:Str) (apos:Pos) (e:Expr) (cpos:Pos):Prop where
 base:attributeBase o m X.env (eval o X.env)=eval o X.env
 few:((backTo cpos (starEach [e] X.env)).all (λ x=>!x.1)&&(backToKw cpos (keywordEach [] X.env)).all (λ x=>x.1.isSome)
  && decide (([e]:List Expr).length+([]:List Keyword).length+(if ([]:List Keyword).isEmpty then 0 else 1)<30))=true
 line:(apos.endLine==cpos.line)=true
 trees:backTo cpos (starEach [e] X.env)=[(false,eval e X.env)]
structure M2 (X:Cx) (o:Expr) (m:Str) (apos:Pos) (e f:Expr) (cpos:Pos):Prop where
 base:attributeBase o m X.env (eval o X.env)=eval o X.env
 few:((backTo cpos (starEach [e,f] X.env)).all (λ x=>!x.1)&&(backToKw cpos (keywordEach [] X.env)).all (λ x=>x.1.isSome)
  && decide (([e,f]:List Expr).length+([]:List Keyword).length+(if ([]:List Keyword).isEmpty then 0 else 1)<30))=true
 line:(apos.endLine==cpos.line)=true
 trees:backTo cpos (starEach [e,f] X.env)=[(false,eval e X.env),(false,eval f X.env)]
end L2
namespace Att
open PySem PySem.W PySem.Calls PyProof.Rows
theorem q1G {P:Params}{h:Heap}:∀ (ns:List Int) (vs:List Value),WellAll P h vs (ns.map WData.int)->IntsAre vs ns:=by
 intro ns
 induction ns with
 | nil =>
  intro vs w
  rw [List.map_nil] at w
  cases w
  exact .nil
 | cons n ns ih =>
  intro vs w
  rw [N09] at w
  cases w with
  | cons a b =>
   cases a
   exact .cons _ _ (ih _ b)
theorem q7a {l:OpenLaw}{n:Nat}(hn:l.most=some n){P:Params}{h:Heap}{args:List WData}{vals:List Value}
 (hpre:l.row.toRowW.claim.pre args=true) (hwl:WellAll P h vals args) :
 ∃ a vs ns,vals=[Value.ref a]/\args=[WData.list (ns.map WData.int)]/\h.get? a=some { cls:=.type "list",data:=.seq vs.toArray }/\IntsAre vs ns/\ns.length<=n:=by
 have hsh:WShape.hasAll [] args [.list .int]=true:=(pre_splitW hpre).1
 have hc:l.pre.holds [] { args:=args }=true:=(pre_splitW hpre).2
 obtain ⟨d,r,rfl,h1,h2⟩:=hasAllW_cons hsh
 obtain rfl:=hasAllW_nil h2
 obtain ⟨xs,rfl,h3⟩:=hasW_list h1
 obtain ⟨ns,rfl⟩:=items_int h3
 have hlen:ns.length<=n:=by
  unfold OpenLaw.pre at hc
  have h4:(WTm.not (.lt (.lit (.int (n:Int))) (.len (.arg 0)))).holds [] { args:=[.list (ns.map .int)] }=true:=by
   have h4:=(holds_andW hc).1
   rw [hn] at h4
   exact h4
  have h5:=condW_of h4 (w_not (w_lt w_lit (w_len_list (w_arg rfl))))
  rw [N01] at h5
  refine Nat.le_of_not_lt λ q=>?_
  have q':(n:Int)<((ns.length:Nat):Int):=by simp_all
  first
   | (rw [N0o q'] at h5;exact absurd h5 (by decide))
   | (simp at h5;omega)
 cases hwl with
 | cons w1 w2 =>
  cases w2
  cases w1 with
  | list ho hall=>exact ⟨_,_,ns,rfl,rfl,ho,q1G ns _ hall,hlen⟩
theorem q7b (l:OpenLaw) (args:List WData):l.row.toRowW.claim.post args (.bool true) args=true :=
 postW_of (r:=l.row.toRowW) (X:=(true==true))
  (show WShape.has [] (.bool true) .bool=true by first | rfl | decide | simp [WShape.has,WShape.arms,WShape.armsAll])
  (show (WTm.eq .res (.lit (.bool true))).value [] { args:=args,res:=some (.bool true),after:=args }=some (.bool (true==true)) from w_eq_bool (w_res rfl) w_lit) rfl
theorem q4A {l:OpenLaw}{n:Nat}{q:Program}{loose:List Str}{XP:(Str->Option Value)->Heap->Prop}{YP:World->Heap->Prop}{d:DefRec}
 (hn:l.most=some n) (hdf:d.params.defaults=[])
 (call:∀ (w:World) (s₀ s₁:Shared) (mg mb:Str->Option Value) (fa:Addr) (o:Obj) (pm cd doc:Value) (a:Addr) (vs:List Value) (ns:List Int),
  Ground q loose [] XP w s₀ mg mb s₁.heap->YP w s₁.heap ->
  s₁.heap.get? fa=some o->o.data=.func (docDef d.name d.params d.body d.scope pm cd doc)->s₁.heap.CodeRec cd d.name->mg d.name=some (.ref fa) ->
  s₁.heap.get? a=some { cls:=.type "list",data:=.seq vs.toArray }->IntsAre vs ns->ns.length<=n->s₁.gens = #[] ->
  codeAny (model l.prog w) callerA (.call (.ref fa) ⟨[.ref a],[]⟩) (λ r s'=>r=.ok (.ret (.bool true))/\OldK s₁.heap s'.heap/\s'.os=s₁.os/\AllBare s'.gens) s₁) :
 WalkO q loose XP YP l.row.toRowW d [] (λ f vs=>PySem.call f vs):=by
 intro w s₀ s₁ mg mb G Y fa o pm cd doc dV kV ho hd hcd hD hmg hg args vals as hpre hlay hrd hwl hlo
 obtain rfl:dV=.none:=Dflts.none hD hdf
 obtain rfl:kV=.none:=Dflts.noKw hD
 obtain ⟨a,vs,ns,rfl,rfl,hobj,hints,hlen⟩:=q7a hn hpre hwl
 refine enter_call (codeAny_mono (call w s₀ s₁ mg mb fa o pm cd doc a vs ns G Y ho (fd_plain hd) hcd hmg hobj hints hlen hg) λ r s' hq=>?_)
 obtain ⟨rfl,h2,h3,h4⟩:=hq
 exact ⟨.inl ⟨.bool true,.bool true,[],rfl,λ o_=>rfl,.bool true,q7b l _,λ o_=>⟨List.Pairwise.nil,λ o_ hm=>(nomatch hm)⟩⟩,h2,h3,h4⟩
end Att
namespace L2
open PySem PySem.Spec PyProof.Rows
theorem q3L:∀ {vs:List Value}{ns:List Int},IntsAre vs ns->Vals (ns.map V.int) vs
 | _,_,.nil=>.nil
 | _,_,.cons n t h=>.cons ⟨t,rfl⟩ (q3L h)
noncomputable def z4Y (H:Hp):Prop:=∀ b,H b=none\/∃ o xs,H b=some (.frz o (.lst xs))
theorem q9c {P:Program}{w:World}{K:PySem.W.Frag}{mg mb:Str->Option Value}{CX:CXT}{k:Nat}{fa a:Addr}{fd:FuncData}{x:Str}{sp:Sp}{s₁:Shared}{vs:List Value}{ns:List Int}
 (KX:K.In s₁.heap) (hns:s₁.heap.Ns mainGlobals mg) (hb:s₁.heap.Ns builtinsNs mb) (hbb:∀ x:Str,x≠"__name__"->mb x=bootBuiltins x) (hlim:s₁.heap.NoLimit) (hg:s₁.gens = #[])
 (ha:s₁.heap.get? a=some { cls:=.type "list",data:=.seq vs.toArray }) (hi:IntsAre vs ns) (hl:ns.length<=sizeLine) (hr:Room k callerA)
 (F:∀ base:Heap,K.In base->base.Ns mainGlobals mg->FnOk P w K mg base CX k fa fd [x] sp) (hbind:∀ (s:Shared) (u:Value),BindsTo s fd ⟨[u],[]⟩ [(x,u)])
 (hsp:∀ H:Hp,z4Y H->SqL K H a (ns.map V.int)->sp [.ref a] H (λ v o_=>v=.bl true) λ o_ o_ o_=>False)
 (hCX:∀ H e s',CX [] H s₁ (λ o_ o_ o_=>False) e s'->False) :
 codeAny (model P w) callerA (.call (.ref fa) ⟨[.ref a],[]⟩) (λ r s'=>r=.ok (.ret (.bool true))/\OldK s₁.heap s'.heap/\s'.os=s₁.os/\AllBare s'.gens) s₁:=by
 have rv:=q3L hi
 have lenV:=hi.length
 have core:∀ H:Hp,z4Y H->SqL K H a (ns.map V.int)->HOk P w H s₁.heap->(∀ b,H b≠none->b=a)->(H a≠none->K.lookup a=none) ->
  codeAny (model P w) callerA (.call (.ref fa) ⟨[.ref a],[]⟩) (λ r s'=>r=.ok (.ret (.bool true))/\OldK s₁.heap s'.heap/\s'.os=s₁.os/\AllBare s'.gens) s₁:=by
  intro H hO hS hok hA hK
  have base_of:∀ {b:Addr}{o:Obj},s₁.heap.get? b=some o->H b=none->(hidT s₁.heap H).get? b=some o:=λ e n=>q8T e n
  have noA:∀ {b:Addr}{o:Obj}{es:Array DictEntry}{ep:Nat},s₁.heap.get? b=some o->o.data=.dict es ep->H b=none:=λ {b o es ep} e d=>by
   cases q:H b with
   | none=>rfl
   | some u =>
    have e':b=a:=hA b (by rw [q];simp)
    subst e'
    rw [ha] at e;cases e
    have d':Data.seq vs.toArray _=Data.dict es ep:=d
    cases d'
  have nsK:∀ {b:Addr}{m:Str->Option Value},s₁.heap.Ns b m->(hidT s₁.heap H).Ns b m:=λ {b m} ⟨o,es,ep,e,d,r⟩=>⟨o,es,ep,base_of e (noA e d),d,r⟩
  have hKb:K.In (hidT s₁.heap H):=λ b o e=>base_of (KX b o e) (by
   cases q:H b with
   | none=>rfl
   | some u =>
    have e':b=a:=hA b (by rw [q];simp)
    subst e'
    rw [hK (by rw [q];simp)] at e;cases e)
  have hM:Mod K mg (hidT s₁.heap H):=⟨hKb,nsK hns,⟨mb,nsK hb,hbb⟩,let ⟨mc,h1,h2⟩:=hlim;⟨mc,nsK h1,h2⟩⟩
  have e0:Env0 P w K mg (hidT s₁.heap H) callerA [] s₁ H:=⟨rfl,hM,λ b o e=>z0G e,Nat.le_of_eq (q6O _ _),trivial,λ b hb=>absurd (show b∈([]:List Addr) from hb) (by simp),hok,.of_eq hg⟩
  refine codeAny_mono ((F _ hKb (nsK hns)).run callerA [] s₁ H ⟨[.ref a],[]⟩ [.ref a] [.ref a] _ _ hr e0 (hbind s₁ (.ref a)) (.cons rfl .nil) (hsp H hO hS)) λ r s' h=>?_
  cases r with
  | error e=>exact (hCX H e s' h).elim
  | ok fl =>
   cases fl with
   | next=>exact False.elim h
   | brk=>exact False.elim h
   | cont=>exact False.elim h
   | ret u =>
    obtain ⟨v,H',os,bare,un,hok',r',q⟩:=h
    have q':v=.bl true:=q
    subst q'
    obtain rfl:u=Value.bool true:=r'
    refine ⟨rfl,OldK.of_keep λ b o e=>?_,os,bare⟩
    cases q:H b with
    | none=>exact un.keep b o e q (by intro z;exact absurd (show b∈([]:List Addr) from z) (by simp)) (by simp)
    | some u =>
     rcases hO b with z | ⟨ob,xs,z⟩
     ·rw [q] at z;cases z
     ·have z2:=un.frzs b ob _ z
      obtain ⟨e1,_⟩:=hok b _ z
      obtain ⟨e2,_⟩:=hok' b _ z2
      rw [e] at e1;cases e1
      exact e2
 cases hk:K.lookup a with
 | some o =>
  have e:=KX a o hk
  rw [ha] at e
  cases e
  refine core (λ o_=>none) (λ o_=>.inl rfl) (.inr ⟨_,vs.toArray,_,hk,rfl,rfl,rfl,by rw [N0m,lenV];exact hl,by simpa using rv⟩) (λ b u z=>by have z':(none:Option HO)=some u:=z;cases z') (λ b z=>absurd rfl z) λ z=>absurd rfl z
 | none =>
  refine core (λ b=>if b=a then some (.frz { cls:=.type "list",data:=.seq vs.toArray } (.lst (ns.map V.int))) else none) (λ b=>?_) (.inl (.inr ⟨{ cls:=.type "list",data:=.seq vs.toArray },N0j rfl⟩)) (λ b u z=>?_) (λ b z=>?_) λ o_=>hk
  ·by_cases hb:b=a
   ·exact .inr ⟨_,_,N0j hb⟩
   ·exact .inl (N0l hb)
  ·by_cases hb:b=a
   ·have z':=(N0j hb).symm.trans z
    cases z'
    subst hb
    exact ⟨ha,by rw [N01];exact hl,vs,_,rv,ha⟩
   ·have z':=(N0l hb).symm.trans z
    cases z'
  ·by_cases hb:b=a
   ·exact hb
   ·exact absurd (N0l hb) z
theorem z0Z {l:PySem.W.OpenLaw}{n k:Nat}{q:Program}{loose:List Str}{XP:(Str->Option Value)->Heap->Prop}{YP:World->Heap->Prop}{d:DefRec}{K:Params->PySem.W.Frag}{CX:World->CXT}{sp:World->Sp}{x:Str}
 (hn:l.most=some n) (hn2:n<=sizeLine) (hdf:d.params.defaults=[]) (hr:Room k callerA)
 (hY:∀ (w:World) (h:Heap),YP w h->(K w.params).In h)
 (F:∀ (w:World) (mg:Str->Option Value) (fa:Addr) (h:Heap),(K w.params).In h->h.Ns mainGlobals mg->mg d.name=some (.ref fa) ->
  ∃ fd:FuncData,(∀ (s:Shared) (u:Value),BindsTo s fd ⟨[u],[]⟩ [(x,u)]) /\
   ∀ base:Heap,(K w.params).In base->base.Ns mainGlobals mg->FnOk l.prog w (K w.params) mg base (CX w) k fa fd [x] (sp w))
 (hsp:∀ (w:World) (H:Hp) (a:Addr) (ns:List Int),ns.length<=n->z4Y H->SqL (K w.params) H a (ns.map V.int)->sp w [.ref a] H (λ v o_=>v=.bl true) λ o_ o_ o_=>False)
 (hCX:∀ (w:World) (H:Hp) (s:Shared) (e:Value) (s':Shared),CX w [] H s (λ o_ o_ o_=>False) e s'->False) :
 PySem.W.WalkO q loose XP YP l.row.toRowW d [] (λ f vs=>PySem.call f vs):=by
 refine Att.q4A hn hdf λ w s₀ s₁ mg mb fa o pm cd doc a vs ns G Y ho hd hcd hmg hobj hints hlen hg=>?_
 have KX:=hY w _ Y
 obtain ⟨fd,hb,hF⟩:=F w mg fa _ KX G.T.g hmg
 exact q9c KX G.T.g G.T.b G.T.builtins G.T.nolimit hg hobj hints (N0v hlen hn2) hr hF hb (λ H hO hS=>hsp w H a ns hlen hO hS) λ H e s'=>hCX w H s₁ e s'
noncomputable def q7c (s:Stmt) (j:Nat):Stmt:=match s with
 | .ClassDef _ _ _ body _ _ _ _ _ _ _=>body.getD j (.Pass ⟨0,0,0,0⟩)
 | _=>.Pass ⟨0,0,0,0⟩
noncomputable def defArgs (s:Stmt):Arguments:=match s with
 | .FunctionDef _ a _ _ _ _ _ _ _ _=>a
 | _=>{ posonlyargs:=[],args:=[],vararg:=none,kwonlyargs:=[],kw_defaults:=[],kwarg:=none,defaults:=[] }
noncomputable def defBody (s:Stmt):List Stmt:=match s with
 | .FunctionDef _ _ b _ _ _ _ _ _ _=>b
 | _=>[]
noncomputable def defScope (s:Stmt):Scope:=match s with
 | .FunctionDef _ _ _ _ _ _ sc _ _ _=>sc
 | _=>{ kind:=.function,names:=[],isGenerator:=false,isCoroutine:=false }
noncomputable abbrev CX0:CXT:=λ o_ o_ o_ o_ o_ o_=>False
noncomputable abbrev E0:XK:=λ o_ o_ o_=>False
theorem q9d {X:Cx}:Passes CX0 X E0:=λ o_ o_ o_ o_ o_ o_ o_ h=>h.elim
structure Fun (K:PySem.W.Frag) (x qual:Str) (st:Stmt) (f:Addr) (fd:FuncData):Prop where
 ex:∃ (oc:Value) (od:Option Addr) (kV doc pm:Value) (an:Option Addr) (cdv ct:Value) (osl:Array (Option Value)),
  fd=PySem.W.fnOf x qual (defArgs st) (defBody st) (defScope st) .none kV doc pm an cdv ct/\K.lookup f=some ⟨oc,od,.func fd,osl⟩/\PySem.W.codeIn K cdv qual=true
 kp:PySem.W.keepIn K (.ref f)=true
section
variable {P:Program}{w:World}{K:PySem.W.Frag}{mg:Str->Option Value}{base:Heap}
theorem Fun.ok {x qual:Str}{st:Stmt}{f:Addr}{fd:FuncData}{N ps:List Str}{k:Nat}{sp:Sp}(F:Fun K x qual st f fd) (S:FnScope N ps (defScope st)) (len:∀ vs H Q E,sp vs H Q E->vs.length=ps.length)
 (hbody:∀ (cdv:Value) (A:Around) (outer:List Env) (s:Shared) (H:Hp) (vs:List V) (Q:VK) (E:XK),Room k (A.deeper (envOfC qual (defScope st) s.heap.objs.size f cdv))->sp vs H Q E ->
  ∃ t,PSs (cxOf CX0 P w K mg base N qual (defScope st) f cdv A outer s H E).nox (defBody st) t/\t { nx:=λ o_ H'=>Q .non H',rt:=Q } (start N vs) H):FnOk P w K mg base CX0 (k+1) f fd ps sp:=by
 obtain ⟨oc,od,kV,doc,pm,an,cdv,ct,osl,rfl,lk,hcd⟩:=F.ex
 refine z2x lk hcd S len λ A outer s H vs Q E hr hsp=>?_
 obtain ⟨t,h,q⟩:=hbody cdv A outer s H vs Q E hr hsp
 exact ⟨t,h.nox,q⟩
theorem Fun.binds {x qual:Str}{st:Stmt}{f:Addr}{fd:FuncData}{ps:List Str}(F:Fun K x qual st f fd)
 (h:∀ (kV doc pm:Value) (an:Option Addr) (cdv ct:Value) (us:List Value),us.length=ps.length->bindArgs (PySem.W.fnOf x qual (defArgs st) (defBody st) (defScope st) .none kV doc pm an cdv ct) ⟨us,[]⟩=pure (ps.zip us)):X9 K fd ps []:=by
 obtain ⟨oc,od,kV,doc,pm,an,cdv,ct,osl,rfl,lk,hcd⟩:=F.ex
 exact .all (h kV doc pm an cdv ct)
theorem K7 {x qual:Str}{st:Stmt}{f:Addr}{oc:Value}{od an:Option Addr}{osl:Array (Option Value)}{kV doc pm cdv ct:Value}(l:K.lookup f=some ⟨oc,od,.func (PySem.W.fnOf x qual (defArgs st) (defBody st) (defScope st) .none kV doc pm an cdv ct),osl⟩)
 (c:PySem.W.codeIn K cdv qual=true) (k:PySem.W.keepIn K (.ref f)=true):Fun K x qual st f (PySem.W.fnOf x qual (defArgs st) (defBody st) (defScope st) .none kV doc pm an cdv ct):=⟨⟨oc,od,kV,doc,pm,an,cdv,ct,osl,rfl,l,c⟩,k⟩
end
section
variable {X:Cx}
theorem pv (i:Nat){x:Str}{pos:Pos}(hN:X.N[i]? = some x:=by rfl) (hv:Vis X.env.scope x:=by first | exact N0k rfl | exact N0r (N0k rfl) | exact N0r (N0r rfl)) (hd:(x==("__debug__" : Str))=false:=by decide)
 (hcd:(x==("__classdict__" : Str))=false:=by decide):PE X (.Name x pos) (tVar i):=X7 hN hv hd hcd
theorem q7d:X8 X (.builtin "len") (λ xs H Q=>∃ a kvs,xs=[V.ref a]/\H a=some (.dK kvs)/\Q (.int kvs.length) H):=by
 intro pins s σ H xs us Q I r h
 obtain ⟨a,kvs,rfl,ha,q⟩:=h
 obtain ⟨u,rfl,ru⟩:=q4t r
 cases ru
 exact z4V I (.inl ha) λ t s' I'=>⟨.int kvs.length,H,I',⟨t,rfl⟩,q⟩
end
theorem z09 {A B:Prop}(h:B):if false=true then A else B:=by
 rw [N0l N0d]
 exact h
theorem q7e {A B:Prop}(h:A):if true=true then A else B:=by
 rw [N0j rfl]
 exact h
noncomputable def Same (H H':Hp):Prop:=∀ b o,H b=some o->H' b=some o
theorem Same.refl (H:Hp):Same H H:=λ o_ o_ h=>h
theorem Same.trans {H H1 H2:Hp}(a:Same H H1) (b:Same H1 H2):Same H H2:=λ c o h=>b c o (a c o h)
theorem Same.free {H H':Hp}(e:Same H H'){l:Addr}(h:H' l=Option.none):H l=Option.none:=by
 cases q:H l with
 | none=>rfl
 | some o =>
  rw [e l o q] at h
  cases h
noncomputable def clOf (sc:Scope) (env:Env):List (Str×Addr):=(sc.names.filter λ p=>p.2 == .free).reverse.map λ p=>(p.1,(env.cells.lookup p.1).getD 0)
theorem q7f {env:Env}:∀ (l:List (Str×NameKind)) (acc:List (Str×Addr)),(∀ p∈l,p.2=.free->∃ c,env.cells.lookup p.1=some c) ->
 (forIn l acc λ (x:Str×NameKind) (s:List (Str×Addr))=>if (x.2==NameKind.free)=true then do
  let a <- cellOf env x.1
  pure (ForInStep.yield ((x.1,a)::s))
  else (pure (ForInStep.yield s):Sem (ForInStep (List (Str×Addr)))))=pure ((l.filter λ p=>p.2 == .free).reverse.map (λ p=>(p.1,(env.cells.lookup p.1).getD 0))++acc)
 | [],acc,_=>rfl
 | p::r,acc,h=>by
  rw [List.forIn_cons]
  by_cases e:p.2=.free
  ·obtain ⟨c,hc⟩:=h p N00 e
   have e1:(p.2==NameKind.free)=true:=by rw [e];rfl
   rw [N0j e1]
   have e2:cellOf env p.1=pure c:=by unfold cellOf;rw [hc]
   rw [e2]
   show (forIn r ((p.1,c)::acc) _:Sem _)=_
   rw [q7f r ((p.1,c)::acc) λ q hq=>h q (N02 _ hq)]
   rw [N1e,N0j e1,List.reverse_cons,N14,List.append_assoc]
   show _=pure (_++([(p.1,(env.cells.lookup p.1).getD 0)]++acc))
   rw [hc];rfl
  ·have e1:¬ (p.2==NameKind.free)=true:=by simpa using e
   rw [N0l e1]
   show (forIn r acc _:Sem _)=_
   rw [q7f r acc λ q hq=>h q (N02 _ hq)]
   rw [N1e,N0l e1]
theorem U2 {sc:Scope}{env:Env}(h:∀ p∈sc.names,p.2=.free->∃ c,env.cells.lookup p.1=some c):closureFor sc env=pure (clOf sc env):=by
 simp only [closureFor]
 rw [q7f sc.names [] h,N10]
 rfl
theorem U3 {β:Type}:∀ {l:List (Str×β)}{x:Str}{b:β},l.lookup x=some b->(x,b)∈l
 | (y,c)::r,x,b,h=>by
  rw [N15] at h
  cases e:x==y with
  | true =>
   rw [e] at h;have e':x=y:=by simpa using e
   subst e';cases h;exact N00
  | false=>rw [e] at h;exact N02 _ (U3 h)
theorem u3 (f:Str->Addr):∀ {l:List (Str×NameKind)}{x:Str},(∃ p∈l,p.1=x)->(l.map λ p=>(p.1,f p.1)).lookup x=some (f x)
 | [],x,⟨p,hp,_⟩=>nomatch hp
 | q::r,x,⟨p,hp,e⟩=>by
  rw [N09,N15]
  cases e2:x==q.1 with
  | true =>
   have e':x=q.1:=by simpa using e2
   rw [e']
  | false =>
   have e':¬ x=q.1:=by simpa using e2
   rcases N0c.mp hp with rfl | hp
   ·exact absurd e.symm e'
   ·exact u3 f ⟨p,hp,e⟩
theorem q1H (f:Str->Addr){l:List (Str×NameKind)}{x:Str}{c:Addr}(h:(l.map λ p=>(p.1,f p.1)).lookup x=some c):∃ p∈l,p.1=x:=by
 have m:=U3 h
 obtain ⟨p,hp,e⟩:=List.mem_map.mp m
 exact ⟨p,hp,congrArg (·.1) e⟩
theorem q5q {sc:Scope}{env:Env}{x:Str}{c:Addr}(h:sc.names.lookup x=some .free) (hc:env.cells.lookup x=some c):(clOf sc env).lookup x=some c:=by
 unfold clOf
 have m:∃ p∈(sc.names.filter λ p=>p.2 == .free).reverse,p.1=x:=⟨(x,.free),List.mem_reverse.mpr (List.mem_filter.mpr ⟨U3 h,rfl⟩),rfl⟩
 rw [u3 (λ y=>(env.cells.lookup y).getD 0) m,hc];rfl
theorem q0j {sc:Scope}{env:Env}{x:Str}{c:Addr}(hf:∀ p∈sc.names,p.2=.free->∃ c,env.cells.lookup p.1=some c) (h:(clOf sc env).lookup x=some c):env.cells.lookup x=some c:=by
 unfold clOf at h
 obtain ⟨p,hp,e⟩:=q1H (λ y=>(env.cells.lookup y).getD 0) h
 rw [u3 (λ y=>(env.cells.lookup y).getD 0) ⟨p,hp,e⟩] at h
 obtain ⟨h1,h2⟩:=List.mem_filter.mp (List.mem_reverse.mp hp)
 obtain ⟨d,hd⟩:=hf p h1 (by simpa using h2)
 rw [e] at hd
 rw [hd] at h ⊢;exact h
theorem q1e {env:Env}:∀ {names:List (Str×NameKind)}{x:Str},names.lookup x=some .free ->
 (names.map λ (n,k)=>if (k==NameKind.free&&env.scope.kind == .function&&env.kindOf n==some .cell) then (n,NameKind.cell) else (n,k)).lookup x=some .cell \/
 (names.map λ (n,k)=>if (k==NameKind.free&&env.scope.kind == .function&&env.kindOf n==some .cell) then (n,NameKind.cell) else (n,k)).lookup x=some .free
 | (n,k)::r,x,h=>by
  have ih:=@q1e env r x
  rw [N15] at h
  rw [N09]
  show List.lookup x ((if (k==NameKind.free&&env.scope.kind == .function&&env.kindOf n==some .cell)=true then (n,NameKind.cell) else (n,k))::_)=_\/List.lookup x ((if (k==NameKind.free&&env.scope.kind == .function&&env.kindOf n==some .cell)=true then (n,NameKind.cell) else (n,k))::_)=_
  cases hx:x==n with
  | true =>
   rw [hx] at h;cases h
   by_cases hc:(NameKind.free==NameKind.free&&env.scope.kind == .function&&env.kindOf n==some .cell)=true
   ·rw [N0j hc];left;simp [N15,hx]
   ·rw [N0l hc];right;simp [N15,hx]
  | false =>
   rw [hx] at h
   by_cases hc:(k==NameKind.free&&env.scope.kind == .function&&env.kindOf n==some .cell)=true
   ·rw [N0j hc];simp only [N15,hx];exact ih h
   ·rw [N0l hc];simp only [N15,hx];exact ih h
section
variable {prog:Program}{w:World}{A:Around}{R:Result->Shared->Prop}{s:Shared}
theorem q3M {elt target iter:Expr}{ifs:List Expr}{scope:Scope}{pos:Pos}{it acc:Value}{env:Env}(XE:Value->Shared->Prop) (hXE:∀ e s,XE e s->notedBy (model prog w) A env (λ e s'=>R (.error e) s') e s) (I:Nat->Shared->Prop)
 (turn:∀ n s,I n s->wpAny (model prog w) A (pyNext it) (λ r s₁=>match r with
  | none=>R (.ok .next) s₁
  | some v=>wpAny (model prog w) A (letOwnedTupleGo target it v) (λ o_ s₂=>wpAny (model prog w) A (assign target env v) (λ o_ s₃ =>
   wpAny (model prog w) A (forIn ifs true λ c r=>if r=true then do let ok <- isTrue c env (eval c env);pure (ForInStep.yield ok) else pure (ForInStep.yield r)) (λ ok s₄ =>
    if ok=true then wpAny (model prog w) A (eval elt env) (λ x s₅ =>
     wpAny (model prog w) A (call (.builtin "list.append") [acc,x]) (λ o_ s₆=>∃ m,m<n/\I m s₆) XE s₅) XE s₄
    else ∃ m,m<n/\I m s₄) XE s₃) XE s₂) XE s₁) XE s)
 (n:Nat) (h:I n s) :
 codeAny (model prog w) A (.compLoop (.ListComp elt [⟨target,iter,ifs,0⟩] scope pos) 0 it acc env) R s:=by
 refine codeAny_loop rfl I (λ n s hI=>?_) n h
 show wpAny _ A ((compTurn (.ListComp elt [⟨target,iter,ifs,0⟩] scope pos) 0 it acc env).onRaise (λ x=>do noteFrame x env;theTreesLotGoes x)) _ _ s
 refine wpAny_noted ?_
 rw [compTurn_list]
 refine N03 (wpAny_standAt (N03 (N0p (turn n s hI) (λ r s₁ h₁=>?_) hXE)))
 cases r with
 | none=>exact N0y h₁
 | some v =>
  refine N03 (N0p h₁ (λ o_ s₂ h₂=>?_) hXE)
  refine N03 (N0p h₂ (λ o_ s₃ h₃=>N03 (N0p h₃ (λ ok s₄ h₄=>?_) hXE)) hXE)
  cases ok with
  | false=>exact N0y ⟨rfl,h₄⟩
  | true =>
   exact N03 (N03 (N0p h₄ (λ x s₅ h₅=>N03 (N0p h₅ (λ o_ s₆ h₆=>N0y (N0y ⟨rfl,h₆⟩)) hXE)) hXE))
end
theorem q1f {env:Env}:∀ {names:List (Str×NameKind)}{x:Str},(∀ y∈names,y.2≠.cell) ->
 ((names.map λ (n,k)=>if (k==NameKind.free&&env.scope.kind == .function&&env.kindOf n==some .cell) then (n,NameKind.cell) else (n,k)).lookup x=some .cell \/
 (names.map λ (n,k)=>if (k==NameKind.free&&env.scope.kind == .function&&env.kindOf n==some .cell) then (n,NameKind.cell) else (n,k)).lookup x=some .free)->names.lookup x=some .free
 | [],x,_,h=>by rcases h with h | h<;>cases h
 | (n,k)::r,x,nc,h=>by
  have ih:=@q1f env r x λ y hy=>nc y (N02 _ hy)
  have nk:k≠.cell:=nc (n,k) N00
  rw [N09] at h
  change List.lookup x ((if (k==NameKind.free&&env.scope.kind == .function&&env.kindOf n==some .cell)=true then (n,NameKind.cell) else (n,k))::_)=_\/List.lookup x ((if (k==NameKind.free&&env.scope.kind == .function&&env.kindOf n==some .cell)=true then (n,NameKind.cell) else (n,k))::_)=_ at h
  rw [N15]
  cases hx:x==n with
  | true =>
   by_cases hc:(k==NameKind.free&&env.scope.kind == .function&&env.kindOf n==some .cell)=true
   ·have:k=.free:=by
     simp only [N0q,beq_iff_eq] at hc
     exact hc.1.1
    rw [this]
   ·rw [N0l hc] at h
    simp only [N15,hx] at h
    rcases h with h | h
    ·cases h;exact absurd rfl nk
    ·exact h
  | false =>
   by_cases hc:(k==NameKind.free&&env.scope.kind == .function&&env.kindOf n==some .cell)=true
   ·rw [N0j hc] at h;simp only [N15,hx] at h;exact ih h
   ·rw [N0l hc] at h;simp only [N15,hx] at h;exact ih h
noncomputable abbrev q2j:=List (Str×Nat)
noncomputable def capσ (caps:q2j) (σ:St):St:=caps.map λ c=>(σ[c.2]?).join
structure CArg where
 C:Addr
 s:Shared
 H:Hp
 fp:List Addr
 xe:Value->Shared->Prop
noncomputable abbrev cxC (X:Cx) (x:Str) (caps:q2j) (sc:Scope) (z:CArg):Cx :=
 { X with N:=x::caps.map (·.1),s₀:=z.s,H₀:=z.H,env:=compEnvC sc (clOf sc X.env) z.C X.env,outer:=X.stack,stack:=X.stack,ex:=z.fp,fn:=λ o_=>false,pn:=[],xe:=z.xe }
noncomputable def U4 (o sc:Scope) (N:List Str) (x:Str) (caps:q2j):Bool :=
 sc.names.lookup x==some .local&&sc.kind == .function &&
 sc.names.all (λ y=>y.2 != .cell&&(y.2 != .local || sc.names.lookup y.1==some .local)&&(y.2 != .free || (o.names.lookup y.1==some .cell || o.names.lookup y.1==some .free))) &&
 decide ((x::caps.map (·.1)).Nodup) &&
 caps.all (λ c=>N[c.2]? == some c.1&&sc.names.lookup c.1==some .free&&(o.names.lookup c.1==some .cell || o.names.lookup c.1==some .free))
structure CompOk (X:Cx) (x:Str) (caps:q2j) (sc:Scope):Prop where
 own:sc.names.lookup x=some .local
 kind:sc.kind=.function
 nocell:∀ y∈sc.names,y.2≠.cell
 names:∀ y∈sc.names,y.2=.local->sc.names.lookup y.1=some .local
 free:∀ y∈sc.names,y.2=.free->X.env.kindOf y.1=some .cell\/X.env.kindOf y.1=some .free
 nd:(x::caps.map (·.1)).Nodup
 cap:∀ c∈caps,X.N[c.2]? = some c.1/\sc.names.lookup c.1=some .free/\(X.env.kindOf c.1=some .cell\/X.env.kindOf c.1=some .free)
theorem q1I {X:Cx}{x:Str}{caps:q2j}{sc:Scope}(h:U4 X.env.scope sc X.N x caps=true):CompOk X x caps sc:=by
 unfold U4 at h
 simp only [N0q,List.all_eq_true,beq_iff_eq,bne_iff_ne,Bool.or_eq_true,decide_eq_true_eq] at h
 obtain ⟨⟨⟨⟨h1,h2⟩,h3⟩,h4⟩,h5⟩:=h
 refine ⟨h1,h2,λ y hy=>(h3 y hy).1.1,λ y hy e=>?_,λ y hy e=>?_,h4,λ c hc=>⟨(h5 c hc).1.1,(h5 c hc).1.2,(h5 c hc).2⟩⟩
 ·exact (h3 y hy).1.2.resolve_left λ z=>z e
 ·exact (h3 y hy).2.resolve_left λ z=>z e
noncomputable def z10 (X:Cx) (ifs:List Expr) (t:TT):Prop :=
 ∀ (pins:List (Addr×Obj)) (s:Shared) (σ:St) (H:Hp) (Q:Bool->Hp->Prop),Inv X pins σ H s->t σ H Q ->
  wpAny (model X.prog X.w) X.A (forIn ifs true λ c r=>if r=true then do let ok <- isTrue c X.env (eval c X.env);pure (ForInStep.yield ok) else pure (ForInStep.yield r)) (TP X pins σ Q) X.xe s
noncomputable def z6B:TT:=λ o_ H Q=>Q true H
theorem q5r {X:Cx}:z10 X [] z6B:=λ o_ o_ o_ H o_ I h=>wpAny_tests_nil ⟨H,I,h⟩
theorem Inv.adopt {X:Cx}{pins:List (Addr×Obj)}{σ:St}{H:Hp}{s:Shared}{D:Addr}{o:HO}(I:Inv X pins σ H s) (f:FpOk X pins H D) (new:X3 X.prog X.w (upd H D o) s.heap D o):Inv X pins σ (upd H D o) s:=by
 obtain ⟨hn,f1,f2,f3,f4,f5⟩:=f
 refine I.step (g':=s.gens) (d':=s.drawn) (t':=s.toks) (h':=s.heap) (ch:=[D]) (λ b hb=>?_) (λ b o o_ o_ o_ e o_=>e) (λ b o o_ o_ o_ e o_=>⟨o.slots,e⟩) (λ b o' hb o_ n=>?_) (λ b o o_ e=>⟨o,e⟩)
  (λ b xs q=>by rw [Z2 (J4 q hn)];exact q) (λ b u xs q=>by rw [Z2 (J4 q hn)];exact q) (λ b ps q=>⟨#[],by rw [Z2 (J4 q hn),q];simp⟩) (λ m hm=>hm) (λ b u e=>?_) I.bare
 ·have e:b=D:=by simpa using hb
  subst e
  exact ⟨f3,f1,f4,f5⟩
 ·rw [Z2 (by simpa using hb)];exact n
 ·by_cases hb:b=D
  ·subst hb;rw [Z0] at e;cases e;exact new
  ·rw [Z2 hb] at e
   exact (I.hok b u e).stay (λ c v o_ q=>q) (λ c q=>by rw [Z2 (J4 q hn)];exact q) λ c xs q=>by rw [Z2 (J4 q hn)];exact q
noncomputable def q1J (caps:q2j) (σ:St) (tt:CArg->TT) (te:CArg->TE) (J:It) (H1:Hp) (F:List V->Hp->Prop):Prop :=
 ∃ W:Nat->Nat->List V->Hp->Prop,(∃ m,W 0 m [] H1)/\∀ z i m ys H,W i m ys H ->
  (J.stop i H/\F ys H) \/
  (J.go i H/\∃ N:List V->Hp->Prop,(∀ ys' H',N ys' H'->∃ m',m'<m/\W (i+1) m' ys' H')/\∀ x H',J.yld i H x H'->tt z (some x::capσ caps σ) H' λ b H3=>if b=true then te z (some x::capσ caps σ) H3 λ v H4=>ys.length<sizeLine/\N (ys++[v]) H4
   else N ys H3)
noncomputable def q9e (caps:q2j) (wi:TI) (tt:CArg->TT) (te:CArg->TE):TE:=λ σ H Q=>wi σ H λ J H1 =>
 q1J caps σ tt te J H1 λ ys H2=>∀ p,H2 p=none->Q (.ref p) (upd H2 p (.lst ys))
section
variable {X:Cx}{x:Str}{caps:q2j}{elt iter:Expr}{ifs:List Expr}{sc:Scope}{px pos:Pos}{wi:TI}{tt:CArg->TT}{te:CArg->TE}
theorem z2J {pins:List (Addr×Obj)}{σ:St}{H:Hp}{s:Shared}{fp:List Addr}{C:Addr}{xe:Value->Shared->Prop}(k:CompOk X x caps sc) (I:Inv X pins σ H s) (f:∀ b∈fp,FpOk X pins H b) (fl:∀ b∈fp,b<s.heap.objs.size) (hC:s.heap.objs.size<=C) :
 (cxC X x caps sc ⟨C,s,H,fp,xe⟩).Ok:=by
 have hfree:∀ p∈sc.names,p.2=.free->∃ c,X.env.cells.lookup p.1=some c:=λ p hp e=>I.ok.has p.1 (k.free p hp e)
 refine ⟨I.ok.mod,k.kind,I.ok.glob,I.ok.blt,hC,λ a b c ha hb=>?_,λ a ha=>?_,(λ o_ o_ z=>nomatch z),I.ok.hd,I.ok.frames,.inl rfl,λ b hb=>⟨N12 (N0n (fl b hb) hC),λ y c e=>?_⟩,I.bs,N0v I.ok.bsz I.sz,λ b o e hb=>?_,λ b hb z=>?_,I.stack,I.stkFree⟩
 ·exact I.ok.inj a b c (q0j hfree ha) (q0j hfree hb)
 ·have e:sc.names.lookup a=some .free:=q1f (env:=X.env) k.nocell ha
  obtain ⟨c,hc⟩:=hfree (a,.free) (U3 e) rfl
  exact ⟨c,q5q e hc⟩
 ·exact (f b hb).2.2.2.2.1 y c (q0j hfree e)
 ·rcases (f b hb).2.2.2.1 with z | z
  ·exact I.ok.noex b o e z
  ·exact absurd (N0n (Heap.lt_size (I.ok.bs b o e).1) z) (N1a _)
 ·rcases N0c.mp (I.stkSub b z) with e | e
  ·exact (f b hb).2.1 e
  ·exact (f b hb).2.2.1 e
theorem q9f {pins:List (Addr×Obj)}{σ:St}{H:Hp}{s:Shared}{h1:Heap}{t1:Nat}{fp:List Addr}{C:Addr}{xe:Value->Shared->Prop}{m:Str->Option Value}(k:CompOk X x caps sc) (I:Inv X pins σ H s) (f:∀ b∈fp,FpOk X pins H b) (fl:∀ b∈fp,b<s.heap.objs.size) (hC:s.heap.objs.size<=C)
 (old:∀ b o,s.heap.get? b=some o->h1.get? b=some o) (hn:h1.Ns C m):Inv (cxC X x caps sc ⟨C,s,H,fp,xe⟩) [] (none::capσ caps σ) H { s with heap:=h1,toks:=t1 }:=by
 have hfree:∀ p∈sc.names,p.2=.free->∃ c,X.env.cells.lookup p.1=some c:=λ p hp e=>I.ok.has p.1 (k.free p hp e)
 refine ⟨z2J k I f fl hC,rfl,I.bare,Un.kept old,⟨m,hn,λ i y v e1 e2 e3=>?_⟩,λ y c e=>?_,I.hok.fresh hC,λ y c e=>I.freeC y c (q0j hfree e),(λ p hp=>(N1d (show p∈([]:List (Addr×Obj)) from hp)).elim),I.hok.kept old,by simp [capσ]⟩
 ·cases i with
  | zero=>cases e2
  | succ i =>
   have e1:(caps.map (·.1))[i]? = some y:=e1
   have e2:(capσ caps σ)[i]? = some (some v):=e2
   rw [N0i] at e1
   unfold capσ at e2
   rw [N0i] at e2
   cases ec:caps[i]? with
   | none=>rw [ec] at e1;cases e1
   | some c =>
    rw [ec] at e1 e2
    have e1:c.1=y:=N0b e1
    have e2:(σ[c.2]?).join=some v:=N0b e2
    subst e1
    have e2':σ[c.2]? = some (some v):=by
     cases q:σ[c.2]? with
     | none=>rw [q] at e2;cases e2
     | some q'=>rw [q] at e2;have:q'=some v:=e2;rw [this]
    obtain ⟨k1,k2,k3⟩:=k.cap c (N0u ec)
    obtain ⟨m0,hm0,hl⟩:=I.loc
    obtain ⟨u,ru,lk⟩:=hl c.2 c.1 v k1 e2' (.inr k3)
    refine ⟨u,ru,?_⟩
    rcases lk with ⟨z,_⟩ | ⟨_,a,ha,hcell⟩
    ·rw [z] at k3;rcases k3 with k3 | k3<;>cases k3
    ·exact .inr ⟨q1e k2,a,q5q k2 ha,hcell.keeps old⟩
 ·obtain ⟨v,hv⟩:=I.cell y c (q0j hfree e)
  exact ⟨v,hv.keeps old⟩
noncomputable abbrev lsO (its:List Value) (q:Nat):Obj:={ cls:=.type "list",data:=.seq its.toArray q }
theorem q1K {XE:Addr->Addr->Value->Shared->Prop}{G:CArg->Prop}{pins:List (Addr×Obj)}{σ:St}{s:Shared}{itv:Value}{F:List V->Hp->Prop}{RR:Value->Addr->Result->Shared->Prop}(k:CompOk X x caps sc) (hc:X.calm=true) (ht:∀ z,G z->z10 (cxC X x caps sc z) ifs (tt z)) (he:∀ z,G z->PE (cxC X x caps sc z) elt (te z))
 (hXE:∀ D C e s',XE D C e s'->notedBy (model X.prog X.w) X.A (compEnvC sc (clOf sc X.env) C X.env) (λ e s''=>RR (.ref D) C (.error e) s'') e s')
 (hG:∀ D C fp H2,Inv X pins σ H2 s->(∀ b∈fp,FpOk X pins H2 b)->(∀ b∈fp,b<s.heap.objs.size)->s.heap.objs.size<=C->G ⟨C,s,H2,fp,XE D C⟩)
 (h2:PIE X pins σ (.Name x px) (λ J H1=>q1J caps σ tt te J H1 F) itv s)
 (hRR:∀ D C s' H' ys m oC,Inv X (pins++[(C,oC)]) σ (upd H' D (.lst ys)) s'->H' D=none->F ys H'->s'.heap.get? C=some oC->s'.heap.Ns C m->FpOk X pins (upd H' D (.lst ys)) C->RR (.ref D) C (.ok .next) s') :
 wpAny (model X.prog X.w) X.A (newList []) (λ acc s₃=>wpAny (model X.prog X.w) X.A (newFunctionEnv sc X.env.globals (clOf sc X.env) [] X.env.qual none .none (some X.env)) (λ cenv s₄ =>
  codeAny (model X.prog X.w) X.A (.compStart (.ListComp elt [⟨.Name x px,iter,ifs,0⟩] sc pos) 0 itv acc { cenv with scope:=relabel sc X.env }) (RR acc cenv.locals) s₄) X.xe s₃) X.xe s:=by
 obtain ⟨it,fp,tn,J,H2,rfl,I2,T,st2,f2,W,⟨m0,w0⟩,turn⟩:=h2
 have fl:∀ b∈fp,b<s.heap.objs.size:=λ b hb=>let ⟨o,e,_⟩:=T.obj _ _ st2 b hb;Heap.lt_size e
 refine wpAny_newObj_type (wpAny_newFunctionEnv k.nocell (by intro y hy;simp at hy) (λ h₁ hns₁ hsb₁=>?_) k.kind)
 dsimp only at hns₁ hsb₁ ⊢
 generalize hH2:s.heap.push { cls:=.type "list",dict:=none,data:=.seq ([]:List Value).toArray }=G2 at hns₁ hsb₁ ⊢
 have hC:G2.objs.size=s.heap.objs.size+1:=by rw [<- hH2,Heap.size_push]
 have hDC:s.heap.objs.size≠G2.objs.size:=by rw [hC];exact N12 (Nat.lt_succ_self _)
 have hCle:s.heap.objs.size<=G2.objs.size:=by rw [hC];exact Nat.le_succ _
 have below:∀ b,b<s.heap.objs.size->b≠G2.objs.size:=λ b hb=>by rw [hC];exact N12 (Nat.lt_succ_of_lt hb)
 have old:∀ b o,s.heap.get? b=some o->h₁.get? b=some o:=λ b o e=>hsb₁.extBut b o (below b (Heap.lt_size e)) (Heap.get?_push_of_some _ (hH2▸Heap.get?_push_of_some _ e))
 have hacc:h₁.get? s.heap.objs.size=some { cls:=.type "list",data:=.seq ([]:List Value).toArray 0 }:=hsb₁.extBut _ _ hDC (Heap.get?_push_of_some _ (hH2▸Heap.get?_push_size _ rfl))
 generalize hCe:G2.objs.size=C at *
 generalize hDe:s.heap.objs.size=D at *
 have g:G ⟨C,s,H2,fp,XE D C⟩:=hG D C fp H2 I2 f2 fl hCle
 have I4:=q9f (xe:=XE D C) (t1:=s.toks+([]:List (Str×Value)).length) k I2 f2 (λ b hb=>by rw [hDe];exact fl b hb) (C:=C) (by rw [hDe];exact hCle) old hns₁
 have st4:tn 0 h₁:=T.keep _ _ _ st2 λ b o_ o e=>old b o e
 have nfpD:∀ b∈fp,D≠b:=λ b hb=>Nat.ne_of_gt (fl b hb)
 have FP:∀ {H':Hp}{pn:List (Addr×Obj)},(∀ b∈fp,H' b=none)->(∀ p∈pn,p.1=D)->∀ b∈fp,FpOk (cxC X x caps sc ⟨C,s,H2,fp,XE D C⟩) pn H' b:=λ hn hp b hb =>
  ⟨hn b hb,N12 (N0n (fl b hb) hCle),I4.ok.exfs b hb,.inl hb,(I4.ok.exf b hb).2,λ p hp' z=>nfpD b hb ((hp p (by simpa using hp')).symm.trans z)⟩
 have nCellD:∀ y c,(clOf sc X.env).lookup y=some c->c≠D:=λ y c e z=>by
  obtain ⟨v,q⟩:=I2.cell y c (q0j (λ p hp e=>I2.ok.has p.1 (k.free p hp e)) e)
  have:=q.lt
  rw [z,hDe] at this
  exact N1a _ this
 have nfsD:D∉frs X.stack:=λ z=>by
  rcases N0c.mp (I2.stkSub D z) with e | e
  ·have:=I2.lt
   rw [<- e,hDe] at this
   exact N1a _ this
  ·exact I2.nofs (a:=D) (by rw [hDe];exact N07 _) e
 have pinD:∀ {σ':St}{H':Hp}{s':Shared}{oD:Obj},Inv (cxC X x caps sc ⟨C,s,H2,fp,XE D C⟩) [] σ' H' s'->s'.heap.get? D=some oD->H' D=none->(∀ v,oD.data≠.cell v)->Inv (cxC X x caps sc ⟨C,s,H2,fp,XE D C⟩) [(D,oD)] σ' H' s':=λ I e n d =>
  I.pins_of λ p hp=>by
   have e':=N0f.mp hp
   rw [e']
   exact ⟨e,n,hDC,nfsD,d⟩
 have hD0:H2 D=none:=I2.hok.fresh (by rw [hDe];exact N07 _)
 obtain ⟨IV,hIV⟩:∃ IV:Nat->Shared->Prop,∀ n s',IV n s'↔∃ i o ys H' its q,Inv (cxC X x caps sc ⟨C,s,H2,fp,XE D C⟩) [] (o::capσ caps σ) H' s'/\tn i s'.heap/\(∀ b∈fp,H' b=none)/\W i n ys H'/\ys.length<=sizeLine/\Vals ys its/\s'.heap.get? D=some (lsO its q)/\H' D=none:=⟨_,λ o_ o_=>Iff.rfl⟩
 have loop:∀ s₃:Shared,s₃={ s with heap:=h₁,toks:=s.toks+([]:List (Str×Value)).length } ->
  codeAny (model X.prog X.w) X.A (.compLoop (.ListComp elt [⟨.Name x px,iter,ifs,0⟩] sc pos) 0 (.ref it) (.ref D) (compEnvC sc (clOf sc X.env) C X.env)) (RR (.ref D) C) s₃:=by
  rintro s₃ rfl
  refine q3M (XE D C) (hXE D C) IV ?_ m0 ((hIV _ _).2 ⟨0,none,[],H2,[],0,I4,st4,λ b hb=>(f2 b hb).1,w0,N1b _,.nil,hacc,hD0⟩)
  intro n s' h'
  obtain ⟨i,o,ys,H',its,q,I',st',fr',w',hz,rv,eD,nD⟩:=(hIV _ _).1 h'
  have Ip:=pinD I' eD nD (by intro v z;cases z)
  have pD:∀ p∈[((D,(lsO its q)):Addr×Obj)],p.1=D:=λ p hp=>by
   rw [N0f.mp hp]
  rcases turn ⟨C,s,H2,fp,XE D C⟩ i n ys H' w' with ⟨stop,qF⟩ | ⟨go,N,hN,step⟩
  ·refine N0p (T.done (cxC X x caps sc ⟨C,s,H2,fp,XE D C⟩) rfl rfl rfl hc i _ s' _ H' (XE D C) Ip (FP fr' pD) st' stop) (λ r s4 hx_=>?_) λ o_ o_ z=>z
   obtain ⟨hr,I5⟩:=hx_
   subst hr
   show RR (.ref D) C (.ok .next) s4
   have eD4:=(I5.pin (D,(lsO its q)) (N05 _ (N0f.mpr rfl))).1
   have chk:∀ b∈fp,(b∈X.ex\/X.s₀.heap.objs.size<=b)/\b≠X.env.locals/\(∀ x c,X.env.cells.lookup x=some c->c≠b)/\∀ p∈X.pn++pins,p.1≠b:=λ b hb=>⟨(f2 b hb).2.2.2.1,(f2 b hb).2.1,(f2 b hb).2.2.2.2.1,(f2 b hb).2.2.2.2.2⟩
   have J5:Inv X pins σ H' s4:=I2.call' (ch:=fp) I5.os I5.base I5.hok I5.bare chk
   have fD:FpOk X pins H' D:=I2.fpOk (by rw [hDe];exact N07 _) nD
   have J6:Inv X pins σ (upd H' D (.lst ys)) s4:=J5.adopt fD ⟨hz,its,q,rv,eD4⟩
   obtain ⟨mC,⟨oC,es,ep,hoC,hdC,rC⟩,_⟩:=I5.loc
   have nC:H' C=none:=I5.free
   have fC:FpOk X pins (upd H' D (.lst ys)) C:=I2.fpOk (by rw [hDe];exact hCle) (by rw [Z2 (N1f hDC)];exact nC)
   refine hRR D C s4 H' ys mC oC ?_ nD qF hoC ⟨oC,es,ep,hoC,hdC,rC⟩ fC
   refine J6.pins_of λ p hp=>(N0a.mp hp).elim (λ z=>J6.pin p (N05 _ z)) λ z=>?_
   rw [N0f.mp z]
   exact ⟨hoC,fC.1,fC.2.1,fC.2.2.1,λ v z=>by rw [hdC] at z;cases z⟩
  ·refine N0p (T.item (cxC X x caps sc ⟨C,s,H2,fp,XE D C⟩) rfl rfl rfl hc i _ s' _ H' (XE D C) Ip (FP fr' pD) st' go) (λ r s4 hx_=>?_) λ o_ o_ z=>z
   obtain ⟨u,hr,h4⟩:=hx_
   subst hr
   refine N0p h4 (λ o1_ s5 hx_=>?_) λ o_ o_ z=>z
   obtain ⟨y,H5,I5,r5,y5,st5,fr5⟩:=hx_
   have I5':=I5.pinned (FP fr5 pD) (T.obj _ _ st5)
   have hx:Loc (cxC X x caps sc ⟨C,s,H2,fp,XE D C⟩).env.scope x:=.inl (lookup_relabel_local k.own)
   refine N0p ((q07 (X:=cxC X x caps sc ⟨C,s,H2,fp,XE D C⟩) (i:=0) (pos:=px) k.nd rfl hx (.inr (lookup_relabel_local k.own))) _ s5 _ H5 y u (λ σ6 H6=>σ6=some y::capσ caps σ/\H6=H5) I5' r5 ⟨rfl,rfl⟩) (λ o1_ s6 hx_=>?_) λ o_ o_ z=>z
   obtain ⟨σ6,H6,I6,e6,e6'⟩:=hx_
   subst e6 e6'
   have keepT:∀ {σ7:St}{H7:Hp}{s7:Shared},Inv (cxC X x caps sc ⟨C,s,H2,fp,XE D C⟩) ([(D,(lsO its q))]++q3w fp s5.heap) σ7 H7 s7 ->
    tn (i+1) s7.heap/\(∀ b∈fp,H7 b=none)/\s7.heap.get? D=some (lsO its q)/\H7 D=none:=λ {σ7 H7 s7} I7=>by
    refine ⟨T.keep _ _ _ st5 λ b hb o e=>(I7.pin (b,o) (N05 _ (N05 _ (q0i hb e)))).1,λ b hb=>?_,(I7.pin (D,(lsO its q)) (N05 _ (N0w _ (N0f.mpr rfl)))).1,(I7.pin (D,(lsO its q)) (N05 _ (N0w _ (N0f.mpr rfl)))).2.1⟩
    obtain ⟨o,e,d⟩:=T.obj _ _ st5 b hb
    exact (I7.pin (b,o) (N05 _ (N05 _ (q0i hb e)))).2.1
   refine N0p (ht ⟨C,s,H2,fp,XE D C⟩ g _ s6 _ _ _ I6 (step y _ y5)) (λ ok s7 hx_=>?_) λ o_ o_ z=>z
   obtain ⟨H7,I7,q7⟩:=hx_
   cases ok with
   | false =>
    have q7:N ys H7:=by
     have q7':=q7
     rw [N0l N0d] at q7'
     exact q7'
    rw [N0l N0d]
    obtain ⟨m',hm,w7⟩:=hN ys H7 q7
    obtain ⟨k1,k2,k3,k4⟩:=keepT I7
    exact ⟨m',hm,(hIV _ _).2 ⟨i+1,some y,ys,H7,its,q,I7.pins_of (λ p hp=>(N1d hp).elim),k1,k2,w7,hz,rv,k3,k4⟩⟩
   | true =>
    rw [N0j rfl] at q7
    rw [N0j rfl]
    refine N0p (he ⟨C,s,H2,fp,XE D C⟩ g _ s7 _ H7 _ I7 q7) (λ v s8 hx_=>?_) λ o_ o_ z=>z
    obtain ⟨v',H8,I8,r8,hz8,n8⟩:=hx_
    obtain ⟨m',hm,w8⟩:=hN _ H8 n8
    obtain ⟨k1,k2,k3,k4⟩:=keepT I8
    have hl:=rv.length
    refine call_meets PySem.F.slot_list_append ⟨_,k3,rfl⟩ PySem.F.entry_list_append (PySem.F.args_list_append_2 _ _) (PySem.list_append D its.toArray q v (by rw [N0m];simp_all)) ⟨k3,?_⟩
    have q8:=PySem.IsL.update k3 (λ a:Array Value=>a.push v)
    have q9:its.toArray.push v=(its++[v]).toArray:=by simp
    simp only [q9] at q8
    have eo:∀ b o,b≠D->s8.heap.get? b=some o->(s8.heap.update D (Obj.mapSeq λ a:Array Value=>a.push v)).get? b=some o:=λ b o hb e=>(Heap.get?_update_other s8.heap _ (N1f hb)).trans e
    have I9:Inv (cxC X x caps sc ⟨C,s,H2,fp,XE D C⟩) [] (some y::capσ caps σ) H8 s8:=I8.pins_of (λ p hp=>(N1d hp).elim)
    refine ⟨m',hm,(hIV _ _).2 ⟨i+1,some y,ys++[v'],H8,its++[v],(if ((its++[v]).toArray.size==its.toArray.size)=true then q else q+1),I9.turned (it:=D) (t':=s8.toks) eo k4 hDC (.inr (by show s.heap.objs.size<=D;rw [hDe];exact N07 _)) nCellD (λ p hp=>(N1d (show p∈([]:List (Addr×Obj)) from hp)).elim),
     T.keep _ _ _ k1 λ b hb o e=>eo b o (N1f (nfpD b hb)) e,k2,w8,by rw [N06,N11];assumption,rv.append (.cons r8 .nil),q8,k4⟩⟩
 exact codeAny_compStart_list (loop _ rfl) (T.self _ 0 _ _ _ st4 (loop _ rfl))
theorem q2k {pins:List (Addr×Obj)}{σ:St}{s:Shared}{itv:Value}{F:List V->Hp->Prop}{RR:Value->Addr->Result->Shared->Prop}(k:CompOk X x caps sc) (hc:X.calm=true) (ht:∀ z,z10 (cxC X x caps sc z) ifs (tt z)) (he:∀ z,PE (cxC X x caps sc z) elt (te z))
 (h2:PIE X pins σ (.Name x px) (λ J H1=>q1J caps σ tt te J H1 F) itv s)
 (hRR:∀ D C s' H' ys m oC,Inv X (pins++[(C,oC)]) σ (upd H' D (.lst ys)) s'->H' D=none->F ys H'->s'.heap.get? C=some oC->s'.heap.Ns C m->FpOk X pins (upd H' D (.lst ys)) C->RR (.ref D) C (.ok .next) s') :
 wpAny (model X.prog X.w) X.A (newList []) (λ acc s₃=>wpAny (model X.prog X.w) X.A (newFunctionEnv sc X.env.globals (clOf sc X.env) [] X.env.qual none .none (some X.env)) (λ cenv s₄ =>
  codeAny (model X.prog X.w) X.A (.compStart (.ListComp elt [⟨.Name x px,iter,ifs,0⟩] sc pos) 0 itv acc { cenv with scope:=relabel sc X.env }) (RR acc cenv.locals) s₄) X.xe s₃) X.xe s :=
 q1K (XE:=λ o_ o_ o_ o_=>False) (G:=λ o_=>True) k hc (λ z o_=>ht z) (λ z o_=>he z) (λ o_ o_ o_ o_ z=>z.elim) (λ o_ o_ o_ o_ o_ o_ o_ o_=>trivial) h2 hRR
theorem z11 (hk:U4 X.env.scope sc X.N x caps=true) (hc:X.calm=true) (hi:PI X (.Name x px) iter wi) (ht:∀ z,z10 (cxC X x caps sc z) ifs (tt z)) (he:∀ z,PE (cxC X x caps sc z) elt (te z))
 (hs:∀ v,foldedSetIterable iter X.env v=pure v:=by intro _;rfl):PE X (.ListComp elt [⟨.Name x px,iter,ifs,0⟩] sc pos) (q9e caps wi tt te):=by
 intro pins s σ H Q I h
 have k:=q1I hk
 rw [eval_ListComp]
 refine wpAny_comprehension_free (use:=none) (cl:=clOf sc X.env) rfl hs (U2 λ p hp e=>I.ok.has p.1 (k.free p hp e)) k.kind k.names (N0p (hi pins s σ H _ I h) (λ v s1 h1=>N0p h1 (λ itv s2 h2=>?_) λ o_ o_ e=>e) λ o_ o_ e=>e)
 refine q2k (RR:=λ acc C=>compPost (model X.prog X.w) X.A X.xe none (EP X pins σ Q) acc C) k hc ht he h2 ?_
 intro D C s' H' ys m oC I' nD qF hoC hn fC
 refine ⟨m,hn,λ h' hs'=>⟨.ref D,upd H' D (.lst ys),?_,rfl,qF D nD⟩⟩
 exact I'.unpinned.turned (it:=C) (t':=s'.toks) (λ b o hb e=>hs'.extBut b o hb e) fC.1 fC.2.1 fC.2.2.2.1 fC.2.2.2.2.1 fC.2.2.2.2.2
theorem q7g {y:Str}{i:Nat}{py spos:Pos}(hN:X.N.Nodup) (hi':X.N[i]? = some y) (hy:Loc X.env.scope y) (hk:U4 X.env.scope sc X.N x caps=true) (hc:X.calm=true) (hi:PI X (.Name x px) iter wi) (ht:∀ z,z10 (cxC X x caps sc z) ifs (tt z)) (he:∀ z,PE (cxC X x caps sc z) elt (te z))
 (hsw:swapsWith (.ListComp elt [⟨.Name x px,iter,ifs,0⟩] sc pos) (some (.Name y py)) spos.line X.env=pure true:=by rfl)
 (hs:∀ v,foldedSetIterable iter X.env v=pure v:=by intro _;rfl) (hf:X.fn y=true\/X.env.scope.names.lookup y=some .local:=by first | exact .inl rfl | exact .inr rfl | assumption) :
 PS X (.Assign [.Name y py] (.ListComp elt [⟨.Name x px,iter,ifs,0⟩] sc pos) spos) (z02 (q9e caps wi tt te) (q2J i)):=by
 intro pins s σ H D I h
 have k:=q1I hk
 rw [exec_Assign_Name_used _ _ _ _ hsw]
 refine N03 (wpAny_standAt (N03 ?_))
 show wpAny _ X.A (do let _ <- comprehension (.ListComp elt [⟨.Name x px,iter,ifs,0⟩] sc pos) sc X.env _ (newList []) false (eval iter X.env) (some (assign (.Name y py) X.env))) _ _ s
 refine N03 (N0p (wpAny_comprehension_free (use:=some (assign (.Name y py) X.env)) (Q:=λ o_ s'=>SP X pins D .next s') (cl:=clOf sc X.env) rfl hs (U2 λ p hp e=>I.ok.has p.1 (k.free p hp e)) k.kind k.names
  (N0p (hi pins s σ H _ I h) (λ v s1 h1=>N0p h1 (λ itv s2 h2=>?_) λ o_ o_ e=>e) λ o_ o_ e=>e)) (λ o_ s' hq=>N0y (N0y hq)) λ o_ o_ e=>e)
 refine q2k (RR:=λ acc C=>compPost (model X.prog X.w) X.A X.xe (some (assign (.Name y py) X.env)) (λ o_ s'=>SP X pins D .next s') acc C) k hc ht he h2 ?_
 intro D' C s' H' ys m oC I' nD qF hoC hn fC
 show wpAny _ X.A (assign (.Name y py) X.env (.ref D')) _ _ _
 refine N0p ((q07 (pos:=py) hN hi' hy hf) _ s' σ _ (.ref D') (.ref D') (λ σ2 H2=>D.nx σ2 H2/\H2=upd H' D' (.lst ys)) I' rfl ⟨qF D' nD,rfl⟩) (λ o1_ s2 hx_=>?_) λ o_ o_ e=>e
 obtain ⟨σ2,H2,I2,q2,e2⟩:=hx_
 have hC2:=(I2.pin (C,oC) (N05 _ (N05 _ (N0f.mpr rfl)))).1
 obtain ⟨o',es,ep,ho',r⟩:=hn
 rw [hoC] at ho';cases ho'
 subst e2
 exact ⟨m,⟨_,es,ep,hC2,r⟩,λ h3 hs3=>⟨σ2,_,I2.unpinned.turned (it:=C) (t':=s2.toks) (λ b o hb e=>hs3.extBut b o hb e) fC.1 fC.2.1 fC.2.2.2.1 fC.2.2.2.2.1 fC.2.2.2.2.2,q2⟩⟩
end
section
variable {caps:q2j}{σ:St}{tt:CArg->TT}{te:CArg->TE}{H1:Hp}{F:List V->Hp->Prop}
theorem q3N {K:PySem.W.Frag}{a:Addr}{xs:List V}(Pv:Nat->List V->Hp->Prop) (h0:Pv 0 [] H1) (hl:∀ i ys H,i<=xs.length->Pv i ys H->SqL K H a xs)
 (hs:∀ z i x ys H,xs[i]? = some x->Pv i ys H->tt z (some x::capσ caps σ) H λ b H3=>if b=true then te z (some x::capσ caps σ) H3 λ v H4=>ys.length<sizeLine/\Pv (i+1) (ys++[v]) H4 else Pv (i+1) ys H3)
 (hd:∀ ys H,Pv xs.length ys H->F ys H):q1J caps σ tt te (Itl K a) H1 F:=by
 refine ⟨λ i m ys H=>m=xs.length - i/\i<=xs.length/\Pv i ys H,⟨xs.length,by simp,N1b _,h0⟩,?_⟩
 rintro z i m ys H ⟨rfl,hi,p⟩
 have q:=hl i ys H hi p
 by_cases hlt:i<xs.length
 ·refine .inr ⟨⟨xs,xs[i],q,by simp [hlt]⟩,Pv (i+1),λ ys' H' p'=>⟨xs.length - (i+1),by omega,rfl,hlt,p'⟩,λ x H' y=>?_⟩
  obtain ⟨e,y⟩:=y
  subst e
  exact hs z i x ys _ (y xs q) p
 ·have e:i=xs.length:=by lia
  subst e
  exact .inl ⟨⟨xs,q,N07 _⟩,hd ys H p⟩
theorem q5s {K:PySem.W.Frag}{a:Addr}{xs:List V}(Pv:Nat->List V->Hp->Prop) (h0:Pv 0 [] H1) (hl:∀ i ys H,i<=xs.length->Pv i ys H->SqT K H a xs)
 (hs:∀ z i x ys H,xs[i]? = some x->Pv i ys H->tt z (some x::capσ caps σ) H λ b H3=>if b=true then te z (some x::capσ caps σ) H3 λ v H4=>ys.length<sizeLine/\Pv (i+1) (ys++[v]) H4 else Pv (i+1) ys H3)
 (hd:∀ ys H,Pv xs.length ys H->F ys H):q1J caps σ tt te (Itt K a) H1 F:=by
 refine ⟨λ i m ys H=>m=xs.length - i/\i<=xs.length/\Pv i ys H,⟨xs.length,by simp,N1b _,h0⟩,?_⟩
 rintro z i m ys H ⟨rfl,hi,p⟩
 have q:=hl i ys H hi p
 by_cases hlt:i<xs.length
 ·refine .inr ⟨⟨xs,xs[i],q,by simp [hlt]⟩,Pv (i+1),λ ys' H' p'=>⟨xs.length - (i+1),by omega,rfl,hlt,p'⟩,λ x H' y=>?_⟩
  obtain ⟨e,y⟩:=y
  subst e
  exact hs z i x ys _ (y xs q) p
 ·have e:i=xs.length:=by lia
  subst e
  exact .inl ⟨⟨xs,q,N07 _⟩,hd ys H p⟩
theorem q2l {lo:Int}{n:Nat}(Pv:Nat->List V->Hp->Prop) (h0:Pv 0 [] H1)
 (hs:∀ z i ys H,i<n->Pv i ys H->tt z (some (.int (lo+i))::capσ caps σ) H λ b H3=>if b=true then te z (some (.int (lo+i))::capσ caps σ) H3 λ v H4=>ys.length<sizeLine/\Pv (i+1) (ys++[v]) H4 else Pv (i+1) ys H3)
 (hd:∀ ys H,Pv n ys H->F ys H):q1J caps σ tt te (Itr lo n) H1 F:=by
 refine ⟨λ i m ys H=>m=n - i/\i<=n/\Pv i ys H,⟨n,by simp,N1b _,h0⟩,?_⟩
 rintro z i m ys H ⟨rfl,hi,p⟩
 by_cases hlt:i<n
 ·refine .inr ⟨hlt,Pv (i+1),λ ys' H' p'=>⟨n - (i+1),by omega,rfl,hlt,p'⟩,λ x H' y=>?_⟩
  obtain ⟨e,y⟩:=y
  subst e y
  exact hs z i ys _ hlt p
 ·have e:i=n:=by lia
  subst e
  exact .inl ⟨N07 _,hd ys H p⟩
end
structure CompOk2 (X:Cx) (x x2:Str) (caps:q2j) (sc:Scope):Prop where
 own:sc.names.lookup x=some .local
 own2:sc.names.lookup x2=some .local
 kind:sc.kind=.function
 nocell:∀ y∈sc.names,y.2≠.cell
 names:∀ y∈sc.names,y.2=.local->sc.names.lookup y.1=some .local
 free:∀ y∈sc.names,y.2=.free->X.env.kindOf y.1=some .cell\/X.env.kindOf y.1=some .free
 nd:(x::x2::caps.map (·.1)).Nodup
 cap:∀ c∈caps,X.N[c.2]? = some c.1/\sc.names.lookup c.1=some .free/\(X.env.kindOf c.1=some .cell\/X.env.kindOf c.1=some .free)
section
variable {X:Cx}
theorem z4Z {bs:List Bool}{us:List Value}(r:Vals (bs.map V.bl) us){i:Nat}{v:Value}(e:us[i]? = some v):∃ b,bs[i]? = some b/\v=.bool b:=by
 have hl:=r.length
 rw [N01] at hl
 have hi:i<us.length:=(N04.mp e).1
 have hb:bs[i]? = some bs[i]:=N08 (by simp_all)
 obtain ⟨u,e',ru⟩:=r.get (i:=i) (x:=.bl bs[i]) (by rw [N0i,hb];rfl)
 rw [e] at e'
 cases e'
 exact ⟨_,hb,ru⟩
theorem q7h (bs:List Bool) (n:Nat) (h:n=bs.length):((List.range n).all λ i=>(bs[i]?).getD true)=bs.all id:=by
 subst h
 exact LSm.range_all bs
theorem q2N (hc:X.calm=true):X8 X (.builtin "all") (λ xs H Q=>∃ (a:Addr) (bs:List Bool),xs=[.ref a]/\SqL X.K H a (bs.map V.bl)/\Q (.bl (bs.all id)) H):=by
 intro pins s σ H xs us Q I r h
 obtain ⟨a,bs,rfl,ha,q⟩:=h
 obtain ⟨u,rfl,ru⟩:=q4t r
 cases ru
 obtain ⟨its,rv,pl,hz⟩:=I.list ha
 have hl:=pl.isList
 have hlt:a<s.heap.objs.size:=by
  obtain ⟨_,e,_⟩:=id hl
  exact Heap.lt_size e
 refine call_all_walk (wpAny_pyIter_list hl ⟨s.heap.objs.size,[s.heap.objs.size,a],[s.heap.objs.size],its.toArray.size,_,_,λ i=>(bs[i]?).getD true,rfl,
  Walks.list (A:=X.A.in1) (I.ok.hd hc) _ a (N12 hlt) its.toArray,⟨⟨_,Heap.get?_push_size _ rfl,rfl,rfl⟩,hl.push _⟩,λ i v s' Q' E' hP hQ=>?_,λ h' tk hk=>?_⟩)
 ·obtain ⟨b,e,rfl⟩:=z4Z rv (by simpa using hP)
  simp only [e,Option.getD_some] at hQ
  exact wpAny_truthy_bool hQ
 ·rw [q7h bs _ (by rw [N0m,<- rv.length,N01])]
  exact ⟨.bl _,H,I.kept (LSm.kept_iter hk),rfl,q⟩
theorem q2O (hc:X.calm=true):X8 X (.builtin "sum") (λ xs H Q=>∃ (a:Addr) (ns:List Int),xs=[.ref a]/\SqL X.K H a (ns.map V.int)/\Q (.int ns.sum) H):=by
 intro pins s σ H xs us Q I r h
 obtain ⟨a,ns,rfl,ha,q⟩:=h
 obtain ⟨u,rfl,ru⟩:=q4t r
 cases ru
 obtain ⟨its,rv,pl,hz⟩:=I.list ha
 have hi:=q6e rv
 obtain ⟨xs,hx⟩:=hi.allInts.items
 have hl':s.heap.IsList a (intItems xs):=hx▸pl.isList
 refine sum_intListG (I.ok.hd hc) hl' λ h' tk t' hk=>?_
 have e1:ns=xs.toList.map (·.1):=by
  rw [<- nums_intItems,<- hx]
  exact (show numsOf its.toArray.toList=ns from hi.numsOf).symm
 rw [show preSum (numAt xs) xs.size=ns.sum by rw [preSum_eq,N1l (by simp),e1]]
 exact ⟨.int ns.sum,H,I.kept hk,⟨t',rfl⟩,q⟩
theorem z2K:SlR X (λ x lo hi H Q=>∃ z,x=.str z/\z.length<=sizeLine/\Q (.str (Txt.slice z lo hi)) H):=by
 intro pins s σ H x v vl vu lo hi sl Q I rx hs pl pu h
 obtain ⟨z,rfl,hz,q⟩:=h
 obtain ⟨t,rfl⟩:=rx
 refine ⟨"str",_,F.slot_str_getitem.lookup,typeIs_str _ _ _,?_⟩
 have fin:∀ t' k,EP X pins σ Q (.str (Txt.slice z lo hi) t') { s with toks:=k }:=λ t' k=>⟨.str _,H,I.tok k,⟨t',rfl⟩,q⟩
 have hle:=N0v (Txt.slice_le z lo hi) hz
 cases pl with
 | none=>cases pu with
  | none=>exact wpAny_getItem_str_slice (l:=none) (u:=none) (st:=none) hs rfl (post_val_or_str ⟨hle,fin⟩)
  | int j uj=>exact wpAny_getItem_str_slice (l:=none) (u:=some (j,uj)) (st:=none) hs rfl (post_val_or_str ⟨hle,fin⟩)
 | int i ui=>cases pu with
  | none=>exact wpAny_getItem_str_slice (l:=some (i,ui)) (u:=none) (st:=none) hs rfl (post_val_or_str ⟨hle,fin⟩)
  | int j uj=>exact wpAny_getItem_str_slice (l:=some (i,ui)) (u:=some (j,uj)) (st:=none) hs rfl (post_val_or_str ⟨hle,fin⟩)
end
noncomputable def Its (x:Str):It:=⟨λ i o_=>i<x.cps.size,λ i H v H'=>H'=H/\∃ c,x.cps[i]? = some c/\v=.str ⟨#[c]⟩,λ i o_=>x.cps.size<=i⟩
theorem q9g {P:Program}{w:World}{K:PySem.W.Frag}{tg:Expr}(it:Addr) (x:Str) (t:Tok):Turn P w K tg (Its x) [it] it (λ i h=>h.IsStrIter it "str_ascii_iterator" x t i) where
 mem:=by simp
 obj:=λ i h st b hb=>by
  have e:b=it:=by simpa using hb
  subst e
  obtain ⟨o,e,c,d⟩:=st
  exact ⟨o,e,λ v z=>by rw [d] at z;cases z⟩
 keep:=λ i h h' st k=>let ⟨o,ho,r⟩:=st;⟨o,k it (by simp) o ho,r⟩
 item:=by
  intro X hP hw hK hc i pins s σ H E I hf st hg
  subst hP hw hK
  obtain ⟨f0,f1,f2,f3,f4,f5⟩:=hf it (by simp)
  have hg:i<x.cps.size:=hg
  refine wpAny_pyNext_ascii_item st (c:=x.cps[i]) (by simp [hg]) λ h' st' sb=>?_
  have I1:Inv X pins σ H { s with heap:=h',toks:=s.toks+1 }:=I.turned (λ b o hb e=>(sb.2 b hb).trans e) f0 f1 f3 f4 f5
  obtain ⟨o,e,c,d⟩:=id st'
  exact ⟨_,rfl,q8X (s:={ s with heap:=h',toks:=s.toks+1 }) e c d (by decide) ⟨.str ⟨#[x.cps[i]]⟩,H,I1,⟨_,rfl⟩,⟨rfl,x.cps[i],by simp [hg],rfl⟩,st',λ b hb=>(hf b hb).1⟩⟩
 done:=by
  intro X hP hw hK hc i pins s σ H E I hf st hg
  subst hP hw hK
  obtain ⟨f0,f1,f2,f3,f4,f5⟩:=hf it (by simp)
  have hg:x.cps.size<=i:=hg
  exact wpAny_pyNext_ascii_end (I.ok.hd hc) st (by simp;omega) λ h' eb=>⟨rfl,I.turned (t':=s.toks) (λ b o hb e=>eb b o hb e) f0 f1 f3 f4 f5⟩
 self:=λ o_ o_ o_ o_ o_ st h=>wpAny_pyIter_striter_ascii st h
section
variable {X:Cx}{tg:Expr}
noncomputable def iStr (tl:TE):TI:=λ σ H R=>tl σ H λ x H1=>∃ z,x=.str z/\z.cps.all (· < 128)=true/\R (Its z) H1
theorem z2L {l:Expr}{tl:TE}(hl:PE X l tl):PI X tg l (iStr tl):=by
 intro pins s σ H R I h
 refine thx (hl pins s σ H _ I h) λ v s1 x H1 I1 r1 q1=>?_
 obtain ⟨z,e,ha,q⟩:=q1
 subst e
 obtain ⟨t,rfl⟩:=r1
 refine wpAny_pyIter_ascii ha ?_
 refine ⟨s1.heap.objs.size,[s1.heap.objs.size],_,_,H1,rfl,I1.kept (t':=s1.toks) λ b o e=>Heap.get?_push_of_some _ e,q9g _ z t,⟨_,Heap.get?_push_size _ rfl,rfl,rfl⟩,λ b hb=>?_,q⟩
 have e:b=s1.heap.objs.size:=by simpa using hb
 subst e
 exact I1.fpOk (N07 _) (I1.hok.fresh (N07 _))
end
theorem q7i {z:Str}{g:TG}{tb:TS}{D:Ends}{σ:L2.St}{H:Hp}(Pv:Nat->L2.St->Hp->Prop) (h0:Pv 0 σ H)
 (hs:∀ i c σ H,z.cps[i]? = some c->Pv i σ H->g (.str ⟨#[c]⟩) σ H λ σ2 H2=>tb { D with nx:=Pv (i+1),ct:=Pv (i+1),bk:=D.nx } σ2 H2) (hd:∀ σ H,Pv z.cps.size σ H->D.nx σ H) :
 ∃ W:Nat->Nat->L2.St->Hp->Prop,(∃ m,W 0 m σ H)/\∀ i m σ H,W i m σ H ->
  ((Its z).stop i H/\D.nx σ H)\/((Its z).go i H/\∃ N:L2.St->Hp->Prop,(∀ σ' H',N σ' H'->∃ m',m'<m/\W (i+1) m' σ' H')/\∀ x H',(Its z).yld i H x H'->g x σ H' λ σ2 H2=>tb { D with nx:=N,ct:=N,bk:=D.nx } σ2 H2):=by
 refine ⟨λ i m σ H=>m=z.cps.size - i/\i<=z.cps.size/\Pv i σ H,⟨z.cps.size,by simp,N1b _,h0⟩,?_⟩
 rintro i m σ H ⟨rfl,hi,p⟩
 by_cases hlt:i<z.cps.size
 ·refine .inr ⟨hlt,Pv (i+1),λ σ' H' p'=>⟨z.cps.size - (i+1),by omega,rfl,hlt,p'⟩,λ x H' y=>?_⟩
  obtain ⟨e,c,hc,y⟩:=y
  subst e y
  exact hs i c σ _ hc p
 ·have e:i=z.cps.size:=by lia
  subst e
  exact .inl ⟨N07 _,hd σ H p⟩
theorem q5t {z:Str}{caps:q2j}{σ:L2.St}{tt:CArg->TT}{te:CArg->TE}{H1:Hp}{F:List V->Hp->Prop}(Pv:Nat->List V->Hp->Prop) (h0:Pv 0 [] H1)
 (hs:∀ q i c ys H,z.cps[i]? = some c->Pv i ys H->tt q (some (.str ⟨#[c]⟩)::capσ caps σ) H λ b H3=>if b=true then te q (some (.str ⟨#[c]⟩)::capσ caps σ) H3 λ v H4=>ys.length<sizeLine/\Pv (i+1) (ys++[v]) H4 else Pv (i+1) ys H3)
 (hd:∀ ys H,Pv z.cps.size ys H->F ys H):q1J caps σ tt te (Its z) H1 F:=by
 refine ⟨λ i m ys H=>m=z.cps.size - i/\i<=z.cps.size/\Pv i ys H,⟨z.cps.size,by simp,N1b _,h0⟩,?_⟩
 rintro q i m ys H ⟨rfl,hi,p⟩
 by_cases hlt:i<z.cps.size
 ·refine .inr ⟨hlt,Pv (i+1),λ ys' H' p'=>⟨z.cps.size - (i+1),by omega,rfl,hlt,p'⟩,λ x H' y=>?_⟩
  obtain ⟨e,c,hc,y⟩:=y
  subst e y
  exact hs q i c ys _ hc p
 ·have e:i=z.cps.size:=by lia
  subst e
  exact .inl ⟨N07 _,hd ys H p⟩
section
variable {X:Cx}
theorem q7j:OpR X (compareOp .LtE) (λ x y H Q=>∃ i j,x=.str i/\y=.str j/\Q (.bl (!decide (j.cps.toList<i.cps.toList))) H):=by
 intro pins s σ H x y v u Q I rx ry h
 obtain ⟨i,j,rfl,rfl,q⟩:=h
 obtain ⟨t,rfl⟩:=rx
 obtain ⟨t',rfl⟩:=ry
 exact PySem.P.le_str (fin_bl I q rfl)
theorem q7k:OpR X (compareOp .GtE) (λ x y H Q=>∃ i j,x=.str i/\y=.str j/\Q (.bl (!decide (i.cps.toList<j.cps.toList))) H):=by
 intro pins s σ H x y v u Q I rx ry h
 obtain ⟨i,j,rfl,rfl,q⟩:=h
 obtain ⟨t,rfl⟩:=rx
 obtain ⟨t',rfl⟩:=ry
 exact PySem.P.ge_str (fin_bl I q rfl)
end
section
variable {X:Cx}{o e:Expr}{es:List Expr}{apos cpos pos:Pos}{to te:TE}
theorem q3O:∀ {ys:List Str}{us:List Value},Vals (ys.map V.str) us->∃ l:List (Str×Tok),strValues l=us/\l.map (·.1)=ys
 | [],_,.nil=>⟨[],rfl,rfl⟩
 | y::ys,_,.cons r t=>by
  obtain ⟨tk,rfl⟩:=r
  obtain ⟨l,h1,h2⟩:=q3O t
  subst h1 h2
  exact ⟨(y,tk)::l,rfl,rfl⟩
theorem q7l {sep:Str}{texts:List Str}(h:(texts.map (·.length)).sum+texts.length * sep.length<=sizeLine):JoinOk sep texts=true:=by
 have e:∀ (l:List Str) (n:Nat),l.foldl (λ n s=>n+s.length+sep.length) n=n+(l.map (·.length)).sum+l.length * sep.length:=by
  intro l
  induction l with
  | nil=>intro n;simp
  | cons a r ih =>
   intro n
   rw [List.foldl_cons,ih,N09,List.sum_cons,N0h,Nat.succ_mul]
   lia
 unfold JoinOk Builtin.Str.tooLong
 rw [List.foldl_toArray,e]
 simp
 omega
noncomputable def z2M (to te:TE):TE:=λ σ H Q=>to σ H λ x H1=>∃ sep,x=.str sep/\te σ H1 λ y H2=>∃ a texts,y=.ref a/\Rd H2 a (.lst (texts.map V.str))/\(texts.map (·.length)).sum+texts.length * sep.length<=sizeLine/\Q (.str (Str.join sep texts)) H2
theorem q9h (ho:PE X o to) (he:PE X e te) (m:M1 X o "join" apos e cpos):PE X (.Call (.Attribute o "join" apos) [e] [] cpos) (z2M to te):=by
 intro pins s σ H Q I h
 refine wpAny_Call_method m.base m.few m.line PySem.F.plainAttrs_str PySem.F.slot_str_join PySem.F.type_str_join (thx (ho pins s σ H _ I h) λ u s1 x H1 I1 rx hx_=>?_)
 obtain ⟨sep,ex,q1⟩:=hx_
 subst ex
 obtain ⟨tk,rfl⟩:=rx
 refine ⟨typeIs_str _ _ _,(λ b q=>nomatch q),?_⟩
 rw [m.trees]
 refine Calls.callWith_builtin rfl (Calls.evalArgs_plain (Calls.spliced_cons (thx (he pins s1 σ H1 _ I1 q1) λ iv s2 y H2 I2 ry ⟨a,texts,ey,rd,hz,q2⟩=>Calls.spliced_nil ?_)))
 subst ey
 obtain rfl:iv=Value.ref a:=ry
 obtain ⟨us,rv,hg,z⟩:=I2.list (.inl rd)
 obtain ⟨l,h1,h2⟩:=q3O rv
 refine SC.join (l:=l) (texts:=texts) ?_ h2 (q7l hz) λ t' k=>?_
 ·rw [h1];exact hg.isList
 ·rw [show Txt.join sep texts=Str.join sep texts from StrLaws.glued_eq_join sep texts]
  exact ⟨.str (Str.join sep texts),H2,I2.tok _,⟨_,rfl⟩,q2⟩
noncomputable abbrev TJ:=St->Hp->Str->(Str->Hp->Prop)->Prop
end
noncomputable def Trc (ctx:Bool) (B:Heap) (e:Addr) (cls:Value) (h:Heap):Prop :=
 ∃ oe vs T oT ts fl,h.get? e=some oe/\oe.cls=cls/\oe.data=.fields vs/\vs[1]? = some (.ref T)/\B.get? T=none/\T≠e/\h.get? T=some oT/\oT.data=.fields ts/\ts[3]? = some fl/\(ctx=true->vs[2]? = some .none)
noncomputable def FlyA (ctx:Bool) (B:Heap) (l:List Env) (e:Addr) (cls:Value) (h:Heap):Prop :=
 B.StaysIn h/\B.get? e=none/\h.FunFrames B l/\Trc ctx B e cls h
theorem FlyA.less {ctx:Bool}{B h:Heap}{env:Env}{l:List Env}{e:Addr}{cls:Value}(f:FlyA ctx B (env::l) e cls h):FlyA ctx B l e cls h :=
 let ⟨a,b,⟨_,_,c⟩,d⟩:=f
 ⟨a,b,c,d⟩
section
variable {M:Model}{A:Around}{E:Value->Shared->Prop}{s:Shared}{ctx:Bool}{B:Heap}{env env':Env}{outer l:List Env}{L e:Addr}{cls:Value}{Q:Unit->Shared->Prop}
theorem q3P {oe:Obj}{vs:Array Value}{hd:Value}{nx:Bool}(hfr:A.frames=some (env::outer)) (hl:s.heap.FunFrames B (env::outer)) (hf:env.frame=some L) (hf':env'.frame=some L)
 (he:s.heap.get? e=some oe) (hs:B.StaysIn s.heap) (hn:B.get? e=none) (hdt:oe.data=.fields vs) (hsz:1<vs.size) (hc:oe.cls=cls) (h2:ctx=true->vs[2]? = some .none)
 (hQ:∀ h',FlyA ctx B (env::outer) e cls h'->s.heap.UpToSlots h'->Q () { s with heap:=h' }) :
 wpAny M A (do let fr <- PySem.frameOf env';let pl <- entryPlaceOf L nx;let t <- EntryCells.newEntry hd fr .none (rawInt L) .none pl;setField (.ref e) 1 t) Q E s:=by
 have hfo:PySem.frameOf env'=PySem.frameOf env:=by unfold PySem.frameOf;rw [hf,hf']
 rw [hfo]
 have nofr:e∉(env::outer).filterMap (·.frame):=λ m=>by
  obtain ⟨_,o,q,nf⟩:=hl.mem m
  rw [he] at q
  cases q
  exact nf _ hdt
 refine N03 (wpAny_frameOf_fun hfr hl hf λ h1 so=>N03 (wpAny_entryPlaceOf λ pl ip=>?_))
 unfold EntryCells.newEntry newFields
 refine N03 (wpAny_newObj_type ?_ (ip.sizeOk5 _ _ _ _ _))
 generalize hob:({ cls:=.type "traceback",dict:=none,data:=.fields ([hd,.ref L,.none,rawInt L,.none]++(if pl.isEmpty then List.replicate 6 Value.none else pl)).toArray }:Obj)=tb
 have etb:∃ ts,tb.data=.fields ts/\∃ fl,ts[3]? = some fl:=by
  rw [<- hob]
  exact ⟨_,rfl,rawInt L,by simp⟩
 obtain ⟨ts,e1,fl,e2⟩:=etb
 have q1:h1.get? e=some oe:=(so.2.1 e nofr).trans he
 have q2:(h1.push tb).get? e=some oe:=Heap.get?_push_of_some _ q1
 have ne:h1.objs.size≠e:=Nat.ne_of_gt (Heap.lt_size q1)
 have sB:B.StaysIn h1:=λ b o q=>(so.2.1 b λ m=>by rw [(hl.mem m).1] at q;cases q).trans (hs b o q)
 refine wpAny_setField q2 hdt hsz (hQ _ ?_ ?_)
 all_goals generalize hg:(λ x:Array Value=>x.setIfInBounds 1 (Value.ref h1.objs.size))=g
 ·have q3:((h1.push tb).update e (Obj.mapFields g)).get? e=some (Obj.mapFields g oe):=Heap.get?_update_self _ q2 (Obj.isFreed_of_fields (Obj.data_mapFields hdt g))
  have oth:∀ b o,b≠e->h1.get? b=some o->((h1.push tb).update e (Obj.mapFields g)).get? b=some o:=λ b o n q=>(Heap.get?_update_other _ _ (N1f n)).trans (Heap.get?_push_of_some _ q)
  have q4:((h1.push tb).update e (Obj.mapFields g)).get? h1.objs.size=some tb:=by
   rw [Heap.get?_update_other _ _ (N1f ne)]
   exact Heap.get?_push_size h1 (by rw [<- hob];rfl)
  refine ⟨λ b o q=>oth b o (λ z=>by rw [z,hn] at q;cases q) (sB b o q),hn,hl.of_keeps λ b o q nf=>?_,?_⟩
  ·obtain ⟨sl,z⟩:=so.2.2 b o q
   refine ⟨_,oth b _ (λ w=>?_) z,rfl⟩
   rw [w,he] at q
   cases q
   exact nf _ hdt
  ·refine ⟨_,_,h1.objs.size,tb,ts,fl,q3,by rw [Obj.cls_mapFields];exact hc,Obj.data_mapFields hdt g,?_,sB.fresh,ne,q4,e1,e2,λ z=>?_⟩
   ·rw [<- hg];simp [hsz]
   ·rw [<- hg]
    show (vs.setIfInBounds 1 _)[2]? = _
    rw [Array.getElem?_setIfInBounds_ne (by decide)]
    exact h2 z
 ·intro b o q nf
  obtain ⟨sl,z⟩:=so.2.2 b o q
  refine ⟨sl,?_⟩
  have n:b≠e:=λ w=>by
   rw [w,he] at q
   cases q
   exact nf _ hdt
  exact (Heap.get?_update_other _ _ (N1f n)).trans (Heap.get?_push_of_some _ z)
theorem q3Q {oT:Obj}{ts:Array Value}{T:Addr}{x:Value}(F:FlyA ctx B l e cls s.heap) (hT:s.heap.get? T=some oT) (hd:oT.data=.fields ts) (hx:B.get? T=none) (hne:T≠e) (h3:ts[3]? ≠ none)
 (hw:∀ oe vs,s.heap.get? e=some oe->oe.data=.fields vs->vs[1]? = some (.ref T)) :
 FlyA ctx B l e cls (s.heap.update T (Obj.mapFields (·.setIfInBounds 3 x)))/\s.heap.UpToSlots (s.heap.update T (Obj.mapFields (·.setIfInBounds 3 x))):=by
 obtain ⟨f1,f2,f3,oe,vs,T',oT',ts',fl,x1,x2,x3,x4,x5,x6,x7,x8,x9,x10⟩:=F
 have oth:∀ b,b≠T->(s.heap.update T (Obj.mapFields (·.setIfInBounds 3 x))).get? b=s.heap.get? b:=λ b n=>Heap.get?_update_other _ _ (N1f n)
 have nrec:∀ b o,s.heap.get? b=some o->(∀ vs,o.data≠.fields vs)->b≠T:=λ b o q nf z=>by
  rw [z,hT] at q
  cases q
  exact nf _ hd
 have sz:3<ts.size:=by
  cases q:ts[3]? with
  | none=>exact absurd q h3
  | some y=>exact (N1m.mp q).1
 refine ⟨⟨λ b o q=>(oth b λ z=>by rw [z,hx] at q;cases q).trans (f1 b o q),f2,f3.of_keeps λ b o q nf=>⟨o,(oth b (nrec b o q nf)).trans q,rfl⟩,?_⟩,λ b o q nf=>⟨o.slots,(oth b (nrec b o q nf)).trans q⟩⟩
 exact ⟨oe,vs,T,_,_,x,(oth e (N1f hne)).trans x1,x2,x3,hw oe vs x1 x3,hx,hne,Heap.get?_update_self _ hT (Obj.isFreed_of_fields (Obj.data_mapFields hd _)),Obj.data_mapFields hd _,by simp [sz],x10⟩
theorem U5 {fr:Option Addr}(F:FlyA ctx B l e cls s.heap) (hQ:∀ h',FlyA ctx B l e cls h'->s.heap.UpToSlots h'->Q () { s with heap:=h' }):wpAny M A (setFlight (.ref e) fr) Q E s:=by
 obtain ⟨f1,f2,f3,oe,vs,T,oT,ts,fl,x1,x2,x3,x4,x5,x6,x7,x8,x9,x10⟩:=id F
 unfold setFlight
 refine N03 (wpAny_field x1 x3 x4 ?_)
 rw [N0j (by simp)]
 obtain ⟨k1,k2⟩:=q3Q (x:=fr.elim Value.none λ f=>rawInt f) F x7 x8 x5 x6 (by rw [x9];simp) (λ o v a b=>by rw [x1] at a;cases a;rw [x3] at b;cases b;exact x4)
 exact wpAny_setField x7 x8 (N1m.mp x9).1 (hQ _ k1 k2)
theorem q0C (hfr:A.frames=some (env::outer)) (hf:env.frame=some L) (hf':env'.frame=some L) (F:FlyA ctx B (env::outer) e cls s.heap)
 (hQ:∀ h',FlyA ctx B (env::outer) e cls h'->s.heap.UpToSlots h'->Q () { s with heap:=h' }):wpAny M A (noteFrame (.ref e) env') Q E s:=by
 obtain ⟨f1,f2,f3,oe,vs,T,oT,ts,fl,x1,x2,x3,x4,x5,x6,x7,x8,x9,x10⟩:=id F
 unfold noteFrame
 simp only [hf']
 refine N03 (wpAny_field x1 x3 x4 ?_)
 rw [N0j (by simp)]
 refine N03 (wpAny_field x7 x8 x9 ?_)
 by_cases c:(fl==rawInt L)=true
 ·rw [N0j c]
  exact N0y (hQ s.heap F (Heap.UpToSlots.refl _))
 ·rw [N0l c]
  obtain ⟨k1,k2⟩:=q3Q (x:=Value.none) F x7 x8 x5 x6 (by rw [x9];simp) (λ o v a b=>by rw [x1] at a;cases a;rw [x3] at b;cases b;exact x4)
  refine N03 (wpAny_setField x7 x8 (N1m.mp x9).1 ?_)
  have q:(s.heap.update T (Obj.mapFields (·.setIfInBounds 3 Value.none))).get? e=some oe:=(Heap.get?_update_other _ _ x6).trans x1
  refine q3P (oe:=oe) (vs:=vs) hfr k1.2.2.1 hf hf' q k1.1 f2 x3 (N1m.mp x4).1 x2 x10 λ h' y1 y2=>hQ h' y1 (k2.trans y2)
theorem q3R (hfr:A.frames=some (env::outer)) (hf:env.frame=some L) (F:FlyA ctx B (env::outer) e cls s.heap)
 (hQ:∀ h',FlyA ctx B outer e cls h'->s.heap.UpToSlots h'->Q () { s with heap:=h' }):wpAny M A (leaving env (.ref e)) Q E s:=by
 unfold leaving
 exact N03 (q0C hfr hf hf F λ h1 y1 y2=>U5 y1 λ h2 z1 z2=>hQ h2 z1.less (y2.trans z2))
theorem q2m {oe:Obj}{vs:Array Value}(hfr:A.frames=some (env::outer)) (hl:s.heap.FunFrames B (env::outer)) (hf:env.frame=some L) (he:s.heap.get? e=some oe) (hs:B.StaysIn s.heap) (hn:B.get? e=none)
 (hdt:oe.data=.fields vs) (h1:vs[1]? = some .none) (hc:oe.cls=cls) (h2:ctx=true->vs[2]? = some .none) (hQ:∀ h',FlyA ctx B (env::outer) e cls h'->s.heap.UpToSlots h'->Q () { s with heap:=h' }):wpAny M A (noteFrame (.ref e) env) Q E s:=by
 unfold noteFrame
 simp only [hf]
 refine N03 (wpAny_field he hdt h1 ?_)
 rw [N0l (by decide)]
 exact q3P hfr hl hf hf he hs hn hdt (N1m.mp h1).1 hc h2 hQ
end
theorem X3.there {P:Program}{w:World}{H:Hp}{h:Heap}{a:Addr}{o:HO}(x:X3 P w H h a o):∃ u,h.get? a=some u:=by
 cases o with
 | lst xs=>obtain ⟨_,_,_,_,e⟩:=x;exact ⟨_,e⟩
 | tup xs=>obtain ⟨_,_,_,o,e,_⟩:=x;exact ⟨_,e⟩
 | dK kvs=>obtain ⟨_,_,_,_,o,_,_,e,_⟩:=x;exact ⟨_,e⟩
 | dT kvs=>obtain ⟨_,_,_,_,o,_,_,e,_⟩:=x;exact ⟨_,e⟩
 | set S n=>obtain ⟨o,_,_,_,e,_⟩:=x;exact ⟨_,e⟩
 | ins C dx fs=>obtain ⟨_,_,_,e,_⟩:=x;exact ⟨_,e⟩
 | own y=>exact x
 | xd fs=>obtain ⟨_,⟨_,_,_,e,_⟩,_⟩:=x;exact ⟨_,e⟩
 | rng lo hi=>obtain ⟨_,_,_,e⟩:=x;exact ⟨_,e⟩
 | frz ob u=>obtain ⟨e,_⟩:=x;exact ⟨_,e⟩
 | tbl ps=>exact ⟨_,x⟩
 | met f y=>exact ⟨_,x⟩
 | ext φ=>exact x.2.1
structure Fly (ctx:Bool) (P:Program) (w:World) (l:List Env) (H:Hp) (s s':Shared) (ea C:Addr) (B:Heap) (H':Hp):Prop where
 os:s'.os=s.os
 bare:AllBare s'.gens
 un:Un (frs l) [] H H' s.heap s'.heap
 hok:HOk P w H' s'.heap
 fly:FlyA ctx B l ea (.ref C) s'.heap
 old:∀ b,b∉frs l->((∃ u,s.heap.get? b=some u)\/(∃ u,H' b=some u))->∃ o,B.get? b=some o
noncomputable def CXG (ctx:Bool) (P:Program) (w:World):CXT:=λ l H s E e s'=>∃ ea C B H',e=.ref ea/\Fly ctx P w l H s s' ea C B H'/\E (.ref C) none H'
noncomputable abbrev CXF (P:Program) (w:World):CXT:=CXG false P w
section
variable {P:Program}{w:World}{fs fs':List Addr}{H H':Hp}{h1 h2 h3 B:Heap}
theorem q5u (un:Un fs [] H H' h1 h2) (hold:∀ b,b∉fs->((∃ u,h1.get? b=some u)\/(∃ u,H' b=some u))->∃ o,B.get? b=some o) (s2:B.StaysIn h2) (s3:B.StaysIn h3) (k:h2.UpToSlots h3)
 (hfr:∀ b∈fs,∀ o,h2.get? b=some o->∀ vs,o.data≠.fields vs):Un fs [] H H' h1 h3:=by
 refine ⟨λ b o q n hb hx=>?_,λ b o q n hb hx=>?_,un.free,λ b o q hx=>?_,un.tups,un.frzs,un.tbls⟩
 ·have e2:=un.keep b o q n hb hx
  obtain ⟨o',e⟩:=hold b hb (.inl ⟨o,q⟩)
  have:=s2 b o' e
  rw [e2] at this
  cases this
  exact s3 b o e
 ·obtain ⟨sl,e⟩:=un.slot b o q n hb hx
  obtain ⟨sl',e'⟩:=k b _ e (hfr b hb _ e)
  exact ⟨sl',e'⟩
 ·by_cases hb:b∈fs
  ·obtain ⟨o',e⟩:=un.there b o q hx
   obtain ⟨sl,e'⟩:=k b o' e (hfr b hb _ e)
   exact ⟨_,e'⟩
  ·obtain ⟨o',e⟩:=hold b hb (.inl ⟨o,q⟩)
   exact ⟨o',s3 b o' e⟩
theorem q0X (hok:HOk P w H' h2) (hold:∀ b,b∉fs->((∃ u,h1.get? b=some u)\/(∃ u,H' b=some u))->∃ o,B.get? b=some o) (s2:B.StaysIn h2) (s3:B.StaysIn h3) (hf:∀ b∈fs,H' b=none):HOk P w H' h3:=λ a o e=>by
 refine (hok a o e).stay (λ b u hb q=>?_) (λ o_ q=>q) λ o_ o_ q=>q
 have ht:∃ u,H' b=some u:=by
  rcases hb with rfl | hb
  ·exact ⟨_,e⟩
  ·exact ⟨_,hb⟩
 have hn:b∉fs:=λ z=>by
  obtain ⟨u,hu⟩:=ht
  rw [hf b z] at hu
  cases hu
 obtain ⟨o',e'⟩:=hold b hn (.inr ht)
 have:=s2 b o' e'
 rw [q] at this
 cases this
 exact s3 b u e'
theorem Un.less (u:Un fs [] H H' h1 h2) (hs:∀ b o,h1.get? b=some o->b∈fs->b∈fs'):Un fs' [] H H' h1 h2 :=
 ⟨λ b o q n hb hx=>u.keep b o q n (λ z=>hb (hs b o q z)) hx,λ b o q n o_ hx=>u.any q n hx,u.free,u.there,u.tups,u.frzs,u.tbls⟩
end
section
variable {ctx:Bool}{P:Program}{w:World}{K:PySem.W.Frag}{mg:Str->Option Value}{base:Heap}{N:List Str}{qual:Str}{scope:Scope}{f:Addr}{cd:Value}{A:Around}{outer:List Env}{s:Shared}{H:Hp}{E:XK}
theorem Fly.step {l:List Env}{s':Shared}{ea C:Addr}{B:Heap}{H':Hp}(F:Fly ctx P w l H s s' ea C B H') (hf:∀ b∈frs l,H b=none/\∃ o,s.heap.get? b=some o){h':Heap}(fl:FlyA ctx B l ea (.ref C) h') (k:s'.heap.UpToSlots h') :
 Fly ctx P w l H s { s' with heap:=h' } ea C B H':=by
 refine ⟨F.os,F.bare,q5u F.un F.old F.fly.1 fl.1 k (λ b hb o e=>?_),q0X (fs:=frs l) (h1:=s.heap) F.hok F.old F.fly.1 fl.1 λ b hb=>?_,fl,F.old⟩
 ·obtain ⟨_,o',e',hd⟩:=F.fly.2.2.1.mem hb
  rw [e] at e'
  cases e'
  exact hd
 ·obtain ⟨hn,o,ho⟩:=hf b hb
  exact F.un.free b o ho hn (by simp)
theorem stack_in {env:Env}{l:List Env}:∀ e∈env::l,∀ b,e.frame=some b->b∈frs (env::l):=λ e he b hb=>List.mem_filterMap.mpr ⟨e,he,hb⟩
theorem Y5 {L:Addr}{env:Env}{l:List Env}(h:env.frame=some L):frs (env::l)=L::frs l:=by
 unfold frs
 rw [List.filterMap_cons,h]
theorem q6i {M:Model}{A:Around}{E:Value->Shared->Prop}{s:Shared}{B h:Heap}{env:Env}{outer:List Env}{L e:Addr}{cls:Value}{args:List Value}{Q:Unit->Shared->Prop}(hfr:A.frames=some (env::outer)) (hf:env.frame=some L) (hs:B.StaysIn h) (hl:h.FunFrames B (env::outer)) (hx:Heap.MadeExcOf h s.heap e cls args)
 (hQ:∀ h',FlyA ctx B outer e cls h'->s.heap.UpToSlots h'->Q () { s with heap:=h' }):wpAny M A (leaving env (.ref e)) Q E s:=by
 obtain ⟨t,he,_,_⟩:=hx.there
 have hn:B.get? e=none:=by
  cases q:B.get? e with
  | none=>rfl
  | some o=>have:=hs e o q;rw [hx.new] at this;cases this
 unfold leaving
 exact N03 (q2m (ctx:=ctx) hfr (hl.of_keeps λ b o q o_=>⟨o,hx.keeps b o q,rfl⟩) hf he (λ b o q=>hx.keeps b o (hs b o q)) hn rfl rfl rfl (λ o_=>rfl) λ h1 y1 y2=>U5 y1 λ h2 z1 z2=>hQ h2 z1.less (y2.trans z2))
theorem q9i {pins:List (Addr×Obj)}{σ:St}{H1:Hp}{s1:Shared}{h':Heap}{e C:Addr}{vs:List Value}(I:Inv (cxOf (CXG ctx P w) P w K mg base N qual scope f cd A outer s H E) pins σ H1 s1) (hx:Heap.MadeExcOf s1.heap h' e (.ref C) vs) (hw:E (.ref C) none H1) :
 (cxOf (CXG ctx P w) P w K mg base N qual scope f cd A outer s H E).xe (.ref e) { s1 with heap:=h' }:=by
 have hL:frs ((envOfC qual scope s.heap.objs.size f cd)::outer)=s.heap.objs.size::frs outer:=Y5 rfl
 have hst:s1.heap.FunFrames base ((envOfC qual scope s.heap.objs.size f cd)::outer):=I.stack
 have hun:Un (frs outer) [] H H1 s.heap s1.heap:=I.base
 have hfree:H1 s.heap.objs.size=none:=I.free
 have hold:∀ b,b∉frs outer->((∃ u,s.heap.get? b=some u)\/(∃ u,H1 b=some u))->∃ o,(PySem.W.hideAll s1.heap (frs ((envOfC qual scope s.heap.objs.size f cd)::outer))).get? b=some o:=λ b hb h=>by
  rcases h with ⟨u,hu⟩ | ⟨u,hu⟩
  ·obtain ⟨o,ho⟩:=hun.there b u hu (by simp)
   refine ⟨o,PySem.W.hideAll_get _ ho λ hm=>?_⟩
   rw [hL] at hm
   rcases N0c.mp hm with z | z
   ·exact absurd (Heap.lt_size hu) (by rw [z];exact N1a _)
   ·exact hb z
  ·obtain ⟨o,ho⟩:=(I.hok b u hu).there
   refine ⟨o,PySem.W.hideAll_get _ ho λ hm=>?_⟩
   rw [hL] at hm
   rcases N0c.mp hm with z | z
   ·rw [z,hfree] at hu;cases hu
   ·exact hb z
 refine q6i (ctx:=ctx) (B:=PySem.W.hideAll s1.heap (frs ((envOfC qual scope s.heap.objs.size f cd)::outer))) (h:=s1.heap) I.ok.frames rfl (λ b o q=>PySem.W.of_hideAll _ q) (PySem.W.funFrames_hide hst stack_in) hx λ h'' x1 x4=>?_
 have k:s1.heap.UpToSlots h'':=(Heap.UpToSlots.of_keeps hx.keeps).trans x4
 have s2:(PySem.W.hideAll s1.heap (frs ((envOfC qual scope s.heap.objs.size f cd)::outer))).StaysIn s1.heap:=λ b o q=>PySem.W.of_hideAll _ q
 refine ⟨e,C,_,H1,rfl,⟨I.os,I.bare,q5u hun hold s2 x1.1 k (λ b hb o eo=>?_),q0X (fs:=frs outer) (h1:=s.heap) I.hok hold s2 x1.1 λ b hb=>?_,x1,hold⟩,hw⟩
 ·obtain ⟨_,o',e',hd⟩:=hst.mem (b:=b) (by show b∈frs _;rw [hL];exact N02 _ hb)
  rw [eo] at e'
  cases e'
  exact hd
 ·exact I.stkFree b (by show b∈frs ((envOfC qual scope s.heap.objs.size f cd)::outer);rw [hL];exact N02 _ hb)
theorem z12:Passes (CXG ctx P w) (cxOf (CXG ctx P w) P w K mg base N qual scope f cd A outer s H E) E:=by
 intro pins σ H1 s1 e s2 I h
 obtain ⟨ea,C,B,H2,rfl,F,hw⟩:=h
 have hL:frs ((envOfC qual scope s.heap.objs.size f cd)::outer)=s.heap.objs.size::frs outer:=Y5 rfl
 have hun:Un (frs outer) [] H H1 s.heap s1.heap:=I.base
 have Fun':Un (frs ((envOfC qual scope s.heap.objs.size f cd)::outer)) [] H1 H2 s1.heap s2.heap:=F.un
 have Fold:∀ b,b∉frs ((envOfC qual scope s.heap.objs.size f cd)::outer)->((∃ u,s1.heap.get? b=some u)\/(∃ u,H2 b=some u))->∃ o,B.get? b=some o:=F.old
 have Ffly:FlyA ctx B ((envOfC qual scope s.heap.objs.size f cd)::outer) ea (.ref C) s2.heap:=F.fly
 have hL2:H2 s.heap.objs.size=none:=by
  obtain ⟨o,ho⟩:∃ o,s1.heap.get? s.heap.objs.size=some o:=by
   obtain ⟨_,o,ho,_⟩:=I.stack.mem (b:=s.heap.objs.size) (by show _∈frs ((envOfC qual scope s.heap.objs.size f cd)::outer);rw [hL];exact N00)
   exact ⟨o,ho⟩
  exact Fun'.free _ o ho I.free (by simp)
 refine q3R I.ok.frames rfl Ffly λ h' x1 x2=>⟨ea,C,B,H2,rfl,?_,hw⟩
 have hold:∀ b,b∉frs outer->((∃ u,s.heap.get? b=some u)\/(∃ u,H2 b=some u))->∃ o,B.get? b=some o:=λ b hb h=>by
  rcases h with ⟨u,hu⟩ | ⟨u,hu⟩
  ·obtain ⟨o,ho⟩:=hun.there b u hu (by simp)
   refine Fold b (λ hm=>?_) (.inl ⟨o,ho⟩)
   rw [hL] at hm
   rcases N0c.mp hm with z | z
   ·exact absurd (Heap.lt_size hu) (by rw [z];exact N1a _)
   ·exact hb z
  ·refine Fold b (λ hm=>?_) (.inr ⟨u,hu⟩)
   rw [hL] at hm
   rcases N0c.mp hm with z | z
   ·rw [z,hL2] at hu;cases hu
   ·exact hb z
 have u12:Un (frs outer) [] H H2 s.heap s2.heap:=by
  have a:=hun.mono (fs':=frs ((envOfC qual scope s.heap.objs.size f cd)::outer)) (ex':=[]) (λ b hb=>by rw [hL];exact N02 _ hb) (λ b hb=>hb)
  refine (a.trans Fun').less λ b o q hb=>?_
  rw [hL] at hb
  rcases N0c.mp hb with z | z
  ·exact absurd (Heap.lt_size q) (by rw [z];exact N1a _)
  ·exact z
 refine ⟨F.os.trans I.os,F.bare,q5u u12 hold F.fly.1 x1.1 x2 (λ b hb o eo=>?_),q0X (fs:=frs outer) (h1:=s.heap) F.hok hold F.fly.1 x1.1 λ b hb=>?_,x1,hold⟩
 ·obtain ⟨_,o',e',hd⟩:=Ffly.2.2.1.mem (b:=b) (by show b∈frs _;rw [hL];exact N02 _ hb)
  rw [eo] at e'
  cases e'
  exact hd
 ·have hn:=I.stkFree b (by show b∈frs ((envOfC qual scope s.heap.objs.size f cd)::outer);rw [hL];exact N02 _ hb)
  obtain ⟨_,o,ho,_⟩:=I.stack.mem (b:=b) (by show _∈frs ((envOfC qual scope s.heap.objs.size f cd)::outer);rw [hL];exact N02 _ hb)
  exact Fun'.free b o ho hn (by simp)
end
theorem Un.less2 {fs fs' ex:List Addr}{H H':Hp}{h1 h2:Heap}(u:Un fs ex H H' h1 h2) (hs:∀ b o,h1.get? b=some o->b∈fs->b∈fs') (hx:∀ b o,h1.get? b=some o->b∉ex):Un fs' [] H H' h1 h2 :=
 ⟨λ b o q n hb o_=>u.keep b o q n (λ z=>hb (hs b o q z)) (hx b o q),λ b o q n o_ o_=>u.any q n (hx b o q),λ b o q n o_=>u.free b o q n (hx b o q),λ b o q o_=>u.there b o q (hx b o q),u.tups,u.frzs,u.tbls⟩
structure FlyX (P:Program) (w:World) (l:List Env) (ex:List Addr) (H:Hp) (s s':Shared) (ea C:Addr) (B:Heap) (H':Hp):Prop where
 os:s'.os=s.os
 bare:AllBare s'.gens
 un:Un (frs l) ex H H' s.heap s'.heap
 hok:HOk P w H' s'.heap
 fly:FlyA false B l ea (.ref C) s'.heap
 old:∀ b,b∉frs l->b∉ex->((∃ u,s.heap.get? b=some u)\/(∃ u,H' b=some u))->∃ o,B.get? b=some o
 hex:∀ b∈ex,H' b=none
noncomputable def q3S (X:Cx) (E:XK):Prop:=∀ (pins:List (Addr×Obj)) (σ:St) (H:Hp) (s s':Shared) (ea C:Addr) (B:Heap) (H':Hp) (ex:List Addr),Inv X pins σ H s->FlyX X.prog X.w X.stack ex H s s' ea C B H'->(∀ b∈ex,X.s₀.heap.get? b=none)->E (.ref C) none H'->X.xe (.ref ea) s'
section
variable {P:Program}{w:World}{K:PySem.W.Frag}{mg:Str->Option Value}{base:Heap}{N:List Str}{qual:Str}{scope:Scope}{f:Addr}{cd:Value}{A:Around}{outer:List Env}{s:Shared}{H:Hp}{E:XK}
theorem z13:q3S (cxOf (CXF P w) P w K mg base N qual scope f cd A outer s H E) E:=by
 intro pins σ H1 s1 s2 ea C B H2 ex I F hx hw
 have hL:frs ((envOfC qual scope s.heap.objs.size f cd)::outer)=s.heap.objs.size::frs outer:=Y5 rfl
 have hun:Un (frs outer) [] H H1 s.heap s1.heap:=I.base
 have Fun':Un (frs ((envOfC qual scope s.heap.objs.size f cd)::outer)) ex H1 H2 s1.heap s2.heap:=F.un
 have Fold:∀ b,b∉frs ((envOfC qual scope s.heap.objs.size f cd)::outer)->b∉ex->((∃ u,s1.heap.get? b=some u)\/(∃ u,H2 b=some u))->∃ o,B.get? b=some o:=F.old
 have Ffly:FlyA false B ((envOfC qual scope s.heap.objs.size f cd)::outer) ea (.ref C) s2.heap:=F.fly
 have new:∀ b o,s.heap.get? b=some o->b∉ex:=λ b o q z=>by have:=hx b z;rw [show (cxOf (CXF P w) P w K mg base N qual scope f cd A outer s H E).s₀=s from rfl,q] at this;cases this
 have frame:∀ b∈frs ((envOfC qual scope s.heap.objs.size f cd)::outer),H1 b=none/\∃ o,s1.heap.get? b=some o:=λ b hb=>by
  obtain ⟨_,o,ho,_⟩:=I.stack.mem (b:=b) hb
  exact ⟨I.stkFree b hb,o,ho⟩
 have hL2:H2 s.heap.objs.size=none:=by
  obtain ⟨n,o,ho⟩:=frame s.heap.objs.size (by rw [hL];exact N00)
  by_cases hLx:s.heap.objs.size∈ex
  ·exact F.hex _ hLx
  ·exact Fun'.free _ o ho n hLx
 have out:∀ b∈frs outer,b∉ex:=λ b hb z=>by
  obtain ⟨_,o,ho,_⟩:=I.ok.funs.mem (b:=b) hb
  exact new b o ho z
 refine q3R I.ok.frames rfl Ffly λ h' x1 x2=>⟨ea,C,B,H2,rfl,?_,hw⟩
 have hold:∀ b,b∉frs outer->((∃ u,s.heap.get? b=some u)\/(∃ u,H2 b=some u))->∃ o,B.get? b=some o:=λ b hb h=>by
  rcases h with ⟨u,hu⟩ | ⟨u,hu⟩
  ·obtain ⟨o,ho⟩:=hun.there b u hu (by simp)
   refine Fold b (λ hm=>?_) (new b u hu) (.inl ⟨o,ho⟩)
   rw [hL] at hm
   rcases N0c.mp hm with z | z
   ·exact absurd (Heap.lt_size hu) (by rw [z];exact N1a _)
   ·exact hb z
  ·refine Fold b (λ hm=>?_) (λ z=>by rw [F.hex b z] at hu;cases hu) (.inr ⟨u,hu⟩)
   rw [hL] at hm
   rcases N0c.mp hm with z | z
   ·rw [z,hL2] at hu;cases hu
   ·exact hb z
 have u12:Un (frs outer) [] H H2 s.heap s2.heap:=by
  have a:=hun.mono (fs':=frs ((envOfC qual scope s.heap.objs.size f cd)::outer)) (ex':=ex) (λ b hb=>by rw [hL];exact N02 _ hb) (λ b hb=>absurd hb (by simp))
  refine (a.trans Fun').less2 (λ b o q hb=>?_) new
  rw [hL] at hb
  rcases N0c.mp hb with z | z
  ·exact absurd (Heap.lt_size q) (by rw [z];exact N1a _)
  ·exact z
 refine ⟨F.os.trans I.os,F.bare,q5u u12 hold F.fly.1 x1.1 x2 (λ b hb o eo=>?_),q0X (fs:=frs outer) (h1:=s.heap) F.hok hold F.fly.1 x1.1 λ b hb=>?_,x1,hold⟩
 ·obtain ⟨_,o',e',hd⟩:=Ffly.2.2.1.mem (b:=b) (by show b∈frs _;rw [hL];exact N02 _ hb)
  rw [eo] at e'
  cases e'
  exact hd
 ·have m:b∈frs ((envOfC qual scope s.heap.objs.size f cd)::outer):=by rw [hL];exact N02 _ hb
  obtain ⟨n,o,ho⟩:=frame b m
  exact Fun'.free b o ho n (out b hb)
end
noncomputable abbrev z24:List Value:=[.type "ValueError",.type "Exception",.type "BaseException",.type "object"]
set_option genInjectivity false in
set_option genSizeOf false in
structure EB where
 (bm:List Value) (N:Addr) (nm q:Str) (bs:List Value) (hd:Bool) (sn:List Str) (sub:List Value) (ab:Bool) (col:Option Bool) (dd:Option Addr) (k0 k1 k2 k3 k5:Option Value) (mN:Str->Option Value)
noncomputable abbrev EB.ob (z:EB) (C:Addr) (newId:String):Obj:=excClassObj z.nm z.q C z.N z.bs z.bm z.hd z.sn z.sub z.ab z.col z.dd z.k0 z.k1 z.k2 z.k3 z.k5 newId
noncomputable def q28 (K:PySem.W.Frag) (C:Addr):Prop:=∃ x,PySem.W.nsIn K mainGlobals x=some (some (.ref C))/\PySem.W.excIn K C z24 "ValueError.__new__" = true
theorem q4B {K:PySem.W.Frag}{mg:Str->Option Value}{h:Heap}{C:Addr}(P:Program) (M:Mod K mg h) (q:q28 K C) :
 ∃ z:EB,h.get? C=some (z.ob C "ValueError.__new__")/\h.Ns z.N z.mN/\z.mN "__init__" = none/\OwnTail h z24 z.bm:=by
 obtain ⟨x,e,q⟩:=q
 obtain ⟨mb,hb,hbb⟩:=M.blt
 obtain ⟨ls,hls⟩:∃ ls:List Str,∀ y,y∉ls->mg y=none:=by
  obtain ⟨o,es,ep,_,_,sk,hf⟩:=M.glob
  refine ⟨es.toList.map λ e=>match e.key with | .str n _=>n | _=>Str.empty,λ y hy=>?_⟩
  rw [<- hf y]
  cases hq:nsFind es y with
  | none=>rfl
  | some v =>
   refine absurd ?_ hy
   unfold nsFind findBy at hq
   obtain ⟨e,he,_⟩:=Option.map_eq_some_iff.mp hq
   have me:=Array.mem_of_find?_eq_some he
   have ke:=Array.find?_some he
   obtain ⟨n,t,kn⟩:=sk e me
   refine List.mem_map.mpr ⟨e,Array.mem_toList_iff.mpr me,?_⟩
   rw [kn] at ke ⊢
   exact (eq_of_beq ke)
 obtain ⟨bm,N,nm,qn,bs,hd,sn,sub,ab,col,dd,k0,k1,k2,k3,k5,mN,r⟩:=(PySem.W.own_of_in (p:=P) M.kin ⟨M.glob,hb,M.nolimit,hbb,λ y o_ hy o_ o_ o_=>hls y hy⟩ e q).obj
 exact ⟨⟨bm,N,nm,qn,bs,hd,sn,sub,ab,col,dd,k0,k1,k2,k3,k5,mN⟩,r⟩
section
variable {X:Cx}{x:Str}{C:Addr}{e:Expr}{np cpos pos:Pos}
noncomputable def PV (X:Cx) (e:Expr) (t:St->Hp->(Hp->Prop)->Prop):Prop :=
 ∀ (pins:List (Addr×Obj)) (s:Shared) (σ:St) (H:Hp) (Q:Hp->Prop),Inv X pins σ H s->t σ H Q->wpAny (model X.prog X.w) X.A (eval e X.env) (λ o_ s'=>∃ H',Inv X pins σ H' s'/\Q H') X.xe s
theorem z50 {te:TE}(h:PE X e te):PV X e λ σ H Q=>te σ H λ o_ H1=>Q H1:=λ pins s σ H Q I q=>thx (h pins s σ H _ I q) λ v s1 x H1 I1 o1_ q1=>⟨H1,I1,q1⟩
noncomputable def z2N (t:St->Hp->(Hp->Prop)->Prop) (W:Hp->Prop):TS:=λ o_ σ H=>t σ H W
theorem q5v {t:St->Hp->(Hp->Prop)->Prop}{W:Hp->Prop}(hc:X.calm=true) (hg:Gl X x) (hm:X.mg x=some (.ref C)) (hq:q28 X.K C) (ha:PV X e t)
 (hx:∀ pins σ H s h' a vs,Inv X pins σ H s->Heap.MadeExcOf s.heap h' a (.ref C) vs->W H->X.xe (.ref a) { s with heap:=h' })
 (hdb:(x==("__debug__" : Str))=false:=by decide) (he:starEach [e] X.env=[(false,eval e X.env)]:=by rfl):PS X (.Raise (some (.Call (.Name x np) [e] [] cpos)) none pos) (z2N t W):=by
 intro pins s σ H D I h
 obtain ⟨z,hC,hN,hni,T⟩:=q4B X.prog I.ok.mod hq
 refine wpAny_Raise_call_subT (C:=C) (nm:=z.nm) (q:=z.q) (N:=z.N) (bs:=z.bs) (bm:=z.bm) (hdct:=z.hd) (sn:=z.sn) (sub:=z.sub) (ab:=z.ab) (col:=z.col) (dd:=z.dd) (k0:=z.k0) (k1:=z.k1) (k2:=z.k2) (k3:=z.k3) (k5:=z.k5)
  PySem.F.excBase_ValueError (mN:=z.mN) (T.hasType PySem.F.excBase_ValueError.hasBase) (I.ok.hd hc) (by rw [he];rfl) hni (U1 I hg hm ⟨rfl,?_⟩ hdb)
 rw [he]
 refine Calls.evalArgs_plain (Calls.spliced_cons (thn (ha pins s σ H _ I h) λ v s2 ⟨H2,I2,q2⟩=>Calls.spliced_nil ?_))
 exact ⟨rfl,(by show 1<=sizeLine;decide),I2.bk _ _ hC,hN.keeps I2.bk,T.keeps I2.bk,λ h' a hmade=>hx pins σ H2 s2 h' a _ I2 hmade q2⟩
noncomputable def q6j (x:Str):Prop:=x.length<=100000/\∀ c∈x.cps.toList,c<0x110000
theorem z0a {i:Nat}{y lit:Str}{j:Nat}{conv:Int}{p1 p2 p3 p4:Pos}(hl:lit.length<=1000) (hc:conv = -1\/conv=114) (hN:X.N[i]? = some y) (hv:Vis X.env.scope y) (hd:(y==("__debug__" : Str))=false:=by decide) (hcd:(y==("__classdict__" : Str))=false:=by decide)
 (hs:evalEach [.Constant (.str lit) j p1,.FormattedValue (.Name y p3) conv none p2] X.env=[eval (.Constant (.str lit) j p1) X.env,eval (.FormattedValue (.Name y p3) conv none p2) X.env]:=by rfl) :
 PV X (.JoinedStr [.Constant (.str lit) j p1,.FormattedValue (.Name y p3) conv none p2] p4) λ σ H Q=>∃ z,σ[i]? = some (some (.str z))/\q6j z/\Q H:=by
 intro pins s σ H Q I h
 obtain ⟨z,hz,⟨hz1,hz2⟩,q⟩:=h
 have hline:(2000000:Nat)<=sizeLine:=by decide
 have e0:(Str.empty++lit)=lit:=Str.empty_append lit
 have rl:(reprText z).length<=10 * z.length+2:=StrLaws.reprText_len z λ c m=>N0n (hz2 c m) (by decide)
 have la:∀ a b:Str,(a++b).length=a.length+b.length:=λ a b=>Str.length_append a b
 refine wpAny_JoinedStr ?_
 rw [hs]
 refine Calls.Constant_str ⟨lit,_,rfl,by rw [e0];omega,?_⟩
 have fin:∀ (w:Str) (s':Shared),w.length<=1000002->Inv X pins σ H s'->(Str.empty++lit++w).length<=sizeLine/\∃ H',Inv X pins σ H' { s' with toks:=s'.toks+1 }/\Q H':=λ w s' hw I' =>
  ⟨by rw [e0,la];lia,H,I'.tok _,q⟩
 have hvar:=X7 (pos:=p3) hN hv hd hcd
 rcases hc with rfl | rfl
 ·refine wpAny_FormattedValue_plain (thx (hvar pins _ σ H (λ v H1=>v=.str z/\H1=H) (I.tok _) ⟨.str z,hz,rfl,rfl⟩) λ v s1 x1 H1 I1 rx hx_=>?_)
  obtain ⟨ex,eh⟩:=hx_
  subst ex eh
  obtain ⟨tk,rfl⟩:=rx
  have f1:=fin z s1 (by omega) I1
  exact wpAny_formatField_str ⟨z,_,rfl,f1.1,f1.1,f1.2⟩ ⟨z,_,rfl,f1.1,f1.1,(fin z _ (by omega) (I1.tok _)).2⟩ (by omega)
 ·refine wpAny_FormattedValue_repr (thx (hvar pins _ σ H (λ v H1=>v=.str z/\H1=H) (I.tok _) ⟨.str z,hz,rfl,rfl⟩) λ v s1 x1 H1 I1 rx hx_=>?_)
  obtain ⟨ex,eh⟩:=hx_
  subst ex eh
  obtain ⟨tk,rfl⟩:=rx
  refine wpAny_pyReprObj_str ?_ (by lia)
  have f1:=fin (reprText z) { s1 with toks:=s1.toks+1 } (by lia) (I1.tok _)
  exact wpAny_formatField_str ⟨reprText z,_,rfl,f1.1,f1.1,f1.2⟩ ⟨reprText z,_,rfl,f1.1,f1.1,(fin (reprText z) _ (by lia) ((I1.tok _).tok _)).2⟩ (by lia)
end
end L2
namespace PySem.W
open PySem PySem.Spec PySem.Calls PyProof.Rows
open Builtin Builtin.ObjectAttr Builtin.Getset_descriptor
noncomputable def XAt (x D:Addr) (h:Heap):Prop:=∃ ox,h.get? x=some ox/\ox.cls=.ref D
theorem XAt.type {M:Model}{h:Heap}{x D:Addr}(I:XAt x D h):Looks M h (typeOf (.ref x)) (.ref D):=by
 obtain ⟨ox,h1,h2⟩:=I
 exact h2▸(Looks.ld h1).andThen .now
structure XCls (K:Frag) (D:Addr):Prop where
 ga:findIn K (.ref D) "__getattribute__" = some (some (.builtin "BaseException.__getattribute__"))
 gt:findIn K (.ref D) "__getattr__" = some none
 fc:findIn K (.ref D) "__class__" = some (some (.builtin "object.__class__"))
 sg:specialIn K (.builtin "object.__class__") "__get__" = some (some (.builtin "getset_descriptor.__get__"))
 tk:takesIn K (.builtin "object.__class__")=some true
 mo:mroIn K D (.type "object")=some true
 mb:mroIn K D (.type "BaseException")=some true
 cl:(clsIn K D).isSome=true
section
variable {prog:Program}{w:World}{A:Around}{E:Value->Shared->Prop}{s:Shared}{K:Frag}{x D:Addr}{R:Result->Shared->Prop}
theorem q6k {tp:Value}(X:K.In s.heap) (I:XAt x D s.heap) (hm:mroIn K D (.type "object")=some true)
 (h:R (.ok (.ret (.ref D))) s):codeAny (model prog w) A (.call (.builtin "getset_descriptor.__get__") ⟨[.builtin "object.__class__",.ref x,tp],[]⟩) R s:=by
 obtain ⟨hh,g,dr,t,os⟩:=s
 have L0:=I.type (M:=model prog w)
 have L1:=looks_mroIn (M:=model prog w) X hm
 refine codeAny_call_builtin KF.slot_gs.plain KF.entry_gs (KF.slot_gs.check _ _ _ _ _ _ _ _ KF.type_class (KF.args_gs _ _ _) ?_)
 unfold Builtin.«getset_descriptor.__get__» descrGet
 rw [dga_obj]
 refine N03 (N0y ?_)
 unfold descrGetter descrCheckInstance descrNameAndClass isInstance
 simp only [KF.owner_class]
 repeat lk
 refine ⟨Code.quiet_builtin _ (by decide +kernel),codeAny_builtin KF.entry_class ?_⟩
 unfold Builtin.«object.__class__» shownTypeOf
 repeat lk
 exact h
theorem q4C {M:Model}{h:Heap}(X:K.In h) (c:XCls K D):Looks M h (find (.ref x) (.ref D) "__class__") (.bind (.builtin "getset_descriptor.__get__") (.builtin "object.__class__")):=by
 have L1:=looks_findIn (M:=M) X c.fc
 have L2:Looks M h (getOf (some (.builtin "object.__class__"))) (some (.builtin "getset_descriptor.__get__")):=looks_specialIn X c.sg
 have L3:=looks_takesIn (M:=M) X c.tk
 exact L1.andThen (L2.andThen ((show Looks M h (dataDescriptor? (some (.builtin "object.__class__")) (some (.builtin "getset_descriptor.__get__"))) (some (.builtin "getset_descriptor.__get__",.builtin "object.__class__")) from L3.andThen .now).andThen (Looks.tag .now)))
theorem q7m {Q:Option Value->Shared->Prop}(X:K.In s.heap) (I:XAt x D s.heap) (c:XCls K D) (h:Q (some (.ref D)) { s with toks:=s.toks+1 }):wpAny (model prog w) A (getAttr? (.ref x) "__class__") Q E s:=by
 obtain ⟨hh,g,d,t,os⟩:=s
 have L0:=I.type (M:=model prog w)
 have L1:=looks_findIn (M:=model prog w) X c.ga
 have L2:=q4C (M:=model prog w) (x:=x) X c
 have L3:=looks_findIn (M:=model prog w) X c.gt
 have L4:=looks_mroIn (M:=model prog w) X c.mb
 unfold getAttr? getAttrBy? getAttrBy
 refine N03 (wpAny_mkText (N03 (wpAny_attempt (N1o (N03 (L0.at (N03 (L1.at ?_))))))))
 dsimp only
 have n1:(onTheHeap (Value.ref D)&&Value.builtin "BaseException.__getattribute__"==Value.builtin "object.__getattribute__")=false:=by
  rw [show (Value.builtin "BaseException.__getattribute__"==Value.builtin "object.__getattribute__")=false by decide +kernel,Bool.and_false]
 rw [N0l (by rw [n1];exact N0d)]
 unfold getAttrByItsOwn hookBefore callGetattribute boundAndCalled
 have fb:=PySem.F.attr_ValueError.ga.bind (.ref x)
 refine N03 (L3.at ?_)
 refine N03 (wpAny_attempt (N1o ?_))
 rw [N0l (by decide)]
 rw [fb]
 refine N03 (N0y ?_)
 show wpAny _ _ (call (.builtin "BaseException.__getattribute__") [.ref x,.str s!"__class__" t]) _ _ _
 refine wpAny_call (codeAny_call_builtin PySem.F.attr_ValueError.ga.plain PySem.F.entry_bexc_ga ?_)
 have hk:builtinKind "BaseException.__getattribute__" = some .slot:=by decide +kernel
 have hsplit:splitId "BaseException.__getattribute__" = some ("BaseException","__getattribute__"):=by decide +kernel
 have ha:=PySem.F.args_bexc_ga (.ref x) (.str s!"__class__" t)
 simp only [checkBuiltinCall,hk,hsplit]
 refine N03 ?_
 refine L0.andThen L4 _ _ _ _ (λ o_ o_ z=>z) ?_
 unfold argsOk at ha
 rw [N0l (by decide)]
 refine wpAny_of_eq (a:=()) ha ?_
 unfold Builtin.«object.__getattribute__»
 refine N03 (wpAny_of_eq (a:=(Value.ref x,[Value.str s!"__class__" t])) rfl ?_)
 dsimp only
 refine N03 (wpAny_of_eq (a:=s!"__class__") rfl ?_)
 refine N03 (L0.at (N03 (L2.at ?_)))
 dsimp only
 show wpAny _ _ (holding [Value.builtin "object.__class__"] (call (Value.builtin "getset_descriptor.__get__") [Value.builtin "object.__class__",.ref x,.ref D]) >>= ret) _ _ _
 refine N03 (N1o (wpAny_call (q6k X I c.mo ?_)))
 show wpAny _ _ (ret (Value.ref D)) _ _ _
 refine N0y ?_
 show wpAny _ _ (handedOut (Value.ref D)) _ _ _
 exact wpAny_of_eq (handedOut_of rfl) (N0y h)
set_option tactic.hygienic true in
theorem kitx_exc (c:XCls K D):KitX K (.ref x) (.ref D) (XAt x D) where
 ty:=λ o_ o_ o_ I=>I.type
 it:=λ o_ o_ X o_=>by
  have hcl:=c.cl
  unfold clsIn at hcl
  split at hcl
  ·rename_i c' d' cd' sl' ho
   intro A' Q' E' s' k q
   unfold isType loadHead
   exact N03 (wpAny_loadPart (k _ _ (X _ _ ho)) (N0y q))
  ·cases hcl
 ne:=λ h tp dd its n sl X htp=>by
  have hcl:=c.cl
  refine Bool.eq_false_iff.mpr λ q=>?_
  have e:D=tp:=Value.ref.inj (beq_iff_eq.mp q)
  subst e
  unfold clsIn at hcl
  split at hcl
  ·rename_i c' d' cd' sl' ho
   cases (X _ _ ho).symm.trans htp
  ·cases hcl
 ca:=λ X I k=>q7m X I c k
end
end PySem.W
namespace L2
open PySem PySem.Spec PyProof.Rows
section
variable {X:Cx}{pins:List (Addr×Obj)}{σ:St}{H:Hp}{s:Shared}
theorem Inv.relocal (I:Inv X pins σ H s){h':Heap}{m':Str->Option Value}(hn:h'.Ns X.env.locals m') (hs:Heap.SameBut X.env.locals s.heap h') (t':Nat):Inv X pins (List.replicate X.N.length none) H { s with heap:=h',toks:=t' }:=by
 refine ⟨I.ok,I.os,I.bare,⟨λ b o e n hb hx=>?_,λ b o e n hb hx=>?_,I.base.free,λ b o e hx=>?_,I.base.tups,I.base.frzs,I.base.tbls⟩,⟨m',hn,λ j y v e1 e2 e3=>?_⟩,λ y c e=>?_,I.free,I.freeC,λ p hp=>?_,λ b ob e=>?_,by simp⟩
 ·exact (hs.2 b (N12 (N0n (Heap.lt_size e) I.ok.above))).trans (I.base.keep b o e n hb hx)
 ·obtain ⟨sl,e1⟩:=I.base.slot b o e n hb hx
  exact ⟨sl,(hs.2 b (N12 (N0n (Heap.lt_size e) I.ok.above))).trans e1⟩
 ·obtain ⟨o',e1⟩:=I.base.there b o e hx
  exact ⟨o',(hs.2 b (N12 (N0n (Heap.lt_size e) I.ok.above))).trans e1⟩
 ·rw [List.getElem?_replicate] at e2
  split at e2<;>cases e2
 ·obtain ⟨v,hv⟩:=I.cell y c e
  obtain ⟨o,h1,h2⟩:=hv
  exact ⟨v,o,(hs.2 c (I.cne y c e)).trans h1,h2⟩
 ·obtain ⟨q1,q2,q3,q4,q5⟩:=I.pin p hp
  exact ⟨(hs.2 p.1 q3).trans q1,q2,q3,q4,q5⟩
 ·refine (I.hok b ob e).stay (λ c w' hc q=>(hs.2 c ?_).trans q) (λ o_ q=>q) λ o_ o_ q=>q
  rintro rfl
  rcases hc with rfl | hc
  ·rw [I.free] at e;cases e
  ·rw [I.free] at hc;cases hc
theorem Inv.blank (I:Inv X pins σ H s):Inv X pins (List.replicate X.N.length none) H s:=by
 obtain ⟨m,hn,_⟩:=I.loc
 refine ⟨I.ok,I.os,I.bare,I.base,⟨m,hn,λ j y v e1 e2 e3=>?_⟩,I.cell,I.free,I.freeC,I.pin,I.hok,by simp⟩
 rw [List.getElem?_replicate] at e2
 split at e2<;>cases e2
end
structure RoomM (k:Nat) (A:Around):Prop where
 dp:A.depth+3 * k+5<recursionLimit
 un:A.units+16 * k+200<cLine
theorem Room.mark {k:Nat}{A:Around}(r:Room k A) (v:Option Value):RoomM k (A.mark v):=⟨r.dp,r.un⟩
noncomputable def cxM (P:Program) (w:World) (K:PySem.W.Frag) (mg:Str->Option Value) (base:Heap) (N:List Str) (qual:Str) (scope:Scope) (f:Addr) (cd:Value) (A:Around) (outer:List Env) (s:Shared) (H:Hp) (pn:List (Addr×Obj)):Cx :=
 { cxOf CX0 P w K mg base N qual scope f cd A outer s H E0 with calm:=false,pn:=pn,xe:=λ o_ o_=>False }
section
variable {P:Program}{w:World}{K:PySem.W.Frag}{mg:Str->Option Value}{base:Heap}
theorem q6l {N ps:List Str}{qual:Str}{scope:Scope}{f:Addr}{cd:Value}{A:Around}{outer:List Env}{s s1:Shared}{H:Hp}{us:List Value}{vs:List V}{pn:List (Addr×Obj)}
 (S:FnScope N ps scope) (e0:Env0 P w K mg base A outer s H) (hl:vs.length=ps.length) (r:Vals vs us) (hp:∀ p∈pn,s.heap.get? p.1=some p.2/\H p.1=none/\p.1∉frs outer/\∀ v,p.2.data≠.cell v)
 (x:InCallC s s.heap.objs.size (bindL (envOfC qual scope s.heap.objs.size f cd).kindOf (ps.zip us) λ o_=>none) (cellsFrom (s.heap.objs.size+1) scope.names []) (bindC (envOfC qual scope s.heap.objs.size f cd).kindOf (ps.zip us) λ o_=>none) s1) :
 Inv (cxM P w K mg base N qual scope f cd A outer s H pn) [] (start N vs) H s1:=by
 have e0':Env0 P w K mg base { A with handled:=none } outer s H:=⟨e0.frames,e0.mod,e0.bs,e0.bsz,e0.funs,e0.frf,e0.hok,e0.bare⟩
 have I:=q3E (CX:=CX0) (E:=E0) (A:={ A with handled:=none }) S rfl e0' hl r x
 obtain ⟨h1,tk,rfl,hk⟩:=x.done
 refine ⟨⟨I.ok.mod,I.ok.kind,I.ok.glob,I.ok.blt,I.ok.above,I.ok.inj,I.ok.has,I.ok.cab,(λ z=>nomatch z),Around.frames_deeper e0.frames,I.ok.stk,I.ok.exf,I.ok.bs,I.ok.bsz,I.ok.noex,I.ok.exfs,I.ok.funs,I.ok.frf⟩,
  I.os,I.bare,I.base,I.loc,I.cell,I.free,I.freeC,λ p hq=>?_,I.hok,I.len⟩
 have hq:p∈pn:=by
  rcases N0a.mp hq with z | z
  ·exact z
  ·exact absurd z (by simp)
 obtain ⟨q1,q2,q3,q4⟩:=hp p hq
 exact ⟨hk _ _ q1,q2,λ z=>absurd (Heap.lt_size q1) (by rw [z];exact N1a _),q3,q4⟩
noncomputable def FnM (P:Program) (w:World) (K:PySem.W.Frag) (mg:Str->Option Value) (base:Heap) (k:Nat) (f:Addr) (fd:FuncData) (p:Str) (C:Addr) (res:Str):Prop :=
 ∀ (A:Around) (outer:List Env) (s:Shared) (H:Hp) (args:Args) (ea:Addr) (oe:Obj) (Q:VK),RoomM k A->Env0 P w K mg base A outer s H->BindsTo s fd args [(p,.ref ea)]->s.heap.get? ea=some oe->oe.cls=.ref C->(∀ v,oe.data≠.cell v)->H ea=none->ea∉frs outer ->
  (∀ H',Same H H'->Q (.str res) H')->codeAny (model P w) A (.call (.ref f) args) (CR CX0 outer P w H s Q E0) s
theorem fn_M {x qual:Str}{st:Stmt}{f:Addr}{fd:FuncData}{N:List Str}{p:Str}{k:Nat}{C:Addr}{res:Str}(F:Fun K x qual st f fd) (S:FnScope N [p] (defScope st))
 (hbody:∀ (cdv:Value) (A:Around) (outer:List Env) (s:Shared) (H:Hp) (ea:Addr) (oe:Obj),oe.cls=.ref C->RoomM k (A.deeper (envOfC qual (defScope st) s.heap.objs.size f cdv)) ->
  ∃ t,PSs (cxM P w K mg base N qual (defScope st) f cdv A outer s H [(ea,oe)]) (defBody st) t/\∀ Q:VK,(∀ H',Same H H'->Q (.str res) H')->t { nx:=λ o_ H'=>Q .non H',rt:=Q } (start N [.ref ea]) H):FnM P w K mg base (k+1) f fd p C res:=by
 obtain ⟨oc,od,kV,doc,pm,an,cdv,ct,osl,rfl,lk,hcd⟩:=F.ex
 intro A outer s H args ea oe Q hr e0 hb hea hcl hcell hHe hfr hq
 have KX:K.In s.heap:=e0.mod.kin.keeps λ b o e=>(e0.bs b o e).1
 have lim:s.heap.NoLimit:=e0.mod.nolimit.keeps λ b o e=>(e0.bs b o e).1
 have hb:BindsTo s (PySem.W.fnOf x qual (defArgs st) (defBody st) (defScope st) .none kV doc pm an cdv ct) args ([p].zip [.ref ea]):=hb
 have hkind:∀ y∈([p].zip [Value.ref ea]),(defScope st).names.lookup y.1=some .local\/((defScope st).names.lookup y.1=some .cell/\((cellsFrom (s.heap.objs.size+1) (defScope st).names []).lookup y.1).isSome=true):=λ ⟨n,v⟩ hy=>by
  rcases S.par n (List.of_mem_zip hy).1 with q | q
  ·exact .inl q
  ·exact .inr ⟨q,PySem.W.cellsFrom_some _ _ _ (.inl q)⟩
 refine codeAny_call_function (by have:=hr.dp;lia) (KX _ _ lk) rfl S.co S.gen rfl (PySem.W.codeRec_of KX hcd) (hb _ _ _ _ ?_)
 refine wpAny_newFunctionEnv_cells S.kind hkind λ env he s1 x=>?_
 subst he
 refine ⟨lim.keeps x.toInCall.keep,codeAny_func ?_⟩
 have hr':RoomM k (A.deeper (envOfC qual (defScope st) s.heap.objs.size f cdv)):=⟨by have:=hr.dp;show A.depth+1+3 * k+5<_;lia,by have:=hr.un;show A.units+3+16 * k+200<_;lia⟩
 obtain ⟨t,ht,hq'⟩:=hbody cdv A outer s H ea oe hcl hr'
 have I:Inv (cxM P w K mg base N qual (defScope st) f cdv A outer s H [(ea,oe)]) [] (start N [.ref ea]) H s1:=q6l S e0 rfl (.cons rfl .nil) (λ q hq=>by
  rw [N0f] at hq
  subst hq
  exact ⟨hea,hHe,hfr,hcell⟩) x
 refine N0p (ht [] s1 (start N [.ref ea]) H _ I (hq' Q hq)) (λ fl s' hs=>?_) λ e s' hs=>hs.elim
 have fin:∀ {σ':St}{H':Hp}{v:V}{u:Value},Inv (cxM P w K mg base N qual (defScope st) f cdv A outer s H [(ea,oe)]) [] σ' H' s'->y4 v u->Q v H'->CE outer P w H s Q u s' :=
  λ {σ' H' v u} J rv q=>⟨v,H',J.os,J.bare,J.base,J.hok,rv,q⟩
 cases fl with
 | ret u =>
  obtain ⟨v,σ',H',J,rv,q⟩:=hs
  exact fin J rv q
 | next =>
  obtain ⟨σ',H',J,q⟩:=hs
  exact fin (v:=V.non) (u:=Value.none) J rfl q
 | brk =>
  obtain ⟨_,_,_,q⟩:=hs
  exact False.elim q
 | cont =>
  obtain ⟨_,_,_,q⟩:=hs
  exact False.elim q
end
noncomputable abbrev Cx.tr (X:Cx) (pn:List (Addr×Obj)) (xe:Value->Shared->Prop):Cx:={ X with pn:=pn,xe:=xe }
noncomputable abbrev Cx.hd (X:Cx) (pn:List (Addr×Obj)) (ea:Addr):Cx:={ X with A:=X.A.mark (some (.ref ea)),calm:=false,pn:=pn,xe:=λ o_ o_=>False }
section
variable {X:Cx}{pins:List (Addr×Obj)}{σ:St}{H:Hp}{s:Shared}
theorem Cx.Ok.tr (ok:X.Ok) (pn:List (Addr×Obj)) (xe:Value->Shared->Prop):(X.tr pn xe).Ok :=
 ⟨ok.mod,ok.kind,ok.glob,ok.blt,ok.above,ok.inj,ok.has,ok.cab,ok.hd,ok.frames,ok.stk,ok.exf,ok.bs,ok.bsz,ok.noex,ok.exfs,ok.funs,ok.frf⟩
theorem Cx.Ok.untr {pn:List (Addr×Obj)}{xe:Value->Shared->Prop}(ok:(X.tr pn xe).Ok):X.Ok :=
 ⟨ok.mod,ok.kind,ok.glob,ok.blt,ok.above,ok.inj,ok.has,ok.cab,ok.hd,ok.frames,ok.stk,ok.exf,ok.bs,ok.bsz,ok.noex,ok.exfs,ok.funs,ok.frf⟩
theorem Inv.tr (I:Inv X pins σ H s) (xe:Value->Shared->Prop):Inv (X.tr (X.pn++pins) xe) [] σ H s :=
 ⟨I.ok.tr _ _,I.os,I.bare,I.base,I.loc,I.cell,I.free,I.freeC,λ p hp=>I.pin p (by rwa [N10] at hp),I.hok,I.len⟩
theorem Inv.untr {xe:Value->Shared->Prop}{pins':List (Addr×Obj)}(I:Inv (X.tr (X.pn++pins) xe) pins' σ H s):Inv X pins σ H s :=
 ⟨I.ok.untr,I.os,I.bare,I.base,I.loc,I.cell,I.free,I.freeC,λ p hp=>I.pin p (N0w _ hp),I.hok,I.len⟩
theorem Inv.hd (I:Inv X pins σ H s){ea:Addr}{oe:Obj}(h1:s.heap.get? ea=some oe) (h2:H ea=none) (h3:ea≠X.env.locals) (h4:ea∉X.fs) (h5:∀ v,oe.data≠.cell v):Inv (X.hd (X.pn++pins++[(ea,oe)]) ea) [] σ H s :=
 ⟨⟨I.ok.mod,I.ok.kind,I.ok.glob,I.ok.blt,I.ok.above,I.ok.inj,I.ok.has,I.ok.cab,(λ z=>nomatch z),I.ok.frames,I.ok.stk,I.ok.exf,I.ok.bs,I.ok.bsz,I.ok.noex,I.ok.exfs,I.ok.funs,I.ok.frf⟩,I.os,I.bare,I.base,I.loc,I.cell,I.free,I.freeC,λ p hp=>by
  rw [N10] at hp
  rcases N0a.mp hp with z | z
  ·exact I.pin p z
  ·rw [N0f] at z
   subst z
   exact ⟨h1,h2,h3,h4,h5⟩,I.hok,I.len⟩
theorem Inv.unhd {ea:Addr}{oe:Obj}(ok:X.Ok) (I:Inv (X.hd (X.pn++pins++[(ea,oe)]) ea) [] σ H s):Inv X pins σ H s :=
 ⟨ok,I.os,I.bare,I.base,I.loc,I.cell,I.free,I.freeC,λ p hp=>I.pin p (N0w _ (N0w _ hp)),I.hok,I.len⟩
end
noncomputable def PH (X:Cx) (n:Str) (suite:List Stmt) (C:Addr) (ts:VK->Hp->Prop):Prop :=
 ∀ (i:Nat) (pn:List (Addr×Obj)) (ea:Addr) (oe:Obj) (s:Shared) (σ:St) (H:Hp) (Q:VK),X.N[i]? = some n->oe.cls=.ref C->(∀ v,oe.data≠.cell v)->(ea,oe)∈pn->Inv (X.hd pn ea) [] σ H s->σ[i]? = some (some (.ref ea))->ts Q H ->
  wpAny (model X.prog X.w) (X.A.mark (some (.ref ea))) (execs suite X.env) (λ f s'=>∃ u x σ' H',f=Flow.ret u/\Inv (X.hd pn ea) [] σ' H' s'/\y4 x u/\Q x H') (λ o_ o_=>False) s
noncomputable def EH (X:Cx) (FE:Addr) (n:Str) (suite:List Stmt) (Q:VK):XK:=λ Cv o_ H=>∃ C ts,Cv=.ref C/\PySem.W.exmOne X.K (.ref C) (.ref FE)=some true/\PH X n suite C ts/\ts Q H
theorem z2O {X:Cx}{body:List Stmt}{tb:XK->TS}{FE:Addr}{tn n:Str}{i:Nat}{b₀:Stmt}{suite:List Stmt}{np hpos pos:Pos}(hstk:X.stack=X.env::X.outer) (hfr:X.env.frame=some X.env.locals) (hN:X.N.Nodup) (hi:X.N[i]? = some n) (hloc:X.env.scope.names.lookup n=some .local)
 (hg:Gl X tn) (hm:X.mg tn=some (.ref FE)) (hb:∀ pn xe E',Passes (CXF X.prog X.w) (X.tr pn xe) E'->PSs (X.tr pn xe) body (tb E')) (hdb:(tn==("__debug__" : Str))=false:=by decide) :
 PS X (.Try body [.ExceptHandler (some (.Name tn np)) (some n) (b₀::suite) hpos] [] [] pos) (λ D σ H=>tb (EH X FE n (b₀::suite) D.rt) D σ H):=by
 intro pins s σ H D I h
 have ok:=I.ok
 refine wpAny_Try_except ?_
 let xe:Value->Shared->Prop:=λ e s₁=>wpAny (model X.prog X.w) X.A (noteFrame e X.env) (λ o_ s₂=>wpAny (model X.prog X.w) X.A (setFlight e none) (λ o_ s₃=>wpAny (model X.prog X.w) X.A (handleBy e X.env [.ExceptHandler (some (.Name tn np)) (some n) (b₀::suite) hpos]) (SP X pins D) X.xe s₃) X.xe s₂) X.xe s₁
 have hpass:Passes (CXF X.prog X.w) (X.tr (X.pn++pins) xe) (EH X FE n (b₀::suite) D.rt):=by
  intro pins' σ' H1 s1 e s2 I1' hc
  obtain ⟨ea,C,B,H2,rfl,F,C2,ts,hCv,hmat,hph,hts⟩:=hc
  have hCe:C=C2:=Value.ref.inj hCv
  subst hCe
  have I1:Inv X pins σ' H1 s1:=I1'.untr
  have F:Fly false X.prog X.w (X.env::X.outer) H1 s1 s2 ea C B H2:=hstk▸F
  have hf:∀ b∈frs (X.env::X.outer),H1 b=none/\∃ o,s1.heap.get? b=some o:=λ b hb=>by
   rw [<- hstk] at hb
   obtain ⟨_,o,ho,_⟩:=I1.stack.mem hb
   exact ⟨I1.stkFree b hb,o,ho⟩
  have hfrm:X.A.frames=some (X.env::X.outer):=hstk▸ok.frames
  refine q0C hfrm hfr hfr F.fly λ h4 held4 k4=>U5 held4 λ h5 fly5 k5=>?_
  have F5:=F.step hf fly5 (k4.trans k5)
  have exAt:∀ {s':Shared},Fly false X.prog X.w (X.env::X.outer) H1 s1 s' ea C B H2->∃ oe,s'.heap.get? ea=some oe/\oe.cls=.ref C/\(∀ v,oe.data≠.cell v)/\H2 ea=none/\ea≠X.env.locals/\ea∉X.fs:=λ {s'} F'=>by
   obtain ⟨oe,vs,T,oT,ts',fl',he,hc,hd,_⟩:=F'.fly.2.2.2
   have hnf:ea∉frs (X.env::X.outer):=λ z=>by
    obtain ⟨_,o',e',hd'⟩:=F'.fly.2.2.1.mem z
    rw [he] at e'
    cases e'
    exact hd' _ hd
   refine ⟨oe,he,hc,(λ v q=>by rw [hd] at q;cases q),?_,λ z=>hnf ?_,λ z=>hnf ?_⟩
   ·cases q:H2 ea with
    | none=>rfl
    | some u =>
     obtain ⟨o,ho⟩:=F'.old ea hnf (.inr ⟨u,q⟩)
     rw [F'.fly.2.1] at ho
     cases ho
   ·rw [Y5 hfr,z];exact N00
   ·rw [Y5 hfr];exact N02 _ z
  have invAt:∀ {s':Shared},Fly false X.prog X.w (X.env::X.outer) H1 s1 s' ea C B H2->Inv X pins σ' H2 s':=λ {s'} F'=>I1.call' (ch:=[]) F'.os (hstk▸F'.un) F'.hok F'.bare (λ b z=>absurd z (by simp))
  obtain ⟨oe5,g1,g2,g3,g4,g5,g6⟩:=exAt F5
  have I5h:=(invAt F5).hd g1 g4 g5 g6 g3
  refine wpAny_handleBy_cons (codeAny_handlers_test ?_) (by intro q;cases q)
  have LT:PySem.W.Looks (model X.prog X.w) h5 (typeOf (.ref ea)) (.ref C):=PySem.W.XAt.type ⟨oe5,g1,g2⟩
  refine U1 (X:=X.hd (X.pn++pins++[(ea,oe5)]) ea) I5h hg hm ?_ hdb
  refine (PySem.W.exm_one (invAt F5).kIn LT hmat).at ?_
  show codeAny _ _ _ _ _
  refine codeAny_handlers_suite_as ?_
  refine U5 F5.fly λ h6 fly6 k6=>?_
  have F6:=F5.step hf fly6 k6
  obtain ⟨oe,e1,e2,e3,e4,e5,e6⟩:=exAt F6
  have I6:=invAt F6
  have I6h:=I6.blank.hd e1 e4 e5 e6 e3
  refine q1p (X:=X.hd (X.pn++pins++[(ea,oe)]) ea) (v:=.ref ea) I6h hN hi (.inl hloc) rfl (λ s7 I7=>?_) (.inr hloc)
  refine N0p (hph i _ ea oe s7 _ H2 D.rt hi e2 e3 (N05 _ (N0f.mpr rfl)) I7 ?_ hts) (λ f s8 hf8=>?_) λ o_ o_ z=>z.elim
  ·rw [List.getElem?_set_self]
   rw [N13]
   exact (N04.mp hi).1
  ·obtain ⟨u,x,σ8,H8,rfl,I8,rx,q8⟩:=hf8
   have I8':Inv X pins σ8 H8 s8:=I8.unhd ok
   obtain ⟨m8,hn8,_⟩:=I8'.loc
   refine wpAny_nameGoes hloc hn8 (by rw [ok.kind];rfl) λ h9 m9 hn9 hs9=>?_
   exact ⟨x,_,H8,I8'.relocal hn9 hs9 _,rx,q8⟩
 refine N0p (hb (X.pn++pins) xe _ hpass [] s σ H D (I.tr xe) h) (λ f s1 hs=>?_) λ e s1 hs=>hs
 cases f with
 | next =>
  obtain ⟨σ',H',J,q⟩:=hs
  exact wpAny_execs_nil ⟨σ',H',J.untr,q⟩
 | ret u =>
  obtain ⟨x,σ',H',J,r,q⟩:=hs
  exact ⟨x,σ',H',J.untr,r,q⟩
 | brk =>
  obtain ⟨σ',H',J,q⟩:=hs
  exact ⟨σ',H',J.untr,q⟩
 | cont =>
  obtain ⟨σ',H',J,q⟩:=hs
  exact ⟨σ',H',J.untr,q⟩
end L2
namespace L2
open PySem PySem.Spec PyProof.Rows PySem.MeetsSeq
section
variable {X:Cx}{o e:Expr}{apos cpos pos p1 p2 p3:Pos}{to te:TE}
theorem V5 {i:Nat}{n T:Str}{ea D:Addr}{oe:Obj}{c:Value}{b:Bool}(hpn:(ea,oe)∈X.pn) (hcl:oe.cls=.ref D) (hx:PySem.W.XCls X.K D) (hk:PySem.W.kitOne X.K (.ref D) c=some b) (hg:Gl X "isinstance") (hm:X.mg "isinstance" = none)
 (hgT:Gl X T) (hT:X.mg T=some c\/(X.mg T=none/\bootBuiltins T=some c)) (hN:X.N[i]? = some n) (hv:Vis X.env.scope n) (hd:(n==("__debug__" : Str))=false:=by decide) (hcd:(n==("__classdict__" : Str))=false:=by decide) (hdT:(T==("__debug__" : Str))=false:=by decide) (hnT:T≠"__name__":=by decide)
 (he:starEach [.Name n p2,.Name T p3] X.env=[(false,eval (.Name n p2) X.env),(false,eval (.Name T p3) X.env)]:=by rfl) :
 PE X (.Call (.Name "isinstance" p1) [.Name n p2,.Name T p3] [] pos) λ σ H Q=>σ[i]? = some (some (.ref ea))/\Q (.bl b) H:=by
 intro pins s σ H Q I h
 refine wpAny_Call_Name_kw (q3t (u:=.builtin "isinstance") I hg hm (by decide +kernel) ?_ (by decide) (by decide))
 rw [he]
 refine Calls.callWith_builtin rfl (Calls.evalArgs_plain (Calls.spliced_cons (thx (X7 (pos:=p2) hN hv hd hcd pins s σ H (λ v H1=>v=.ref ea/\H1=H) I ⟨.ref ea,h.1,rfl,rfl⟩) λ u s1 x H1 I1 rx hx_=>?_)))
 obtain ⟨ex,eh⟩:=hx_
 subst ex eh
 obtain rfl:u=Value.ref ea:=rx
 have fin:∀ s2,Inv X pins σ H1 s2->wpAny (model X.prog X.w) X.A (call (.builtin "isinstance") [.ref ea,c]) (EP X pins σ Q) X.xe s2:=λ s2 I2=>by
  have hp:=(I2.pin (ea,oe) (N0w _ hpn)).1
  exact PySem.W.kia_one (PySem.W.kitx_exc hx) I2.kIn ⟨oe,hp,hcl⟩ hk (λ z=>nomatch z) λ tk=>⟨.bl b,H1,I2.tok tk,rfl,h.2⟩
 rcases hT with hT | ⟨hT,hb⟩
 ·exact Calls.spliced_cons (U1 I1 hgT hT (Calls.spliced_nil (fin _ I1)) hdT)
 ·exact Calls.spliced_cons (q3t I1 hgT hT hb (Calls.spliced_nil (fin _ I1)) hnT hdT)
noncomputable def q7n (to:TE):TE:=λ σ H Q=>to σ H λ x H1=>∃ (a:Addr) (bs:List Bool),x=.ref a/\H1 a=some (.lst (bs.map V.bl))/\Q (.int ((bs.count true:Nat):Int)) H1
noncomputable def q7o (to:TE):TE:=λ σ H Q=>to σ H λ x H1=>∃ (a:Addr) (bs:List Bool) (j:Nat),x=.ref a/\H1 a=some (.lst (bs.map V.bl))/\bs.idxOf true=j/\j<bs.length/\j<1000/\Q (.int (j:Int)) H1
theorem q2P:∀ {bs:List Bool}{us:List Value},Vals (bs.map V.bl) us->us=bs.map Value.bool
 | [],_,.nil=>rfl
 | b::bs,_,.cons r t=>by rw [q2P t,show _=Value.bool b from r];rfl
theorem q1g (a b:Bool):EqGives (.bool a) (.bool b) (a==b):=λ prog w A E s Q h=>SeqAt.EqAt.bool_bool a b prog w E Q h
theorem q1s (b:Bool):(Value.bool b==Value.bool true)=b:=by cases b<;>decide +kernel
theorem q7p {j}(ho:PE X o to) (m:M1 X o "count" apos (.Constant (.bool true) j p1) cpos):PE X (.Call (.Attribute o "count" apos) [.Constant (.bool true) j p1] [] cpos) (q7n to):=by
 intro pins s σ H Q I h
 refine wpAny_Call_method m.base m.few m.line PySem.F.plainAttrs_list PySem.F.slot_list_count PySem.F.type_list_count (thx (ho pins s σ H _ I h) λ u s1 x H1 I1 rx hx_=>?_)
 obtain ⟨a,bs,ex,ha,q1⟩:=hx_
 subst ex
 obtain rfl:u=Value.ref a:=rx
 obtain ⟨z,its,n,rv,hl,hg⟩:=I1.lstM ha
 refine ⟨⟨_,hg,rfl⟩,(λ b q=>by cases q;exact ⟨_,hg,rfl⟩),?_⟩
 rw [m.trees]
 refine Calls.callWith_builtin rfl (Calls.evalArgs_plain (Calls.spliced_cons (Constant_bool (Calls.spliced_nil ?_))))
 have e:=q2P rv
 subst e
 refine call_meets PySem.F.slot_list_count ⟨_,hg,rfl⟩ PySem.F.entry_list_count (PySem.F.args_list_count_2 _ _) (list_count a _ n (.bool true) (λ y=>y == .bool true) (λ y hy=>?_)) ⟨hg,?_⟩
 ·have hy:y∈bs.map Value.bool:=by simpa using hy
  obtain ⟨b,_,rfl⟩:=List.mem_map.mp hy
  have:=q1g b true
  rw [q1s]
  cases b<;>exact this
 ·refine ⟨.int _,H1,I1.tok _,⟨_,rfl⟩,?_⟩
  have e:(List.countP (λ y=>y==Value.bool true) (bs.map Value.bool).toArray.toList)=bs.count true:=by
   rw [List.toList_toArray,List.countP_map,List.count]
   refine List.countP_congr λ b o_=>?_
   show (Value.bool b==Value.bool true)=true↔(b==true)=true
   rw [q1s]
   cases b<;>decide
  rw [e]
  exact q1
theorem q7q {j}(ho:PE X o to) (m:M1 X o "index" apos (.Constant (.bool true) j p1) cpos):PE X (.Call (.Attribute o "index" apos) [.Constant (.bool true) j p1] [] cpos) (q7o to):=by
 intro pins s σ H Q I h
 refine wpAny_Call_method m.base m.few m.line PySem.F.plainAttrs_list PySem.F.slot_list_index PySem.F.type_list_index (thx (ho pins s σ H _ I h) λ u s1 x H1 I1 rx hx_=>?_)
 obtain ⟨a,bs,j,ex,ha,hj,hjl,hjs,q1⟩:=hx_
 subst ex
 obtain rfl:u=Value.ref a:=rx
 obtain ⟨z,its,n,rv,hl,hg⟩:=I1.lstM ha
 refine ⟨⟨_,hg,rfl⟩,(λ b q=>by cases q;exact ⟨_,hg,rfl⟩),?_⟩
 rw [m.trees]
 refine Calls.callWith_builtin rfl (Calls.evalArgs_plain (Calls.spliced_cons (Constant_bool (Calls.spliced_nil ?_))))
 have e:=q2P rv
 subst e
 have hsz:(bs.map Value.bool).toArray.size=bs.length:=by simp
 have hget:∀ k (hk:k<(bs.map Value.bool).toArray.size),((bs.map Value.bool).toArray[k]==Value.bool true)=bs[k]'(by rw [<- hsz];exact hk):=λ k hk=>by
  have:(bs.map Value.bool).toArray[k]=Value.bool (bs[k]'(by rw [<- hsz];exact hk)):=by simp
  rw [this,q1s]
 refine call_meets PySem.F.slot_list_index ⟨_,hg,rfl⟩ PySem.F.entry_list_index (PySem.F.args_list_index_2 _ _) (list_index a _ n (.bool true) (λ y=>y == .bool true) (λ y hy=>?_) j (by rw [hsz];exact hjl) (by lia) ?_ ?_) ⟨hg,?_⟩
 ·have hy:y∈bs.map Value.bool:=by simpa using hy
  obtain ⟨b,_,rfl⟩:=List.mem_map.mp hy
  have:=q1g b true
  rw [q1s]
  cases b<;>exact this
 ·rw [hget]
  subst hj
  have:=List.getElem_idxOf hjl
  simpa using this
 ·intro k hk hkj
  rw [hget]
  subst hj
  have:=List.not_of_lt_findIdx (p:=(· == true)) (xs:=bs) (i:=k) hkj
  simpa using this
 ·exact ⟨.int _,H1,I1.tok _,⟨_,rfl⟩,q1⟩
end
end L2
namespace HT
open PySem PyProof.Rows
section
open PySem.SeqAt
open PySem.AutoSeq1 (wpAny_loadPart')
open PySem.MeetsSeq PySem.MeetsSeq2 PySem.MeetsSeq3
open PySem.SeqAt
open PySem.AutoSeq1 (wpAny_loadPart')
open PySem.MeetsSeq PySem.MeetsSeq2 PySem.MeetsSeq3
inductive CmpsAt (A:Around) (s:Shared):List Value->List Value->List (Bool×Bool)->Prop
 | nil:CmpsAt A s [] [] []
 | cons {y x:Value}{ys xs:List Value}{e l:Bool}{ds:List (Bool×Bool)}(he:EqAt A s y x e) (hl:e=false->∀ (prog:Program) (w:World) (E:Value->Shared->Prop) (Q:Value->Shared->Prop),Q (.bool l) s->wpAny (model prog w) A (richCompare .Lt y x) Q E s) (hr:CmpsAt A s ys xs ds):CmpsAt A s (y::ys) (x::xs) ((e,l)::ds)
end
end HT
namespace L2
open PySem PySem.Spec PyProof.Rows
structure CompOkK (X:Cx) (x:Str) (caps:q2j) (sc:Scope):Prop where
 own:sc.names.lookup x=some .cell
 kind:sc.kind=.function
 one:(sc.names.filter λ p=>p.2 == .cell)=[(x,.cell)]
 names:∀ y∈sc.names,y.2=.local->sc.names.lookup y.1=some .local
 free:∀ y∈sc.names,y.2=.free->X.env.kindOf y.1=some .cell\/X.env.kindOf y.1=some .free
 nd:(x::caps.map (·.1)).Nodup
 cap:∀ c∈caps,X.N[c.2]? = some c.1/\sc.names.lookup c.1=some .free/\(X.env.kindOf c.1=some .cell\/X.env.kindOf c.1=some .free)
theorem q1L {h B B':Heap}(hb:∀ b,B.get? b=none->B'.get? b=none):∀ {l:List Env},h.FunFrames B l->h.FunFrames B' l
 | [],_=>trivial
 | _::_,⟨k,⟨L,o,f1,f2,f3⟩,r⟩=>⟨k,⟨L,o,f1,hb L f2,f3⟩,q1L hb r⟩
theorem FlyA.hide {ctx:Bool}{B h h':Heap}{l:List Env}{e C:Addr}{cls:Value}{oC:Obj}(f:FlyA ctx B l e cls h) (hC:B.get? C=some oC) (nf:∀ vs,oC.data≠.fields vs) (sb:∀ b o,b≠C->h.get? b=some o->h'.get? b=some o) (nl:C∉frs l):FlyA ctx (PySem.W.hideAll B [C]) l e cls h':=by
 obtain ⟨f1,f2,f3,oe,vs,T,oT,ts,fl,x1,x2,x3,x4,x5,x6,x7,x8,x9,x10⟩:=f
 have none':∀ b,B.get? b=none->(PySem.W.hideAll B [C]).get? b=none:=λ b q=>by
  cases z:(PySem.W.hideAll B [C]).get? b with
  | none=>rfl
  | some o=>rw [PySem.W.of_hideAll _ z] at q;cases q
 have ne:∀ b,B.get? b=none->b≠C:=λ b q z=>by rw [z,hC] at q;cases q
 refine ⟨λ b o q=>sb b o (λ z=>?_) (f1 b o (PySem.W.of_hideAll _ q)),none' e f2,?_,oe,vs,T,oT,ts,fl,sb e oe (ne e f2) x1,x2,x3,x4,none' T x5,x6,sb T oT (ne T x5) x7,x8,x9,x10⟩
 ·rw [z,PySem.W.hideAll_none [C] (N0f.mpr rfl)] at q
  cases q
 ·have g3:h'.FunFrames B l:=by
   clear x10 x9 x8 x7 x6 x5 x4 x3 x2 x1
   induction l with
   | nil=>trivial
   | cons env rest ih =>
    obtain ⟨k1,⟨L,o,k2,k3,k4,k5⟩,k6⟩:=f3
    have hm:frs (env::rest)=L::frs rest:=Y5 k2
    refine ⟨k1,⟨L,o,k2,k3,sb L o (λ z=>nl (by rw [hm,z];exact N00)) k4,k5⟩,ih (λ z=>nl (by rw [hm];exact N02 _ z)) k6⟩
  exact q1L none' g3
theorem q7r {fs ex:List Addr}{H H':Hp}{h1 h2 h3 B:Heap}(un:Un fs ex H H' h1 h2) (hold:∀ b,b∉fs->b∉ex->(∃ u,h1.get? b=some u)->∃ o,B.get? b=some o) (s2:B.StaysIn h2) (s3:B.StaysIn h3)
 (k:∀ b∈fs,b∉ex->∀ o,h2.get? b=some o->∃ sl,h3.get? b=some { o with slots:=sl }):Un fs ex H H' h1 h3:=by
 refine ⟨λ b o q n hb hx=>?_,λ b o q n hb hx=>?_,un.free,λ b o q hx=>?_,un.tups,un.frzs,un.tbls⟩
 ·have e2:=un.keep b o q n hb hx
  obtain ⟨o',e⟩:=hold b hb hx ⟨o,q⟩
  have:=s2 b o' e
  rw [e2] at this
  cases this
  exact s3 b o e
 ·obtain ⟨sl,e⟩:=un.slot b o q n hb hx
  obtain ⟨sl',e'⟩:=k b hb hx _ e
  exact ⟨sl',e'⟩
 ·by_cases hb:b∈fs
  ·obtain ⟨o',e⟩:=un.there b o q hx
   obtain ⟨sl,e'⟩:=k b hb hx o' e
   exact ⟨_,e'⟩
  ·obtain ⟨o',e⟩:=hold b hb hx ⟨o,q⟩
   exact ⟨o',s3 b o' e⟩
section
variable {X:Cx}{x:Str}{caps:q2j}{elt iter:Expr}{ifs:List Expr}{sc:Scope}{px pos:Pos}{wi:TI}{tt:CArg->TT}{te:CArg->TE}{E:XK}
noncomputable def z6C (X:Cx) (sc:Scope) (use:Option (Value->Sem Unit)) (Q:Value->Shared->Prop) (D C:Addr):Value->Shared->Prop :=
 notedBy (model X.prog X.w) X.A (compEnvC sc (clOf sc X.env) C X.env) λ e s'=>compPost (model X.prog X.w) X.A X.xe use Q (.ref D) C (.error e) s'
theorem q7s {pins:List (Addr×Obj)}{σ:St}{s:Shared}{use:Option (Value->Sem Unit)}{Q:Value->Shared->Prop}{D C:Addr}{fp:List Addr}{H2:Hp}(hstk:X.stack=X.env::X.outer) (hfr:X.env.frame=some X.env.locals) (hex:q3S X E)
 (I2:Inv X pins σ H2 s) (f2:∀ b∈fp,FpOk X pins H2 b) (hC:s.heap.objs.size<=C):Passes (CXF X.prog X.w) (cxC X x caps sc ⟨C,s,H2,fp,z6C X sc use Q D C⟩) E:=by
 intro pins' σ' H1 s1 e s2 I1 h
 obtain ⟨ea,C0,B,H',rfl,F,hw⟩:=h
 have F:Fly false X.prog X.w X.stack H1 s1 s2 ea C0 B H':=F
 have chk:∀ b∈fp,(b∈X.ex\/X.s₀.heap.objs.size<=b)/\b≠X.env.locals/\(∀ x c,X.env.cells.lookup x=some c->c≠b)/\∀ p∈X.pn++pins,p.1≠b:=λ b hb=>⟨(f2 b hb).2.2.2.1,(f2 b hb).2.1,(f2 b hb).2.2.2.2.1,(f2 b hb).2.2.2.2.2⟩
 have J:Inv X pins σ H1 s1:=I2.call' (ch:=fp) I1.os I1.base I1.hok I1.bare chk
 obtain ⟨mC,⟨oC,es,ep,hoC,hdC,rC⟩,_⟩:=I1.loc
 have hoC:s1.heap.get? C=some oC:=hoC
 have nC:H1 C=none:=I1.free
 have nl:C∉frs X.stack:=λ z=>by
  rcases N0c.mp (I2.stkSub C z) with q | q
  ·exact absurd I2.lt (by rw [<- q];exact Nat.not_lt.mpr hC)
  ·exact I2.nofs hC q
 have nf:∀ vs,oC.data≠.fields vs:=λ vs z=>by rw [hdC] at z;cases z
 have c2:s2.heap.get? C=some oC:=F.un.keep C oC hoC nC nl (by simp)
 obtain ⟨oB,hB⟩:=F.old C nl (.inl ⟨oC,hoC⟩)
 have hB:B.get? C=some oC:=by
  have:=F.fly.1 C oB hB
  rw [c2] at this
  cases this
  exact hB
 have hfrm:X.A.frames=some (X.env::X.outer):=hstk▸J.ok.frames
 have Ffly:FlyA false B (X.env::X.outer) ea (.ref C0) s2.heap:=hstk▸F.fly
 show wpAny _ X.A (noteFrame (.ref ea) (compEnvC sc (clOf sc X.env) C X.env)) _ _ s2
 refine q0C (L:=X.env.locals) hfrm hfr hfr Ffly λ h3 y1 y2=>?_
 obtain ⟨slC,c3⟩:=y2 C oC c2 nf
 have c3':h3.get? C=some oC:=y1.1 C oC hB
 have fin:∃ m,h3.Ns C m/\∀ h4,Heap.SameBut C h3 h4->∀ cenv:Env,cenv.locals=C->wpAny (model X.prog X.w) X.A (passOn "comprehension.variables-let-go" (.ref ea) cenv:Sem Value) (λ o_ o_=>False) X.xe { s2 with heap:=h4 }:=by
  refine ⟨mC,⟨oC,es,ep,c3',hdC,rC⟩,λ h4 sb cenv o_=>?_⟩
  have F4:FlyA false (PySem.W.hideAll B [C]) (X.env::X.outer) ea (.ref C0) h4:=y1.hide hB nf (λ b o n q=>sb.extBut b o n q) (by rw [<- hstk];exact nl)
  obtain ⟨_,_,_,oe,vs,T,oT,ts,fl,x1,x2,x3,x4,_⟩:=id F4
  unfold PySem.passOn
  refine N03 (wpAny_field x1 x3 x4 ?_)
  rw [N0l (by simp)]
  refine N03 (U5 F4 λ h5 z1 z2=>wpAny_throw ?_)
  have bs:∀ b o,(PySem.W.hideAll B [C]).get? b=some o->B.get? b=some o/\b≠C:=λ b o q=>⟨PySem.W.of_hideAll _ q,λ z=>by rw [z,PySem.W.hideAll_none [C] (N0f.mpr rfl)] at q;cases q⟩
  have s2':(PySem.W.hideAll B [C]).StaysIn s2.heap:=λ b o q=>F.fly.1 b o (bs b o q).1
  have hC':H' C=none:=F.un.free C oC hoC nC (by simp)
  have old':∀ b,b∉frs X.stack->b∉[C]->((∃ u,s1.heap.get? b=some u)\/(∃ u,H' b=some u))->∃ o,(PySem.W.hideAll B [C]).get? b=some o:=λ b n1 n2 q=>by
   obtain ⟨o,ho⟩:=F.old b n1 q
   exact ⟨o,PySem.W.hideAll_get _ ho n2⟩
  have ffr:∀ b∈frs X.stack,H' b=none/\∀ o,s2.heap.get? b=some o->∀ vs,o.data≠.fields vs:=λ b hb=>by
   obtain ⟨_,o1,ho1,_⟩:=J.stack.mem hb
   refine ⟨F.un.free b o1 ho1 (J.stkFree b hb) (by simp),λ o q=>?_⟩
   obtain ⟨_,o',e',hd⟩:=F.fly.2.2.1.mem hb
   rw [q] at e'
   cases e'
   exact hd
  refine hex pins σ H1 s1 _ ea C0 _ H' [C] J ⟨F.os,F.bare,q7r (h2:=s2.heap) ?_ (λ b n1 n2 q=>old' b n1 n2 (.inl q)) s2' z1.1 (λ b hb hx o q=>?_),?_,hstk▸z1,old',λ b hb=>by rw [N0f.mp hb];exact hC'⟩ (λ b hb=>by
   rw [N0f.mp hb]
   exact Heap.get?_none_of_le (N0v I2.sz hC)) hw
  ·exact F.un.mono (λ b hb=>hb) (λ b hb=>absurd hb (by simp))
  ·have q2:=(ffr b hb).2 o q
   obtain ⟨sl,q3⟩:=y2 b o q q2
   obtain ⟨sl',q5⟩:=z2 b _ (sb.extBut b _ (λ z=>hx (N0f.mpr z)) q3) q2
   exact ⟨sl',q5⟩
  ·refine q0X (fs:=C::frs X.stack) (h1:=s1.heap) F.hok (λ b n q=>old' b (λ z=>n (N02 _ z)) (λ z=>n (by rw [N0f.mp z];exact N00)) q) s2' z1.1 λ b hb=>?_
   rcases N0c.mp hb with z | z
   ·rw [z];exact hC'
   ·exact (ffr b z).1
 cases use<;>exact fin
theorem q9j {y:Str}{i:Nat}{py spos:Pos}(hstk:X.stack=X.env::X.outer) (hfr:X.env.frame=some X.env.locals) (hex:q3S X E) (hN:X.N.Nodup) (hi':X.N[i]? = some y) (hy:Loc X.env.scope y) (hk:U4 X.env.scope sc X.N x caps=true) (hc:X.calm=true) (hi:PI X (.Name x px) iter wi) (ht:∀ z,z10 (cxC X x caps sc z) ifs (tt z)) (he:∀ z,Passes (CXF X.prog X.w) (cxC X x caps sc z) E->PE (cxC X x caps sc z) elt (te z))
 (hsw:swapsWith (.ListComp elt [⟨.Name x px,iter,ifs,0⟩] sc pos) (some (.Name y py)) spos.line X.env=pure true:=by rfl)
 (hs:∀ v,foldedSetIterable iter X.env v=pure v:=by intro _;rfl) (hf:X.fn y=true\/X.env.scope.names.lookup y=some .local:=by first | exact .inl rfl | exact .inr rfl | assumption) :
 PS X (.Assign [.Name y py] (.ListComp elt [⟨.Name x px,iter,ifs,0⟩] sc pos) spos) (z02 (q9e caps wi tt te) (q2J i)):=by
 intro pins s σ H D I h
 have k:=q1I hk
 rw [exec_Assign_Name_used _ _ _ _ hsw]
 refine N03 (wpAny_standAt (N03 ?_))
 show wpAny _ X.A (do let _ <- comprehension (.ListComp elt [⟨.Name x px,iter,ifs,0⟩] sc pos) sc X.env _ (newList []) false (eval iter X.env) (some (assign (.Name y py) X.env))) _ _ s
 refine N03 (N0p (wpAny_comprehension_free (use:=some (assign (.Name y py) X.env)) (Q:=λ o_ s'=>SP X pins D .next s') (cl:=clOf sc X.env) rfl hs (U2 λ p hp e=>I.ok.has p.1 (k.free p hp e)) k.kind k.names
  (N0p (hi pins s σ H _ I h) (λ v s1 h1=>N0p h1 (λ itv s2 h2=>?_) λ o_ o_ e=>e) λ o_ o_ e=>e)) (λ o_ s' hq=>N0y (N0y hq)) λ o_ o_ e=>e)
 refine q1K (RR:=λ acc C=>compPost (model X.prog X.w) X.A X.xe (some (assign (.Name y py) X.env)) (λ o_ s'=>SP X pins D .next s') acc C) (XE:=z6C X sc (some (assign (.Name y py) X.env)) (λ o_ s'=>SP X pins D .next s')) (G:=λ z=>Passes (CXF X.prog X.w) (cxC X x caps sc z) E)
  k hc (λ z o_=>ht z) he (λ o_ o_ o_ o_ z=>z) (λ D C fp H2 I2 f2 o_ hC=>q7s hstk hfr hex I2 f2 hC) h2 ?_
 intro D' C s' H' ys m oC I' nD qF hoC hn fC
 show wpAny _ X.A (assign (.Name y py) X.env (.ref D')) _ _ _
 refine N0p ((q07 (pos:=py) hN hi' hy hf) _ s' σ _ (.ref D') (.ref D') (λ σ2 H2=>D.nx σ2 H2/\H2=upd H' D' (.lst ys)) I' rfl ⟨qF D' nD,rfl⟩) (λ o1_ s2 hx_=>?_) λ o_ o_ e=>e
 obtain ⟨σ2,H2,I2,q2,e2⟩:=hx_
 have hC2:=(I2.pin (C,oC) (N05 _ (N05 _ (N0f.mpr rfl)))).1
 obtain ⟨o',es,ep,ho',r⟩:=hn
 rw [hoC] at ho';cases ho'
 subst e2
 exact ⟨m,⟨_,es,ep,hC2,r⟩,λ h3 hs3=>⟨σ2,_,I2.unpinned.turned (it:=C) (t':=s2.toks) (λ b o hb e=>hs3.extBut b o hb e) fC.1 fC.2.1 fC.2.2.2.1 fC.2.2.2.2.1 fC.2.2.2.2.2,q2⟩⟩
end
theorem q2Q:entryFor table "proto.unchain" = some Builtin.«proto.unchain»:=entryFor_of_tree (by kernel_rfl)
noncomputable abbrev z51 (E:Value->Shared->Prop) (base:Heap) (C C' ea e:Addr) (u:Value) (s₂:Shared):Prop :=
 ∃ t oe vs,u=.ref ea/\e≠ea/\(∀ a o,base.get? a=some o->s₂.heap.get? a=some o)/\s₂.heap.get? e=some { cls:=.ref C,data:=.fields #[.ref t,.none,.none,.none,.bool false,.none] }/\s₂.heap.get? ea=some oe/\oe.cls=.ref C'/\oe.data=.fields vs/\vs[2]? = some .none/\C≠e/\C'≠e/\∀ h',(∀ b,b≠e->h'.get? b=s₂.heap.get? b)->h'.get? e=some { cls:=.ref C,data:=.fields #[.ref t,.none,.ref ea,.ref ea,.bool true,.none] }->E (.ref e) { s₂ with heap:=h' }
section
variable {prog:Program}{w:World}{A:Around}{E:Value->Shared->Prop}{s:Shared}{env:Env}
variable {z z':EB}{C C':Addr}{newId:String}
theorem q6m {x c:Sem Value}{ea:Addr}{base:Heap}(hC:base.get? C=some (z.ob C newId)) (hC':base.get? C'=some (z'.ob C' newId)){Q:Flow->Shared->Prop}(hb:z.bm.contains (.type "BaseException")=true) (hb':z'.bm.contains (.type "BaseException")=true) (hh:A.handled=some (.ref ea))
 (h:wpAny (model prog w) A x (λ v s₁=>∃ e,v=.ref e/\wpAny (model prog w) A c (λ u s₂=>z51 E base C C' ea e u s₂) E s₁) E s) :
 wpAny (model prog w) A (raiseStmt env (some x) (some c)) Q E s:=by
 have hcB:(Value.ref C::z.bm).contains (.type "BaseException")=true:=by rw [List.contains_cons,hb,Bool.or_true]
 have hcB':(Value.ref C'::z'.bm).contains (.type "BaseException")=true:=by rw [List.contains_cons,hb',Bool.or_true]
 unfold raiseStmt
 refine N03 (N0p h (λ v s₁ h₁=>?_) λ o_ o_ x=>x)
 obtain ⟨e,rfl,h₁⟩:=h₁
 refine N03 (N1o (N0p h₁ (λ u s₂ h₂=>N03 (N0y ?_)) λ o_ o_ x=>x))
 obtain ⟨t,oe,vs,rfl,hne,hK,he,hea,hcl,hd,h2,n1,n2,hE⟩:=h₂
 have hC:=hK _ _ hC
 have hC':=hK _ _ hC'
 obtain ⟨hp,g,d,tk,os⟩:=s₂
 repeat (first | with_reducible refine wpAny_loadPart_at he ?_ | with_reducible refine wpAny_loadPart_at hC ?_ | (with_reducible refine wpAny_isSubtype_exc hC ?_;rw [hcB]) | wp_step)
 rw [hcl]
 refine wpAny_isSubtype_exc hC' ?_
 rw [hcB',N0j rfl]
 refine N0y (N03 (wpAny_setField he rfl (by simp) ?_))
 have w1:=Heap.get?_update_self (Obj.mapFields (·.setIfInBounds 3 (Value.ref ea))) he (Obj.isFreed_of_fields (Obj.data_mapFields rfl _))
 have o1:∀ b,b≠e->(hp.update e (Obj.mapFields (·.setIfInBounds 3 (Value.ref ea)))).get? b=hp.get? b:=λ b n=>Heap.get?_update_other _ _ (N1f n)
 generalize hp.update e (Obj.mapFields (·.setIfInBounds 3 (Value.ref ea)))=hp1 at w1 o1 ⊢
 replace w1:hp1.get? e=some { cls:=.ref C,data:=.fields #[.ref t,.none,.none,.ref ea,.bool false,.none] }:=w1
 refine N03 (wpAny_setField w1 rfl (by simp) ?_)
 have w2:=Heap.get?_update_self (Obj.mapFields (·.setIfInBounds 4 (Value.bool true))) w1 (Obj.isFreed_of_fields (Obj.data_mapFields rfl _))
 have o2:∀ b,b≠e->(hp1.update e (Obj.mapFields (·.setIfInBounds 4 (Value.bool true)))).get? b=hp1.get? b:=λ b n=>Heap.get?_update_other _ _ (N1f n)
 generalize hp1.update e (Obj.mapFields (·.setIfInBounds 4 (Value.bool true)))=hp2 at w2 o2 ⊢
 replace w2:hp2.get? e=some { cls:=.ref C,data:=.fields #[.ref t,.none,.none,.ref ea,.bool true,.none] }:=w2
 have hC2:hp2.get? C=some (z.ob C newId):=(o2 C n1).trans ((o1 C n1).trans hC)
 have hea2:hp2.get? ea=some oe:=(o2 ea (N1f hne)).trans ((o1 ea (N1f hne)).trans hea)
 dsimp only
 repeat (first | with_reducible refine wpAny_loadPart_at w2 ?_ | with_reducible refine wpAny_loadPart_at hC2 ?_ | (with_reducible refine wpAny_isSubtype_exc hC2 ?_;rw [hcB]) | wp_step)
 unfold raiseNew
 refine N03 (wpAny_handled ?_)
 rw [hh]
 have nb:(Value.ref ea != Value.ref e)=true:=by simpa using N1f hne
 dsimp only
 rw [N0j nb]
 refine N03 (N1o (wpAny_runValue (codeAny_builtin q2Q ?_)))
 unfold Builtin.«proto.unchain»
 refine N03 (wpAny_field hea2 hd h2 ?_)
 rw [N0j (by rfl)]
 show wpAny _ _ (pure (Fin.done (.ret .none))) _ _ _
 refine N0y ?_
 show wpAny _ _ (do setField (.ref e) 2 (.ref ea);throw (Value.ref e)) _ _ _
 refine N03 (wpAny_setField w2 rfl (by simp) (wpAny_throw (hE _ (λ b n=>?_) ?_)))
 ·rw [Heap.get?_update_other _ _ (N1f n)]
  exact (o2 b n).trans (o1 b n)
 ·exact Heap.get?_update_self (Obj.mapFields (·.setIfInBounds 2 (Value.ref ea))) w2 (Obj.isFreed_of_fields (Obj.data_mapFields rfl _))
end
section
variable {X:Cx}
theorem q7t {pn:List (Addr×Obj)}{ea C C':Addr}{oe:Obj}{vs:Array Value}{i il:Nat}{n x z:Str}{J:Expr}{σ:St}{H:Hp}{s:Shared}{np cpos pos p5:Pos}{Q:Flow->Shared->Prop}{E':Value->Shared->Prop}
 (hxx:X.ex=[]) (I:Inv (X.hd pn ea) [] σ H s) (hpin:(ea,oe)∈pn) (hcl:oe.cls=.ref C') (hd:oe.data=.fields vs) (h2:vs[2]? = some .none) (hi:X.N[i]? = some n) (hσ:σ[i]? = some (some (.ref ea))) (hz:σ[il]? = some (some (.str z))) (ok:q6j z)
 (hg:Gl X x) (hm:X.mg x=some (.ref C)) (hq:q28 X.K C) (hq':q28 X.K C')
 (hvn:Vis X.env.scope n) (hn1:(n==("__debug__" : Str))=false) (hn2:(n==("__classdict__" : Str))=false) (hdb:(x==("__debug__" : Str))=false)
 (pm:PV (X.hd pn ea) J λ σ H Q=>∃ z,σ[il]? = some (some (.str z))/\q6j z/\Q H)
 (hst:starEach [J] X.env=[(false,eval J X.env)])
 (hE:∀ (s3:Shared) (e:Addr) (oE:Obj) (h':Heap) (o2:Obj) (vs2:Array Value),Inv (X.hd pn ea) [(e,oE)] σ H s3->oE.data≠.freed->(∀ b,b≠e->h'.get? b=s3.heap.get? b)->h'.get? e=some o2->o2.cls=.ref C->o2.data=.fields vs2->vs2[1]? = some .none->X.s₀.heap.get? e=none->E' (.ref e) { s3 with heap:=h' }) :
 wpAny (model X.prog X.w) (X.A.mark (some (.ref ea))) (exec (.Raise (some (.Call (.Name x np) [J] [] cpos)) (some (.Name n p5)) pos) X.env) Q E' s:=by
 refine Classical.byContradiction λ hG=>?_
 obtain ⟨z0,hC,hN,hni,T⟩:=q4B X.prog I.ok.mod hq
 obtain ⟨z1,hC',_,_,T'⟩:=q4B X.prog I.ok.mod hq'
 refine hG ?_
 rw [arm_exec_Raise]
 refine N03 (wpAny_standAt ?_)
 show wpAny _ _ (raiseStmt X.env (some (do let v <- eval (.Call (.Name x np) [J] [] cpos) X.env;standAt pos;pure v)) (some (do let v <- eval (.Name n p5) X.env;standAt pos;pure v))) _ _ _
 refine q6m hC hC' (T.hasType PySem.F.excBase_ValueError.hasBase) (T'.hasType PySem.F.excBase_ValueError.hasBase) rfl ?_
 refine N03 (N0p (wpAny_Call_ofName (N0p (U1 (X:=X.hd pn ea) (E:=λ o_ o_=>False) I hg hm (Q:=λ f s₁=>f=.ref C/\s₁=s) ⟨rfl,rfl⟩ hdb) (λ f s₁ h₁=>?_) λ o_ o_ z=>z.elim)) (λ v s₃ h₃=>N03 (wpAny_standAt (N0y h₃))) λ o_ o_ x=>x)
 obtain ⟨rfl,rfl⟩:=h₁
 unfold callWith
 refine N03 (N1o (N0p (?_:wpAny _ _ (evalArgs (.ref C) true (backTo cpos (starEach [J] X.env)) []) (λ a s2=>∃ v,a=⟨[v],[]⟩/\Inv (X.hd pn ea) [] σ H s2) (λ o_ o_=>False) s₁) (λ a s₂ h₂=>N03 (wpAny_standAt ?_)) λ o_ o_ z=>z.elim))
 ·rw [hst]
  refine Calls.evalArgs_plain (Calls.spliced_cons (thn (pm [] s₁ σ H (λ H1=>H1=H) I ⟨z,hz,ok,rfl⟩) λ v s2 ⟨H2,I2,q2⟩=>Calls.spliced_nil ?_))
  subst q2
  exact ⟨v,rfl,I2⟩
 ·obtain ⟨v,rfl,I2⟩:=h₂
  have hpl:(backTo cpos (starEach [J] X.env)).any (·.1)=false:=by rw [hst];rfl
  have hC2:=I2.bk _ _ hC
  have T2:=T.keeps I2.bk
  have N2:=hN.keeps I2.bk
  obtain ⟨hp,g,d,tk,os⟩:=s₂
  simp only [hpl]
  refine N03 (wpAny_keeperOf_exc hC2 ?_)
  refine N03 (wpAny_call_exc_subT (hrest:=by show 1<=sizeLine;decide) PySem.F.excBase_ValueError T2 hC2 N2 hni λ h' e mk=>N03 (N1o (wpAny_point (N0y ⟨e,rfl,?_⟩))))
  obtain ⟨t,he,_,_⟩:=mk.there
  have I3:Inv (X.hd pn ea) [] σ H ⟨h',g,d,tk,os⟩:=I2.call' (ch:=[]) rfl (Un.kept mk.keeps) (I2.hok.kept mk.keeps) I2.bare (λ b z=>absurd z (by simp))
  have nH:H e=none:=by
   cases q:H e with
   | none=>rfl
   | some o =>
    obtain ⟨u,hu⟩:=(I2.hok e o q).there
    rw [mk.new] at hu
    cases hu
  have nl:e≠X.env.locals:=λ q=>by
   obtain ⟨m,⟨o,_,_,ho,_⟩,_⟩:=I2.loc
   have ho:hp.get? X.env.locals=some o:=ho
   rw [<- q,mk.new] at ho
   cases ho
  have nf:e∉X.fs:=λ q=>by
   obtain ⟨_,o,ho,_⟩:=I2.ok.funs.mem (b:=e) q
   obtain ⟨o',ho'⟩:=I2.base.there e o ho (λ z=>I2.ok.exfs e z q)
   rw [mk.new] at ho'
   cases ho'
  have I4:Inv (X.hd pn ea) [(e,{ cls:=.ref C,data:=.fields #[.ref t,.none,.none,.none,.bool false,.none] })] σ H ⟨h',g,d,tk,os⟩:=I3.pins_of λ p hp=>by
   rw [N0f.mp hp]
   exact ⟨he,nH,nl,nf,λ v q=>by cases q⟩
  have hvar:=X7 (X:=X.hd pn ea) (i:=i) (pos:=p5) hi hvn hn1 hn2
  refine N03 (N0p (hvar [(e,{ cls:=.ref C,data:=.fields #[.ref t,.none,.none,.none,.bool false,.none] })] _ σ H (λ v H1=>v=.ref ea/\H1=H) I4 ⟨.ref ea,hσ,rfl,rfl⟩) (λ u s3 h3=>N03 (wpAny_standAt (N0y ?_))) λ o_ o_ z=>z.elim)
  obtain ⟨u',H3,I5,ru,eu,eh⟩:=h3
  subst eu eh
  obtain rfl:u=Value.ref ea:=ru
  have pe:=(I5.pin (ea,oe) (N0w _ hpin)).1
  have pE:=(I5.pin (e,{ cls:=.ref C,data:=.fields #[.ref t,.none,.none,.none,.bool false,.none] }) (N05 _ (N0f.mpr rfl))).1
  have pe2:=(I2.pin (ea,oe) (N0w _ hpin)).1
  have ne:e≠ea:=λ q=>by
   have pe2:hp.get? ea=some oe:=pe2
   rw [<- q,mk.new] at pe2
   cases pe2
  have nC:∀ {b:Addr}{o:Obj},X.base.get? b=some o->b≠e:=λ {b o} q z=>by
   have:=I2.bk b o q
   have this:hp.get? b=some o:=this
   rw [z,mk.new] at this
   cases this
  refine ⟨t,oe,vs,rfl,ne,I5.bk,pE,pe,hcl,hd,h2,nC hC,nC hC',λ h'' k1 k2=>?_⟩
  refine hE s3 e _ h'' _ _ I5 (by simp) k1 k2 rfl rfl rfl ?_
  cases q:X.s₀.heap.get? e with
  | none=>rfl
  | some o =>
   obtain ⟨o',ho'⟩:=I2.base.there e o q (by show e∉X.ex;rw [hxx];simp)
   rw [mk.new] at ho'
   cases ho'
end
section
variable {X:Cx}{CX:CXT}{k:Nat}{f C:Addr}{fd:FuncData}{ps:List Str}{sp:Sp}{dvs:List V}{ds:List Value}{E:XK}{m:Str}{pos apos:Pos}{e o:Expr}{es:List Expr}{ta:TE}{t:TA}
theorem z14 {pl:Sem Bool}{σ:St}(he:PE X o ta) (c:Cls X.K C) (hm:Meth X.K C m f) (F:FnOk X.prog X.w X.K X.mg X.base CX k f fd ps sp) (hr:Room k X.A) (hb:X9 X.K fd ps [])
 (hx:∀ pins H s e s',Inv X pins σ H s->CX X.stack H s E e s'->X.xe e s') (ha:PA X (e::es) t)
 (hst:starEach (e::es) X.env=(false,eval e X.env)::starEach es X.env) (hpl:(backTo pos (starEach es X.env)).any (·.1)=false)
 (ht:eval (.Call (.Attribute o m apos) (e::es) [] pos) X.env=(do
  let ov <- eval o X.env
  standAt apos.atName
  let (f,first) <- holding [ov] (getMethod ov m pl)
  callWith pos f first (backTo pos (starEach (e::es) X.env)) (backToKw pos (keywordEach [] X.env)))) :
 PE X (.Call (.Attribute o m apos) (e::es) [] pos) (λ σ' H Q=>σ'=σ/\z0P C m sp [] E ta t σ' H Q):=by
 rintro pins s σ' H Q I ⟨rfl,h⟩
 refine PySem.W.methodCall_KW (pl:=pl) (thx (he pins s σ' H _ I h) λ u s1 x H1 I1 rx hx_=>?_) ht
 obtain ⟨a,dx,fs,ex,ea,l,q⟩:=hx_
 subst ex
 obtain rfl:u=Value.ref a:=rx
 refine q2i I1 ea c hm l ?_
 refine PySem.W.callWith_K (first:=[.ref a]) (h₀:=X.base) I.ok.mod.kin hm.kp (thx (ha pos pins s1 σ' H1 _ I1 q) λ us s2 vs H2 I2 r q2=>⟨I2.kIn,?_⟩) hst hpl
 have r2:Vals (V.ref a::vs) (Value.ref a::us):=.cons rfl r
 have q2:sp (V.ref a::(vs++[])) H2 Q E:=q2
 rw [N10] at q2
 have hl:(Value.ref a::us++[]).length=ps.length:=by rw [N10,<- r2.length];exact F.len _ _ _ _ q2
 have hbt:=hb s2 (Value.ref a::us) I2.kIn hl
 rw [N10] at hbt
 refine wpAny_call (codeAny_mono (F.run X.A X.stack s2 H2 ⟨Value.ref a::us,[]⟩ _ _ Q E hr I2.env0 hbt r2 q2) λ r s' hq=>?_)
 cases r with
 | error e=>exact hx pins H2 s2 e s' I2 hq
 | ok fl =>
  cases fl with
  | ret u=>exact I2.after hq
  | next=>exact False.elim hq
  | brk=>exact False.elim hq
  | cont=>exact False.elim hq
end
theorem q1M {h h' B:Heap}:∀ {l:List Env},(∀ b∈frs l,∀ o,h.get? b=some o->(∀ vs,o.data≠.fields vs)->∃ o',h'.get? b=some o'/\∀ vs,o'.data≠.fields vs)->h.FunFrames B l->h'.FunFrames B l
 | [],_,_=>trivial
 | env::rest,k,⟨k1,⟨L,o,k2,k3,k4,k5⟩,k6⟩=>by
  have hm:frs (env::rest)=L::frs rest:=Y5 k2
  obtain ⟨o',q1,q2⟩:=k L (by rw [hm];exact N00) o k4 k5
  exact ⟨k1,⟨L,o',k2,k3,q1,q2⟩,q1M (λ b hb=>k b (by rw [hm];exact N02 _ hb)) k6⟩
theorem q9k {B h h':Heap}{l:List Env}{e L:Addr}{cv:Value}{o':Obj}(f:FlyA false B l e cv h) (ext:∀ b o,b≠L->h.get? b=some o->h'.get? b=some o) (bB:∀ b o,B.get? b=some o->b≠L)
 (noL:∀ b o,h.get? b=some o->∀ vs,o.data=.fields vs->b≠L) (hL:h'.get? L=some o') (hd:∀ vs,o'.data≠.fields vs):FlyA false B l e cv h':=by
 obtain ⟨f1,f2,f3,oe',vs',T,oT,ts,fl,x1,x2,x3,x4,x5,x6,x7,x8,x9,x10⟩:=f
 refine ⟨λ b o q=>ext b o (bB b o q) (f1 b o q),f2,q1M (λ b hb o q nf=>?_) f3,oe',vs',T,oT,ts,fl,ext e oe' (noL e oe' x1 _ x3) x1,x2,x3,x4,x5,x6,ext T oT (noL T oT x7 _ x8) x7,x8,x9,x10⟩
 by_cases w:b=L
 ·exact ⟨o',w▸hL,hd⟩
 ·exact ⟨o,ext b o w q,nf⟩
theorem z0b {ctx:Bool}{B h:Heap}{l:List Env}{e:Addr}{cv:Value}(f:FlyA ctx B l e cv h):∃ oe vs T,h.get? e=some oe/\oe.data=.fields vs/\vs[1]? = some (.ref T):=by
 obtain ⟨_,_,_,oe',vs',T,oT,ts,fl,x1,x2,x3,x4,_⟩:=f
 exact ⟨oe',vs',T,x1,x3,x4⟩
theorem z0c {P:Program}{w:World}{env:Env}{l:List Env}{H H2:Hp}{s s':Shared}{ea C:Addr}{B:Heap}(hfr:env.frame=some env.locals) (F:Fly true P w (env::l) H s s' ea C B H2) :
 ∃ oe vs,s'.heap.get? ea=some oe/\oe.cls=.ref C/\oe.data=.fields vs/\vs[2]? = some .none/\H2 ea=none/\ea≠env.locals/\ea∉frs l:=by
 obtain ⟨oe,vs,T,oT,ts',fl',he,hc,hd,_,_,_,_,_,_,h2⟩:=F.fly.2.2.2
 have hnf:ea∉frs (env::l):=λ q=>by
  obtain ⟨_,o',e',hd'⟩:=F.fly.2.2.1.mem q
  rw [he] at e'
  cases e'
  exact hd' _ hd
 refine ⟨oe,vs,he,hc,hd,h2 rfl,?_,λ q=>hnf ?_,λ q=>hnf ?_⟩
 ·cases q:H2 ea with
  | none=>rfl
  | some u =>
   obtain ⟨o,ho⟩:=F.old ea hnf (.inr ⟨u,q⟩)
   rw [F.fly.2.1] at ho
   cases ho
 ·rw [Y5 hfr,q];exact N00
 ·rw [Y5 hfr];exact N02 _ q
noncomputable def EHR (X:Cx) (FE C6:Addr) (E:XK):XK:=λ Cv o_ H'=>∃ C',Cv=.ref C'/\PySem.W.exmOne X.K (.ref C') (.ref FE)=some true/\q28 X.K C'/\E (.ref C6) none H'
section
variable {X:Cx}{E:XK}
theorem q3T {FE C6:Addr}{i il:Nat}{n x z tn:Str}{J:Expr}{np hpos np2 cpos rpos p5:Pos}{pins:List (Addr×Obj)}{σ:St}{D:Ends}{xe:Value->Shared->Prop}
 (hstk:X.stack=X.env::X.outer) (hfr:X.env.frame=some X.env.locals) (hxx:X.ex=[]) (hex:q3S X E) (ok:X.Ok)
 (hN:X.N.Nodup) (hi:X.N[i]? = some n) (hil:i≠il) (hloc:X.env.scope.names.lookup n=some .local) (hg:Gl X tn) (hm:X.mg tn=some (.ref FE)) (hgx:Gl X x) (hmx:X.mg x=some (.ref C6)) (hqx:q28 X.K C6)
 (hn1:(n==("__debug__" : Str))=false) (hn2:(n==("__classdict__" : Str))=false) (hdb:(x==("__debug__" : Str))=false) (hdt:(tn==("__debug__" : Str))=false)
 (pm:∀ pn ea,PV (X.hd pn ea) J λ σ H Q=>∃ z,σ[il]? = some (some (.str z))/\q6j z/\Q H)
 (hst:starEach [J] X.env=[(false,eval J X.env)])
 (hz:σ[il]? = some (some (.str z))) (okm:q6j z)
 {pins':List (Addr×Obj)}{H1:Hp}{s1 s2:Shared}{e:Value}(I1':Inv (X.tr (X.pn++pins) xe) pins' σ H1 s1) (hc:CXG true X.prog X.w X.stack H1 s1 (EHR X FE C6 E) e s2) :
 wpAny (model X.prog X.w) X.A (noteFrame e X.env) (λ o_ s₂=>wpAny (model X.prog X.w) X.A (setFlight e none) (λ o_ s₃=>wpAny (model X.prog X.w) X.A (handleBy e X.env [.ExceptHandler (some (.Name tn np)) (some n) [.Raise (some (.Call (.Name x np2) [J] [] cpos)) (some (.Name n p5)) rpos] hpos]) (SP X pins D) X.xe s₃) X.xe s₂) X.xe s2:=by
 refine Classical.byContradiction λ hG=>?_
 obtain ⟨ea,C,B,H2,rfl,F,C2,hCv,hmat,hqC,hW⟩:=hc
 have hCe:C=C2:=Value.ref.inj hCv
 subst hCe
 have I1:Inv X pins σ H1 s1:=I1'.untr
 have F:Fly true X.prog X.w (X.env::X.outer) H1 s1 s2 ea C B H2:=hstk▸F
 have hf:∀ b∈frs (X.env::X.outer),H1 b=none/\∃ o,s1.heap.get? b=some o:=λ b hb=>by
  rw [<- hstk] at hb
  obtain ⟨_,o,ho,_⟩:=I1.stack.mem hb
  exact ⟨I1.stkFree b hb,o,ho⟩
 have hfrm:X.A.frames=some (X.env::X.outer):=hstk▸ok.frames
 refine hG ?_
 refine q0C hfrm hfr hfr F.fly λ h4 held4 k4=>U5 held4 λ h5 fly5 k5=>?_
 have F5:=F.step hf fly5 (k4.trans k5)
 have invAt:∀ {s':Shared},Fly true X.prog X.w (X.env::X.outer) H1 s1 s' ea C B H2->Inv X pins σ H2 s':=λ {s'} F'=>I1.call' (ch:=[]) F'.os (hstk▸F'.un) F'.hok F'.bare (λ b z=>absurd z (by simp))
 refine Classical.byContradiction λ hG=>?_
 obtain ⟨oe5,vs5,g1,g2,g3,_,g4,g5,g6⟩:=z0c hfr F5
 have nc:∀ {ob:Obj}{vs:Array Value},ob.data=.fields vs->∀ v,ob.data≠.cell v:=λ e v q=>by rw [e] at q;cases q
 have I5h:=(invAt F5).hd g1 g4 g5 g6 (nc g3)
 refine hG ?_
 refine wpAny_handleBy_cons (codeAny_handlers_test ?_) (by intro q;cases q)
 have LT:PySem.W.Looks (model X.prog X.w) h5 (typeOf (.ref ea)) (.ref C):=PySem.W.XAt.type ⟨oe5,g1,g2⟩
 refine U1 (X:=X.hd (X.pn++pins++[(ea,oe5)]) ea) I5h hg hm ?_ hdt
 refine (PySem.W.exm_one (invAt F5).kIn LT hmat).at ?_
 show codeAny _ _ _ _ _
 refine codeAny_handlers_suite_as ?_
 refine U5 F5.fly λ h6 fly6 k6=>?_
 have F6:=F5.step hf fly6 k6
 obtain ⟨oe,vs,e1,e2,e3,eN,e4,e5,e6⟩:=z0c hfr F6
 have I6:=invAt F6
 have I6h:=I6.hd e1 e4 e5 e6 (nc e3)
 refine q1p (X:=X.hd (X.pn++pins++[(ea,oe)]) ea) (v:=.ref ea) I6h hN hi (.inl hloc) rfl (λ s7 I7=>?_) (.inr hloc)
 have hlen:i<σ.length:=by
  rw [I6.len]
  exact (N04.mp hi).1
 refine wpAny_execs_cons (q7t hxx I7 (N05 _ (N0f.mpr rfl)) e2 e3 eN hi (List.getElem?_set_self hlen) (by rw [List.getElem?_set_ne hil];exact hz) okm hgx hmx hqx hqC (.inl hloc) hn1 hn2 hdb (pm _ _) hst ?_)
 intro s3 e oE h' o2 vs2 I8 _ k1 k2 c2 d2 v2 new
 refine Classical.byContradiction λ hG=>?_
 have I8u:Inv X pins (σ.set i (some (.ref ea))) H2 s3:=(I8.pins_of (pins':=[]) (λ p hp=>(N1d hp).elim)).unhd ok
 have hL:frs (X.env::X.outer)=X.env.locals::frs X.outer:=Y5 hfr
 have hst8:s3.heap.FunFrames X.base (X.env::X.outer):=hstk▸I8u.stack
 have pe:=I8.pin (e,oE) (N05 _ (N0f.mpr rfl))
 have neL:e≠X.env.locals:=pe.2.2.1
 have nef:e∉frs (X.env::X.outer):=λ q=>by
  rw [hL] at q
  rcases N0c.mp q with q | q
  ·exact neL q
  ·exact pe.2.2.2.1 q
 generalize hBB:PySem.W.hideAll s3.heap (e::frs (X.env::X.outer))=B2
 have bB:∀ b o,B2.get? b=some o->s3.heap.get? b=some o/\b≠e/\b∉frs (X.env::X.outer):=λ b o q=>by
  rw [<- hBB] at q
  refine ⟨PySem.W.of_hideAll _ q,λ w=>?_,λ w=>?_⟩
  ·rw [w,PySem.W.hideAll_none _ N00] at q;cases q
  ·rw [PySem.W.hideAll_none _ (N02 _ w)] at q;cases q
 have Bb:∀ b o,s3.heap.get? b=some o->b≠e->b∉frs (X.env::X.outer)->B2.get? b=some o:=λ b o q n1 n2=>by
  rw [<- hBB]
  exact PySem.W.hideAll_get _ q λ w=>by
   rcases N0c.mp w with w | w
   ·exact n1 w
   ·exact n2 w
 have B2e:B2.get? e=none:=by rw [<- hBB];exact PySem.W.hideAll_none _ N00
 have fr8:h'.FunFrames B2 (X.env::X.outer):=by
  have a:s3.heap.FunFrames B2 (X.env::X.outer):=by
   rw [<- hBB]
   exact PySem.W.funFrames_hide hst8 λ en he b hb=>N02 _ (stack_in en he b hb)
  exact q1M (λ b hb o q nf=>⟨o,(k1 b λ w=>nef (w▸hb)).trans q,nf⟩) a
 have st8:B2.StaysIn h':=λ b o q=>(k1 b (bB b o q).2.1).trans (bB b o q).1
 refine hG ?_
 refine q2m (ctx:=false) (B:=B2) (L:=X.env.locals) hfrm fr8 hfr k2 st8 B2e d2 v2 c2 (λ q=>nomatch q) λ h9 fl9 u9=>?_
 refine Classical.byContradiction λ hG=>?_
 obtain ⟨m8,⟨o8,es8,ep8,ho8,hd8,r8⟩,_⟩:=I8u.loc
 have hn9:h9.Ns X.env.locals m8:=u9.ns ⟨o8,es8,ep8,(k1 _ (N1f neL)).trans ho8,hd8,r8⟩
 refine hG ?_
 refine wpAny_nameGoes hloc hn9 (by rw [ok.kind];rfl) λ h10 m10 hn10 hs10=>?_
 refine Classical.byContradiction λ hG=>?_
 obtain ⟨o10,es10,ep10,ho10,hd10,r10⟩:=hn10
 have ext:∀ b o,b≠X.env.locals->h9.get? b=some o->h10.get? b=some o:=λ b o q1 q2=>hs10.extBut b o q1 q2
 obtain ⟨o9,es9,ep9,ho9,hd9,_⟩:=hn9
 have noL:∀ b o,h9.get? b=some o->∀ vs,o.data=.fields vs->b≠X.env.locals:=λ b o q vs qd w=>by
  rw [w,ho9] at q
  cases q
  rw [hd9] at qd
  cases qd
 have fl10:FlyA false B2 (X.env::X.outer) e (.ref C6) h10:=q9k fl9 ext (λ b o q w=>(bB b o q).2.2 (by rw [hL,w];exact N00)) noL ho10 λ vs q=>by rw [hd10] at q;cases q
 obtain ⟨oa,va,Ta,a1,a2,a3⟩:=z0b fl10
 refine hG ?_
 unfold PySem.passOn
 refine N03 (wpAny_field a1 a2 a3 ?_)
 rw [N0l (by simp)]
 refine N03 (U5 fl10 λ h11 fl11 u11=>wpAny_throw ?_)
 show wpAny _ _ (noteFrame (.ref e) X.env) _ _ _
 refine q0C hfrm hfr hfr fl11 λ h12 fl12 u12=>?_
 obtain ⟨ob,vb,Tb,b1,b2,b3⟩:=z0b fl12
 show cameBackBy (model X.prog X.w) X.A X.env X.xe (.ref e) _
 unfold cameBackBy
 refine N03 (wpAny_field b1 b2 b3 ?_)
 rw [N0l (by simp)]
 refine U5 fl12 λ h13 fl13 u13=>?_
 have s3':B2.StaysIn s3.heap:=λ b o q=>(bB b o q).1
 have old:∀ b,b∉frs X.stack->b∉[e,X.env.locals]->((∃ u,s3.heap.get? b=some u)\/(∃ u,H2 b=some u))->∃ o,B2.get? b=some o:=λ b n1 n2 q=>by
  have n3:b≠e:=λ w=>n2 (by rw [w];exact N00)
  rw [hstk] at n1
  rcases q with ⟨u,q⟩ | ⟨u,q⟩
  ·exact ⟨u,Bb b u q n3 n1⟩
  ·obtain ⟨o,ho⟩:=(I8u.hok b u q).there
   exact ⟨o,Bb b o ho n3 n1⟩
 refine hex pins _ H2 s3 _ e C6 B2 H2 [e,X.env.locals] I8u ⟨rfl,I8u.bare,q7r (h2:=s3.heap) (Un.kept λ b o q=>q) (λ b n1 n2 q=>old b n1 n2 (.inl q)) s3' fl13.1 (λ b hb hx o q=>?_),?_,hstk▸fl13,old,λ b hb=>?_⟩ (λ b hb=>?_) hW
 ·rw [hstk] at hb
  obtain ⟨_,o',q',nf⟩:=hst8.mem hb
  rw [q] at q'
  cases q'
  have n1:b≠e:=λ w=>hx (by rw [w];exact N00)
  have n2:b≠X.env.locals:=λ w=>hx (by rw [w];exact N02 _ (N0f.mpr rfl))
  obtain ⟨l9,q9⟩:=u9 b o ((k1 b n1).trans q) nf
  obtain ⟨l11,q11⟩:=u11 b _ (ext b _ n2 q9) nf
  obtain ⟨l12,q12⟩:=u12 b _ q11 nf
  obtain ⟨l13,q13⟩:=u13 b _ q12 nf
  exact ⟨l13,q13⟩
 ·refine q0X (fs:=e::frs (X.env::X.outer)) (h1:=s3.heap) I8u.hok (λ b n q=>?_) s3' fl13.1 λ b hb=>?_
  ·refine old b (λ w=>n (by rw [<- hstk];exact N02 _ w)) (λ w=>n ?_) q
   rcases N0c.mp w with w | w
   ·rw [w];exact N00
   ·rw [N0f.mp w,hL];exact N02 _ N00
  ·rcases N0c.mp hb with w | w
   ·rw [w];exact pe.2.1
   ·exact I8u.stkFree b (by rw [hstk];exact w)
 ·rcases N0c.mp hb with w | w
  ·rw [w];exact pe.2.1
  ·rw [N0f.mp w];exact I8u.free
 ·rcases N0c.mp hb with w | w
  ·rw [w];exact new
  ·rw [N0f.mp w];exact Heap.get?_none_of_le ok.above
theorem z15 {FE C6 Cw f:Addr}{fd:FuncData}{ps:List Str}{sp:Sp}{k i il j:Nat}{n x y lit tn m:Str}{conv:Int}{o e:Expr}{es:List Expr}{pl:Sem Bool}{np hpos np2 cpos rpos p1 p2 p3 p4 p5 pos apos epos tpos:Pos}{ta:List (Addr×Obj)->(Value->Shared->Prop)->TE}{t:List (Addr×Obj)->(Value->Shared->Prop)->TA}
 (hstk:X.stack=X.env::X.outer) (hfr:X.env.frame=some X.env.locals) (hxx:X.ex=[]) (hex:q3S X E)
 (he:∀ pn xe,PE (X.tr pn xe) o (ta pn xe)) (ha:∀ pn xe,PA (X.tr pn xe) (e::es) (t pn xe)) (c:Cls X.K Cw) (hm:Meth X.K Cw m f) (F:FnOk X.prog X.w X.K X.mg X.base (CXG true X.prog X.w) k f fd ps sp) (hr:Room k X.A) (hb:X9 X.K fd ps [])
 (hN:X.N.Nodup) (hi:X.N[i]? = some n) (hl:X.N[il]? = some y) (hil:i≠il) (hloc:X.env.scope.names.lookup n=some .local) (hvy:Vis X.env.scope y) (hg:Gl X tn) (hmt:X.mg tn=some (.ref FE)) (hgx:Gl X x) (hmx:X.mg x=some (.ref C6)) (hqx:q28 X.K C6)
 (hlit:lit.length<=1000) (hcv:conv = -1\/conv=114) (hn1:(n==("__debug__" : Str))=false) (hn2:(n==("__classdict__" : Str))=false) (hy1:(y==("__debug__" : Str))=false) (hy2:(y==("__classdict__" : Str))=false) (hdb:(x==("__debug__" : Str))=false) (hdt:(tn==("__debug__" : Str))=false)
 (hs:evalEach [.Constant (.str lit) j p1,.FormattedValue (.Name y p3) conv none p2] X.env=[eval (.Constant (.str lit) j p1) X.env,eval (.FormattedValue (.Name y p3) conv none p2) X.env])
 (hst2:starEach [.JoinedStr [.Constant (.str lit) j p1,.FormattedValue (.Name y p3) conv none p2] p4] X.env=[(false,eval (.JoinedStr [.Constant (.str lit) j p1,.FormattedValue (.Name y p3) conv none p2] p4) X.env)])
 (hst:starEach (e::es) X.env=(false,eval e X.env)::starEach es X.env) (hpl:(backTo pos (starEach es X.env)).any (·.1)=false)
 (ht:eval (.Call (.Attribute o m apos) (e::es) [] pos) X.env=(do
  let ov <- eval o X.env
  standAt apos.atName
  let (f,first) <- holding [ov] (getMethod ov m pl)
  callWith pos f first (backTo pos (starEach (e::es) X.env)) (backToKw pos (keywordEach [] X.env))))
 (hsw:swapsWith (.Call (.Attribute o m apos) (e::es) [] pos) none epos.line X.env=pure false) :
 PS X (.Try [.Expr (.Call (.Attribute o m apos) (e::es) [] pos) epos] [.ExceptHandler (some (.Name tn np)) (some n) [.Raise (some (.Call (.Name x np2) [.JoinedStr [.Constant (.str lit) j p1,.FormattedValue (.Name y p3) conv none p2] p4] [] cpos)) (some (.Name n p5)) rpos] hpos] [] [] tpos)
  (λ D σ H=>(∃ z,σ[il]? = some (some (.str z))/\q6j z)/\∀ pn xe,z0P Cw m sp [] (EHR X FE C6 E) (ta pn xe) (t pn xe) σ H λ o_ H'=>D.nx σ H'):=by
 rintro pins s σ H D I ⟨⟨z,hz,okm⟩,h⟩
 refine wpAny_Try_except ?_
 let xe:Value->Shared->Prop:=λ e s₁=>wpAny (model X.prog X.w) X.A (noteFrame e X.env) (λ o_ s₂=>wpAny (model X.prog X.w) X.A (setFlight e none) (λ o_ s₃=>wpAny (model X.prog X.w) X.A (handleBy e X.env [.ExceptHandler (some (.Name tn np)) (some n) [.Raise (some (.Call (.Name x np2) [.JoinedStr [.Constant (.str lit) j p1,.FormattedValue (.Name y p3) conv none p2] p4] [] cpos)) (some (.Name n p5)) rpos] hpos]) (SP X pins D) X.xe s₃) X.xe s₂) X.xe s₁
 have hx:∀ pins' H1 s1 e s2,Inv (X.tr (X.pn++pins) xe) pins' σ H1 s1->CXG true X.prog X.w X.stack H1 s1 (EHR X FE C6 E) e s2->xe e s2:=λ pins' H1 s1 e s2 I1 hc =>
  q3T (D:=D) hstk hfr hxx hex I.ok hN hi hil hloc hg hmt hgx hmx hqx hn1 hn2 hdb hdt (λ pn ea=>z0a (X:=X.hd pn ea) hlit hcv hl hvy hy1 hy2 hs) hst2 hz okm I1 hc
 have hb':=q0W (q1A (X:=X.tr (X.pn++pins) xe) (pos:=epos) (z14 (X:=X.tr (X.pn++pins) xe) (σ:=σ) (E:=EHR X FE C6 E) (he (X.pn++pins) xe) c hm F hr hb hx (ha (X.pn++pins) xe) hst hpl ht) hsw)
 refine N0p (hb' [] s σ H D (I.tr xe) ⟨rfl,h _ _⟩) (λ f s1 hs=>?_) λ e s1 hs=>hs
 cases f with
 | next =>
  obtain ⟨σ',H',J,q⟩:=hs
  exact wpAny_execs_nil ⟨σ',H',J.untr,q⟩
 | ret u =>
  obtain ⟨x,σ',H',J,r,q⟩:=hs
  exact ⟨x,σ',H',J.untr,r,q⟩
 | brk =>
  obtain ⟨σ',H',J,q⟩:=hs
  exact ⟨σ',H',J.untr,q⟩
 | cont =>
  obtain ⟨σ',H',J,q⟩:=hs
  exact ⟨σ',H',J.untr,q⟩
end
theorem q1N {M:Model}{Γ:PySem.Ctx}{p:Pos}{t:Sem Fin}{fs:List Frame}{s s':Shared}{e:End}(h:Runs M Γ p t fs s e s'):s.toks<=s'.toks:=by
 induction h with
 | fresh _ ih=>exact N0v (Nat.le_succ _) ih
 | call _ _ i1 i2=>exact N0v i1 i2
 | resumeFresh _ _ _ _ i1 i2=>exact N0v i1 i2
 | resumeSuspended _ _ _ _ i1 i2=>exact N0v i1 i2
 | segRet _ _ i1 i2=>exact N0v i1 i2
 | segGen _ _ i1 i2=>exact N0v i1 i2
 | segSuspGen _ _ _ _ i1 i2=>exact N0v i1 i2
 | _=>first | exact N07 _ | assumption
theorem q6n {M:Model}{Γ:PySem.Ctx}{p:Pos}{g:Nat}{r:Resume}{s s':Shared}{res:GenResult}(h:Wakes M Γ p g r s res s'):s.toks<=s'.toks:=by
 unfold Wakes at h
 split at h
 ·exact h.elim
 ·split at h
  ·obtain ⟨e1,s1,h1,_,_,rfl⟩:=h
   have z:=q1N h1
   exact z
  ·rw [h.2];exact N07 _
  ·rw [h.2];exact N07 _
 ·obtain ⟨e1,s1,h1,_,_,rfl⟩:=h
  have z:=q1N h1
  exact z
 ·rw [h.2];exact N07 _
 ·rw [h.2];exact N07 _
theorem q7u {α:Type}{M:Model}{Γ:PySem.Ctx}:∀ (t:Sem α){Q:α->Pos->Shared->Prop}{E:Value->Pos->Shared->Prop}{p:Pos}{s:Shared}(n:Nat),n<=s.toks->Sem.wp M Γ t Q E p s->Sem.wp M Γ t (λ a p' s'=>Q a p' s'/\n<=s'.toks) E p s:=by
 intro t
 induction t with
 | pure a=>intro Q E p s n hn h;exact ⟨h,hn⟩
 | raise e=>intro Q E p s n hn h;exact h
 | unsupported _=>intro Q E p s n hn h;exact h
 | finish _=>intro Q E p s n hn h;exact h
 | rule _ k ih=>intro Q E p s n hn h;exact ih () n hn h
 | «at» p' k ih=>intro Q E p s n hn h;exact ih () n hn h
 | load a _ k ih=>intro Q E p s n hn h;obtain ⟨o,h1,h2⟩:=h;exact ⟨o,h1,ih o n hn h2⟩
 | update a _ f k ih=>intro Q E p s n hn h;exact ⟨h.1,ih () (s:={ s with heap:=s.heap.update a f }) n hn h.2⟩
 | loadIfAlive a k ih=>intro Q E p s n hn h;exact ih _ n hn h
 | point _ k ih=>intro Q E p s n hn h;exact ih () n hn h
 | register _ _ ih=>intro Q E p s n hn h;exact h.elim
 | alloc o k ih=>intro Q E p s n hn h;exact ih _ (s:={ s with heap:=s.heap.push o }) n hn h
 | fresh k ih=>intro Q E p s n hn h;exact ih _ (s:={ s with toks:=s.toks+1 }) n (Nat.le_succ_of_le hn) h
 | ask k ih=>intro Q E p s n hn h;exact ih _ n hn h
 | choose src m k ih=>intro Q E p s n hn h;exact ⟨h.1,ih _ (s:={ s with drawn:=s.drawn.bump src }) n hn h.2⟩
 | os q _ k ih=>intro Q E p s n hn h;exact ih _ (s:={ s with os:=(Os.step s.os q).1 }) n hn h
 | call c hh _ _ k ih =>
  intro Q E p s n hn h
  obtain ⟨r,s',h1,h2⟩:=h
  exact ⟨r,s',h1,ih r n (N0v hn (q1N h1)) h2⟩
 | handled own k ih=>intro Q E p s n hn h;exact ih _ n hn h
 | genState g k ih=>intro Q E p s n hn h;obtain ⟨st,h1,h2⟩:=h;exact ⟨st,h1,ih _ n hn h2⟩
 | newGen c k ih=>intro Q E p s n hn h;exact ih _ (s:={ s with gens:=s.gens.push (.fresh c) }) n hn h
 | resume g r _ k ih =>
  intro Q E p s n hn h
  obtain ⟨res,s',h1,h2⟩:=h
  exact ⟨res,s',h1,ih res n (N0v hn (q6n h1)) h2⟩
 | «yield» _ _ _ _ ih=>intro Q E p s n hn h;exact h.elim
 | stack k ih=>intro Q E p s n hn h;exact ih _ n hn h
 | fork=>intro Q E p s n hn h;exact h.elim
 | thread k ih=>intro Q E p s n hn h;exact ih _ n hn h
 | await=>intro Q E p s n hn h;exact h.elim
noncomputable def Fr {α:Type}(t:Sem α):Prop:=∀ (M:Model) (Γ:PySem.Ctx) (Q:α->Pos->Shared->Prop) (E:Value->Pos->Shared->Prop) (p:Pos) (s:Shared),Sem.wp M Γ t Q E p s->Sem.wp M Γ t (λ a p' s'=>Q a p' s'/\0<s'.toks) E p s
theorem Fr.bind1 {α β:Type}{m:Sem α}{f:α->Sem β}(h:Fr m):Fr (m >>= f):=λ M Γ Q E p s q=>by
 rw [Sem.wp_bind'] at q ⊢
 exact Sem.wp_mono M Γ m (λ a p' s' ⟨q1,q2⟩=>q7u (f a) 1 q2 q1) (λ o_ o_ o_ q=>q) p s (h M Γ _ E p s q)
theorem Fr.const {x:Str}{k:Nat}{pos:Pos}{env:Env}:Fr (eval (.Constant (.str x) k pos) env):=λ M Γ Q E p s q=>⟨q,Nat.succ_pos _⟩
theorem Fr.any {α:Type}{t:Sem α}(h:Fr t){M:Model}{A:Around}{Q:α->Shared->Prop}{E:Value->Shared->Prop}{s:Shared}(q:wpAny M A t Q E s):wpAny M A t (λ a s'=>Q a s'/\0<s'.toks) E s:=λ Γ p hΓ=>h M Γ _ _ p s (q Γ p hΓ)
theorem Fr.binop {a b:Expr}{op:Operator}{pos:Pos}{env:Env}(h:Fr (eval a env)):Fr (eval (.BinOp a op b pos) env):=by
 rw [arm_eval_BinOp]
 exact h.bind1
section
variable {X:Cx}
noncomputable def z16:V->List V->Hp->VK->Prop:=λ x vs H Q=>∃ a b c,x=.str a/\vs=[.str b,.str c]/\(b==c)=false/\a.length+(a.length+1) * c.length<=16777216/\Q (.str (Txt.replace a b c)) H
theorem z17 {o:Expr}{to:TE}{y z:Str}{j1 j2:Nat}{p1 p2 apos cpos:Pos}(ho:PE X o to)
 (hbase:attributeBase o "replace" X.env (eval o X.env)=eval o X.env:=by rfl)
 (hfew:((backTo cpos (starEach [.Constant (.str y) j1 p1,.Constant (.str z) j2 p2] X.env)).all (λ x=>!x.1)&&(backToKw cpos (keywordEach [] X.env)).all (λ x=>x.1.isSome)
  && decide ([Expr.Constant (.str y) j1 p1,.Constant (.str z) j2 p2].length+([]:List Keyword).length+(if ([]:List Keyword).isEmpty then 0 else 1)<30))=true:=by rfl)
 (hline:(apos.endLine==cpos.line)=true:=by rfl) (hs:starEach [.Constant (.str y) j1 p1,.Constant (.str z) j2 p2] X.env=[(false,eval (.Constant (.str y) j1 p1) X.env),(false,eval (.Constant (.str z) j2 p2) X.env)]:=by rfl) :
 ∀ (pins:List (Addr×Obj)) (s:Shared) (σ:St) (H:Hp) (Q:VK),0<s.toks->Inv X pins σ H s->(to σ H λ x H1=>z16 x [.str y,.str z] H1 Q) ->
  wpAny (model X.prog X.w) X.A (eval (.Call (.Attribute o "replace" apos) [.Constant (.str y) j1 p1,.Constant (.str z) j2 p2] [] cpos) X.env) (EP X pins σ Q) X.xe s:=by
 intro pins s σ H Q hpos I h
 refine wpAny_Call_method_late hbase hfew hline rfl (N0p (?_:wpAny _ _ _ (λ v s1=>EP X pins σ (λ x H1=>z16 x [.str y,.str z] H1 Q) v s1/\0<s1.toks) _ s) (λ v s1 hv=>?_) λ o_ o_ x=>x)
 ·exact λ Γ p hΓ=>q7u _ 1 hpos (ho pins s σ H _ I h Γ p hΓ)
 ·obtain ⟨⟨x,H1,I1,r1,a,b,c,rfl,hvs,hyz,hl,q⟩,ht⟩:=hv
  cases hvs
  obtain ⟨t,rfl⟩:=r1
  refine ⟨"str","str.replace",PySem.F.plainAttrs_str,PySem.F.slot_str_replace,PySem.F.type_str_replace,typeIs_str _ _ _,?_,?_⟩
  ·intro a' e;cases e
  rw [hs]
  refine Calls.callWith_builtin rfl (Calls.evalArgs_plain (Calls.spliced_cons (Calls.Constant_str (k:=j1) (pos:=p1) (Calls.spliced_cons (Calls.Constant_str (k:=j2) (pos:=p2) (Calls.spliced_nil ?_))))))
  refine SC.replace (Nat.ne_of_gt ht) (Nat.succ_ne_zero _) (by show s1.toks≠s1.toks+1;simp) hyz hl λ t' k=>?_
  exact ⟨.str (Txt.replace a y z),H1,((I1.tok _).tok _).tok _,⟨t',rfl⟩,q⟩
theorem z18 {e o:Expr}{te to:TE}{y z:Str}{j1 j2:Nat}{p1 p2 apos cpos:Pos}(he:PE X e te) (fr:Fr (eval e X.env)) (ho:PE X o to)
 (hs2:starEach [e,.Call (.Attribute o "replace" apos) [.Constant (.str y) j1 p1,.Constant (.str z) j2 p2] [] cpos] X.env=[(false,eval e X.env),(false,eval (.Call (.Attribute o "replace" apos) [.Constant (.str y) j1 p1,.Constant (.str z) j2 p2] [] cpos) X.env)]:=by rfl)
 (hbase:attributeBase o "replace" X.env (eval o X.env)=eval o X.env:=by rfl)
 (hfew:((backTo cpos (starEach [.Constant (.str y) j1 p1,.Constant (.str z) j2 p2] X.env)).all (λ x=>!x.1)&&(backToKw cpos (keywordEach [] X.env)).all (λ x=>x.1.isSome)
  && decide ([Expr.Constant (.str y) j1 p1,.Constant (.str z) j2 p2].length+([]:List Keyword).length+(if ([]:List Keyword).isEmpty then 0 else 1)<30))=true:=by rfl)
 (hline:(apos.endLine==cpos.line)=true:=by rfl) (hs:starEach [.Constant (.str y) j1 p1,.Constant (.str z) j2 p2] X.env=[(false,eval (.Constant (.str y) j1 p1) X.env),(false,eval (.Constant (.str z) j2 p2) X.env)]:=by rfl) :
 PA X [e,.Call (.Attribute o "replace" apos) [.Constant (.str y) j1 p1,.Constant (.str z) j2 p2] [] cpos] (λ σ H Q=>te σ H λ v H1=>to σ H1 λ x H2=>z16 x [.str y,.str z] H2 λ w H3=>Q [v,w] H3):=by
 intro pos pins s σ H Q I h
 rw [hs2]
 have h1:=fr.any (he pins s σ H _ I h)
 refine Calls.spliced_cons (N0p h1 (λ u s1 hu=>?_) λ o_ o_ x=>x)
 obtain ⟨⟨v,H1,I1,r1,q1⟩,ht⟩:=hu
 refine Calls.spliced_cons (N0p (z17 ho hbase hfew hline hs pins s1 σ H1 _ ht I1 q1) (λ u2 s2 hu2=>Calls.spliced_nil ?_) λ o_ o_ x=>x)
 obtain ⟨w,H2,I2,r2,q2⟩:=hu2
 exact ⟨[v,w],H2,I2,.cons r1 (.cons r2 .nil),q2⟩
end
end L2
namespace Dl
open PySem
noncomputable abbrev Ky:=Sum Int Str
inductive D where
 | non | bl (b:Bool) | int (i:Int) | str (x:Str)
 | tup (xs:List D) | lst (xs:List D)
 | dct (ks:List Ky) (vs:List D)
 | obj (c:Nat) (f:Str) (d:D)
noncomputable abbrev DS:=List (Option D)
inductive Rz (α:Type) where
 | ok (a:α) | er (c:Nat) (s:DS) | un
noncomputable def Rz.bind {α β:Type}:Rz α->(α->Rz β)->Rz β
 | .ok a,f=>f a
 | .er c s,_=>.er c s
 | .un,_=>.un
@[simp] theorem q2R {α β:Type}(a:α) (f:α->Rz β):(Rz.ok a).bind f=f a:=rfl
@[simp] theorem z52 {α β:Type}(c:Nat) (s:DS) (f:α->Rz β):(Rz.er c s).bind f=.er c s:=rfl
@[simp] theorem z53 {α β:Type}(f:α->Rz β):(Rz.un:Rz α).bind f=.un:=rfl
noncomputable def Rz.guard {α:Type}(c:Prop) [Decidable c] (r:Rz α):Rz α:=if c then r else .un
@[simp] theorem w9 {α:Type}{c:Prop} [Decidable c] {r:Rz α}(h:c):Rz.guard c r=r:=N0j h
mutual
noncomputable def D.imm:D->Bool
 | .tup xs=>q6J xs
 | .lst _=>false
 | .dct _ _=>false
 | .obj _ _ _=>false
 | .non=>true
 | .bl _=>true
 | .int _=>true
 | .str _=>true
noncomputable def q6J:List D->Bool
 | []=>true
 | x::r=>x.imm&&q6J r
end
theorem q0k:∀ l:List D,q6J l=l.all D.imm
 | []=>by rw [q6J];rfl
 | x::r=>by rw [q6J,List.all_cons,q0k r]
noncomputable def keyD:D->Option Ky
 | .int i=>some (.inl i)
 | .str x=>some (.inr x)
 | _=>none
noncomputable def dAdd:D->D->Rz D
 | .int i,.int j=>.ok (.int (i+j))
 | .str x,.str y=>.guard (x.length+y.length<=sizeLine) (.ok (.str (x++y)))
 | .lst xs,.lst ys=>.guard (xs.length+ys.length<=sizeLine) (.ok (.lst (xs++ys)))
 | .tup xs,.tup ys=>.guard (xs≠[]/\xs.length+ys.length<=sizeLine) (.ok (.tup (xs++ys)))
 | _,_=>.un
noncomputable def q9l:D->D->Rz D
 | .int i,.int j=>.ok (.int (i - j))
 | _,_=>.un
noncomputable def q8P:D->D->Rz D
 | .int i,.int j=>.guard ((-(2 ^ 64)<i/\i<2 ^ 64)\/(-(2 ^ 64)<j/\j<2 ^ 64)) (.ok (.int (i * j)))
 | _,_=>.un
noncomputable def q2n:D->D->Rz D
 | .int i,.int j=>.guard (0<j/\j<1073741824) (.ok (.int (i / j)))
 | _,_=>.un
noncomputable def dMod:D->D->Rz D
 | .int i,.int j=>.guard (0<j) (.ok (.int (i % j)))
 | _,_=>.un
noncomputable def q8Q:D->Rz D
 | .int i=>.ok (.int (-i))
 | _=>.un
noncomputable def dLt:D->D->Rz D
 | .int i,.int j=>.ok (.bl (decide (i<j)))
 | _,_=>.un
noncomputable def dLe:D->D->Rz D
 | .int i,.int j=>.ok (.bl (decide (i<=j)))
 | .str x,.str y=>.ok (.bl (!decide (y.cps.toList<x.cps.toList)))
 | _,_=>.un
noncomputable def dGt:D->D->Rz D
 | .int i,.int j=>.ok (.bl (decide (j<i)))
 | _,_=>.un
noncomputable def dGe:D->D->Rz D
 | .int i,.int j=>.ok (.bl (decide (j<=i)))
 | .str x,.str y=>.ok (.bl (!decide (x.cps.toList<y.cps.toList)))
 | _,_=>.un
noncomputable def ixD (n:Nat) (i:Int):Option Nat:=if 0<=i then (if i<n then some i.toNat else none) else if -(n:Int)<=i then some (i+n).toNat else none
noncomputable def atD {α:Type}(xs:List α) (i:Int):Option α:=(ixD xs.length i).bind λ j=>xs[j]?
noncomputable def sIxD (n d:Nat):Option Int->Nat
 | none=>d
 | some v=>if v<0 then (v+(n:Int)).toNat else min v.toNat n
noncomputable def cutD {α:Type}(xs:List α) (lo hi:Option Int):List α:=(xs.drop (sIxD xs.length 0 lo)).take (sIxD xs.length xs.length hi - sIxD xs.length 0 lo)
noncomputable def valD {α:Type}(k:Ky):List Ky->List α->Option α
 | x::ks,d::ds=>if x=k then some d else valD k ks ds
 | _,_=>none
noncomputable def setK {α:Type}(k:Ky) (v:α):List Ky->List α->List α
 | x::ks,d::ds=>(if x=k then v else d)::setK k v ks ds
 | _,ds=>ds
noncomputable def putD (ks:List Ky) (ds:List D) (k:Ky) (v:D):D :=
 if (ks.any λ x=>decide (x=k))=true then .dct ks (setK k v ks ds) else .dct (ks++[k]) (ds++[v])
noncomputable def optR {α:Type}:Option α->Rz α
 | some a=>.ok a
 | none=>.un
@[simp] theorem q7v {α:Type}(a:α):optR (some a)=.ok a:=rfl
noncomputable def dIx:D->D->Rz D
 | .lst xs,.int i=>optR (atD xs i)
 | .tup xs,.int i=>optR (atD xs i)
 | .str z,.int i=>.guard (z.length<=sizeLine) ((optR (atD z.cps.toList i)).bind λ c=>.ok (.str ⟨#[c]⟩))
 | .dct ks vs,.int i=>optR (valD (.inl i) ks vs)
 | .dct ks vs,.str x=>optR (valD (.inr x) ks vs)
 | _,_=>.un
noncomputable def z54:D->Rz D
 | .lst xs=>.ok (.int xs.length)
 | .tup xs=>.ok (.int xs.length)
 | .str z=>.guard (z.length<=sizeLine) (.ok (.int z.length))
 | .dct ks _=>.ok (.int ks.length)
 | _=>.un
noncomputable def z3X:D->Rz Bool
 | .non=>.ok false
 | .bl b=>.ok b
 | .int i=>.ok (i != 0)
 | .str y=>.guard (y.length<=sizeLine) (.ok ((y.length:Int) != 0))
 | .lst xs=>.ok (!xs.isEmpty)
 | .tup xs=>.ok (!xs.isEmpty)
 | .dct ks _=>.ok (!ks.isEmpty)
 | _=>.un
noncomputable def flatD:D->Bool
 | .non=>true
 | .bl _=>true
 | .int _=>true
 | .str _=>true
 | _=>false
mutual
noncomputable def eqD:D->D->Bool
 | .non,.non=>true
 | .bl a,.bl b=>a==b
 | .bl a,.int j=>(if a then 1 else 0)==j
 | .int i,.bl b=>i==(if b then 1 else 0)
 | .int a,.int b=>a==b
 | .str a,.str b=>a==b
 | .tup xs,.tup ys=>z2P xs ys
 | .lst xs,.lst ys=>z2P xs ys
 | _,_=>false
noncomputable def z2P:List D->List D->Bool
 | [],[]=>true
 | x::xs,y::ys=>eqD x y&&z2P xs ys
 | _,_=>false
end
mutual
noncomputable def okS:D->Bool
 | .str x=>x.cps.all (· < 0x110000)
 | .tup xs=>q7w xs
 | .lst xs=>q7w xs
 | .dct _ _=>false
 | .obj _ _ _=>false
 | .non=>true
 | .bl _=>true
 | .int _=>true
noncomputable def q7w:List D->Bool
 | []=>true
 | x::xs=>okS x&&q7w xs
end
mutual
noncomputable def q6K:D->Nat
 | .tup xs=>q6o xs+1
 | .lst xs=>q6o xs+1
 | .dct _ _=>0
 | .obj _ _ _=>0
 | .non=>0
 | .bl _=>0
 | .int _=>0
 | .str _=>0
noncomputable def q6o:List D->Nat
 | []=>0
 | x::xs=>max (q6K x) (q6o xs)
end
noncomputable def z2Q:D->D->Bool
 | .non,.non=>true | .non,.int _=>true | .int _,.non=>true | .non,.bl _=>true | .bl _,.non=>true | .non,.str _=>true | .str _,.non=>true
 | .int _,.int _=>true | .bl _,.bl _=>true | .str _,.str _=>true
 | .int _,.str _=>true | .str _,.int _=>true | .bl _,.str _=>true | .str _,.bl _=>true
 | _,_=>false
noncomputable def cmpOk (x y:D):Bool:=z2Q x y || (okS x&&okS y&&decide (q6K x<=64)&&decide (q6K y<=64))
noncomputable def dEq (x y:D):Rz D:=.guard (cmpOk x y=true) (.ok (.bl (eqD x y)))
noncomputable def dNe (x y:D):Rz D:=.guard (cmpOk x y=true) (.ok (.bl (!eqD x y)))
noncomputable def inD (x:D):D->Rz Bool
 | .lst ys=>.guard ((flatD x&&ys.all flatD)=true) (.ok (ys.any λ y=>eqD y x))
 | .tup ys=>.guard ((flatD x&&ys.all flatD)=true) (.ok (ys.any λ y=>eqD y x))
 | .dct ks _=>match keyD x with
  | some k=>.ok (ks.any λ j=>decide (j=k))
  | none=>.un
 | _=>.un
noncomputable def dIn (x y:D):Rz D:=(inD x y).bind λ b=>.ok (.bl b)
noncomputable def blsD:List D->Option (List Bool)
 | []=>some []
 | .bl b::r=>(blsD r).map (b :: ·)
 | _::_=>none
noncomputable def intsD:List D->Option (List Int)
 | []=>some []
 | .int b::r=>(intsD r).map (b :: ·)
 | _::_=>none
noncomputable def z19 (f:D->Rz D):List D->Rz D
 | [d]=>f d
 | _=>.un
noncomputable def z3Y:List D->Rz D:=z19 λ d=>match d with
 | .lst xs=>(optR (blsD xs)).bind λ bs=>.ok (.bl (bs.all id))
 | _=>.un
noncomputable def z3Z:List D->Rz D:=z19 λ d=>match d with
 | .lst xs=>(optR (intsD xs)).bind λ bs=>.ok (.int bs.sum)
 | _=>.un
noncomputable def z1a:List D->Rz D:=z19 λ d=>match d with
 | .int i=>.guard (i.natAbs.log2<1920) (.ok (.str (toString i)))
 | _=>.un
noncomputable def pTuple:List D->Rz D:=z19 λ d=>match d with
 | .lst xs=>.ok (.tup xs)
 | .tup xs=>.ok (.tup xs)
 | _=>.un
noncomputable abbrev GE:=DS->Rz D
noncomputable abbrev GT:=DS->Rz Bool
noncomputable abbrev GA:=DS->Rz (List D)
noncomputable def gVar (i:Nat):GE:=λ δ=>match δ[i]? with
 | some (some d)=>.ok d
 | _=>.un
noncomputable def q3U (i:Nat):GE:=λ δ=>match δ[i]? with
 | some (some d)=>.guard (d.imm=true) (.ok d)
 | _=>.un
noncomputable def gC (d:D):GE:=λ o_=>.ok d
noncomputable def gOp (f:D->D->Rz D) (a b:GE):GE:=λ δ=>(a δ).bind λ x=>(b δ).bind λ y=>f x y
noncomputable def gUn (f:D->Rz D) (a:GE):GE:=λ δ=>(a δ).bind f
noncomputable def gIf (t:GT) (a b:GE):GE:=λ δ=>(t δ).bind λ c=>if c=true then a δ else b δ
noncomputable def z25 (a b:GE):GE:=λ δ=>(a δ).bind λ x=>match x with
 | .bl true=>b δ
 | .bl false=>.ok (.bl false)
 | _=>.un
noncomputable def gB (a:GE):GT:=λ δ=>(a δ).bind λ x=>match x with
 | .bl c=>.ok c
 | _=>.un
noncomputable def q7x (a:GE):GT:=λ δ=>(a δ).bind z3X
noncomputable def q8R (a b:GT):GT:=λ δ=>(a δ).bind λ c=>if c=true then .ok true else b δ
noncomputable def q3V (a:GT):GT:=λ δ=>(a δ).bind λ c=>.ok (!c)
noncomputable def q1n:GT:=λ o_=>.ok true
noncomputable def gNil:GA:=λ o_=>.ok []
noncomputable def gCons (a:GE) (b:GA):GA:=λ δ=>(a δ).bind λ x=>(b δ).bind λ xs=>.ok (x::xs)
noncomputable def gTup (a:GA):GE:=λ δ=>(a δ).bind λ xs=>.guard (xs.length<=sizeLine) (.ok (.tup xs))
noncomputable def q2o (a:GA):GE:=λ δ=>(a δ).bind λ xs=>.guard (xs.length<=sizeLine) (.ok (.lst xs))
noncomputable abbrev PF:=List D->Rz D
noncomputable def gCall (F:PF) (a:GA):GE:=λ δ=>(a δ).bind F
noncomputable def gOI (a:GE):DS->Rz (Option Int):=λ δ=>(a δ).bind λ x=>match x with
 | .int i=>.ok (some i)
 | _=>.un
noncomputable def gON:DS->Rz (Option Int):=λ o_=>.ok none
noncomputable def z2R:D->Option Int->Option Int->Rz D
 | .lst xs,lo,hi=>.ok (.lst (cutD xs lo hi))
 | .str z,lo,hi=>.guard (z.length<=sizeLine) (.ok (.str ⟨(cutD z.cps.toList lo hi).toArray⟩))
 | _,_,_=>.un
noncomputable def gSl (a:GE) (lo hi:DS->Rz (Option Int)):GE:=λ δ=>(a δ).bind λ x=>(lo δ).bind λ l=>(hi δ).bind λ h=>z2R x l h
noncomputable abbrev GI:=DS->Rz (List D)
noncomputable def signsD (z:Str):List D:=z.cps.toList.map λ c=>D.str ⟨#[c]⟩
noncomputable def q7y (a:GE):GI:=λ δ=>(a δ).bind λ x=>match x with
 | .lst xs=>.ok xs
 | .tup xs=>.ok xs
 | .str z=>.guard (z.cps.all (· < 128)=true) (.ok (signsD z))
 | _=>.un
noncomputable def Rng (j:Int):Prop:=-(2 ^ 62)<=j/\j<2 ^ 62
noncomputable instance (j:Int):Decidable (Rng j):=decidable_of_iff (j.toNat<4611686018427387904/\(-j).toNat<=4611686018427387904) (by unfold Rng;lia)
noncomputable def rangeD (lo:Int) (n:Nat):List D:=(List.range n).map λ k:Nat=>D.int (lo+(k:Int))
noncomputable def q29 (a:GE):GI:=λ δ=>(a δ).bind λ x=>match x with
 | .int j=>.guard (Rng j) (.ok (rangeD 0 j.toNat))
 | _=>.un
noncomputable def compL (cap:DS) (t:GT) (e:GE):List D->Rz (List D)
 | []=>.ok []
 | x::xs=>(t (some x::cap)).bind λ b=>if b=true then (e (some x::cap)).bind λ y=>(compL cap t e xs).bind λ ys=>.ok (y::ys) else compL cap t e xs
noncomputable def capD (caps:List Nat) (δ:DS):DS:=caps.map λ c=>(δ[c]?).join
noncomputable def q0o (it:GI) (caps:List Nat) (t:GT) (e:GE):GE:=λ δ=>(it δ).bind λ xs=>(compL (capD caps δ) t e xs).bind λ ys=>.guard (ys.length<=sizeLine) (.ok (.lst ys))
inductive Out where
 | nx (δ:DS) | rt (d:D) (δ:DS) | bk (δ:DS) | ct (δ:DS)
noncomputable abbrev GS:=DS->Rz Out
noncomputable def J8:GS:=λ δ=>.ok (.nx δ)
noncomputable def W1 (a b:GS):GS:=λ δ=>(a δ).bind λ o=>match o with
 | .nx δ'=>b δ'
 | o=>.ok o
noncomputable def Y7 (t:GT) (a b:GS):GS:=λ δ=>(t δ).bind λ c=>if c=true then a δ else b δ
noncomputable def q06 (a:GE):GS:=λ δ=>(a δ).bind λ d=>.ok (.rt d δ)
noncomputable def z1b (a:GE):GS:=λ δ=>(a δ).bind λ o_=>.ok (.nx δ)
noncomputable def gSet (i:Nat) (a:GE):GS:=λ δ=>(a δ).bind λ d=>.ok (.nx (δ.set i (some d)))
noncomputable def Y8:GS:=λ o_=>.un
noncomputable def q9m (i:Nat) (a:GE):GS:=λ δ=>(a δ).bind λ d=>match δ[i]? with
 | some (some (.lst xs))=>.guard (xs.length<sizeLine) (.ok (.nx (δ.set i (some (.lst (xs++[d]))))))
 | _=>.un
noncomputable def dPut:D->D->D->Rz D
 | .dct ks vs,k,v=>match keyD k with
  | some k=>.guard (ks.length<sizeLine) (.ok (putD ks vs k v))
  | none=>.un
 | .lst xs,.int i,v=>match ixD xs.length i with
  | some j=>.ok (.lst (xs.set j v))
  | none=>.un
 | _,_,_=>.un
noncomputable def z26 (i:Nat) (k a:GE):GS:=λ δ=>(a δ).bind λ d=>(k δ).bind λ k=>match δ[i]? with
 | some (some x)=>(dPut x k d).bind λ y=>.ok (.nx (δ.set i (some y)))
 | _=>.un
noncomputable def forget:List Nat->DS->DS
 | [],δ=>δ
 | i::r,δ=>forget r (δ.set i none)
noncomputable def v4 (i:Nat) (fg:List Nat) (body:GS):List D->DS->Rz Out
 | [],δ=>.ok (.nx δ)
 | x::xs,δ=>(body (δ.set i (some x))).bind λ o=>match o with
  | .nx δ'=>v4 i fg body xs (forget fg δ')
  | .ct δ'=>v4 i fg body xs (forget fg δ')
  | .bk δ'=>.ok (.nx (forget fg δ'))
  | .rt d δ'=>.ok (.rt d δ')
noncomputable def z1c (it:GI) (i:Nat) (fg:List Nat) (body:GS):GS:=λ δ=>(it δ).bind λ xs=>v4 i fg body xs (forget fg δ)
noncomputable def startD (n:Nat) (ds:List D):DS:=ds.map some++List.replicate (n - ds.length) none
noncomputable def y3 (n:Nat) (body:GS):PF:=λ ds=>(body (startD n ds)).bind λ o=>match o with
 | .nx _=>.ok .non
 | .rt d _=>.ok d
 | _=>.un
noncomputable def D.big:D->Bool
 | .lst _=>true
 | .dct _ _=>true
 | .obj _ _ (.dct _ _)=>true
 | _=>false
noncomputable def q1O (a:GE):GS:=λ δ=>(a δ).bind λ d=>.guard (d.big=false) (.ok (.rt d δ))
noncomputable def q2a (i:Nat) (a:GE):GS:=λ δ=>(a δ).bind λ d=>.guard (d.big=true) (.ok (.nx (δ.set i (some d))))
noncomputable def dAddS:D->D->Rz D
 | .int i,.int j=>.ok (.int (i+j))
 | .str x,.str y=>.guard (x.length+y.length<=sizeLine) (.ok (.str (x++y)))
 | _,_=>.un
noncomputable def pLen:List D->Rz D
 | [d]=>z54 d
 | _=>.un
noncomputable def D.imI:D->Bool
 | .lst xs=>q6J xs
 | .dct _ vs=>q6J vs
 | d=>d.imm
noncomputable def z55 (g:GE):GE:=λ δ=>(g δ).bind λ d=>.guard (d.imI=true) (.ok d)
noncomputable def gIm (g:GE):GE:=λ δ=>(g δ).bind λ d=>.guard (d.imm=true) (.ok d)
noncomputable def q9n (c:Nat) (f:Str):D->Rz D
 | .obj c' f' d=>.guard (c'=c/\f'=f) (.ok d)
 | _=>.un
noncomputable def isObj (c:Nat) (m:Str):D->Bool
 | .obj c' f _=>decide (c'=c) && !decide (f=m)
 | _=>false
noncomputable def D.imO:D->Bool
 | .lst xs=>q6J xs
 | .dct _ vs=>q6J vs
 | .obj _ _ (.dct _ vs)=>q6J vs
 | _=>false
noncomputable abbrev PFI:=List D->Rz (D×List D)
noncomputable abbrev GX:=DS->Rz (D×DS)
noncomputable def getS:List Nat->DS->Rz (List D)
 | [],_=>.ok []
 | i::r,δ=>match δ[i]? with
  | some (some d)=>.guard (d.imO=true) ((getS r δ).bind λ ds=>.ok (d::ds))
  | _=>.un
noncomputable def q3r:List Nat->List D->DS->DS
 | i::r,d::ds,δ=>q3r r ds (δ.set i (some d))
 | _,_,δ=>δ
noncomputable def gCallI (F:PFI) (is:List Nat) (a:GA):GX:=λ δ=>(a δ).bind λ ds=>(getS is δ).bind λ os=>(F (os++ds)).bind λ r=>.guard (r.2.length=is.length) (.ok (r.1,q3r is r.2 δ))
noncomputable def q7z (c:Nat) (m:Str) (F:PFI) (i:Nat) (a:GA):GX:=λ δ=>(a δ).bind λ ds=>(getS [i] δ).bind λ os=>.guard ((os.all (isObj c m))=true) ((F (os++ds)).bind λ r=>.guard (r.2.length=[i].length) (.ok (r.1,q3r [i] r.2 δ)))
noncomputable def gDropX (a:GX):GS:=λ δ=>(a δ).bind λ r=>.ok (.nx r.2)
noncomputable abbrev GTX:=DS->Rz (Bool×DS)
noncomputable def z40 (n p:Nat) (body:GS):PFI:=λ ds=>(body (startD n ds)).bind λ o=>match o with
 | .nx δ=>(getS (List.range p) δ).bind λ es=>.ok (.non,es)
 | .rt d δ=>(getS (List.range p) δ).bind λ es=>.ok (d,es)
 | _=>.un
noncomputable def z1d (i:Nat) (c:Nat) (f:Str) (k a:GE):GS:=λ δ=>(a δ).bind λ d=>(k δ).bind λ k=>match δ[i]? with
 | some (some (.obj c' f' x))=>.guard (c'=c/\f'=f) (match x with
  | .dct ks vs=>(dPut (.dct ks vs) k d).bind λ y=>.ok (.nx (δ.set i (some (.obj c' f' y))))
  | _=>.un)
 | _=>.un
noncomputable def setT:List Nat->List D->DS->Option DS
 | [],[],δ=>some δ
 | i::r,d::ds,δ=>setT r ds (δ.set i (some d))
 | _,_,_=>none
noncomputable def z56 (is:List Nat) (a:GE):GS:=λ δ=>(a δ).bind λ d=>match d with
 | .tup ds=>(optR (setT is ds δ)).bind λ δ'=>.ok (.nx δ')
 | _=>.un
noncomputable def gChain (f g:D->D->Rz D) (a b c:GE):GE:=λ δ=>(a δ).bind λ x=>(b δ).bind λ y=>(f x y).bind λ z=>match z with
 | .bl true=>(c δ).bind λ w=>g y w
 | .bl false=>.ok (.bl false)
 | _=>.un
noncomputable def dInW (ws:List Str):D->Rz D
 | .str x=>.ok (.bl (decide (x∈ws)))
 | _=>.un
noncomputable def txtsD:List D->Option (List Str)
 | []=>some []
 | .str x::r=>(txtsD r).map (x :: ·)
 | _::_=>none
noncomputable def dJoin:D->D->Rz D
 | .str sep,.lst ds=>(optR (txtsD ds)).bind λ zs=>.guard ((zs.map (·.length)).sum+zs.length * sep.length<=sizeLine) (.ok (.str (Str.join sep zs)))
 | _,_=>.un
theorem str_ext {a b:Str}(h:a.cps.toList=b.cps.toList):a=b:=by
 cases a;cases b
 congr 1
 exact Array.toList_inj.1 h
theorem v5 (a b:Str):(a++b).cps.toList=a.cps.toList++b.cps.toList:=by
 show (a.cps++b.cps).toList=_
 rw [Array.toList_append]
theorem Q4 (a b c:Str):a++b++c=a++(b++c):=str_ext (by rw [v5,v5,v5,v5,List.append_assoc])
theorem q0x (a:Str):a++Str.empty=a:=str_ext (by rw [v5];exact N10 _)
theorem z5 (a b:Str):(a++b).length=a.length+b.length:=by
 show (a.cps++b.cps).size=a.cps.size+b.cps.size
 rw [Array.size_append]
noncomputable abbrev HS:=DS->Option (Nat×DS)
noncomputable abbrev HE:=DS->Option Nat
noncomputable abbrev PX:=List D->Option Nat
noncomputable def q0q (g:GS) (h:HS):HS:=λ δ=>match g δ with
 | .ok (.nx δ')=>h δ'
 | _=>none
noncomputable def hOr (a b:HS):HS:=λ δ=>match a δ with
 | some x=>some x
 | none=>b δ
noncomputable def hIf (t:GT) (v:Bool) (h:HS):HS:=λ δ=>match t δ with
 | .ok b=>if b=v then h δ else none
 | _=>none
noncomputable def q04 (c:Nat):HS:=λ δ=>some (c,δ)
noncomputable def q3W (x:Str):Prop:=x.length<=100000/\∀ c∈x.cps.toList,c<0x110000
noncomputable instance (x:Str):Decidable (q3W x):=inferInstanceAs (Decidable (_/\_))
noncomputable def hRaiseN (c i:Nat):HS:=λ δ=>match δ[i]? with
 | some (some (.str x))=>if q3W x then some (c,δ) else none
 | _=>none
noncomputable def hOf (h:HE):HS:=λ δ=>(h δ).map λ c=>(c,δ)
noncomputable def hCall (F:PX) (gs:GA):HE:=λ δ=>match gs δ with
 | .ok ds=>F ds
 | _=>none
noncomputable def hMeth (c:Nat) (m:Str) (F:PX) (ga:GE) (gs:GA):HE:=λ δ=>match ga δ with
 | .ok d=>match gs δ with
  | .ok ds=>if isObj c m d=true then F (d::ds) else none
  | _=>none
 | _=>none
noncomputable def q1P (n:Nat) (h:HS):PX:=λ ds=>(h (startD n ds)).map (·.1)
noncomputable def z27 (g:GS) (h:HS) (kd:Nat->Option D):GS:=λ δ=>match h δ with
 | some (c,δ')=>match kd c with
  | some d=>.ok (.rt d δ')
  | none=>.un
 | none=>g δ
noncomputable def rzO {α:Type}:Rz α->Option α
 | .ok a=>some a
 | _=>none
noncomputable def hLoop (i:Nat) (fg:List Nat) (body:GS) (hb:HS):List D->HS
 | [],_=>none
 | x::xs,δ=>match hb (δ.set i (some x)) with
  | some r=>some r
  | none=>match body (δ.set i (some x)) with
   | .ok (.nx δ')=>hLoop i fg body hb xs (forget fg δ')
   | .ok (.ct δ')=>hLoop i fg body hb xs (forget fg δ')
   | _=>none
noncomputable def z41 (it:GI) (i:Nat) (fg:List Nat) (body:GS) (hb:HS):HS:=λ δ=>(rzO (it δ)).bind λ xs=>hLoop i fg body hb xs (forget fg δ)
noncomputable def kindW:List Str:=["name","twice","full","kind","large","plain","note"]
noncomputable def kdW (cs:List Nat):Nat->Option D:=λ c=>if c∈cs then some (.str ((kindW[c]?).getD "")) else none
end Dl
namespace Dl
open PySem L2
mutual
noncomputable def At (K:PySem.W.Frag) (cl:Nat->Addr) (H:Hp) (S:Addr->Prop):V->D->Prop
 | v,.non=>v=.non
 | v,.bl b=>v=.bl b
 | v,.int i=>v=.int i
 | v,.str x=>v=.str x
 | v,.tup ds=>∃ a vs,v=.ref a/\H a=some (.tup vs)/\Ats K cl H S vs ds
 | v,.lst ds=>∃ a vs,v=.ref a/\S a/\Rd H a (.lst vs)/\Ats K cl H S vs ds
 | v,.dct ks ds=>∃ a vs,v=.ref a/\S a/\H a=some (.dK (ks.zip vs))/\ks.length=ds.length/\Ats K cl H S vs ds
 | v,.obj c f d=>∃ a dx u,v=.ref a/\S a/\H a=some (.ins (cl c) dx [(f,u)])/\At K cl H S u d
noncomputable def Ats (K:PySem.W.Frag) (cl:Nat->Addr) (H:Hp) (S:Addr->Prop):List V->List D->Prop
 | [],[]=>True
 | v::vs,d::ds=>At K cl H S v d/\Ats K cl H S vs ds
 | [],_::_=>False
 | _::_,[]=>False
end
section
variable {K:PySem.W.Frag}{cl:Nat->Addr}{H H':Hp}{S S':Addr->Prop}
noncomputable def TupK (H H':Hp):Prop:=∀ a xs,H a=some (.tup xs)->H' a=some (.tup xs)
theorem TupK.of (s:Same H H'):TupK H H':=λ a xs h=>s _ _ h
theorem TupK.trans {H'':Hp}(a:TupK H H') (b:TupK H' H''):TupK H H'':=λ c xs h=>b c xs (a c xs h)
theorem TupK.refl:TupK H H:=λ o_ o_ h=>h
theorem _root_.L2.Same.rd {a:Addr}{u:HO}(s:Same H H') (h:Rd H a u):Rd H' a u:=by
 rcases h with h | ⟨o,h⟩
 ·exact .inl (s _ _ h)
 ·exact .inr ⟨o,s _ _ h⟩
theorem _root_.L2.Rd.ex {a:Addr}{u:HO}(h:Rd H a u):H a≠none:=by
 rcases h with h | ⟨o,h⟩<;>rw [h]<;>exact λ z=>by cases z
mutual
theorem At.mono (ht:TupK H H') (h:∀ a o,S a->H a=some o->H' a=some o) (hs:∀ a,S a->H a≠none->S' a):∀ {v:V}{d:D},At K cl H S v d->At K cl H' S' v d
 | v,.non,z=>by rw [At] at z ⊢;exact z
 | v,.bl _,z=>by rw [At] at z ⊢;exact z
 | v,.int _,z=>by rw [At] at z ⊢;exact z
 | v,.str _,z=>by rw [At] at z ⊢;exact z
 | v,.tup ds,z=>by
  rw [At] at z ⊢
  obtain ⟨a,vs,e,q,r⟩:=z
  exact ⟨a,vs,e,ht _ _ q,Ats.mono ht h hs r⟩
 | v,.lst ds,z=>by
  rw [At] at z ⊢
  obtain ⟨a,vs,e,s,q,r⟩:=z
  refine ⟨a,vs,e,hs a s q.ex,?_,Ats.mono ht h hs r⟩
  rcases q with q | ⟨o,q⟩
  ·exact .inl (h _ _ s q)
  ·exact .inr ⟨o,h _ _ s q⟩
 | v,.dct ks ds,z=>by
  rw [At] at z ⊢
  obtain ⟨a,vs,e,s,q,l,r⟩:=z
  exact ⟨a,vs,e,hs a s (by rw [q];exact λ z=>by cases z),h _ _ s q,l,Ats.mono ht h hs r⟩
 | v,.obj c f d,z=>by
  rw [At] at z ⊢
  obtain ⟨a,dx,u,e,s,q,r⟩:=z
  exact ⟨a,dx,u,e,hs a s (by rw [q];exact λ z=>by cases z),h _ _ s q,At.mono ht h hs r⟩
theorem Ats.mono (ht:TupK H H') (h:∀ a o,S a->H a=some o->H' a=some o) (hs:∀ a,S a->H a≠none->S' a):∀ {vs:List V}{ds:List D},Ats K cl H S vs ds->Ats K cl H' S' vs ds
 | [],[],_=>by rw [Ats];exact trivial
 | v::vs,d::ds,z=>by
  rw [Ats] at z ⊢
  exact ⟨At.mono ht h hs z.1,Ats.mono ht h hs z.2⟩
 | [],_::_,z=>by rw [Ats] at z;exact z.elim
 | _::_,[],z=>by rw [Ats] at z;exact z.elim
end
theorem At.same {v:V}{d:D}(z:At K cl H S v d) (s:Same H H'):At K cl H' S v d:=z.mono (TupK.of s) (λ a o o_ e=>s a o e) λ o_ h o_=>h
theorem Ats.same {vs:List V}{ds:List D}(z:Ats K cl H S vs ds) (s:Same H H'):Ats K cl H' S vs ds:=z.mono (TupK.of s) (λ a o o_ e=>s a o e) λ o_ h o_=>h
theorem At.sub {v:V}{d:D}(z:At K cl H S v d) (s:∀ a,S a->H a≠none->S' a):At K cl H S' v d:=z.mono TupK.refl (λ a o o_ e=>e) s
theorem Ats.sub {vs:List V}{ds:List D}(z:Ats K cl H S vs ds) (s:∀ a,S a->H a≠none->S' a):Ats K cl H S' vs ds:=z.mono TupK.refl (λ a o o_ e=>e) s
mutual
theorem At.imm (ht:TupK H H'):∀ {v:V}{d:D},d.imm=true->At K cl H S v d->At K cl H' S' v d
 | v,.non,_,z=>by rw [At] at z ⊢;exact z
 | v,.bl _,_,z=>by rw [At] at z ⊢;exact z
 | v,.int _,_,z=>by rw [At] at z ⊢;exact z
 | v,.str _,_,z=>by rw [At] at z ⊢;exact z
 | v,.tup ds,i,z=>by
  rw [At] at z ⊢
  obtain ⟨a,vs,e,q,r⟩:=z
  rw [D.imm] at i
  exact ⟨a,vs,e,ht _ _ q,Ats.imm ht i r⟩
 | v,.lst ds,i,z=>by rw [D.imm] at i;cases i
 | v,.dct ks ds,i,z=>by rw [D.imm] at i;cases i
 | v,.obj c f d,i,z=>by rw [D.imm] at i;cases i
theorem Ats.imm (ht:TupK H H'):∀ {vs:List V}{ds:List D},q6J ds=true->Ats K cl H S vs ds->Ats K cl H' S' vs ds
 | [],[],_,_=>by rw [Ats];exact trivial
 | v::vs,d::ds,i,z=>by
  rw [Ats] at z ⊢
  rw [q6J,N0q] at i
  exact ⟨At.imm ht i.1 z.1,Ats.imm ht i.2 z.2⟩
 | [],_::_,_,z=>by rw [Ats] at z;exact z.elim
 | _::_,[],_,z=>by rw [Ats] at z;exact z.elim
end
theorem Ats.nil:Ats K cl H S [] []:=by rw [Ats];exact trivial
theorem Ats.cons {v:V}{d:D}{vs:List V}{ds:List D}(a:At K cl H S v d) (b:Ats K cl H S vs ds):Ats K cl H S (v::vs) (d::ds):=by rw [Ats];exact ⟨a,b⟩
theorem Ats.append:∀ {vs us:List V}{ds es:List D},Ats K cl H S vs ds->Ats K cl H S us es->Ats K cl H S (vs++us) (ds++es)
 | [],_,[],_,_,b=>b
 | v::vs,us,d::ds,es,a,b=>by
  rw [Ats] at a
  show Ats K cl H S (v::(vs++us)) (d::(ds++es))
  rw [Ats]
  exact ⟨a.1,Ats.append a.2 b⟩
 | [],_,_::_,_,z,_=>by rw [Ats] at z;exact z.elim
 | _::_,_,[],_,z,_=>by rw [Ats] at z;exact z.elim
theorem Ats.length:∀ {vs:List V}{ds:List D},Ats K cl H S vs ds->vs.length=ds.length
 | [],[],_=>rfl
 | v::vs,d::ds,a=>by
  rw [Ats] at a
  rw [N0h,N0h,Ats.length a.2]
 | [],_::_,z=>by rw [Ats] at z;exact z.elim
 | _::_,[],z=>by rw [Ats] at z;exact z.elim
theorem Ats.get:∀ {vs:List V}{ds:List D}{i:Nat}{d:D},Ats K cl H S vs ds->ds[i]? = some d->∃ v,vs[i]? = some v/\At K cl H S v d
 | [],[],i,d,_,e=>by simp at e
 | v::vs,x::ds,0,d,a,e=>by
  rw [Ats] at a
  have e:x=d:=N0b e
  subst e
  exact ⟨v,rfl,a.1⟩
 | v::vs,x::ds,i+1,d,a,e=>by
  rw [Ats] at a
  exact Ats.get (i:=i) a.2 e
 | [],_::_,_,_,z,_=>by rw [Ats] at z;exact z.elim
 | _::_,[],_,_,z,_=>by rw [Ats] at z;exact z.elim
theorem Ats.get' {vs:List V}{ds:List D}{i:Nat}{v:V}(a:Ats K cl H S vs ds) (e:vs[i]? = some v):∃ d,ds[i]? = some d/\At K cl H S v d:=by
 have hl:=a.length
 have hi:i<ds.length:=by rw [<- hl];exact (N04.mp e).1
 obtain ⟨u,eu,h⟩:=a.get (N08 hi)
 rw [e] at eu
 cases eu
 exact ⟨_,N08 hi,h⟩
theorem Ats.drop:∀ (n:Nat){vs:List V}{ds:List D},Ats K cl H S vs ds->Ats K cl H S (vs.drop n) (ds.drop n)
 | 0,_,_,a=>a
 | n+1,[],[],a=>a
 | n+1,v::vs,d::ds,a=>by rw [Ats] at a;exact Ats.drop n a.2
 | _+1,[],_::_,z=>by rw [Ats] at z;exact z.elim
 | _+1,_::_,[],z=>by rw [Ats] at z;exact z.elim
theorem Ats.take:∀ (n:Nat){vs:List V}{ds:List D},Ats K cl H S vs ds->Ats K cl H S (vs.take n) (ds.take n)
 | 0,_,_,_=>Ats.nil
 | n+1,[],[],a=>a
 | n+1,v::vs,d::ds,a=>by
  rw [Ats] at a
  exact Ats.cons a.1 (Ats.take n a.2)
 | _+1,[],_::_,z=>by rw [Ats] at z;exact z.elim
 | _+1,_::_,[],z=>by rw [Ats] at z;exact z.elim
theorem Ats.set {v:V}{d:D}(h:At K cl H S v d):∀ (i:Nat){vs:List V}{ds:List D},Ats K cl H S vs ds->Ats K cl H S (vs.set i v) (ds.set i d)
 | _,[],[],a=>a
 | 0,v::vs,e::ds,a=>by
  rw [Ats] at a
  exact Ats.cons h a.2
 | i+1,u::vs,e::ds,a=>by
  rw [Ats] at a
  exact Ats.cons a.1 (Ats.set h i a.2)
 | _,[],_::_,z=>by rw [Ats] at z;exact z.elim
 | _,_::_,[],z=>by rw [Ats] at z;exact z.elim
noncomputable def Own (K:PySem.W.Frag) (cl:Nat->Addr) (H:Hp) (S:Addr->Prop) (l:List Addr) (v:V):D->Prop
 | .lst ds=>∃ a vs,v=.ref a/\l=[a]/\H a=some (.lst vs)/\Ats K cl H (λ b=>S b/\b∉l) vs ds
 | .dct ks ds=>∃ a vs,v=.ref a/\l=[a]/\H a=some (.dK (ks.zip vs))/\ks.length=ds.length/\Ats K cl H (λ b=>S b/\b∉l) vs ds
 | .obj c f (.dct ks ds)=>∃ a dx b vs,v=.ref a/\l=[a,b]/\a≠b/\H a=some (.ins (cl c) dx [(f,.ref b)])/\H b=some (.dK (ks.zip vs))/\ks.length=ds.length/\Ats K cl H (λ b=>S b/\b∉l) vs ds
 | _=>False
theorem q5w {l:List Addr}{v:V}{P:Prop}{d:D}(h:Own K cl H S l v d) (h1:∀ ds,d=.lst ds->Own K cl H S l v (.lst ds)->P) (h2:∀ ks ds,d=.dct ks ds->Own K cl H S l v (.dct ks ds)->P) (h3:∀ c f ks ds,d=.obj c f (.dct ks ds)->Own K cl H S l v (.obj c f (.dct ks ds))->P):P:=by
 cases d with
 | lst ds=>exact h1 _ rfl h
 | dct ks ds=>exact h2 _ _ rfl h
 | obj c f x=>cases x with
  | dct ks ds=>exact h3 _ _ _ _ rfl h
  | _=>exact False.elim h
 | _=>exact False.elim h
theorem Own.at {l:List Addr}{v:V}{d:D}(o:Own K cl H S l v d) (s:∀ a,S a->S' a) (sl:∀ a∈l,S' a):At K cl H S' v d:=by
 refine q5w o (λ ds=>?_) (λ ks ds=>?_) λ c f ks ds=>?_
 ·rintro rfl ⟨a,vs,e,el,h,r⟩
  rw [At]
  exact ⟨a,vs,e,sl a (by rw [el];exact N00),.inl h,r.sub λ b z o_=>s b z.1⟩
 ·rintro rfl ⟨a,vs,e,el,h,k,r⟩
  rw [At]
  exact ⟨a,vs,e,sl a (by rw [el];exact N00),h,k,r.sub λ b z o_=>s b z.1⟩
 ·rintro rfl ⟨a,dx,b,vs,e,el,ne,h,hb,k,r⟩
  rw [At]
  refine ⟨a,dx,_,e,sl a (by rw [el];exact N00),h,?_⟩
  rw [At]
  exact ⟨b,vs,rfl,sl b (by rw [el];simp),hb,k,r.sub λ b z o_=>s b z.1⟩
theorem Own.mono {l:List Addr}{v:V}(ht:TupK H H') (h:∀ a o,S a->H a=some o->H' a=some o) (hl:∀ a∈l,∀ o,H a=some o->H' a=some o) (hs:∀ a,S a->H a≠none->S' a){d:D}(o:Own K cl H S l v d):Own K cl H' S' l v d:=by
 have M:∀ {vs ds},Ats K cl H (λ b=>S b/\b∉l) vs ds->Ats K cl H' (λ b=>S' b/\b∉l) vs ds:=λ r=>r.mono ht (λ b o z=>h b o z.1) λ b z n=>⟨hs b z.1 n,z.2⟩
 refine q5w o (λ ds=>?_) (λ ks ds=>?_) λ c f ks ds=>?_
 ·rintro rfl ⟨a,vs,e,el,q,r⟩;exact ⟨a,vs,e,el,hl a (by rw [el];exact N00) _ q,M r⟩
 ·rintro rfl ⟨a,vs,e,el,q,k,r⟩;exact ⟨a,vs,e,el,hl a (by rw [el];exact N00) _ q,k,M r⟩
 ·rintro rfl ⟨a,dx,b,vs,e,el,ne,q,qb,k,r⟩;exact ⟨a,dx,b,vs,e,el,ne,hl a (by rw [el];exact N00) _ q,hl b (by rw [el];simp) _ qb,k,M r⟩
theorem Own.ex {l:List Addr}{v:V}{a:Addr}(m:a∈l){d:D}(o:Own K cl H S l v d):H a≠none:=by
 intro z
 refine q5w o (λ ds=>?_) (λ ks ds=>?_) λ c f ks ds=>?_
 ·rintro - ⟨b,vs,e,el,q,r⟩
  rw [el,N0f] at m
  rw [m,q] at z;cases z
 ·rintro - ⟨b,vs,e,el,q,k,r⟩
  rw [el,N0f] at m
  rw [m,q] at z;cases z
 ·rintro - ⟨a',dx,b,vs,e,el,ne,q,qb,k,r⟩
  rw [el] at m
  rcases N0c.mp m with m | m
  ·rw [m,q] at z;cases z
  ·rw [N0f.mp m,qb] at z;cases z
end
structure Dc where
 cl:Nat->Addr
 H₀:Hp
 X:Addr->Prop
 io:List Nat
 iv:Nat->V
 il:Nat->List Addr
inductive Kd where
 | v | b | s | o | i | w
 deriving DecidableEq
noncomputable def Sk (C:Dc) (F:Addr->Prop):Kd->Addr->Prop
 | .v,_=>True
 | .i,_=>True
 | .b,a=>¬ F a
 | .s,a=>C.H₀ a=none/\¬ F a
 | .o,a=>C.H₀ a=none
 | .w,a=>C.H₀ a=none
noncomputable def leK:Kd->Kd->Bool
 | _,.v=>true
 | _,.i=>true
 | .b,.b=>true
 | .s,.b=>true
 | .s,.s=>true
 | .s,.o=>true
 | .o,.o=>true
 | .w,.o=>true
 | _,_=>false
theorem z1e {C:Dc}{F:Addr->Prop}{a:Addr}:∀ {k m:Kd},leK k m=true->Sk C F k a->Sk C F m a
 | _,.v,_,_=>trivial
 | _,.i,_,_=>trivial
 | .b,.b,_,h=>h
 | .s,.b,_,h=>h.2
 | .s,.s,_,h=>h
 | .s,.o,_,h=>h.1
 | .o,.o,_,h=>h
 | .v,.b,h,_=>by cases h
 | .i,.b,h,_=>by cases h
 | .o,.b,h,_=>by cases h
 | .v,.s,h,_=>by cases h
 | .i,.s,h,_=>by cases h
 | .o,.s,h,_=>by cases h
 | .b,.s,h,_=>by cases h
 | .v,.o,h,_=>by cases h
 | .i,.o,h,_=>by cases h
 | .b,.o,h,_=>by cases h
 | .w,.o,_,h=>h
 | .w,.b,h,_=>by cases h
 | .w,.s,h,_=>by cases h
 | .v,.w,h,_=>by cases h
 | .i,.w,h,_=>by cases h
 | .b,.w,h,_=>by cases h
 | .s,.w,h,_=>by cases h
 | .o,.w,h,_=>by cases h
 | .w,.w,h,_=>by cases h
structure Rx (K:PySem.W.Frag) (C:Dc) (κ:List Kd) (F:Addr->Prop) (σ:St) (H:Hp) (δ:DS):Prop where
 sl:∀ (i:Nat) (d:D),δ[i]? = some (some d)->∃ v k,σ[i]? = some (some v)/\κ[i]? = some k/\At K C.cl H (Sk C F k) v d
 old:∀ a,H a=none->C.H₀ a=none
 ow:∀ a,F a->H a≠none
section
variable {K:PySem.W.Frag}{C:Dc}{κ:List Kd}{F:Addr->Prop}{σ:St}{H H':Hp}{δ:DS}
theorem Rx.same (r:Rx K C κ F σ H δ) (s:Same H H'):Rx K C κ F σ H' δ :=
 ⟨λ i d e=>let ⟨v,k,h1,h2,h3⟩:=r.sl i d e;⟨v,k,h1,h2,h3.same s⟩,λ a h=>r.old a (s.free h),λ a f h=>r.ow a f (s.free h)⟩
theorem Rx.new (r:Rx K C κ F σ H δ) (m:Kd){a:Addr}(h:H a=none):Sk C F m a:=by
 cases m with
 | v=>trivial
 | i=>trivial
 | b=>exact λ f=>r.ow a f h
 | w=>exact r.old a h
 | s=>exact ⟨r.old a h,λ f=>r.ow a f h⟩
 | o=>exact r.old a h
end
noncomputable def Nw (K:PySem.W.Frag) (cl:Nat->Addr) (H H':Hp) (S:Addr->Prop) (v:V) (d:D):Prop:=d.big=true->∃ l,Own K cl H' S l v d/\∀ a∈l,H a=none
theorem Nw.small {K:PySem.W.Frag}{cl:Nat->Addr}{H H':Hp}{S:Addr->Prop}{v:V}{d:D}(h:d.big=false):Nw K cl H H' S v d:=λ z=>by rw [h] at z;cases z
theorem Nw.back {K:PySem.W.Frag}{cl:Nat->Addr}{H H1 H':Hp}{S:Addr->Prop}{v:V}{d:D}(n:Nw K cl H1 H' S v d) (s:Same H H1):Nw K cl H H' S v d:=λ z =>
 let ⟨l,o,h⟩:=n z
 ⟨l,o,λ a m=>s.free (h a m)⟩
noncomputable def Post (K:PySem.W.Frag) (C:Dc) (F:Addr->Prop) (m:Kd) (fr:Bool) (H:Hp) (Q:VK):Rz D->Prop
 | .ok d=>∀ v H',Same H H'->At K C.cl H' (Sk C F m) v d->(fr=true->Nw K C.cl H H' (Sk C F m) v d)->Q v H'
 | _=>False
noncomputable def DE (X:Cx) (C:Dc) (κ:List Kd) (m:Kd) (fr:Bool) (e:Expr) (g:GE):Prop :=
 ∃ t,PE X e t/\∀ F σ H δ,Rx X.K C κ F σ H δ->∀ Q,Post X.K C F m fr H Q (g δ)->t σ H Q
noncomputable def PostA (K:PySem.W.Frag) (C:Dc) (F:Addr->Prop) (m:Kd) (H:Hp) (Q:List V->Hp->Prop):Rz (List D)->Prop
 | .ok ds=>∀ vs H',Same H H'->Ats K C.cl H' (Sk C F m) vs ds->Q vs H'
 | _=>False
noncomputable def DA (X:Cx) (C:Dc) (κ:List Kd) (m:Kd) (es:List Expr) (g:GA):Prop :=
 ∃ t,PA X es t/\∀ F σ H δ,Rx X.K C κ F σ H δ->∀ Q,PostA X.K C F m H Q (g δ)->t σ H Q
noncomputable def PostT (H:Hp) (Q:Bool->Hp->Prop):Rz Bool->Prop
 | .ok b=>∀ H',Same H H'->Q b H'
 | _=>False
noncomputable def DT (X:Cx) (C:Dc) (κ:List Kd) (e:Expr) (g:GT):Prop :=
 ∃ t,PT X e t/\∀ F σ H δ,Rx X.K C κ F σ H δ->∀ Q,PostT H Q (g δ)->t σ H Q
noncomputable def DW (X:Cx) (C:Dc) (κ:List Kd) (e:Expr) (g:GT):Prop :=
 ∃ t,PW X e t/\∀ F σ H δ,Rx X.K C κ F σ H δ->∀ Q,PostT H Q (g δ)->t σ H Q
noncomputable def z2S (H:Hp) (Q:Option Int->Hp->Prop):Rz (Option Int)->Prop
 | .ok b=>∀ H',Same H H'->Q b H'
 | _=>False
noncomputable def DO (X:Cx) (C:Dc) (κ:List Kd) (e:Option Expr) (g:DS->Rz (Option Int)):Prop :=
 ∃ t,PO X e t/\∀ F σ H δ,Rx X.K C κ F σ H δ->∀ Q,z2S H Q (g δ)->t σ H Q
section
variable {X:Cx}{C:Dc}{κ:List Kd}{m:Kd}{fr fa fb fc:Bool}{a b c e:Expr}{es:List Expr}{ga gb gc:GE}{pos:Pos}
theorem j3 {β:Type}{r:Rz D}{f:D->Rz β}{T:Rz β->Prop}(hu:∀ c s,¬ T (.er c s)) (hn:¬ T .un) (h:T (r.bind f)):∃ d,r=.ok d/\T (f d):=by
 cases r with
 | ok d=>exact ⟨d,rfl,h⟩
 | er c s=>exact absurd h (hu c s)
 | un=>exact absurd h hn
theorem j7 {α β:Type}{r:Rz α}{f:α->Rz β}{T:Rz β->Prop}(hu:∀ c s,¬ T (.er c s)) (hn:¬ T .un) (h:T (r.bind f)):∃ d,r=.ok d/\T (f d):=by
 cases r with
 | ok d=>exact ⟨d,rfl,h⟩
 | er c s=>exact absurd h (hu c s)
 | un=>exact absurd h hn
theorem Q0 {β:Type}{c:Prop} [Decidable c] {r:Rz β}{T:Rz β->Prop}(hn:¬ T .un) (h:T (Rz.guard c r)):c/\T r:=by
 unfold Rz.guard at h
 by_cases z:c
 ·rw [N0j z] at h;exact ⟨z,h⟩
 ·rw [N0l z] at h;exact absurd h hn
theorem DE.nf (h:DE X C κ m fr e ga):DE X C κ m false e ga:=by
 obtain ⟨t,ht,hd⟩:=h
 refine ⟨t,ht,λ F σ H δ r Q p=>hd F σ H δ r Q ?_⟩
 cases q:ga δ with
 | ok d=>rw [q] at p;exact λ v H' s a o_=>p v H' s a (λ z=>by cases z)
 | er c s=>rw [q] at p;exact p
 | un=>rw [q] at p;exact p
set_option tactic.hygienic true in
theorem z4 (i:Nat){x:Str}{k:Kd}(hk:κ[i]? = some k) (hl:leK k m=true) (hN:X.N[i]? = some x:=by rfl) (hv:Vis X.env.scope x:=by first | exact N0k rfl | exact N0r (N0k rfl) | exact N0r (N0r rfl)) (hd:(x==("__debug__" : Str))=false:=by decide)
 (hcd:(x==("__classdict__" : Str))=false:=by decide):DE X C κ m false (.Name x pos) (gVar i):=by
 refine ⟨_,X7 hN hv hd hcd,λ F σ H δ r Q p=>?_⟩
 unfold gVar at p
 split at p
 ·rename_i d q
  obtain ⟨v,k',h1,h2,h3⟩:=r.sl i d q
  rw [hk] at h2
  cases h2
  exact ⟨v,h1,p v H (Same.refl H) (h3.sub λ b z o_=>z1e hl z) (λ z=>by cases z)⟩
 ·exact p.elim
set_option tactic.hygienic true in
theorem q2S (i:Nat){x:Str}(hN:X.N[i]? = some x:=by rfl) (hv:Vis X.env.scope x:=by first | exact N0k rfl | exact N0r (N0k rfl) | exact N0r (N0r rfl)) (hd:(x==("__debug__" : Str))=false:=by decide)
 (hcd:(x==("__classdict__" : Str))=false:=by decide):DE X C κ m false (.Name x pos) (q3U i):=by
 refine ⟨_,X7 hN hv hd hcd,λ F σ H δ r Q p=>?_⟩
 unfold q3U at p
 split at p
 ·rename_i d q
  obtain ⟨hi,p⟩:=Q0 (T:=Post X.K C F m false H Q) (λ z=>z) p
  obtain ⟨v,k',h1,h2,h3⟩:=r.sl i d q
  exact ⟨v,h1,p v H (Same.refl H) (h3.imm TupK.refl hi) (λ z=>by cases z)⟩
 ·exact p.elim
theorem z9 {i:Int} {j}:DE X C κ m true (.Constant (.int i) j pos) (gC (.int i)):=⟨_,q9Y,λ F σ H δ r Q p=>p _ H (Same.refl H) (by rw [At]) λ o_=>Nw.small rfl⟩
theorem z2T {i:Bool} {j}:DE X C κ m true (.Constant (.bool i) j pos) (gC (.bl i)):=⟨_,z4A,λ F σ H δ r Q p=>p _ H (Same.refl H) (by rw [At]) λ o_=>Nw.small rfl⟩
theorem z7 {x:Str} {j}:DE X C κ m true (.Constant (.str x) j pos) (gC (.str x)):=⟨_,q0p,λ F σ H δ r Q p=>p _ H (Same.refl H) (by rw [At]) λ o_=>Nw.small rfl⟩
noncomputable def q3X (K:PySem.W.Frag) (cl:Nat->Addr) (S:Addr->Prop) (H:Hp) (Q:VK):Rz D->Prop
 | .ok d=>∀ v H',Same H H'->At K cl H' S v d->Nw K cl H H' S v d->Q v H'
 | _=>False
noncomputable def OpD (K:PySem.W.Frag) (cl:Nat->Addr) (r:R2) (p:D->D->Rz D):Prop :=
 ∀ (H:Hp) (S:Addr->Prop) (x y:V) (dx dy:D) (Q:VK),(∀ a,H a=none->S a)->At K cl H S x dx->At K cl H S y dy->q3X K cl S H Q (p dx dy)->r x y H Q
noncomputable def OpS (K:PySem.W.Frag) (cl:Nat->Addr) (r:R2) (p:D->D->Rz D):Prop :=
 ∀ (H:Hp) (S:Addr->Prop) (x y:V) (dx dy:D) (Q:VK),At K cl H S x dx->At K cl H S y dy->(match p dx dy with | .ok d=>d.imm=true/\(∀ v H',Same H H'->(∀ S',At K cl H' S' v d)->Q v H') | _=>False)->r x y H Q
noncomputable def z2U (K:PySem.W.Frag) (cl:Nat->Addr) (r:List V->Hp->VK->Prop) (p:List D->Rz D):Prop :=
 ∀ (H:Hp) (S:Addr->Prop) (vs:List V) (ds:List D) (Q:VK),(∀ a,H a=none->S a)->Ats K cl H S vs ds->q3X K cl S H Q (p ds)->r vs H Q
theorem q2T {F:Addr->Prop}{H H1:Hp}{Q:VK}{r:Rz D}(s:Same H H1) (p:Post X.K C F m fr H Q r):q3X X.K C.cl (Sk C F m) H1 Q r:=by
 cases r with
 | ok d=>exact λ v H' s' a n=>p v H' (s.trans s') a λ o_=>n.back s
 | er c s=>exact p
 | un=>exact p
theorem q0r {op:Operator}{r:R2}{p:D->D->Rz D}(ho:OpR X (binaryOp op) r) (hp:OpD X.K C.cl r p) (ha:DE X C κ m fa a ga) (hb:DE X C κ m fb b gb):DE X C κ m true (.BinOp a op b pos) (gOp p ga gb):=by
 obtain ⟨ta,pa,da⟩:=ha
 obtain ⟨tb,pb,db⟩:=hb
 refine ⟨_,q8Z ho pa pb,λ F σ H δ rx Q z=>da F σ H δ rx _ ?_⟩
 obtain ⟨d1,e1,z⟩:=j3 (T:=Post X.K C F m true H Q) (λ o_ o_ q=>q) (λ q=>q) z
 obtain ⟨d2,e2,z⟩:=j3 (T:=Post X.K C F m true H Q) (λ o_ o_ q=>q) (λ q=>q) z
 rw [e1]
 intro v H1 s1 a1 _
 refine db F σ H1 δ (rx.same s1) _ ?_
 rw [e2]
 intro u H2 s2 a2 _
 exact hp H2 _ v u d1 d2 Q (λ a h=>(rx.same (s1.trans s2)).new m h) (a1.same s2) a2 (q2T (s1.trans s2) z)
theorem z8 {op:Operator}{r:R2}{p:D->D->Rz D}(ho:OpR X (binaryOp op) r) (hp:OpS X.K C.cl r p) (hi:∀ x y d,p x y=.ok d->d.imm=true) (ha:DE X C κ .v fa a ga) (hb:DE X C κ .v fb b gb):DE X C κ m true (.BinOp a op b pos) (gOp p ga gb):=by
 obtain ⟨ta,pa,da⟩:=ha
 obtain ⟨tb,pb,db⟩:=hb
 refine ⟨_,q8Z ho pa pb,λ F σ H δ rx Q z=>da F σ H δ rx _ ?_⟩
 obtain ⟨d1,e1,z⟩:=j3 (T:=Post X.K C F m true H Q) (λ o_ o_ q=>q) (λ q=>q) z
 obtain ⟨d2,e2,z⟩:=j3 (T:=Post X.K C F m true H Q) (λ o_ o_ q=>q) (λ q=>q) z
 rw [e1]
 intro v H1 s1 a1 _
 refine db F σ H1 δ (rx.same s1) _ ?_
 rw [e2]
 intro u H2 s2 a2 _
 refine hp H2 _ v u d1 d2 Q (a1.same s2) a2 ?_
 cases q:p d1 d2 with
 | ok d =>
  rw [q] at z
  exact ⟨hi _ _ _ q,λ w H3 s3 aw=>z w H3 ((s1.trans s2).trans s3) (aw _) λ o_=>Nw.small (by have:=hi _ _ _ q;cases d<;>first | rfl | (rw [D.imm] at this;cases this))⟩
 | er c s=>rw [q] at z;exact z
 | un=>rw [q] at z;exact z
theorem q7A {op:CmpOp}{r:R2}{p:D->D->Rz D}(ho:OpR X (compareOp op) r) (hp:OpS X.K C.cl r p) (hi:∀ x y d,p x y=.ok d->d.imm=true) (ha:DE X C κ .v fa a ga) (hb:DE X C κ .v fb b gb) (hm:behindInMarks op b=false):DE X C κ m true (.Compare a [op] [b] pos) (gOp p ga gb):=by
 obtain ⟨ta,pa,da⟩:=ha
 obtain ⟨tb,pb,db⟩:=hb
 refine ⟨_,z0L ho pa pb hm,λ F σ H δ rx Q z=>da F σ H δ rx _ ?_⟩
 obtain ⟨d1,e1,z⟩:=j3 (T:=Post X.K C F m true H Q) (λ o_ o_ q=>q) (λ q=>q) z
 obtain ⟨d2,e2,z⟩:=j3 (T:=Post X.K C F m true H Q) (λ o_ o_ q=>q) (λ q=>q) z
 rw [e1]
 intro v H1 s1 a1 _
 refine db F σ H1 δ (rx.same s1) _ ?_
 rw [e2]
 intro u H2 s2 a2 _
 refine hp H2 _ v u d1 d2 Q (a1.same s2) a2 ?_
 cases q:p d1 d2 with
 | ok d =>
  rw [q] at z
  exact ⟨hi _ _ _ q,λ w H3 s3 aw=>z w H3 ((s1.trans s2).trans s3) (aw _) λ o_=>Nw.small (by have:=hi _ _ _ q;cases d<;>first | rfl | (rw [D.imm] at this;cases this))⟩
 | er c s=>rw [q] at z;exact z
 | un=>rw [q] at z;exact z
theorem q7B {op:UnaryOp}{r:V->Hp->VK->Prop}{p:D->Rz D}(ho:UnR X (unaryOp op) r) (hp:∀ (H:Hp) (S:Addr->Prop) (x:V) (dx:D) (Q:VK),At X.K C.cl H S x dx->(match p dx with | .ok d=>d.imm=true/\∀ v,(∀ S',At X.K C.cl H S' v d)->Q v H | _=>False)->r x H Q) (hi:∀ x d,p x=.ok d->d.imm=true) (ha:DE X C κ .v fa a ga):DE X C κ m true (.UnaryOp op a pos) (gUn p ga):=by
 obtain ⟨ta,pa,da⟩:=ha
 refine ⟨_,z4I ho pa,λ F σ H δ rx Q z=>da F σ H δ rx _ ?_⟩
 obtain ⟨d1,e1,z⟩:=j3 (T:=Post X.K C F m true H Q) (λ o_ o_ q=>q) (λ q=>q) z
 rw [e1]
 intro v H1 s1 a1 _
 refine hp H1 _ v d1 Q a1 ?_
 cases q:p d1 with
 | ok d =>
  rw [q] at z
  exact ⟨hi _ _ q,λ w aw=>z w H1 s1 (aw _) λ o_=>Nw.small (by have:=hi _ _ q;cases d<;>first | rfl | (rw [D.imm] at this;cases this))⟩
 | er c s=>rw [q] at z;exact z
 | un=>rw [q] at z;exact z
variable {tA tB:GT}{rest:List Expr}
theorem Q7 {op:CmpOp}{r:R2}{p:D->D->Rz D}(ho:OpR X (compareOp op) r) (hp:OpS X.K C.cl r p) (hi:∀ x y d,p x y=.ok d->d.imm=true) (ha:DE X C κ .v fa a ga) (hb:DE X C κ .v fb b gb) (hm:behindInMarks op b=false):DT X C κ (.Compare a [op] [b] pos) (gB (gOp p ga gb)):=by
 obtain ⟨ta,pa,da⟩:=ha
 obtain ⟨tb,pb,db⟩:=hb
 refine ⟨_,q4s ho pa pb hm,λ F σ H δ rx Q z=>da F σ H δ rx _ ?_⟩
 obtain ⟨d,e,z⟩:=j3 (T:=PostT H Q) (λ o_ o_ q=>q) (λ q=>q) z
 have e:(ga δ).bind (λ x=>(gb δ).bind λ y=>p x y)=.ok d:=e
 obtain ⟨d1,e1,e⟩:=j3 (T:=λ r=>r=Rz.ok d) (λ o_ o_ q=>by cases q) (λ q=>by cases q) e
 obtain ⟨d2,e2,e⟩:=j3 (T:=λ r=>r=Rz.ok d) (λ o_ o_ q=>by cases q) (λ q=>by cases q) e
 rw [e1]
 intro v H1 s1 a1 _
 refine db F σ H1 δ (rx.same s1) _ ?_
 rw [e2]
 intro u H2 s2 a2 _
 refine hp H2 _ v u d1 d2 _ (a1.same s2) a2 ?_
 rw [e]
 refine ⟨hi _ _ _ e,λ w H3 s3 aw=>?_⟩
 cases d with
 | bl k=>have q:=aw (λ o_=>True);rw [At] at q;exact ⟨k,q,z H3 ((s1.trans s2).trans s3)⟩
 | _=>exact z.elim
theorem q0D (ha:DE X C κ .v fa a ga) (he:∀ whole,isTrue a X.env whole=(do let v <- whole;standAt a.pos;holding [v] (truthy v)):=by intro _;rfl):DT X C κ a (q7x ga):=by
 obtain ⟨ta,pa,da⟩:=ha
 refine ⟨_,q91 pa he,λ F σ H δ rx Q z=>da F σ H δ rx _ ?_⟩
 obtain ⟨d1,e1,z⟩:=j3 (T:=PostT H Q) (λ o_ o_ q=>q) (λ q=>q) z
 rw [e1]
 intro v H1 s1 a1 _
 cases d1 with
 | non=>rw [At] at a1;subst a1;exact ⟨_,rfl,z H1 s1⟩
 | bl k=>rw [At] at a1;subst a1;exact ⟨_,rfl,z H1 s1⟩
 | int k=>rw [At] at a1;subst a1;exact ⟨_,rfl,z H1 s1⟩
 | str k =>
  rw [At] at a1;subst a1
  obtain ⟨hz,z⟩:=Q0 (T:=PostT H Q) (λ z=>z) z
  exact ⟨_,⟨hz,rfl⟩,z H1 s1⟩
 | lst ds =>
  rw [At] at a1
  obtain ⟨p,vs,rfl,_,q,w⟩:=a1
  refine ⟨_,.inl ⟨vs,.inl q,rfl⟩,?_⟩
  have:(!vs.isEmpty)=(!ds.isEmpty):=by have:=w.length;cases vs<;>cases ds<;>simp at this ⊢
  rw [this];exact z H1 s1
 | tup ds =>
  rw [At] at a1
  obtain ⟨p,vs,rfl,q,w⟩:=a1
  refine ⟨_,.inr (.inl ⟨vs,SqT.of q,rfl⟩),?_⟩
  have:(!vs.isEmpty)=(!ds.isEmpty):=by have:=w.length;cases vs<;>cases ds<;>simp at this ⊢
  rw [this];exact z H1 s1
 | dct ks ds =>
  rw [At] at a1
  obtain ⟨p,vs,rfl,_,q,l,w⟩:=a1
  refine ⟨_,.inr (.inr ⟨_,q,rfl⟩),?_⟩
  have:(!(ks.zip vs).isEmpty)=(!ks.isEmpty):=by have:=w.length;cases vs<;>cases ks<;>cases ds<;>simp at this l ⊢
  rw [this];exact z H1 s1
 | obj _ _ _=>exact z.elim
theorem DW.dt (h:DW X C κ e tA):DT X C κ e tA:=let ⟨t,p,q⟩:=h;⟨t,p.pt,q⟩
theorem q1Q (ha:DT X C κ a tA):DW X C κ (.BoolOp .Or [a] pos) tA:=let ⟨t,p,q⟩:=ha;⟨t,q9Z p,q⟩
theorem q3Y (ha:DT X C κ a tA) (hb:DW X C κ (.BoolOp .Or (b::rest) pos) tB):DW X C κ (.BoolOp .Or (a::b::rest) pos) (q8R tA tB):=by
 obtain ⟨ta,pa,da⟩:=ha
 obtain ⟨tb,pb,db⟩:=hb
 refine ⟨_,z2l pa pb,λ F σ H δ rx Q z=>da F σ H δ rx _ ?_⟩
 obtain ⟨k,e1,z⟩:=j7 (T:=PostT H Q) (λ o_ o_ q=>q) (λ q=>q) z
 rw [e1]
 intro H1 s1
 cases k with
 | false =>
  refine z09 (db F σ H1 δ (rx.same s1) Q ?_)
  have z:PostT H Q (tB δ):=z
  cases q:tB δ with
  | ok d=>rw [q] at z;exact λ H' s=>z H' (s1.trans s)
  | er c s=>rw [q] at z;exact z
  | un=>rw [q] at z;exact z
 | true=>exact q7e (z H1 s1)
theorem q2p (ha:DT X C κ a tA):DT X C κ (.UnaryOp .Not a pos) (q3V tA):=by
 obtain ⟨ta,pa,da⟩:=ha
 refine ⟨_,z00 pa,λ F σ H δ rx Q z=>da F σ H δ rx _ ?_⟩
 obtain ⟨k,e1,z⟩:=j7 (T:=PostT H Q) (λ o_ o_ q=>q) (λ q=>q) z
 rw [e1]
 exact λ H1 s1=>z H1 s1
theorem z2V {op}(h:DE X C κ m fr a ga):DE X C κ m fr (.BoolOp op [a] pos) ga:=let ⟨t,p,q⟩:=h;⟨t,z2m p,q⟩
theorem q1R {F:Addr->Prop}{H H1:Hp}{Q:VK}{r:Rz D}(s:Same H H1) (p:Post X.K C F m fr H Q r):Post X.K C F m fr H1 Q r:=by
 cases r with
 | ok d=>exact λ v H' s' a n=>p v H' (s.trans s') a λ z=>(n z).back s
 | er c s=>exact p
 | un=>exact p
theorem z0d (ha:DE X C κ .v fa a ga) (hb:DE X C κ m false (.BoolOp .And (b::rest) pos) gb):DE X C κ m false (.BoolOp .And (a::b::rest) pos) (z25 ga gb):=by
 obtain ⟨ta,pa,da⟩:=ha
 obtain ⟨tb,pb,db⟩:=hb
 refine ⟨_,z2n pa pb,λ F σ H δ rx Q z=>da F σ H δ rx _ ?_⟩
 obtain ⟨d1,e1,z⟩:=j3 (T:=Post X.K C F m false H Q) (λ o_ o_ q=>q) (λ q=>q) z
 rw [e1]
 intro v H1 s1 a1 _
 cases d1 with
 | bl k =>
  rw [At] at a1
  refine ⟨k,a1,?_⟩
  cases k with
  | true=>exact q7e (db F σ H1 δ (rx.same s1) Q (q1R s1 z))
  | false=>exact z09 (z _ H1 s1 (by rw [At]) (λ z=>by cases z))
 | _=>exact z.elim
theorem z1f (hc:DT X C κ c tA) (ha:DE X C κ m fr a ga) (hb:DE X C κ m fr b gb):DE X C κ m fr (.IfExp c a b pos) (gIf tA ga gb):=by
 obtain ⟨tc,pc,dc⟩:=hc
 obtain ⟨ta,pa,da⟩:=ha
 obtain ⟨tb,pb,db⟩:=hb
 refine ⟨_,q8V pc pa pb,λ F σ H δ rx Q z=>dc F σ H δ rx _ ?_⟩
 obtain ⟨k,e1,z⟩:=j7 (T:=Post X.K C F m fr H Q) (λ o_ o_ q=>q) (λ q=>q) z
 rw [e1]
 intro H1 s1
 cases k with
 | true=>exact q7e (da F σ H1 δ (rx.same s1) Q (q1R s1 z))
 | false=>exact z09 (db F σ H1 δ (rx.same s1) Q (q1R s1 z))
theorem j0:DA X C κ m [] gNil:=⟨_,q0B,λ F σ H δ rx Q z=>z [] H (Same.refl H) Ats.nil⟩
theorem z3 {gs:GA}(ha:DE X C κ m fa e ga) (hb:DA X C κ m es gs) (hs:starEach (e::es) X.env=(false,eval e X.env)::starEach es X.env:=by rfl):DA X C κ m (e::es) (gCons ga gs):=by
 obtain ⟨ta,pa,da⟩:=ha
 obtain ⟨tb,pb,db⟩:=hb
 refine ⟨_,W3 pa pb hs,λ F σ H δ rx Q z=>da F σ H δ rx _ ?_⟩
 obtain ⟨d1,e1,z⟩:=j3 (T:=PostA X.K C F m H Q) (λ o_ o_ q=>q) (λ q=>q) z
 obtain ⟨d2,e2,z⟩:=j7 (T:=PostA X.K C F m H Q) (λ o_ o_ q=>q) (λ q=>q) z
 rw [e1]
 intro v H1 s1 a1 _
 refine db F σ H1 δ (rx.same s1) _ ?_
 rw [e2]
 intro vs H2 s2 a2
 exact z (v::vs) H2 (s1.trans s2) (Ats.cons (a1.same s2) a2)
theorem Z6 {H:Hp}{p:Addr}(h:H p=none) (o:HO):Same H (upd H p o):=λ b u q=>by rw [Z2 (J4 q h)];exact q
theorem X2 {gs:GA} {x1}(h:DA X C κ m es gs):DE X C κ m true (.Tuple es x1 pos) (gTup gs):=by
 obtain ⟨ta,pa,da⟩:=h
 refine ⟨_,z2v pa,λ F σ H δ rx Q z=>da F σ H δ rx _ ?_⟩
 obtain ⟨ds,e1,z⟩:=j7 (T:=Post X.K C F m true H Q) (λ o_ o_ q=>q) (λ q=>q) z
 obtain ⟨hz,z⟩:=Q0 (T:=Post X.K C F m true H Q) (λ z=>z) z
 rw [e1]
 intro vs H1 s1 a1
 refine ⟨by rw [a1.length];exact hz,λ p hp=>z _ _ (s1.trans (Z6 hp _)) ?_ λ o_=>Nw.small rfl⟩
 rw [At]
 exact ⟨p,vs,rfl,Z0,a1.same (Z6 hp _)⟩
theorem q1S {K:PySem.W.Frag}{cl:Nat->Addr}{H:Hp}{S:Addr->Prop}{p:Addr}{vs:List V}{ds:List D}(hp:H p=none) (a:Ats K cl H S vs ds) (hs:S p) :
 At K cl (upd H p (.lst vs)) S (.ref p) (.lst ds)/\Nw K cl H (upd H p (.lst vs)) S (.ref p) (.lst ds):=by
 have a2:Ats K cl (upd H p (.lst vs)) (λ b=>S b/\b∉[p]) vs ds:=a.mono (TupK.of (Z6 hp _)) (λ b o o_ e=>Z6 hp _ b o e) λ b sb n=>⟨sb,λ m=>n (by rw [N0f.mp m];exact hp)⟩
 refine ⟨?_,λ o_=>⟨[p],⟨p,vs,rfl,rfl,Z0,a2⟩,λ b m=>by rw [N0f.mp m];exact hp⟩⟩
 rw [At]
 exact ⟨p,vs,rfl,hs,.inl Z0,a2.sub λ b z o_=>z.1⟩
theorem y8 {gs:GA}(h:DA X C κ m es gs):DE X C κ m true (.List es pos) (q2o gs):=by
 obtain ⟨ta,pa,da⟩:=h
 refine ⟨_,q5l pa,λ F σ H δ rx Q z=>da F σ H δ rx _ ?_⟩
 obtain ⟨ds,e1,z⟩:=j7 (T:=Post X.K C F m true H Q) (λ o_ o_ q=>q) (λ q=>q) z
 obtain ⟨hz,z⟩:=Q0 (T:=Post X.K C F m true H Q) (λ z=>z) z
 rw [e1]
 intro vs H1 s1 a1
 refine ⟨by rw [a1.length];exact hz,λ p hp=>?_⟩
 obtain ⟨q1,q2⟩:=q1S hp a1 ((rx.same s1).new m hp)
 exact z _ _ (s1.trans (Z6 hp _)) q1 λ o_=>q2.back s1
noncomputable def spD (K:PySem.W.Frag) (cl:Nat->Addr) (n:Nat) (F:PF):Sp:=λ vs H Q o_=>∃ ds d,ds.length=n/\Ats K cl H (λ o_=>True) vs ds/\F ds=.ok d /\
 ∀ v H',Same H H'->At K cl H' (λ a=>H a=none) v d->Nw K cl H H' (λ a=>H a=none) v d->Q v H'
theorem z1g {K:PySem.W.Frag}{cl:Nat->Addr}{n:Nat}{F:PF}{vs:List V}{H:Hp}{Q:VK}{E:XK}(h:spD K cl n F vs H Q E):vs.length=n:=by
 obtain ⟨ds,d,l,a,_⟩:=h
 rw [a.length];exact l
theorem q9o {F:PF}{n:Nat}{gs:GA}{call:Expr}{t:TA}(pe:PE X call (z2w (spD X.K C.cl n F) [] E0 t)) (hlen:∀ δ ds,gs δ=.ok ds->ds.length=n)
 (da:∀ F σ H δ,Rx X.K C κ F σ H δ->∀ Q,PostA X.K C F .v H Q (gs δ)->t σ H Q):DE X C κ m true call (gCall F gs):=by
 refine ⟨_,pe,λ Fo σ H δ rx Q z=>da Fo σ H δ rx _ ?_⟩
 obtain ⟨ds,e1,z⟩:=j7 (T:=Post X.K C Fo m true H Q) (λ o_ o_ q=>q) (λ q=>q) z
 rw [e1]
 intro vs H1 s1 a1
 rw [N10]
 cases q:F ds with
 | ok d =>
  rw [q] at z
  refine ⟨ds,d,hlen δ ds e1,a1.sub λ o_ o_ o_=>trivial,q,λ v H' s' a n=>z v H' (s1.trans s') (a.sub λ b h o_=>(rx.same s1).new m h) λ o_=>?_⟩
  intro hb
  obtain ⟨l,o,hn⟩:=n hb
  exact ⟨l,o.mono TupK.refl (λ o_ o_ o_ e=>e) (λ o_ o_ o_ e=>e) λ b h o_=>(rx.same s1).new m h,λ b mb=>s1.free (hn b mb)⟩
 | er c s=>rw [q] at z;exact z.elim
 | un=>rw [q] at z;exact z.elim
end
noncomputable def Fo (φ:Nat->List Addr) (a:Addr):Prop:=∃ i,a∈φ i
noncomputable def z28 (H:Hp) (l:List Addr) (v:V) (d:D):Prop:=∃ (a:Addr) (ks:List Ky) (bs:List Addr) (lss:List (List Str)),v=.ref a/\l=a::bs/\(l.Nodup/\ks.Nodup)/\d=.dct ks (lss.map λ ls=>.lst (ls.map D.str))/\ks.length=bs.length/\lss.length=bs.length /\
 H a=some (.dK (ks.zip (bs.map V.ref)))/\∀ (i:Nat) (b:Addr) (ls:List Str),bs[i]? = some b->lss[i]? = some ls->H b=some (.lst (ls.map V.str))
theorem q7C {K:PySem.W.Frag}{cl:Nat->Addr}{H:Hp}{S:Addr->Prop}:∀ ls:List Str,Ats K cl H S (ls.map V.str) (ls.map D.str)
 | []=>by rw [List.map_nil,List.map_nil,Ats];trivial
 | x::r=>by rw [N09,N09,Ats,At];exact ⟨rfl,q7C r⟩
theorem q3Z {K:PySem.W.Frag}{cl:Nat->Addr}{H:Hp}{S:Addr->Prop}:∀ {bs:List Addr}{lss:List (List Str)},lss.length=bs.length->(∀ b∈bs,S b)->(∀ (i:Nat) (b:Addr) (ls:List Str),bs[i]? = some b->lss[i]? = some ls->H b=some (.lst (ls.map V.str)))->Ats K cl H S (bs.map V.ref) (lss.map λ ls=>.lst (ls.map D.str))
 | [],[],_,_,_=>by rw [List.map_nil,List.map_nil,Ats];trivial
 | b::bs,ls::lss,hl,hs,h=>by
  rw [N09,N09,Ats,At]
  exact ⟨⟨b,_,rfl,hs b (N00 ..),.inl (h 0 b ls rfl rfl),q7C ls⟩,q3Z (by simpa using hl) (λ c m=>hs c (N02 _ m)) λ i c ms e1 e2=>h (i+1) c ms e1 e2⟩
 | [],_::_,hl,_,_=>by simp at hl
 | _::_,[],hl,_,_=>by simp at hl
theorem z28.at {K:PySem.W.Frag}{cl:Nat->Addr}{H:Hp}{S:Addr->Prop}{l:List Addr}{v:V}{d:D}(o:z28 H l v d) (hs:∀ a∈l,S a):At K cl H S v d:=by
 obtain ⟨a,ks,bs,lss,rfl,rfl,_,rfl,h1,h2,h3,h4⟩:=o
 rw [At]
 exact ⟨a,_,rfl,hs a (N00 ..),h3,by rw [N01,h1,h2],q3Z h2 (λ b m=>hs b (N02 _ m)) h4⟩
theorem z28.mono {H H':Hp}{l:List Addr}{v:V}{d:D}(o:z28 H l v d) (hl:∀ a∈l,∀ o,H a=some o->H' a=some o):z28 H' l v d:=by
 obtain ⟨a,ks,bs,lss,e1,rfl,h0,e2,h1,h2,h3,h4⟩:=o
 exact ⟨a,ks,bs,lss,e1,rfl,h0,e2,h1,h2,hl a (N00 ..) _ h3,λ i b ls q1 q2=>hl b (N02 _ (N0u q1)) _ (h4 i b ls q1 q2)⟩
noncomputable def SlOk (K:PySem.W.Frag) (C:Dc) (F:Addr->Prop) (H:Hp) (l:List Addr) (v:V) (d:D):Kd->Prop
 | .o=>Own K C.cl H (Sk C F .s) l v d/\∀ a∈l,C.H₀ a=none
 | .i=>Own K C.cl H (Sk C F .s) l v d
 | .w=>z28 H l v d/\∀ a∈l,C.H₀ a=none
 | .v=>At K C.cl H (λ a=>a∈l) v d/\∀ a∈l,C.H₀ a=none
 | .b=>At K C.cl H (Sk C F .b) v d
 | .s=>At K C.cl H (Sk C F .s) v d
structure Rs (K:PySem.W.Frag) (C:Dc) (κ:List Kd) (φ:Nat->List Addr) (σ:St) (H:Hp) (δ:DS):Prop where
 sl:∀ (i:Nat) (d:D),δ[i]? = some (some d)->∃ v k,σ[i]? = some (some v)/\κ[i]? = some k/\SlOk K C (Fo φ) H (φ i) v d k
 dj:∀ i j a,a∈φ i->a∈φ j->i=j
 ow:∀ a,Fo φ a->H a≠none
 fi:∀ a,Fo φ a->C.H₀ a=none\/C.X a
 fr:∀ a o,C.H₀ a=some o->¬ C.X a->H a=some o
 xo:∀ a,C.X a->H a≠none
 tk:TupK C.H₀ H
 ii:∀ j:Nat,j∈C.io->σ[j]? = some (some (C.iv j))/\φ j=C.il j
 len:σ.length=δ.length
structure Kp (F:Addr->Prop) (H:Hp) (F':Addr->Prop) (H':Hp):Prop where
 st:∀ a o,H a=some o->¬ F a->H' a=some o
 tk:TupK H H'
 ow:∀ a,F' a->F a\/H a=none
 ex:∀ a,H a≠none->H' a≠none
section
variable {K:PySem.W.Frag}{C:Dc}{κ κ':List Kd}{φ φ':Nat->List Addr}{F F1 F2:Addr->Prop}{σ:St}{H H' H1 H2:Hp}{δ:DS}
theorem Kp.refl:Kp F H F H:=⟨λ o_ o_ e o_=>e,TupK.refl,λ o_ h=>.inl h,λ o_ h=>h⟩
theorem Kp.trans (a:Kp F H F1 H1) (b:Kp F1 H1 F2 H2):Kp F H F2 H2 :=
 ⟨λ x o e n=>b.st x o (a.st x o e n) λ f=>(a.ow x f).elim n (λ z=>by rw [e] at z;cases z),a.tk.trans b.tk,λ x f=>(b.ow x f).elim (a.ow x) λ z=>.inr (by
  cases q:H x with
  | none=>rfl
  | some o=>exact absurd z (a.ex x (by rw [q];exact λ z=>by cases z))),λ x h=>b.ex x (a.ex x h)⟩
theorem Kp.of (s:Same H H') (sub:∀ a,F1 a->F a\/H a=none):Kp F H F1 H':=⟨λ a o e o_=>s a o e,TupK.of s,sub,λ a h z=>h (s.free z)⟩
theorem Rs.old (r:Rs K C κ φ σ H δ){a:Addr}(h:H a=none):C.H₀ a=none:=by
 cases q:C.H₀ a with
 | none=>rfl
 | some o =>
  by_cases x:C.X a
  ·exact absurd h (r.xo a x)
  ·rw [r.fr a o q x] at h;cases h
theorem Rs.rx (r:Rs K C κ φ σ H δ):Rx K C κ (Fo φ) σ H δ:=by
 refine ⟨λ i d e=>?_,λ a h=>r.old h,r.ow⟩
 obtain ⟨v,k,h1,h2,h3⟩:=r.sl i d e
 refine ⟨v,k,h1,h2,?_⟩
 cases k with
 | o=>exact h3.1.at (λ a z=>z.1) h3.2
 | i=>exact Own.at h3 (λ a z=>trivial) λ a z=>trivial
 | v=>exact At.sub h3.1 λ a o_ o_=>trivial
 | w=>exact h3.1.at h3.2
 | b=>exact h3
 | s=>exact h3
theorem SlOk.mono {l:List Addr}{v:V}{d:D}(kp:Kp F H F1 H') (hl:∀ a∈l,∀ o,H a=some o->H' a=some o):∀ {k:Kd},SlOk K C F H l v d k->SlOk K C F1 H' l v d k:=λ {k} h=>by
 have m:∀ a,(¬ F a)->H a≠none->¬ F1 a:=λ a n e f=>(kp.ow a f).elim n e
 cases k with
 | o=>exact ⟨h.1.mono kp.tk (λ a o z e=>kp.st a o e z.2) hl λ a z e=>⟨z.1,m a z.2 e⟩,h.2⟩
 | i=>exact Own.mono kp.tk (λ a o z e=>kp.st a o e z.2) hl (λ a z e=>⟨z.1,m a z.2 e⟩) h
 | v=>exact ⟨At.mono kp.tk (λ a o z e=>hl a z o e) (λ a z o_=>z) h.1,h.2⟩
 | w=>exact ⟨h.1.mono hl,h.2⟩
 | b=>exact At.mono kp.tk (λ a o z e=>kp.st a o e z) (λ a z e=>m a z e) h
 | s=>exact At.mono kp.tk (λ a o z e=>kp.st a o e z.2) (λ a z e=>⟨z.1,m a z.2 e⟩) h
theorem Rs.same (r:Rs K C κ φ σ H δ) (s:Same H H'):Rs K C κ φ σ H' δ :=
 ⟨λ i d e=>let ⟨v,k,h1,h2,h3⟩:=r.sl i d e;⟨v,k,h1,h2,h3.mono (Kp.of s λ a f=>.inl f) λ a o_ o e=>s a o e⟩,r.dj,λ a f h=>r.ow a f (s.free h),r.fi,λ a o e x=>s a o (r.fr a o e x),λ a x h=>r.xo a x (s.free h),λ a xs e=>s _ _ (r.tk a xs e),r.ii,r.len⟩
end
noncomputable def FinS (K:PySem.W.Frag) (C:Dc) (L:List Kd×List Nat) (κ':List Kd) (F:Addr->Prop) (H:Hp) (D:Ends):Rz Out->Prop
 | .ok (.nx δ')=>∀ φ' σ' H',Rs K C κ' φ' σ' H' δ'->Kp F H (Fo φ') H'->D.nx σ' H'
 | .ok (.bk δ')=>∀ φ' σ' H',Rs K C L.1 φ' σ' H' (forget L.2 δ')->Kp F H (Fo φ') H'->D.bk σ' H'
 | .ok (.ct δ')=>∀ φ' σ' H',Rs K C L.1 φ' σ' H' (forget L.2 δ')->Kp F H (Fo φ') H'->D.ct σ' H'
 | .ok (.rt d δ')=>∀ v κr φ' σ' H',(∀ j:Nat,j∈C.io->κr[j]? = some .i)->Rs K C κr φ' σ' H' δ'->At K C.cl H' (λ a=>C.H₀ a=none) v d->Nw K C.cl C.H₀ H' (λ a=>C.H₀ a=none) v d->D.rt v H'
 | _=>False
noncomputable def DSt (X:Cx) (C:Dc) (L:List Kd×List Nat) (κ κ':List Kd) (st:Stmt) (g:GS):Prop :=
 ∃ t,PS X st t/\∀ φ σ H δ,Rs X.K C κ φ σ H δ->∀ D,FinS X.K C L κ' (Fo φ) H D (g δ)->t D σ H
noncomputable def DSs (X:Cx) (C:Dc) (L:List Kd×List Nat) (κ κ':List Kd) (st:List Stmt) (g:GS):Prop :=
 ∃ t,PSs X st t/\∀ φ σ H δ,Rs X.K C κ φ σ H δ->∀ D,FinS X.K C L κ' (Fo φ) H D (g δ)->t D σ H
section
variable {X:Cx}{C:Dc}{L:List Kd×List Nat}{κ κ' κ1 κ2:List Kd}{st:Stmt}{sts:List Stmt}{g g1 g2:GS}{ge gk:GE}{tA:GT}{e:Expr}{fr:Bool}{pos:Pos}{F F1:Addr->Prop}{H H1:Hp}
theorem Y0 {D:Ends}{r:Rz Out}(kp:Kp F H F1 H1) (p:FinS X.K C L κ' F H D r):FinS X.K C L κ' F1 H1 D r:=by
 cases r with
 | ok o =>
  cases o with
  | nx δ'=>exact λ φ' σ' H' r k=>p φ' σ' H' r (kp.trans k)
  | bk δ'=>exact λ φ' σ' H' r k=>p φ' σ' H' r (kp.trans k)
  | ct δ'=>exact λ φ' σ' H' r k=>p φ' σ' H' r (kp.trans k)
  | rt d δ'=>exact p
 | er c s=>exact p
 | un=>exact p
theorem u7 {l:List Nat}{i:Nat}(h:l.contains i=false):i∉l:=λ m=>by rw [List.contains_iff_mem.mpr m] at h;cases h
theorem Z3:DSs X C L κ κ [] J8:=⟨_,q6Q,λ φ σ H δ r D p=>p φ σ H r Kp.refl⟩
theorem j8 (h:DSt X C L κ κ' st g):DSs X C L κ κ' [st] g:=let ⟨t,p,q⟩:=h;⟨t,q0W p,q⟩
theorem j4 (h1:DSt X C L κ κ1 st g1) (h2:DSs X C L κ1 κ' sts g2):DSs X C L κ κ' (st::sts) (W1 g1 g2):=by
 obtain ⟨t,pt,dt⟩:=h1
 obtain ⟨u,pu,du⟩:=h2
 refine ⟨_,q0h pt pu,λ φ σ H δ r D p=>dt φ σ H δ r _ ?_⟩
 have p:FinS X.K C L κ' (Fo φ) H D ((g1 δ).bind _):=p
 cases q:g1 δ with
 | ok o =>
  rw [q] at p
  cases o with
  | nx δ'=>exact λ φ' σ' H' r' k=>du φ' σ' H' δ' r' D (Y0 k p)
  | bk δ'=>exact p
  | ct δ'=>exact p
  | rt d δ'=>exact p
 | er c s=>rw [q] at p;exact p.elim
 | un=>rw [q] at p;exact p.elim
theorem W2 {c:Expr}{a b:List Stmt}(hc:DT X C κ c tA) (ha:DSs X C L κ κ' a g1) (hb:DSs X C L κ κ' b g2):DSt X C L κ κ' (.If c a b pos) (Y7 tA g1 g2):=by
 obtain ⟨tc,pc,dc⟩:=hc
 obtain ⟨ta,pa,da⟩:=ha
 obtain ⟨tb,pb,db⟩:=hb
 refine ⟨_,z0I pc pa pb,λ φ σ H δ r D p=>dc (Fo φ) σ H δ r.rx _ ?_⟩
 obtain ⟨k,e1,p⟩:=j7 (T:=FinS X.K C L κ' (Fo φ) H D) (λ o_ o_ q=>q) (λ q=>q) p
 rw [e1]
 intro H1 s1
 have kp:Kp (Fo φ) H (Fo φ) H1:=Kp.of s1 λ a f=>.inl f
 cases k with
 | true=>exact q7e (da φ σ H1 δ (r.same s1) D (Y0 kp p))
 | false=>exact z09 (db φ σ H1 δ (r.same s1) D (Y0 kp p))
theorem K1:DSt X C L κ κ' st Y8:=⟨_,q8W,λ φ σ H δ r D p=>p.elim⟩
theorem z2W {F:Addr->Prop}{φ:Nat->List Addr}{σ:St}{H H':Hp}{δ:DS}{v:V}{d:D}(r:Rs X.K C κ φ σ H δ) (n:Nw X.K C.cl H H' (Sk C F .o) v d):Nw X.K C.cl C.H₀ H' (λ a=>C.H₀ a=none) v d:=λ hb =>
 let ⟨l,o,h⟩:=n hb
 ⟨l,o,λ a m=>r.old (h a m)⟩
theorem W0 (h:DE X C κ .o true e ge) (hio:∀ j:Nat,j∈C.io->κ[j]? = some .i):DSt X C L κ κ' (.Return (some e) pos) (q06 ge):=by
 obtain ⟨t,pt,dt⟩:=h
 refine ⟨_,q2f pt,λ φ σ H δ r D p=>dt (Fo φ) σ H δ r.rx _ ?_⟩
 obtain ⟨d,e1,p⟩:=j3 (T:=FinS X.K C L κ' (Fo φ) H D) (λ o_ o_ q=>q) (λ q=>q) p
 rw [e1]
 exact λ v H1 s1 a n=>p v κ φ σ H1 hio (r.same s1) a (z2W r (n rfl))
theorem q2U (h:DE X C κ .o fr e ge) (hio:∀ j:Nat,j∈C.io->κ[j]? = some .i):DSt X C L κ κ' (.Return (some e) pos) (q1O ge):=by
 obtain ⟨t,pt,dt⟩:=h
 refine ⟨_,q2f pt,λ φ σ H δ r D p=>dt (Fo φ) σ H δ r.rx _ ?_⟩
 obtain ⟨d,e1,p⟩:=j3 (T:=FinS X.K C L κ' (Fo φ) H D) (λ o_ o_ q=>q) (λ q=>q) p
 obtain ⟨hz,p⟩:=Q0 (T:=FinS X.K C L κ' (Fo φ) H D) (λ z=>z) p
 rw [e1]
 exact λ v H1 s1 a n=>p v κ φ σ H1 hio (r.same s1) a (Nw.small hz)
set_option tactic.hygienic true in
theorem q7D (i:Nat){x:Str}{pos':Pos}(hk:κ[i]? = some .o) (hio:∀ j:Nat,j∈C.io->κ[j]? = some .i) (hN:X.N[i]? = some x:=by rfl) (hv:Vis X.env.scope x:=by first | exact N0k rfl | exact N0r (N0k rfl) | exact N0r (N0r rfl)) (hd:(x==("__debug__" : Str))=false:=by decide)
 (hcd:(x==("__classdict__" : Str))=false:=by decide):DSt X C L κ κ' (.Return (some (.Name x pos')) pos) (q06 (gVar i)):=by
 refine ⟨_,q2f (X7 hN hv hd hcd),λ φ σ H δ r D p=>?_⟩
 obtain ⟨d,e1,p⟩:=j3 (T:=FinS X.K C L κ' (Fo φ) H D) (λ o_ o_ q=>q) (λ q=>q) p
 unfold gVar at e1
 split at e1
 ·rename_i d' q
  cases e1
  obtain ⟨v,k,h1,h2,h3⟩:=r.sl i d q
  rw [hk] at h2
  cases h2
  refine ⟨v,h1,p v κ φ σ H hio r (h3.1.at (λ a z=>z.1) h3.2) λ o_=>⟨φ i,h3.1.mono TupK.refl (λ o_ o_ o_ e=>e) (λ o_ o_ o_ e=>e) λ a z o_=>z.1,h3.2⟩⟩
 ·cases e1
theorem z1h (h:DE X C κ .v fr e ge) (hs:swapsWith e none pos.line X.env=pure false:=by rfl):DSt X C L κ κ (.Expr e pos) (z1b ge):=by
 obtain ⟨t,pt,dt⟩:=h
 refine ⟨_,q1A pt hs,λ φ σ H δ r D p=>dt (Fo φ) σ H δ r.rx _ ?_⟩
 obtain ⟨d,e1,p⟩:=j3 (T:=FinS X.K C L κ (Fo φ) H D) (λ o_ o_ q=>q) (λ q=>q) p
 rw [e1]
 exact λ v H1 s1 a n=>p φ σ H1 (r.same s1) (Kp.of s1 λ a f=>.inl f)
set_option tactic.hygienic true in
theorem get_set {α:Type}{l:List α}{i j:Nat}{a:α}{b:α}(h:(l.set i a)[j]? = some b):(i=j/\a=b/\j<l.length)\/(i≠j/\l[j]? = some b):=by
 rw [List.getElem?_set] at h
 by_cases e:i=j
 ·subst e
  rw [N0j rfl] at h
  split at h
  ·rename_i hl
   exact .inl ⟨rfl,N0b h,hl⟩
  ·cases h
 ·rw [N0l e] at h
  exact .inr ⟨e,h⟩
theorem q7E {α:Type}{l:List α}{i:Nat}{a:α}(h:i<l.length):(l.set i a)[i]? = some a:=by
 rw [List.getElem?_set,N0j rfl,N0j h]
theorem q4D {α:Type}{l:List α}{i j:Nat}{a:α}(h:i≠j):(l.set i a)[j]? = l[j]?:=by
 rw [List.getElem?_set,N0l h]
noncomputable def φset (φ:Nat->List Addr) (i:Nat) (l:List Addr):Nat->List Addr:=λ j=>if j=i then l else φ j
theorem φset_same {φ:Nat->List Addr}{i:Nat}{l:List Addr}:φset φ i l i=l:=N0j rfl
theorem φset_ne {φ:Nat->List Addr}{i j:Nat}{l:List Addr}(h:j≠i):φset φ i l j=φ j:=N0l h
theorem Rs.put {K:PySem.W.Frag}{φ:Nat->List Addr}{σ:St}{H H':Hp}{δ:DS}{i:Nat}{k:Kd}{v:V}{d:D}{l:List Addr}(r:Rs K C κ φ σ H δ) (s:Same H H') (hk:i<κ.length) (hs:SlOk K C (Fo (φset φ i l)) H' l v d k) (hl:∀ a∈l,H a=none/\H' a≠none) (hni:i∉C.io) :
 Rs K C (κ.set i k) (φset φ i l) (σ.set i (some v)) H' (δ.set i (some d))/\Kp (Fo φ) H (Fo (φset φ i l)) H':=by
 have sub:∀ a,Fo (φset φ i l) a->Fo φ a\/H a=none:=by
  rintro a ⟨j,hj⟩
  by_cases e:j=i
  ·subst e
   rw [φset_same] at hj
   exact .inr (hl a hj).1
  ·rw [φset_ne e] at hj
   exact .inl ⟨j,hj⟩
 have kp:Kp (Fo φ) H (Fo (φset φ i l)) H':=Kp.of s sub
 refine ⟨⟨λ j d' e=>?_,λ x y a hx hy=>?_,λ a f=>?_,λ a f=>?_,λ a o e x=>s a o (r.fr a o e x),λ a x h=>r.xo a x (s.free h),λ a xs e=>s _ _ (r.tk a xs e),λ j hj=>?_,by rw [N1h,N1h];exact r.len⟩,kp⟩
 ·rcases get_set e with ⟨rfl,e,hlt⟩ | ⟨ne,e⟩
  ·cases e
   exact ⟨v,k,q7E (by rw [r.len];exact hlt),q7E hk,by rw [φset_same];exact hs⟩
  ·obtain ⟨u,k',h1,h2,h3⟩:=r.sl j d' e
   refine ⟨u,k',by rw [q4D ne];exact h1,by rw [q4D ne];exact h2,?_⟩
   rw [φset_ne (N1f ne)]
   exact h3.mono kp λ a o_ o e=>s a o e
 ·by_cases ex:x=i<;>by_cases ey:y=i
  ·rw [ex,ey]
  ·subst ex
   rw [φset_same] at hx
   rw [φset_ne ey] at hy
   exact absurd (hl a hx).1 (r.ow a ⟨y,hy⟩)
  ·subst ey
   rw [φset_same] at hy
   rw [φset_ne ex] at hx
   exact absurd (hl a hy).1 (r.ow a ⟨x,hx⟩)
  ·rw [φset_ne ex] at hx
   rw [φset_ne ey] at hy
   exact r.dj x y a hx hy
 ·obtain ⟨j,hj⟩:=f
  by_cases ej:j=i
  ·subst ej
   rw [φset_same] at hj
   exact (hl a hj).2
  ·rw [φset_ne ej] at hj
   exact λ h=>r.ow a ⟨j,hj⟩ (s.free h)
 ·obtain ⟨j,hj⟩:=f
  by_cases ej:j=i
  ·subst ej
   rw [φset_same] at hj
   exact .inl (r.old (hl a hj).1)
  ·rw [φset_ne ej] at hj
   exact r.fi a ⟨j,hj⟩
 ·have ne:i≠j:=λ z=>hni (by rw [z];exact hj)
  rw [q4D ne,φset_ne (N1f ne)]
  exact r.ii j hj
theorem q0s {φ:Nat->List Addr}{i:Nat}{a:Addr}(h:Fo (φset φ i []) a):Fo φ a:=by
 obtain ⟨j,hj⟩:=h
 by_cases e:j=i
 ·subst e;rw [φset_same] at hj;exact absurd hj (by simp)
 ·rw [φset_ne e] at hj;exact ⟨j,hj⟩
theorem Q9 {i:Nat}{x:Str}{k:Kd}{pos':Pos}(hkk:k=.b\/k=.s) (hk:i<κ.length) (hN:X.N.Nodup) (hi:X.N[i]? = some x) (hx:Loc X.env.scope x) (h:DE X C κ k fr e ge) (hs:swapsWith e (some (.Name x pos')) pos.line X.env=pure false:=by rfl)
 (hf:X.fn x=true\/X.env.scope.names.lookup x=some .local:=by first | exact .inl rfl | exact .inr rfl | assumption) (hni:C.io.contains i=false:=by rfl):DSt X C L κ (κ.set i k) (.Assign [.Name x pos'] e pos) (gSet i ge):=by
 obtain ⟨t,pt,dt⟩:=h
 refine ⟨_,q3v hN hi hx pt hs hf,λ φ σ H δ r D p=>dt (Fo φ) σ H δ r.rx _ ?_⟩
 obtain ⟨d,e1,p⟩:=j3 (T:=FinS X.K C L (κ.set i k) (Fo φ) H D) (λ o_ o_ q=>q) (λ q=>q) p
 rw [e1]
 intro v H1 s1 a n
 have so:SlOk X.K C (Fo (φset φ i [])) H1 [] v d k:=by
  rcases hkk with rfl | rfl
  ·exact At.sub a λ b z o_ f=>z (q0s f)
  ·exact At.sub a λ b z o_=>⟨z.1,λ f=>z.2 (q0s f)⟩
 obtain ⟨r2,kp⟩:=r.put s1 hk so (λ a m=>absurd m (by simp)) (u7 hni)
 exact p _ _ _ r2 kp
theorem q1T {i:Nat}{x:Str}{pos':Pos}(hk:i<κ.length) (hN:X.N.Nodup) (hi:X.N[i]? = some x) (hx:Loc X.env.scope x) (h:DE X C κ .s true e ge) (hs:swapsWith e (some (.Name x pos')) pos.line X.env=pure false:=by rfl)
 (hf:X.fn x=true\/X.env.scope.names.lookup x=some .local:=by first | exact .inl rfl | exact .inr rfl | assumption) (hni:C.io.contains i=false:=by rfl):DSt X C L κ (κ.set i .o) (.Assign [.Name x pos'] e pos) (q2a i ge):=by
 obtain ⟨t,pt,dt⟩:=h
 refine ⟨_,q3v hN hi hx pt hs hf,λ φ σ H δ r D p=>dt (Fo φ) σ H δ r.rx _ ?_⟩
 obtain ⟨d,e1,p⟩:=j3 (T:=FinS X.K C L (κ.set i .o) (Fo φ) H D) (λ o_ o_ q=>q) (λ q=>q) p
 obtain ⟨hb,p⟩:=Q0 (T:=FinS X.K C L (κ.set i .o) (Fo φ) H D) (λ z=>z) p
 rw [e1]
 intro v H1 s1 a n
 obtain ⟨l,o,hl⟩:=n rfl hb
 have so:SlOk X.K C (Fo (φset φ i l)) H1 l v d .o:=by
  refine ⟨?_,λ a m=>r.old (hl a m)⟩
  have key:∀ b,(Sk C (Fo φ) .s b/\b∉l)->Sk C (Fo (φset φ i l)) .s b:=λ b z=>⟨z.1.1,λ f=>by
   obtain ⟨j,hj⟩:=f
   by_cases e:j=i
   ·subst e;rw [φset_same] at hj;exact z.2 hj
   ·rw [φset_ne e] at hj;exact z.1.2 ⟨j,hj⟩⟩
  cases d with
  | lst ds=>obtain ⟨a',vs,q1,q2,q3,q4⟩:=o;exact ⟨a',vs,q1,q2,q3,q4.sub λ b z o_=>⟨key b z,z.2⟩⟩
  | dct ks ds=>obtain ⟨a',vs,q1,q2,q3,q5,q4⟩:=o;exact ⟨a',vs,q1,q2,q3,q5,q4.sub λ b z o_=>⟨key b z,z.2⟩⟩
  | obj c f d' =>
   cases d' with
   | dct ks ds=>obtain ⟨a',dx,b',vs,q1,q2,q3,q5,q6,q7,q4⟩:=o;exact ⟨a',dx,b',vs,q1,q2,q3,q5,q6,q7,q4.sub λ b z o_=>⟨key b z,z.2⟩⟩
   | _=>exact o.elim
  | _=>cases hb
 obtain ⟨r2,kp⟩:=r.put s1 hk so (λ a m=>⟨hl a m,o.ex m⟩) (u7 hni)
 exact p _ _ _ r2 kp
end
section
variable {X:Cx}{C:Dc}{L:List Kd×List Nat}{κ κ' κ1 κ2:List Kd}{st:Stmt}{sts:List Stmt}{g g1 g2 gb:GS}{ge gk:GE}{tA:GT}{e:Expr}{fr:Bool}{pos:Pos}{F F1:Addr->Prop}{H H1:Hp}
theorem q2q:∀ (fg:List Nat) (δ:DS),(forget fg δ).length=δ.length
 | [],δ=>rfl
 | i::r,δ=>by rw [forget,q2q r,N1h]
theorem q2r:∀ {fg:List Nat}{δ:DS}{j:Nat}{d:D},(forget fg δ)[j]? = some (some d)->j∉fg/\δ[j]? = some (some d)
 | [],δ,j,d,h=>⟨by simp,h⟩
 | i::r,δ,j,d,h=>by
  rw [forget] at h
  obtain ⟨h1,h2⟩:=q2r h
  rcases get_set h2 with ⟨_,z,_⟩ | ⟨ne,h2⟩
  ·cases z
  ·exact ⟨λ m=>(N0c.mp m).elim (λ z=>ne z.symm) h1,h2⟩
noncomputable def okK (κ κ2:List Kd) (fg:List Nat):Bool:=(List.range κ.length).all λ j=>fg.contains j || decide (κ[j]? = κ2[j]?)
theorem z1i {κ κ2:List Kd}{fg:List Nat}{j:Nat}{k:Kd}(h:okK κ κ2 fg=true) (m:j∉fg) (e:κ[j]? = some k):κ2[j]? = some k:=by
 have hl:j<κ.length:=(N04.mp e).1
 have q:=List.all_eq_true.mp h j (List.mem_range.mpr hl)
 rw [Bool.or_eq_true] at q
 rcases q with q | q
 ·exact absurd (List.contains_iff_mem.mp q) m
 ·rw [<- of_decide_eq_true q];exact e
theorem Rs.forget {K:PySem.W.Frag}{φ:Nat->List Addr}{σ:St}{H:Hp}{δ:DS}{fg:List Nat}(r:Rs K C κ φ σ H δ) (ok:okK κ κ2 fg=true):Rs K C κ2 φ σ H (forget fg δ) :=
 ⟨λ i d e=>by
  obtain ⟨m,e⟩:=q2r e
  obtain ⟨v,k,h1,h2,h3⟩:=r.sl i d e
  exact ⟨v,k,h1,z1i ok m h2,h3⟩,r.dj,r.ow,r.fi,r.fr,r.xo,r.tk,r.ii,by rw [q2q];exact r.len⟩
theorem q5x (κ:List Kd) (fg:List Nat):okK κ κ fg=true:=List.all_eq_true.mpr λ j o_=>by rw [N0o rfl,Bool.or_true]
noncomputable def Wk (K:PySem.W.Frag) (C:Dc) (F:Addr->Prop) (m:Kd) (H:Hp) (J:It) (xs:List D):Prop :=
 (∃ a vs,J=Itl K a/\Sk C F m a/\Rd H a (.lst vs)/\Ats K C.cl H (Sk C F m) vs xs)\/(∃ a vs,J=Itt K a/\H a=some (.tup vs)/\Ats K C.cl H (Sk C F m) vs xs)\/(∃ lo n,J=Itr lo n/\xs=rangeD lo n)\/∃ z,J=Its z/\xs=signsD z
noncomputable def q6p (K:PySem.W.Frag) (C:Dc) (F:Addr->Prop) (m:Kd) (H:Hp) (R:It->Hp->Prop):Rz (List D)->Prop
 | .ok xs=>∀ J H',Same H H'->Wk K C F m H' J xs->R J H'
 | _=>False
noncomputable def DI (X:Cx) (C:Dc) (κ:List Kd) (m:Kd) (tg iter:Expr) (g:GI):Prop :=
 ∃ wi,PI X tg iter wi/\∀ F σ H δ,Rx X.K C κ F σ H δ->∀ R,q6p X.K C F m H R (g δ)->wi σ H R
theorem z2X {tg iter:Expr}{w1 w2:TI}(h1:PI X tg iter w1) (h2:PI X tg iter w2):PI X tg iter (λ σ H R=>w1 σ H R\/w2 σ H R):=by
 intro pins s σ H R I h
 rcases h with h | h
 ·exact h1 pins s σ H R I h
 ·exact h2 pins s σ H R I h
theorem q0E {m:Kd}{tg:Expr}(h:DE X C κ m fr e ge):DI X C κ m tg e (q7y ge):=by
 obtain ⟨t,pt,dt⟩:=h
 refine ⟨_,z2X (z0K pt) (z2X (z2r pt) (z2L pt)),λ F σ H δ r R p=>?_⟩
 obtain ⟨d,e1,p⟩:=j3 (T:=q6p X.K C F m H R) (λ o_ o_ q=>q) (λ q=>q) p
 cases d with
 | lst xs =>
  refine .inl (dt F σ H δ r _ ?_)
  rw [e1]
  intro v H1 s1 a _
  rw [At] at a
  obtain ⟨b,vs,rfl,sb,q,w⟩:=a
  exact ⟨b,rfl,⟨vs,.inl q⟩,p _ H1 s1 (.inl ⟨b,vs,rfl,sb,q,w⟩)⟩
 | tup xs =>
  refine .inr (.inl (dt F σ H δ r _ ?_))
  rw [e1]
  intro v H1 s1 a _
  rw [At] at a
  obtain ⟨b,vs,rfl,q,w⟩:=a
  exact ⟨b,rfl,⟨vs,SqT.of q⟩,p _ H1 s1 (.inr (.inl ⟨b,vs,rfl,q,w⟩))⟩
 | str z =>
  obtain ⟨hz,p⟩:=Q0 (T:=q6p X.K C F m H R) (λ z=>z) p
  refine .inr (.inr (dt F σ H δ r _ ?_))
  rw [e1]
  intro v H1 s1 a _
  rw [At] at a
  exact ⟨z,a,hz,p _ H1 s1 (.inr (.inr (.inr ⟨z,rfl,rfl⟩)))⟩
 | _=>exact p.elim
theorem q08 {m:Kd}{tg a:Expr}{p:Pos}{fa:Bool}(hg:Gl X "range") (hm:X.mg "range" = none) (h:DE X C κ .v fa a ge) (hs:starEach [a] X.env=[(false,eval a X.env)]:=by rfl):DI X C κ m tg (.Call (.Name "range" p) [a] [] pos) (q29 ge):=by
 obtain ⟨t,pt,dt⟩:=h
 refine ⟨_,q6S hg hm (W3 pt q0B hs) hs,λ F σ H δ r R z=>dt F σ H δ r _ ?_⟩
 obtain ⟨d,e1,z⟩:=j3 (T:=q6p X.K C F m H R) (λ o_ o_ q=>q) (λ q=>q) z
 rw [e1]
 intro v H1 s1 at1 _
 cases d with
 | int j =>
  obtain ⟨hz,z⟩:=Q0 (T:=q6p X.K C F m H R) (λ z=>z) z
  rw [At] at at1
  subst at1
  exact ⟨j,rfl,hz.1,hz.2,z _ H1 s1 (.inr (.inr (.inl ⟨0,j.toNat,rfl,rfl⟩)))⟩
 | _=>exact z.elim
theorem q0F (i:Nat) (fg:List Nat) (δ:DS):v4 i fg gb [] δ=.ok (.nx δ):=by rw [v4]
theorem W4 {α:Type}{xs:List α}{k:Nat}{x:α}(h:xs[k]? = some x):xs.drop k=x::xs.drop (k+1):=by
 have hl:=(N04.mp h).1
 rw [List.drop_eq_getElem_cons hl,(N04.mp h).2]
theorem q1t {i:Nat}{x:Str}{k:Kd}{fg:List Nat}{tb:TS}{D:Ends}{F0:Addr->Prop}{H0:Hp}(hkk:k=.b\/k=.s) (hk:i<κ.length) (hni:i∉C.io) (ok:okK κ1 κ fg=true)
 (db:∀ φ σ H δ,Rs X.K C (κ.set i k) φ σ H δ->∀ D,FinS X.K C (κ,fg) κ1 (Fo φ) H D (gb δ)->tb D σ H){N:St->Hp->Prop}
 {φ:Nat->List Addr}{σ:St}{H:Hp}{δ:DS}{v:V}{d:Dl.D}{rest:List Dl.D}(r:Rs X.K C κ φ σ H δ) (kp:Kp F0 H0 (Fo φ) H) (a:At X.K C.cl H (Sk C (Fo φ) k) v d) (p:FinS X.K C L κ F0 H0 D (v4 i fg gb (d::rest) δ))
 (hN:∀ φ' σ' H' δ',Rs X.K C κ φ' σ' H' δ'->Kp F0 H0 (Fo φ') H'->FinS X.K C L κ F0 H0 D (v4 i fg gb rest δ')->N σ' H') :
 tb { D with nx:=N,ct:=N,bk:=D.nx } (σ.set i (some v)) H:=by
 have so:SlOk X.K C (Fo (φset φ i [])) H [] v d k:=by
  rcases hkk with rfl | rfl
  ·exact At.sub a λ b z o_ f=>z (q0s f)
  ·exact At.sub a λ b z o_=>⟨z.1,λ f=>z.2 (q0s f)⟩
 obtain ⟨r2,kp2⟩:=r.put (Same.refl H) hk so (λ a m=>absurd m (by simp)) hni
 have kp3:=kp.trans kp2
 refine db _ _ H _ r2 _ ?_
 rw [v4] at p
 cases q:gb (δ.set i (some d)) with
 | ok o =>
  rw [q] at p
  cases o with
  | nx δ'=>exact λ φ' σ' H' r' k'=>hN φ' σ' H' _ (r'.forget ok) (kp3.trans k') p
  | ct δ'=>exact λ φ' σ' H' r' k'=>hN φ' σ' H' _ r' (kp3.trans k') p
  | bk δ'=>exact λ φ' σ' H' r' k'=>p φ' σ' H' r' (kp3.trans k')
  | rt d δ'=>exact p
 | er c s=>rw [q] at p;exact p.elim
 | un=>rw [q] at p;exact p.elim
theorem q40 {i:Nat}{x:Str}{k:Kd}{fg:List Nat}{iter:Expr}{gi:GI}{body:List Stmt}{px:Pos}(hkk:k=.b\/k=.s) (hk:i<κ.length) (hN:X.N.Nodup) (hi:X.N[i]? = some x) (hx:Loc X.env.scope x) (hp:PassesOwn (model X.prog X.w) X.A X.env X.xe) (hc:X.calm=true)
 (hw:DI X C κ k (.Name x px) iter gi) (hb:DSs X C (κ,fg) (κ.set i k) κ1 body gb) (ok:okK κ1 κ fg=true) (hs:∀ x,foldedSetIterable iter X.env x=pure x:=by intro _;rfl)
 (hf:X.fn x=true\/X.env.scope.names.lookup x=some .local:=by first | exact .inl rfl | exact .inr rfl | assumption) (hni:C.io.contains i=false:=by rfl):DSt X C L κ κ (.For (.Name x px) iter body [] pos) (z1c gi i fg gb):=by
 obtain ⟨wi,pw,dw⟩:=hw
 obtain ⟨tb,pb,db⟩:=hb
 refine ⟨_,z04 hp hc pw (q07 hN hi hx hf) pb hs,λ φ σ H δ r D p=>dw (Fo φ) σ H δ r.rx _ ?_⟩
 obtain ⟨xs,e1,p⟩:=j7 (T:=FinS X.K C L κ (Fo φ) H D) (λ o_ o_ q=>q) (λ q=>q) p
 rw [e1]
 intro J H1 s1 w
 have r1:=(r.same s1).forget (q5x κ fg)
 have kp1:Kp (Fo φ) H (Fo φ) H1:=Kp.of s1 λ a f=>.inl f
 have sk:∀ {φ':Nat->List Addr}{H':Hp}{a:Addr},Kp (Fo φ) H1 (Fo φ') H'->H1 a≠none->Sk C (Fo φ) k a->¬ Fo φ a/\Sk C (Fo φ') k a:=λ {φ' H' a} kp e z=>by
  have m:¬ Fo φ a->¬ Fo φ' a:=λ n f=>(kp.ow a f).elim n e
  rcases hkk with rfl | rfl
  ·exact ⟨z,m z⟩
  ·exact ⟨z.2,z.1,m z.2⟩
 have items:∀ {φ':Nat->List Addr}{H':Hp}{vs:List V},Kp (Fo φ) H1 (Fo φ') H'->Ats X.K C.cl H1 (Sk C (Fo φ) k) vs xs->Ats X.K C.cl H' (Sk C (Fo φ') k) vs xs:=λ {φ' H' vs} kp z =>
  z.mono kp.tk (λ a o za e=>kp.st a o e (sk kp (by rw [e];exact λ z=>by cases z) za).1) λ a za e=>(sk kp e za).2
 rcases w with ⟨a,vs,rfl,sa,ha,wa⟩ | ⟨a,vs,rfl,ha,wa⟩ | ⟨lo,n,rfl,rfl⟩ | ⟨z,rfl,rfl⟩
 ·have hl:=wa.length
  refine q5j (K:=X.K) (a:=a) (xs:=vs) (λ j σ' H'=>∃ φ' δ',Rs X.K C κ φ' σ' H' δ'/\Kp (Fo φ) H1 (Fo φ') H'/\FinS X.K C L κ (Fo φ) H1 D (v4 i fg gb (xs.drop j) δ'))
   ⟨φ,_,r1,Kp.refl,Y0 kp1 p⟩ (λ j σ' H' o1_ ⟨φ',δ',r',kp,o2_⟩=>?_) ?_ ?_
  ·refine .inl ?_
   rcases ha with ha | ⟨o,ha⟩
   ·exact .inl (kp.st _ _ ha (sk kp (by rw [ha];exact λ z=>by cases z) sa).1)
   ·exact .inr ⟨o,kp.st _ _ ha (sk kp (by rw [ha];exact λ z=>by cases z) sa).1⟩
  ·rintro j v σ' H' hj ⟨φ',δ',r',kp,q⟩
   obtain ⟨d,hd,ad⟩:=(items kp wa).get' hj
   rw [W4 hd] at q
   exact q1t (x:=x) hkk hk (u7 hni) ok db r' kp ad q λ φ2 σ2 H2 δ2 r2 kp2 q2=>⟨φ2,δ2,r2,kp2,q2⟩
  ·rintro σ' H' ⟨φ',δ',r',kp,q⟩
   rw [hl,N1i,q0F] at q
   exact q φ' σ' H' r' kp
 ·have hl:=wa.length
  refine q6U (K:=X.K) (a:=a) (xs:=vs) (λ j σ' H'=>∃ φ' δ',Rs X.K C κ φ' σ' H' δ'/\Kp (Fo φ) H1 (Fo φ') H'/\FinS X.K C L κ (Fo φ) H1 D (v4 i fg gb (xs.drop j) δ'))
   ⟨φ,_,r1,Kp.refl,Y0 kp1 p⟩ (λ j σ' H' o1_ ⟨φ',δ',r',kp,o2_⟩=>SqT.of (kp.tk _ _ ha)) ?_ ?_
  ·rintro j v σ' H' hj ⟨φ',δ',r',kp,q⟩
   obtain ⟨d,hd,ad⟩:=(items kp wa).get' hj
   rw [W4 hd] at q
   exact q1t (x:=x) hkk hk (u7 hni) ok db r' kp ad q λ φ2 σ2 H2 δ2 r2 kp2 q2=>⟨φ2,δ2,r2,kp2,q2⟩
  ·rintro σ' H' ⟨φ',δ',r',kp,q⟩
   rw [hl,N1i,q0F] at q
   exact q φ' σ' H' r' kp
 ·have hl:(rangeD lo n).length=n:=by unfold rangeD;rw [N01,N17]
  refine q3x (lo:=lo) (n:=n) (λ j σ' H'=>∃ φ' δ',Rs X.K C κ φ' σ' H' δ'/\Kp (Fo φ) H1 (Fo φ') H'/\FinS X.K C L κ (Fo φ) H1 D (v4 i fg gb ((rangeD lo n).drop j) δ'))
   ⟨φ,_,r1,Kp.refl,Y0 kp1 p⟩ ?_ ?_
  ·rintro j σ' H' hj ⟨φ',δ',r',kp,q⟩
   have hd:(rangeD lo n)[j]? = some (.int (lo+(j:Int))):=by unfold rangeD;rw [N0i,N1k hj];rfl
   rw [W4 hd] at q
   exact q1t (x:=x) hkk hk (u7 hni) ok db r' kp (by rw [At]) q λ φ2 σ2 H2 δ2 r2 kp2 q2=>⟨φ2,δ2,r2,kp2,q2⟩
  ·rintro σ' H' ⟨φ',δ',r',kp,q⟩
   rw [show (rangeD lo n).drop n=[] by rw [N1c];simp_all,q0F] at q
   exact q φ' σ' H' r' kp
 ·have hl:(signsD z).length=z.cps.size:=by unfold signsD;rw [N01,N0g]
  refine q7i (z:=z) (λ j σ' H'=>∃ φ' δ',Rs X.K C κ φ' σ' H' δ'/\Kp (Fo φ) H1 (Fo φ') H'/\FinS X.K C L κ (Fo φ) H1 D (v4 i fg gb ((signsD z).drop j) δ'))
   ⟨φ,_,r1,Kp.refl,Y0 kp1 p⟩ ?_ ?_
  ·rintro j c σ' H' hj ⟨φ',δ',r',kp,q⟩
   have hd:(signsD z)[j]? = some (.str ⟨#[c]⟩):=by unfold signsD;rw [N0i,Array.getElem?_toList,hj];rfl
   rw [W4 hd] at q
   exact q1t (x:=x) hkk hk (u7 hni) ok db r' kp (by rw [At]) q λ φ2 σ2 H2 δ2 r2 kp2 q2=>⟨φ2,δ2,r2,kp2,q2⟩
  ·rintro σ' H' ⟨φ',δ',r',kp,q⟩
   rw [show (signsD z).drop z.cps.size=[] by rw [N1c];simp_all,q0F] at q
   exact q φ' σ' H' r' kp
end
theorem q4E (k:Ky):∀ (ks:List Ky) (vs:List V),q6g (ks.zip vs) k=valD k ks vs
 | [],_=>rfl
 | _::_,[]=>rfl
 | x::ks,v::vs=>by
  rw [List.zip_cons_cons,valD]
  by_cases e:x=k
  ·rw [q1q (p:=(x,v)) e,N0j e]
  ·rw [q1r (p:=(x,v)) e,N0l e,q4E k ks vs]
theorem q4F (k:Ky):∀ (ks:List Ky) (vs:List V),ks.length=vs.length->((ks.zip vs).any λ kv=>decide (kv.1=k))=ks.any λ x=>decide (x=k)
 | [],_,_=>rfl
 | _::_,[],h=>by simp at h
 | x::ks,v::vs,h=>by
  rw [List.zip_cons_cons,N1j,N1j,q4F k ks vs (by simpa using h)]
theorem q4G (k:Ky) (v:V):∀ (ks:List Ky) (vs:List V),((ks.zip vs).map λ kv=>if kv.1=k then (kv.1,v) else kv)=ks.zip (setK k v ks vs)
 | [],_=>rfl
 | _::_,[]=>by rw [List.zip_nil_right];rfl
 | x::ks,u::vs=>by
  rw [List.zip_cons_cons,N09,setK,List.zip_cons_cons,q4G k v ks vs]
  by_cases e:x=k
  ·rw [N0j (show (x,u).1=k from e),N0j e]
  ·rw [N0l (show ¬ (x,u).1=k from e),N0l e]
section
variable {K:PySem.W.Frag}{cl:Nat->Addr}{H H':Hp}{S S':Addr->Prop}
theorem Ats.val {k:Ky}:∀ {ks:List Ky}{vs:List V}{ds:List D}{d:D},Ats K cl H S vs ds->valD k ks ds=some d->∃ v,valD k ks vs=some v/\At K cl H S v d
 | [],_,_,_,_,e=>by cases e
 | _::_,[],[],_,_,e=>by cases e
 | x::ks,v::vs,y::ds,d,a,e=>by
  rw [Ats] at a
  rw [valD] at e
  rw [valD]
  by_cases q:x=k
  ·rw [N0j q] at e ⊢
   cases e
   exact ⟨v,rfl,a.1⟩
  ·rw [N0l q] at e ⊢
   exact Ats.val a.2 e
 | _::_,[],_::_,_,z,_=>by rw [Ats] at z;exact z.elim
 | _::_,_::_,[],_,z,_=>by rw [Ats] at z;exact z.elim
theorem Ats.setK {k:Ky}{v:V}{d:D}(h:At K cl H S v d):∀ {ks:List Ky}{vs:List V}{ds:List D},Ats K cl H S vs ds->Ats K cl H S (setK k v ks vs) (setK k d ks ds)
 | [],_,_,a=>by rw [Dl.setK,Dl.setK];exact a;all_goals simp
 | _::_,[],[],a=>by rw [Dl.setK,Dl.setK];exact a;all_goals simp
 | x::ks,u::vs,y::ds,a=>by
  rw [Ats] at a
  rw [Dl.setK,Dl.setK]
  refine Ats.cons ?_ (Ats.setK h a.2)
  by_cases q:x=k
  ·rw [N0j q,N0j q];exact h
  ·rw [N0l q,N0l q];exact a.1
 | _::_,[],_::_,z=>by rw [Ats] at z;exact z.elim
 | _::_,_::_,[],z=>by rw [Ats] at z;exact z.elim
end
theorem q2V {α:Type}(k:Ky) (v:α):∀ (ks:List Ky) (vs:List α),(setK k v ks vs).length=vs.length
 | [],vs=>by rw [setK];simp
 | _::_,[]=>by rw [setK];simp
 | x::ks,u::vs=>by rw [setK,N0h,N0h,q2V k v ks vs]
section
variable {X:Cx}
theorem q7F:OpR X (binaryOp .Add) (λ x y H Q=>∃ l b xs zs,x=.ref l/\y=.ref b/\Rd H l (.lst xs)/\Rd H b (.lst zs)/\xs.length+zs.length<=sizeLine/\∀ p,H p=none->Q (.ref p) (upd H p (.lst (xs++zs)))):=by
 intro pins s σ H x y v u Q I rx ry h
 obtain ⟨l,b,xs,zs,rfl,rfl,hH,hB,hz,q⟩:=h
 cases rx
 cases ry
 obtain ⟨z,its,n,r,e⟩:=hH.ok I.hok
 obtain ⟨z2,its2,n2,r2,e2⟩:=hB.ok I.hok
 have hl:=r.length
 have hl2:=r2.length
 refine PySem.P.add_list e e2 ?_ (by rw [N0m,N0m];simp_all)
 have ea:its.toArray++its2.toArray=(its++its2).toArray:=by simp
 rw [ea]
 exact ⟨.ref _,_,I.lnew (t':=s.toks) (r.append r2) (by rw [N06];omega),rfl,q _ I.fresh⟩
end
section
variable {X:Cx}{C:Dc}{L:List Kd×List Nat}{κ κ' κ1 κ2:List Kd}{st:Stmt}{sts:List Stmt}{g g1 g2 gb:GS}{ge gk:GE}{tA:GT}{e:Expr}{fr fk:Bool}{pos:Pos}{F F1:Addr->Prop}{H H1:Hp}
theorem Rs.write {K:PySem.W.Frag}{φ:Nat->List Addr}{σ:St}{H:Hp}{δ:DS}{i:Nat}{k:Kd}{a:Addr}{o o':HO}{v:V}{d d':D}(r:Rs K C κ φ σ H δ) (ho:k=.o\/k=.i) (hk:κ[i]? = some k) (hv:σ[i]? = some (some v)) (hd:δ[i]? = some (some d)) (ha:a∈φ i) (hH:H a=some o) (nt:∀ xs,o≠.tup xs)
 (hs:Own K C.cl (upd H a o') (Sk C (Fo φ) .s) (φ i) v d'):Rs K C κ φ σ (upd H a o') (δ.set i (some d'))/\Kp (Fo φ) H (Fo φ) (upd H a o'):=by
 have fa:Fo φ a:=⟨i,ha⟩
 have ex:∀ b,H b≠none->upd H a o' b≠none:=λ b h=>by
  by_cases e:b=a
  ·subst e;rw [Z0];exact λ z=>by cases z
  ·rw [Z2 e];exact h
 have kp:Kp (Fo φ) H (Fo φ) (upd H a o'):=⟨λ b u e n=>by rw [Z2 (λ z=>n (by rw [z];exact fa))];exact e,λ b xs e=>by
  rw [Z2];exact e
  intro z;subst z;rw [hH] at e;exact nt xs (N0b e),λ b f=>.inl f,ex⟩
 refine ⟨⟨λ j x e=>?_,r.dj,λ b f=>ex b (r.ow b f),r.fi,λ b u e x=>?_,λ b x=>ex b (r.xo b x),λ b xs e=>kp.tk b xs (r.tk b xs e),r.ii,by rw [N1h];exact r.len⟩,kp⟩
 ·rcases get_set e with ⟨rfl,e,hlt⟩ | ⟨ne,e⟩
  ·cases e
   refine ⟨v,k,hv,hk,?_⟩
   obtain ⟨v',k',h1,h2,h3⟩:=r.sl i d hd
   rw [hk] at h2
   cases h2
   rcases ho with rfl | rfl
   ·exact ⟨hs,h3.2⟩
   ·exact hs
  ·obtain ⟨u,k',h1,h2,h3⟩:=r.sl j x e
   refine ⟨u,k',h1,h2,h3.mono kp λ b m u' e'=>?_⟩
   rw [Z2];exact e'
   intro z;subst z;exact ne (r.dj i j b ha m)
 ·rw [Z2];exact r.fr b u e x
  intro z
  subst z
  rcases r.fi b fa with q | q
  ·rw [q] at e;cases e
  ·exact x q
theorem Rs.own {K:PySem.W.Frag}{φ:Nat->List Addr}{σ:St}{H:Hp}{δ:DS}{i:Nat}{k:Kd}{d:D}(r:Rs K C κ φ σ H δ) (ho:k=.o\/k=.i) (hk:κ[i]? = some k) (hd:δ[i]? = some (some d)):∃ v,σ[i]? = some (some v)/\Own K C.cl H (Sk C (Fo φ) .s) (φ i) v d:=by
 obtain ⟨v,k',h1,h2,h3⟩:=r.sl i d hd
 rw [hk] at h2
 cases h2
 rcases ho with rfl | rfl
 ·exact ⟨v,h1,h3.1⟩
 ·exact ⟨v,h1,h3⟩
theorem q2W {K:PySem.W.Frag}{φ:Nat->List Addr}{H:Hp}{a:Addr}{i:Nat}{o o':HO}{vs:List V}{ds:List D}(fa:a∈φ i) (hl:φ i=[a]) (hH:H a=some o) (nt:∀ xs,o≠.tup xs) (w:Ats K C.cl H (Sk C (Fo φ) .s) vs ds):Ats K C.cl (upd H a o') (λ b=>Sk C (Fo φ) .s b/\b∉φ i) vs ds :=
 w.mono (λ b xs e=>by
  rw [Z2];exact e
  intro z;subst z;rw [hH] at e;exact nt xs (N0b e)) (λ b u z e=>by rw [Z2 (λ q=>z.2 ⟨i,by rw [q];exact fa⟩)];exact e) λ b z o_=>⟨z,λ m=>z.2 ⟨i,m⟩⟩
set_option tactic.hygienic true in
theorem q7G (i:Nat){x:Str}{k:Kd}{p1 apos cpos:Pos}(ho:k=.o\/k=.i) (hk:κ[i]? = some k) (h:DE X C κ .s fr e ge) (hN:X.N[i]? = some x:=by rfl) (hv:Vis X.env.scope x:=by first | exact N0k rfl | exact N0r (N0k rfl) | exact N0r (N0r rfl)) (hd:(x==("__debug__" : Str))=false:=by decide)
 (hcd:(x==("__classdict__" : Str))=false:=by decide)
 (hbase:attributeBase (.Name x p1) "append" X.env (eval (.Name x p1) X.env)=eval (.Name x p1) X.env:=by rfl)
 (hfew:((backTo cpos (starEach [e] X.env)).all (λ x=>!x.1)&&(backToKw cpos (keywordEach [] X.env)).all (λ x=>x.1.isSome)
  && decide ([e].length+([]:List Keyword).length+(if ([]:List Keyword).isEmpty then 0 else 1)<30))=true:=by rfl)
 (hline:(apos.endLine==cpos.line)=true:=by rfl) (hs:starEach [e] X.env=(false,eval e X.env)::starEach [] X.env:=by rfl) (hplain:(backTo cpos (starEach [] X.env)).any (·.1)=false:=by rfl)
 (hsw:swapsWith (.Call (.Attribute (.Name x p1) "append" apos) [e] [] cpos) none pos.line X.env=pure false:=by rfl) :
 DSt X C L κ κ (.Expr (.Call (.Attribute (.Name x p1) "append" apos) [e] [] cpos) pos) (q9m i ge):=by
 obtain ⟨t,pt,dt⟩:=h
 refine ⟨_,q1A (z2E PySem.F.plainAttrs_list PySem.F.slot_list_append PySem.F.type_list_append q73 (X7 hN hv hd hcd) (W3 pt q0B hs) hbase hfew hline hs hplain) hsw,λ φ σ H δ r D p=>?_⟩
 obtain ⟨d,e1,p⟩:=j3 (T:=FinS X.K C L κ (Fo φ) H D) (λ o_ o_ q=>q) (λ q=>q) p
 split at p
 ·rename_i xs q
  obtain ⟨hz,p⟩:=Q0 (T:=FinS X.K C L κ (Fo φ) H D) (λ z=>z) p
  obtain ⟨v,hvv,a,vs,rfl,hl,hH,w⟩:=r.own ho hk q
  refine ⟨.ref a,hvv,.inl ⟨rfl,vs,SqL.of hH⟩,dt (Fo φ) σ H δ r.rx _ ?_⟩
  rw [e1]
  intro u H1 s1 a1 _
  have r1:=r.same s1
  have hH1:=s1 _ _ hH
  have ha:a∈φ i:=by rw [hl];exact N00
  refine ⟨a,vs,u,rfl,rfl,hH1,by rw [w.length];exact hz,?_⟩
  have nt:∀ xs,HO.lst vs≠.tup xs:=λ o_ z=>by cases z
  have w1:Ats X.K C.cl H1 (Sk C (Fo φ) .s) (vs++[u]) (xs++[d]):=((w.same s1).sub λ b z o_=>z.1).append (Ats.cons a1 Ats.nil)
  obtain ⟨r2,kp⟩:=r1.write (o':=.lst (vs++[u])) (d':=.lst (xs++[d])) ho hk hvv q ha hH1 nt ⟨a,vs++[u],rfl,hl,Z0,q2W ha hl hH1 nt w1⟩
  exact p φ σ _ r2 ((Kp.of s1 λ a f=>.inl f).trans kp)
 ·exact p.elim
theorem z57 {t1 t2:TS}(h1:PS X st t1) (h2:PS X st t2):PS X st (λ D σ H=>t1 D σ H\/t2 D σ H):=by
 intro pins s σ H D I h
 rcases h with h | h
 ·exact h1 pins s σ H D I h
 ·exact h2 pins s σ H D I h
theorem q7H {K:PySem.W.Frag}{cl:Nat->Addr}{H:Hp}{S:Addr->Prop}{v:V}{d:D}{k:Ky}(a:At K cl H S v d) (e:keyD d=some k):v=kV k:=by
 cases d with
 | int i=>rw [At] at a;cases e;exact a
 | str x=>rw [At] at a;cases e;exact a
 | _=>cases e
set_option tactic.hygienic true in
theorem q7I (i:Nat){x:Str}{k:Kd}{ek:Expr}{p1 pos':Pos}(ho:k=.o\/k=.i) (hk:κ[i]? = some k) (hu:X.A.units+64<cLine) (hkey:DE X C κ .v fk ek gk) (h:DE X C κ .s fr e ge) (hN:X.N[i]? = some x:=by rfl) (hv:Vis X.env.scope x:=by first | exact N0k rfl | exact N0r (N0k rfl) | exact N0r (N0r rfl)) (hd:(x==("__debug__" : Str))=false:=by decide)
 (hcd:(x==("__classdict__" : Str))=false:=by decide) (hs:swapsWith e (some (.Subscript (.Name x p1) ek pos')) pos.line X.env=pure false:=by rfl)
 (hs1:swapsWithSole [.Subscript (.Name x p1) ek pos'] e pos.line X.env=pure false:=by rfl) (hw:swappedStores [.Subscript (.Name x p1) ek pos'] e X.env=pure none:=by rfl)
 (h1:(assignEach [.Subscript (.Name x p1) ek pos'] X.env).map (·.2)=[assign (.Subscript (.Name x p1) ek pos') X.env]:=by rfl)
 (has:∀ v,assign (.Subscript (.Name x p1) ek pos') X.env v=(do
  let ov <- holding [v] (eval (.Name x p1) X.env)
  let iv <- holding [v,ov] (eval ek X.env)
  standAt pos'
  holding [v,ov,iv] (setItem ov iv v)
  release [v,ov,iv] []):=by intro _;rfl) :
 DSt X C L κ κ (.Assign [.Subscript (.Name x p1) ek pos'] e pos) (z26 i gk ge):=by
 obtain ⟨t,pt,dt⟩:=h
 obtain ⟨u,pu,du⟩:=hkey
 refine ⟨_,z57 (q79 (by lia) (X7 hN hv hd hcd) pu pt hs) (z03 pt (z2q (X7 hN hv hd hcd) pu q98 has) hs1 hw h1),λ φ σ H δ r D p=>?_⟩
 obtain ⟨d,e1,p⟩:=j3 (T:=FinS X.K C L κ (Fo φ) H D) (λ o_ o_ q=>q) (λ q=>q) p
 obtain ⟨dk,e2,p⟩:=j3 (T:=FinS X.K C L κ (Fo φ) H D) (λ o_ o_ q=>q) (λ q=>q) p
 split at p
 ·rename_i dx q
  obtain ⟨y,e3,p⟩:=j3 (T:=FinS X.K C L κ (Fo φ) H D) (λ o_ o_ q=>q) (λ q=>q) p
  cases dx with
  | dct ks ds =>
   have e3:(match keyD dk with | some k=>Rz.guard (ks.length<sizeLine) (.ok (putD ks ds k d)) | none=>.un)=.ok y:=e3
   cases ek':keyD dk with
   | none=>rw [ek'] at e3;cases e3
   | some kk =>
    rw [ek'] at e3
    obtain ⟨hz,e3⟩:=Q0 (T:=λ r=>r=Rz.ok y) (λ z=>by cases z) e3
    cases e3
    obtain ⟨v,hvv,a,vs,rfl,hl,hH,kl,w⟩:=r.own ho hk q
    have ha:a∈φ i:=by rw [hl];exact N00
    refine .inl (dt (Fo φ) σ H δ r.rx _ ?_)
    rw [e1]
    intro vv H1 s1 a1 _
    refine ⟨.ref a,hvv,du (Fo φ) σ H1 δ (r.same s1).rx _ ?_⟩
    rw [e2]
    intro vk H2 s2 a2 _
    have hvk:=q7H a2 ek'
    subst hvk
    have s12:=s1.trans s2
    have r2:=r.same s12
    have hH2:=s12 _ _ hH
    have wl:=w.length
    refine ⟨a,_,rfl,z23.k (k:=kk) hH2 (by rw [List.length_zip,kl,wl,Nat.min_self,<- kl];exact hz),?_⟩
    have nt:∀ xs,HO.dK (ks.zip vs)≠.tup xs:=λ o_ z=>by cases z
    have w2:=(w.same s12).sub (S':=Sk C (Fo φ) .s) λ b z o_=>z.1
    have a1':=a1.same s2
    have own:Own X.K C.cl (upd H2 a (.dK (putK (ks.zip vs) kk vv))) (Sk C (Fo φ) .s) (φ i) (.ref a) (putD ks ds kk d):=by
     unfold putD putK
     rw [q4F kk ks vs (by simp_all)]
     by_cases c:(ks.any λ x=>decide (x=kk))=true
     ·rw [N0j c,N0j c,q4G]
      exact ⟨a,_,rfl,hl,Z0,by rw [q2V];exact kl,q2W ha hl hH2 nt (w2.setK a1')⟩
     ·rw [N0l c,N0l c]
      refine ⟨a,vs++[vv],rfl,hl,?_,by rw [N06,N06,kl];rfl,q2W ha hl hH2 nt (w2.append (Ats.cons a1' Ats.nil))⟩
      rw [Z0,List.zip_append (by simp_all)]
      rfl
    obtain ⟨r3,kp⟩:=r2.write ho hk hvv q ha hH2 nt own
    exact p φ σ _ r3 ((Kp.of s12 λ a f=>.inl f).trans kp)
  | lst xs =>
   cases dk with
   | int j =>
    have e3:(match ixD xs.length j with | some n=>Rz.ok (Dl.D.lst (xs.set n d)) | none=>.un)=.ok y:=e3
    cases ej:ixD xs.length j with
    | none=>rw [ej] at e3;cases e3
    | some n =>
     rw [ej] at e3
     cases e3
     obtain ⟨v,hvv,a,vs,rfl,hl,hH,w⟩:=r.own ho hk q
     have ha:a∈φ i:=by rw [hl];exact N00
     refine .inr (dt (Fo φ) σ H δ r.rx _ ?_)
     rw [e1]
     intro vv H1 s1 a1 _
     refine ⟨.ref a,hvv,du (Fo φ) σ H1 δ (r.same s1).rx _ ?_⟩
     rw [e2]
     intro vk H2 s2 a2 _
     rw [At] at a2
     subst a2
     have s12:=s1.trans s2
     have r2:=r.same s12
     have hH2:=s12 _ _ hH
     have wl:=w.length
     refine ⟨a,vs,j,n,rfl,rfl,hH2,by rw [wl];exact ej,?_⟩
     have nt:∀ xs,HO.lst vs≠.tup xs:=λ o_ z=>by cases z
     have w2:=((w.same s12).sub (S':=Sk C (Fo φ) .s) λ b z o_=>z.1).set (a1.same s2) n
     obtain ⟨r3,kp⟩:=r2.write (o':=.lst (vs.set n vv)) (d':=.lst (xs.set n d)) ho hk hvv q ha hH2 nt ⟨a,_,rfl,hl,Z0,q2W ha hl hH2 nt w2⟩
     exact p φ σ _ r3 ((Kp.of s12 λ a f=>.inl f).trans kp)
   | _=>cases e3
  | _=>cases e3
 ·exact p.elim
end
end Dl
namespace Dl
open PySem L2 PyProof.Rows
theorem OpR.or {X:Cx}{f:Value->Value->Sem Value}{r r':R2}(h:OpR X f r) (h':OpR X f r'):OpR X f (λ x y H Q=>r x y H Q\/r' x y H Q):=by
 intro pins s σ H x y v u Q I rx ry q
 rcases q with q | q
 ·exact h pins s σ H x y v u Q I rx ry q
 ·exact h' pins s σ H x y v u Q I rx ry q
theorem X8.or {X:Cx}{f:Value}{r r':List V->Hp->VK->Prop}(h:X8 X f r) (h':X8 X f r'):X8 X f (λ xs H Q=>r xs H Q\/r' xs H Q):=by
 intro pins s σ H xs us Q I rs q
 rcases q with q | q
 ·exact h pins s σ H xs us Q I rs q
 ·exact h' pins s σ H xs us Q I rs q
section
variable {X:Cx}{C:Dc}{K:PySem.W.Frag}{cl:Nat->Addr}
theorem z58 {α:Type}{a:α}:¬ (Rz.un=Rz.ok a):=λ z=>by cases z
theorem X4 {α:Type}{c:Prop} [Decidable c] {r:Rz α}{a:α}(h:Rz.guard c r=.ok a):c/\r=.ok a:=Q0 (T:=λ r=>r=Rz.ok a) z58 h
theorem j9:OpS K cl (λ x y H Q=>rI0 (λ i j=>.int (i+j)) x y H Q\/∃ i j,x=.str i/\y=.str j/\i.length+j.length<=sizeLine/\Q (.str (i++j)) H) dAddS:=by
 intro H S x y dx dy Q ax ay p
 cases dx with
 | int i=>cases dy with
  | int j=>rw [At] at ax ay;subst ax ay;exact .inl ⟨i,j,rfl,rfl,p.2 _ H (Same.refl H) λ o_=>by rw [At]⟩
  | _=>exact p.elim
 | str i=>cases dy with
  | str j =>
   rw [At] at ax ay;subst ax ay
   by_cases h:i.length+j.length<=sizeLine
   ·simp only [dAddS,w9 h] at p
    exact .inr ⟨i,j,rfl,rfl,h,p.2 _ H (Same.refl H) λ o_=>by rw [At]⟩
   ·simp only [dAddS,Rz.guard,N0l h] at p
  | _=>exact p.elim
 | _=>exact p.elim
theorem q2s {f:Int->Int->Rz D}(h:∀ i j d,f i j=.ok d->d.imm=true):∀ (x y:D) (d:D),(match x,y with | .int i,.int j=>f i j | _,_=>(.un:Rz D))=.ok d->d.imm=true:=λ x y d q=>by
 cases x with
 | int i=>cases y with
  | int j=>exact h i j d q
  | _=>cases q
 | _=>cases q
theorem q4H {f:Int->Int->Rz D}{g:Str->Str->Rz D}(h:∀ i j d,f i j=.ok d->d.imm=true) (k:∀ i j d,g i j=.ok d->d.imm=true):∀ (x y:D) (d:D),(match x,y with | .int i,.int j=>f i j | .str i,.str j=>g i j | _,_=>(.un:Rz D))=.ok d->d.imm=true:=λ x y d q=>by
 cases x with
 | int i=>cases y with
  | int j=>exact h i j d q
  | _=>cases q
 | str i=>cases y with
  | str j=>exact k i j d q
  | _=>cases q
 | _=>cases q
theorem q0G {a d:D}(i:a.imm=true) (h:Rz.ok a=.ok d):d.imm=true:=by
 cases h;exact i
theorem q2X {p:Prop} [Decidable p] {a d:D}(i:a.imm=true) (h:Rz.guard p (.ok a)=.ok d):d.imm=true:=q0G i (X4 h).2
theorem j5:∀ x y d,dAddS x y=.ok d->d.imm=true:=q4H (λ o_ o_ o_=>q0G rfl) λ o_ o_ o_=>q2X rfl
theorem u4:OpD K cl (λ x y H Q=>(rI0 (λ i j=>.int (i+j)) x y H Q\/∃ i j,x=.str i/\y=.str j/\i.length+j.length<=sizeLine/\Q (.str (i++j)) H) \/
 (∃ l b xs zs,x=.ref l/\y=.ref b/\Rd H l (.lst xs)/\Rd H b (.lst zs)/\xs.length+zs.length<=sizeLine/\∀ p,H p=none->Q (.ref p) (upd H p (.lst (xs++zs))))\/z0V K x y H Q) dAdd:=by
 intro H S x y dx dy Q cs ax ay p
 cases dx with
 | int i=>cases dy with
  | int j=>rw [At] at ax ay;subst ax ay;exact .inl (.inl ⟨i,j,rfl,rfl,p _ H (Same.refl H) (by rw [At]) (Nw.small rfl)⟩)
  | _=>exact p.elim
 | str i=>cases dy with
  | str j =>
   rw [At] at ax ay;subst ax ay
   obtain ⟨h,p⟩:=Q0 (T:=q3X K cl S H Q) (λ z=>z) p
   exact .inl (.inr ⟨i,j,rfl,rfl,h,p _ H (Same.refl H) (by rw [At]) (Nw.small rfl)⟩)
  | _=>exact p.elim
 | lst xs=>cases dy with
  | lst ys =>
   rw [At] at ax ay
   obtain ⟨a,vs,rfl,sa,ha,wa⟩:=ax
   obtain ⟨b,us,rfl,sb,hb,wb⟩:=ay
   obtain ⟨h,p⟩:=Q0 (T:=q3X K cl S H Q) (λ z=>z) p
   refine .inr (.inl ⟨a,b,vs,us,rfl,rfl,ha,hb,by rw [wa.length,wb.length];exact h,λ q hq=>?_⟩)
   obtain ⟨q1,q2⟩:=q1S hq (wa.append wb) (cs q hq)
   exact p _ _ (Z6 hq _) q1 q2
  | _=>exact p.elim
 | tup xs=>cases dy with
  | tup ys =>
   rw [At] at ax ay
   obtain ⟨a,vs,rfl,ha,wa⟩:=ax
   obtain ⟨b,us,rfl,hb,wb⟩:=ay
   obtain ⟨⟨h0,h⟩,p⟩:=Q0 (T:=q3X K cl S H Q) (λ z=>z) p
   have hne:vs≠[]:=λ z=>by
    have:=wa.length
    rw [z] at this
    cases xs with
    | nil=>exact h0 rfl
    | cons _ _=>simp at this
   refine .inr (.inr ⟨a,b,vs,us,rfl,rfl,SqT.of ha,SqT.of hb,hne,by rw [wa.length,wb.length];exact h,λ z=>?_,λ z q hq=>?_⟩)
   ·subst z
    have:ys=[]:=by have:=wb.length;cases ys with | nil=>rfl | cons _ _=>simp at this
    subst this
    refine p _ H (Same.refl H) ?_ (Nw.small rfl)
    rw [At]
    exact ⟨a,vs,rfl,ha,by rw [N10];exact wa⟩
   ·refine p _ _ (Z6 hq _) ?_ (Nw.small rfl)
    rw [At]
    exact ⟨q,vs++us,rfl,Z0,(wa.append wb).same (Z6 hq _)⟩
  | _=>exact p.elim
 | _=>exact p.elim
theorem q6q {r:R2}{p:D->D->Rz D}{G:Int->Int->Prop} [∀ i j,Decidable (G i j)] {f:Int->Int->V}{fd:Int->Int->D}(hf:∀ i j (H:Hp) S,At K cl H S (f i j) (fd i j)) (hr:∀ x y H Q,(∃ i j,x=V.int i/\y=V.int j/\G i j/\Q (f i j) H)->r x y H Q)
 (hp:∀ i j,p (.int i) (.int j)=.guard (G i j) (.ok (fd i j))) (hn:∀ x y,(∀ i j,¬ (x=D.int i/\y=D.int j))->p x y=.un):OpS K cl r p:=by
 intro H S x y dx dy Q ax ay z
 by_cases c:∃ i j,dx=D.int i/\dy=D.int j
 ·obtain ⟨i,j,rfl,rfl⟩:=c
  rw [At] at ax ay
  subst ax ay
  rw [hp] at z
  by_cases g:G i j
  ·rw [w9 g] at z
   exact hr _ _ _ _ ⟨i,j,rfl,rfl,g,z.2 _ H (Same.refl H) λ S'=>hf i j H S'⟩
  ·unfold Rz.guard at z
   rw [N0l g] at z
   exact z.elim
 ·rw [hn dx dy λ i j q=>c ⟨i,j,q.1,q.2⟩] at z
  exact z.elim
theorem q6r {x y:D}{p:D->D->Rz D}(h:∀ i j,¬ (x=D.int i/\y=D.int j)) (h1:∀ x y,(∀ i,x≠.int i)->p x y=.un) (h2:∀ i y,(∀ j,y≠.int j)->p (.int i) y=.un):p x y=.un:=by
 by_cases c:∃ i,x=D.int i
 ·obtain ⟨i,rfl⟩:=c
  exact h2 i y λ j q=>h i j ⟨rfl,q⟩
 ·exact h1 x y λ i q=>c ⟨i,q⟩
theorem q5y (i:Int) (H:Hp) (S:Addr->Prop):At K cl H S (.int i) (.int i):=by rw [At]
theorem z2Y (i:Bool) (H:Hp) (S:Addr->Prop):At K cl H S (.bl i) (.bl i):=by rw [At]
theorem q4I:OpS K cl (rI0 λ i j=>.int (i - j)) q9l:=by
 refine q6q (G:=λ o_ o_=>True) (f:=λ i j=>.int (i - j)) (fd:=λ i j=>.int (i - j)) (λ i j H S=>q5y _ H S) (λ x y H Q ⟨i,j,h1,h2,o1_,q⟩=>⟨i,j,h1,h2,q⟩) (λ i j=>(w9 trivial).symm) λ x y h=>q6r h (λ x y h=>?_) λ i y h=>?_
 ·cases x<;>first | rfl | exact absurd rfl (h _)
 ·cases y<;>first | rfl | exact absurd rfl (h _)
theorem q2Y:OpS K cl (rI z3V λ i j=>.int (i * j)) q8P:=by
 refine q6q (G:=λ i j=>(-(2 ^ 64)<i/\i<2 ^ 64)\/(-(2 ^ 64)<j/\j<2 ^ 64)) (f:=λ i j=>.int (i * j)) (fd:=λ i j=>.int (i * j)) (λ i j H S=>q5y _ H S) (λ x y H Q ⟨i,j,h1,h2,g,q⟩=>⟨i,j,h1,h2,g,q⟩) (λ i j=>rfl) λ x y h=>q6r h (λ x y h=>?_) λ i y h=>?_
 ·cases x<;>first | rfl | exact absurd rfl (h _)
 ·cases y<;>first | rfl | exact absurd rfl (h _)
theorem Y1:OpS K cl (rI z6x λ i j=>.int (i / j)) q2n:=by
 refine q6q (G:=λ i j=>0<j/\j<1073741824) (f:=λ i j=>.int (i / j)) (fd:=λ i j=>.int (i / j)) (λ i j H S=>q5y _ H S) (λ x y H Q ⟨i,j,h1,h2,g,q⟩=>⟨i,j,h1,h2,g,q⟩) (λ i j=>rfl) λ x y h=>q6r h (λ x y h=>?_) λ i y h=>?_
 ·cases x<;>first | rfl | exact absurd rfl (h _)
 ·cases y<;>first | rfl | exact absurd rfl (h _)
theorem Z8:OpS K cl (rI (λ o_ j=>0<j) λ i j=>.int (i % j)) dMod:=by
 refine q6q (G:=λ i j=>0<j) (f:=λ i j=>.int (i % j)) (fd:=λ i j=>.int (i % j)) (λ i j H S=>q5y _ H S) (λ x y H Q ⟨i,j,h1,h2,g,q⟩=>⟨i,j,h1,h2,g,q⟩) (λ i j=>rfl) λ x y h=>q6r h (λ x y h=>?_) λ i y h=>?_
 ·cases x<;>first | rfl | exact absurd rfl (h _)
 ·cases y<;>first | rfl | exact absurd rfl (h _)
theorem q2t:OpS K cl (rI0 λ i j=>.bl (decide (i<j))) dLt:=by
 refine q6q (G:=λ o_ o_=>True) (f:=λ i j=>.bl (decide (i<j))) (fd:=λ i j=>.bl (decide (i<j))) (λ i j H S=>z2Y _ H S) (λ x y H Q ⟨i,j,h1,h2,o1_,q⟩=>⟨i,j,h1,h2,q⟩) (λ i j=>(w9 trivial).symm) λ x y h=>q6r h (λ x y h=>?_) λ i y h=>?_
 ·cases x<;>first | rfl | exact absurd rfl (h _)
 ·cases y<;>first | rfl | exact absurd rfl (h _)
theorem z0e:OpS K cl (λ x y H Q=>rI0 (λ i j=>.bl (decide (i<=j))) x y H Q\/∃ i j,x=.str i/\y=.str j/\Q (.bl (!decide (j.cps.toList<i.cps.toList))) H) dLe:=by
 intro H S x y dx dy Q ax ay p
 cases dx with
 | int i=>cases dy with
  | int j=>rw [At] at ax ay;subst ax ay;exact .inl ⟨i,j,rfl,rfl,p.2 _ H (Same.refl H) λ o_=>by rw [At]⟩
  | _=>exact p.elim
 | str i=>cases dy with
  | str j=>rw [At] at ax ay;subst ax ay;exact .inr ⟨i,j,rfl,rfl,p.2 _ H (Same.refl H) λ o_=>by rw [At]⟩
  | _=>exact p.elim
 | _=>exact p.elim
theorem z0f:OpR X (compareOp .LtE) (λ x y H Q=>rI0 (λ i j=>.bl (decide (i<=j))) x y H Q\/∃ i j,x=.str i/\y=.str j/\Q (.bl (!decide (j.cps.toList<i.cps.toList))) H):=OpR.or z4M q7j
theorem v6:OpS K cl (rI0 λ i j=>.bl (decide (j<i))) dGt:=by
 refine q6q (G:=λ o_ o_=>True) (f:=λ i j=>.bl (decide (j<i))) (fd:=λ i j=>.bl (decide (j<i))) (λ i j H S=>z2Y _ H S) (λ x y H Q ⟨i,j,h1,h2,o1_,q⟩=>⟨i,j,h1,h2,q⟩) (λ i j=>(w9 trivial).symm) λ x y h=>q6r h (λ x y h=>?_) λ i y h=>?_
 ·cases x<;>first | rfl | exact absurd rfl (h _)
 ·cases y<;>first | rfl | exact absurd rfl (h _)
theorem z0g:OpS K cl (λ x y H Q=>rI0 (λ i j=>.bl (decide (j<=i))) x y H Q\/∃ i j,x=.str i/\y=.str j/\Q (.bl (!decide (i.cps.toList<j.cps.toList))) H) dGe:=by
 intro H S x y dx dy Q ax ay p
 cases dx with
 | int i=>cases dy with
  | int j=>rw [At] at ax ay;subst ax ay;exact .inl ⟨i,j,rfl,rfl,p.2 _ H (Same.refl H) λ o_=>by rw [At]⟩
  | _=>exact p.elim
 | str i=>cases dy with
  | str j=>rw [At] at ax ay;subst ax ay;exact .inr ⟨i,j,rfl,rfl,p.2 _ H (Same.refl H) λ o_=>by rw [At]⟩
  | _=>exact p.elim
 | _=>exact p.elim
theorem z0h:OpR X (compareOp .GtE) (λ x y H Q=>rI0 (λ i j=>.bl (decide (j<=i))) x y H Q\/∃ i j,x=.str i/\y=.str j/\Q (.bl (!decide (i.cps.toList<j.cps.toList))) H):=OpR.or z4N q7k
theorem q4J:∀ x y d,q9l x y=.ok d->d.imm=true:=q2s λ o_ o_ o_=>q0G rfl
theorem q2Z:∀ x y d,q8P x y=.ok d->d.imm=true:=q2s λ o_ o_ o_=>q2X rfl
theorem Y2:∀ x y d,q2n x y=.ok d->d.imm=true:=q2s λ o_ o_ o_=>q2X rfl
theorem Z9:∀ x y d,dMod x y=.ok d->d.imm=true:=q2s λ o_ o_ o_=>q2X rfl
theorem q2u:∀ x y d,dLt x y=.ok d->d.imm=true:=q2s λ o_ o_ o_=>q0G rfl
theorem z0i:∀ x y d,dLe x y=.ok d->d.imm=true:=q4H (λ o_ o_ o_=>q0G rfl) λ o_ o_ o_=>q0G rfl
theorem v7:∀ x y d,dGt x y=.ok d->d.imm=true:=q2s λ o_ o_ o_=>q0G rfl
theorem z0j:∀ x y d,dGe x y=.ok d->d.imm=true:=q4H (λ o_ o_ o_=>q0G rfl) λ o_ o_ o_=>q0G rfl
theorem z0k {H:Hp}{S:Addr->Prop}{vs:List V}{ds:List D}{i:Int}{d:D}(w:Ats K cl H S vs ds) (e:atD ds i=some d):∃ v,atI vs i=some v/\At K cl H S v d:=by
 unfold atD at e
 unfold atI
 rw [w.length]
 show ∃ v,(ixD ds.length i).bind (λ j=>vs[j]?)=some v/\_
 cases q:ixD ds.length i with
 | none=>rw [q] at e;cases e
 | some j =>
  rw [q] at e
  exact w.get e
theorem z59 {H:Hp}{S:Addr->Prop}{x y:V}{dx dy:D}{Q:VK}(nd:∀ ks ds,dx≠.dct ks ds) (ax:At K cl H S x dx) (ay:At K cl H (λ o_=>True) y dy) (p:match dIx dx dy with | .ok d=>∀ v,At K cl H S v d->Q v H | _=>False):rIx K x y H Q:=by
 cases dx with
 | lst xs=>cases dy with
  | int i =>
   rw [At] at ax
   rw [At] at ay
   obtain ⟨a,vs,rfl,sa,ha,w⟩:=ax
   subst ay
   have p:match optR (atD xs i) with | .ok d=>∀ v,At K cl H S v d->Q v H | _=>False:=p
   cases e:atD xs i with
   | none=>rw [e] at p;exact p.elim
   | some d =>
    rw [e] at p
    obtain ⟨v,h1,h2⟩:=z0k w e
    exact .inl ⟨a,vs,i,v,rfl,rfl,.inl ha,h1,p v h2⟩
  | _=>exact p.elim
 | tup xs=>cases dy with
  | int i =>
   rw [At] at ax
   rw [At] at ay
   obtain ⟨a,vs,rfl,ha,w⟩:=ax
   subst ay
   have p:match optR (atD xs i) with | .ok d=>∀ v,At K cl H S v d->Q v H | _=>False:=p
   cases e:atD xs i with
   | none=>rw [e] at p;exact p.elim
   | some d =>
    rw [e] at p
    obtain ⟨v,h1,h2⟩:=z0k w e
    exact .inr (.inl ⟨a,vs,i,v,rfl,rfl,SqT.of ha,h1,p v h2⟩)
  | _=>exact p.elim
 | str z=>cases dy with
  | int i =>
   rw [At] at ax
   rw [At] at ay
   subst ax ay
   have p:match Rz.guard (z.length<=sizeLine) ((optR (atD z.cps.toList i)).bind λ c=>.ok (.str ⟨#[c]⟩)) with | .ok d=>∀ v,At K cl H S v d->Q v H | _=>False:=p
   by_cases hz:z.length<=sizeLine
   ·rw [w9 hz] at p
    cases e:atD z.cps.toList i with
    | none=>rw [e] at p;exact p.elim
    | some c =>
     rw [e] at p
     exact .inr (.inr ⟨z,i,c,rfl,rfl,hz,e,p _ (by rw [At])⟩)
   ·unfold Rz.guard at p
    rw [N0l hz] at p
    exact p.elim
  | _=>exact p.elim
 | dct ks ds=>exact absurd rfl (nd ks ds)
 | _=>exact p.elim
theorem z5a {H:Hp}{S:Addr->Prop}{x y:V}{ks:List Ky}{ds:List D}{dy:D}{Q:VK}(ax:At K cl H S x (.dct ks ds)) (ay:At K cl H (λ o_=>True) y dy) (p:match dIx (.dct ks ds) dy with | .ok d=>∀ v,At K cl H S v d->Q v H | _=>False):∃ a v,x=.ref a/\q5p H a y (some v)/\Q v H:=by
 have fin:∀ k:Ky,y=kV k->(match optR (valD k ks ds) with | .ok d=>∀ v,At K cl H S v d->Q v H | _=>False)->∃ a v,x=.ref a/\q5p H a y (some v)/\Q v H:=λ k ey p=>by
  rw [At] at ax
  obtain ⟨a,vs,rfl,sa,ha,l,w⟩:=ax
  cases e:valD k ks ds with
  | none=>rw [e] at p;exact p.elim
  | some d =>
   rw [e] at p
   obtain ⟨v,h1,h2⟩:=w.val e
   refine ⟨a,v,rfl,?_,p v h2⟩
   rw [ey,<- h1,<- q4E]
   exact q5p.k ha
 cases dy with
 | int i=>rw [At] at ay;exact fin (.inl i) ay p
 | str i=>rw [At] at ay;exact fin (.inr i) ay p
 | _=>exact p.elim
section
variable {κ:List Kd}{m:Kd}{fr fa fb:Bool}{a b e:Expr}{es:List Expr}{ga gb ge:GE}{gs:GA}{pos p:Pos}
theorem z2Z {t1 t2:TE}(h1:PE X e t1) (h2:PE X e t2):PE X e (λ σ H Q=>t1 σ H Q\/t2 σ H Q):=by
 intro pins s σ H Q I h
 rcases h with h | h
 ·exact h1 pins s σ H Q I h
 ·exact h2 pins s σ H Q I h
theorem Q2 (hu:X.A.units+64<cLine) (ha:DE X C κ m fa a ga) (hb:DE X C κ .v fb b gb) (hs:q71 b) (hs2:z2H b):DE X C κ m false (.Subscript a b pos) (gOp dIx ga gb):=by
 obtain ⟨ta,pa,da⟩:=ha
 obtain ⟨tb,pb,db⟩:=hb
 refine ⟨_,z2Z (z2y z2B pa pb hs) (z0Y (by lia) pa pb hs2),λ F σ H δ rx Q z=>?_⟩
 obtain ⟨d1,e1,z⟩:=j3 (T:=Post X.K C F m false H Q) (λ o_ o_ q=>q) (λ q=>q) z
 obtain ⟨d2,e2,z⟩:=j3 (T:=Post X.K C F m false H Q) (λ o_ o_ q=>q) (λ q=>q) z
 have z2:∀ {H2:Hp},Same H H2->(match dIx d1 d2 with | .ok d=>∀ v,At X.K C.cl H2 (Sk C F m) v d->Q v H2 | _=>False):=λ {H2} s=>by
  cases q:dIx d1 d2 with
  | ok d=>rw [q] at z;exact λ w aw=>z w H2 s aw (λ z=>by cases z)
  | er c s=>rw [q] at z;exact z
  | un=>rw [q] at z;exact z
 by_cases isd:∃ ks ds,d1=.dct ks ds
 ·obtain ⟨ks,ds,rfl⟩:=isd
  refine .inr (da F σ H δ rx _ ?_)
  rw [e1]
  intro v H1 s1 a1 _
  refine db F σ H1 δ (rx.same s1) _ ?_
  rw [e2]
  intro u H2 s2 a2 _
  exact z5a (a1.same s2) (a2.sub λ o_ o_ o_=>trivial) (z2 (s1.trans s2))
 ·refine .inl (da F σ H δ rx _ ?_)
  rw [e1]
  intro v H1 s1 a1 _
  refine db F σ H1 δ (rx.same s1) _ ?_
  rw [e2]
  intro u H2 s2 a2 _
  exact z59 (λ ks ds q=>isd ⟨ks,ds,q⟩) (a1.same s2) (a2.sub λ o_ o_ o_=>trivial) (z2 (s1.trans s2))
theorem q0Y:DO X C κ none gON:=⟨_,z0T,λ F σ H δ rx Q z=>z H (Same.refl H)⟩
theorem q0Z (h:DE X C κ .v fa e ga):DO X C κ (some e) (gOI ga):=by
 obtain ⟨ta,pa,da⟩:=h
 refine ⟨_,z0U pa,λ F σ H δ rx Q z=>da F σ H δ rx _ ?_⟩
 obtain ⟨d1,e1,z⟩:=j3 (T:=z2S H Q) (λ o_ o_ q=>q) (λ q=>q) z
 rw [e1]
 intro v H1 s1 a1 _
 cases d1 with
 | int i=>rw [At] at a1;exact ⟨i,a1,z H1 s1⟩
 | _=>exact z.elim
theorem SlR.or {r r':V->Option Int->Option Int->Hp->VK->Prop}(h:SlR X r) (h':SlR X r'):SlR X (λ x lo hi H Q=>r x lo hi H Q\/r' x lo hi H Q):=by
 intro pins s σ H x v vl vu lo hi sl Q I rx hs pl pu q
 rcases q with q | q
 ·exact h pins s σ H x v vl vu lo hi sl Q I rx hs pl pu q
 ·exact h' pins s σ H x v vl vu lo hi sl Q I rx hs pl pu q
theorem q7J (n d:Nat) (hd:d<=n) (o:Option Int):sIxD n d o<=n:=by
 cases o with
 | none=>exact hd
 | some v =>
  show (if v<0 then (v+(n:Int)).toNat else min v.toNat n)<=n
  split<;>lia
theorem z30 (lo hi:Option Int) (n:Nat):PySem.Builtin.Str.strSliceIndices lo hi 1 n=(List.range (sIxD n n hi - sIxD n 0 lo)).map (sIxD n 0 lo + ·):=by
 have e:∀ (o:Option Int) (d:Nat),d<=n->(match o with | none=>((d:Nat):Int) | some i=>if (1:Int) > 0 then max 0 (min (if i<0 then i+(n:Int) else i) n) else max (-1) (min (if i<0 then i+(n:Int) else i) ((n:Int) - 1)))=((sIxD n d o:Nat):Int):=by
  intro o d hd
  cases o with
  | none=>rfl
  | some i =>
   show (if (1:Int) > 0 then max 0 (min (if i<0 then i+(n:Int) else i) n) else _)=(((if i<0 then (i+(n:Int)).toNat else min i.toNat n):Nat):Int)
   rw [N0j (by decide)]
   split<;>lia
 have h1:=e lo 0 (N1b _)
 have h2:=e hi n (N07 _)
 rw [<- sliceRange_one,<- h1,<- h2]
 rfl
set_option tactic.hygienic true in
theorem z1j (z:Str) (lo hi:Option Int):PySem.Txt.slice z lo hi=⟨(cutD z.cps.toList lo hi).toArray⟩:=by
 have hl:z.cps.toList.length=z.length:=by rw [N0g];rfl
 have h1:sIxD z.length 0 lo<=z.length:=q7J _ _ (N1b _) _
 have h2:sIxD z.length z.length hi<=z.length:=q7J _ _ (N07 _) _
 unfold Txt.slice cutD
 rw [z30,hl]
 split
 ·rename_i h
  simp only [beq_self_eq_true,Bool.true_and,beq_iff_eq,N01,N17] at h
  by_cases e0:z.length=0
  ·have:z.cps.toList=[]:=List.eq_nil_of_length_eq_zero (by rw [hl];exact e0)
   rw [this]
   have:z.cps = #[]:=by rw [<- Array.toList_eq_nil_iff];exact this
   cases z
   simp_all
  ·have ha:sIxD z.length 0 lo=0:=by lia
   have hb:sIxD z.length z.length hi=z.length:=by simp_all
   rw [ha,hb,List.drop_zero,Nat.sub_zero,<- hl,List.take_length]
 ·rw [pick_run]
theorem z1k {H:Hp}{S:Addr->Prop}{vs:List V}{ds:List D}(w:Ats K cl H S vs ds) (lo hi:Option Int):Ats K cl H S (cutV vs lo hi) (cutD ds lo hi):=by
 have e:cutV vs lo hi=(vs.drop (sIxD ds.length 0 lo)).take (sIxD ds.length ds.length hi - sIxD ds.length 0 lo):=by rw [<- w.length];rfl
 rw [e]
 exact (w.drop _).take _
theorem q0l {lo hi:Option Expr}{gl gh:DS->Rz (Option Int)}{p2:Pos}(ha:DE X C κ m fa a ga) (hl:DO X C κ lo gl) (hh:DO X C κ hi gh):DE X C κ m true (.Subscript a (.Slice lo hi none p2) pos) (gSl ga gl gh):=by
 obtain ⟨ta,pa,da⟩:=ha
 obtain ⟨tl,pl,dl⟩:=hl
 obtain ⟨th,ph,dh⟩:=hh
 refine ⟨_,q97 (SlR.or z0W z2K) pa pl ph,λ F σ H δ rx Q z=>da F σ H δ rx _ ?_⟩
 obtain ⟨d1,e1,z⟩:=j3 (T:=Post X.K C F m true H Q) (λ o_ o_ q=>q) (λ q=>q) z
 obtain ⟨d2,e2,z⟩:=j7 (T:=Post X.K C F m true H Q) (λ o_ o_ q=>q) (λ q=>q) z
 obtain ⟨d3,e3,z⟩:=j7 (T:=Post X.K C F m true H Q) (λ o_ o_ q=>q) (λ q=>q) z
 rw [e1]
 intro v H1 s1 a1 _
 refine dl F σ H1 δ (rx.same s1) _ ?_
 rw [e2]
 intro H2 s2
 refine dh F σ H2 δ (rx.same (s1.trans s2)) _ ?_
 rw [e3]
 intro H3 s3
 have s13:=(s1.trans s2).trans s3
 have a3:=a1.same (s2.trans s3)
 cases d1 with
 | lst xs =>
  rw [At] at a3
  obtain ⟨b,vs,rfl,sb,hb,w⟩:=a3
  refine .inl ⟨b,vs,rfl,.inl hb,λ q hq=>?_⟩
  obtain ⟨q1,q2⟩:=q1S hq (z1k w d2 d3) ((rx.same s13).new m hq)
  exact z _ _ (s13.trans (Z6 hq _)) q1 λ o_=>q2.back s13
 | str x =>
  rw [At] at a3
  subst a3
  obtain ⟨hz,z⟩:=Q0 (T:=Post X.K C F m true H Q) (λ z=>z) z
  refine .inr ⟨x,rfl,hz,?_⟩
  rw [z1j]
  exact z _ H3 s13 (by rw [At]) λ o_=>Nw.small rfl
 | _=>exact z.elim
end
end
end Dl
namespace Dl
open PySem L2
section
variable {X:Cx}{C:Dc}{L:List Kd×List Nat}{κ κ':List Kd}{m kx:Kd}{fr fa fb fe:Bool}{a b e elt iter:Expr}{ifs:List Expr}{es:List Expr}{ga gb ge:GE}{gi:GI}{gt:GT}{gs:GA}{pos p px:Pos}{x:Str}{caps:q2j}{sc:Scope}
noncomputable def z42 (X:Cx) (C:Dc) (κ:List Kd) (ifs:List Expr) (g:GT):Prop :=
 ∃ t,z10 X ifs t/\∀ F σ H δ,Rx X.K C κ F σ H δ->∀ Q,PostT H Q (g δ)->t σ H Q
theorem Y6:z42 X C κ [] q1n:=⟨_,q5r,λ F σ H δ r Q z=>z H (Same.refl H)⟩
noncomputable def capK (caps:q2j) (κ:List Kd):List Kd:=caps.map λ c=>(κ[c.2]?).getD .v
theorem Rx.comp {K:PySem.W.Frag}{F:Addr->Prop}{σ:St}{H:Hp}{δ:DS}{v:V}{d:D}(r:Rx K C κ F σ H δ) (a:At K C.cl H (Sk C F kx) v d):Rx K C (kx::capK caps κ) F (some v::capσ caps σ) H (some d::capD (caps.map (·.2)) δ):=by
 refine ⟨λ i d' e=>?_,r.old,r.ow⟩
 cases i with
 | zero =>
  have e:d=d':=N0b (N0b e)
  subst e
  exact ⟨v,kx,rfl,rfl,a⟩
 | succ i =>
  have e:(capD (caps.map (·.2)) δ)[i]? = some (some d'):=e
  unfold capD at e
  rw [N1q,N0i] at e
  cases q:caps[i]? with
  | none=>rw [q] at e;cases e
  | some c =>
   rw [q] at e
   have e:(δ[c.2]?).join=some d':=N0b e
   have e2:δ[c.2]? = some (some d'):=by
    cases q2:δ[c.2]? with
    | none=>rw [q2] at e;cases e
    | some o=>rw [q2] at e;have e:o=some d':=e;rw [e]
   obtain ⟨u,k,h1,h2,h3⟩:=r.sl _ _ e2
   refine ⟨u,k,?_,?_,h3⟩
   ·show (capσ caps σ)[i]? = _
    unfold capσ
    rw [N0i,q]
    show some ((σ[c.2]?).join)=_
    rw [h1]
    rfl
   ·show (capK caps κ)[i]? = _
    unfold capK
    rw [N0i,q]
    show some ((κ[c.2]?).getD .v)=_
    rw [h2]
    rfl
theorem q7K (cap:DS):compL cap gt ge []=.ok []:=by rw [compL]
theorem q0H {F:Addr->Prop}{σ:St}{H1 H:Hp}{δ:DS}{tt:TT}{te:TE}{all rest:List D}{d:D}{v:V}{ys:List V}{N:List V->Hp->Prop}
 (dt:∀ F σ H δ,Rx X.K C (kx::capK caps κ) F σ H δ->∀ Q,PostT H Q (gt δ)->tt σ H Q) (de:∀ F σ H δ,Rx X.K C (kx::capK caps κ) F σ H δ->∀ Q,Post X.K C F m fe H Q (ge δ)->te σ H Q)
 (r:Rx X.K C κ F σ H1 δ) (s:Same H1 H) (av:At X.K C.cl H (Sk C F kx) v d){ds:List D}(w:Ats X.K C.cl H (Sk C F m) ys ds) (hall:all.length<=sizeLine)
 (hc:∃ q,compL (capD (caps.map (·.2)) δ) gt ge (d::rest)=.ok q/\ds++q=all)
 (hN:∀ ys' H' ds',Same H1 H'->Ats X.K C.cl H' (Sk C F m) ys' ds'->(∃ q,compL (capD (caps.map (·.2)) δ) gt ge rest=.ok q/\ds'++q=all)->N ys' H') :
 tt (some v::capσ caps σ) H λ b H3=>if b=true then te (some v::capσ caps σ) H3 λ u H4=>ys.length<sizeLine/\N (ys++[u]) H4 else N ys H3:=by
 obtain ⟨q,hq,hall'⟩:=hc
 rw [compL] at hq
 have r2:Rx X.K C (kx::capK caps κ) F (some v::capσ caps σ) H (some d::capD (caps.map (·.2)) δ):=(r.same s).comp av
 obtain ⟨k,e1,hq⟩:=j7 (T:=λ r=>r=Rz.ok q) (λ o_ o_ z=>by cases z) (λ z=>by cases z) hq
 refine dt F _ H _ r2 _ ?_
 rw [e1]
 intro H3 s3
 cases k with
 | false =>
  exact z09 (hN ys H3 ds (s.trans s3) (w.same s3) ⟨q,hq,hall'⟩)
 | true =>
  refine q7e ?_
  have hq:((ge (some d::capD (caps.map (·.2)) δ)).bind λ y=>(compL (capD (caps.map (·.2)) δ) gt ge rest).bind λ ys=>Rz.ok (y::ys))=Rz.ok q:=hq
  obtain ⟨y,e2,hq⟩:=j3 (T:=λ r=>r=Rz.ok q) (λ o_ o_ z=>by cases z) (λ z=>by cases z) hq
  obtain ⟨q',e3,hq⟩:=j7 (T:=λ r=>r=Rz.ok q) (λ o_ o_ z=>by cases z) (λ z=>by cases z) hq
  cases hq
  refine de F _ H3 _ (r2.same s3) _ ?_
  rw [e2]
  intro u H4 s4 a4 _
  refine ⟨?_,hN _ H4 (ds++[y]) ((s.trans s3).trans s4) ((w.same (s3.trans s4)).append (Ats.cons a4 Ats.nil)) ⟨q',e3,by rw [List.append_assoc];exact hall'⟩⟩
  have h1:(ds++y::q').length<=sizeLine:=by rw [hall'];exact hall
  rw [N06,N0h] at h1
  rw [w.length]
  lia
theorem q30 {wi:TI}{tt:CArg->TT}{te:CArg->TE}(dw:∀ F σ H δ,Rx X.K C κ F σ H δ->∀ R,q6p X.K C F kx H R (gi δ)->wi σ H R)
 (dt:∀ z F σ H δ,Rx X.K C (kx::capK caps κ) F σ H δ->∀ Q,PostT H Q (gt δ)->tt z σ H Q) (de:∀ z F σ H δ,Rx X.K C (kx::capK caps κ) F σ H δ->∀ Q,Post X.K C F m fe H Q (ge δ)->te z σ H Q) :
 ∀ F σ H δ,Rx X.K C κ F σ H δ->∀ Q,Post X.K C F m true H Q (q0o gi (caps.map (·.2)) gt ge δ)->q9e caps wi tt te σ H Q:=by
 intro F σ H δ r Q z
 refine dw F σ H δ r _ ?_
 obtain ⟨xs,e1,z⟩:=j7 (T:=Post X.K C F m true H Q) (λ o_ o_ q=>q) (λ q=>q) z
 obtain ⟨all,e2,z⟩:=j7 (T:=Post X.K C F m true H Q) (λ o_ o_ q=>q) (λ q=>q) z
 obtain ⟨hall,z⟩:=Q0 (T:=Post X.K C F m true H Q) (λ z=>z) z
 rw [e1]
 intro J H1 s1 w
 have r1:=r.same s1
 have fin:∀ (ys:List V) (H2:Hp),(Same H1 H2/\∃ ds,Ats X.K C.cl H2 (Sk C F m) ys ds/\∃ q,compL (capD (caps.map (·.2)) δ) gt ge []=.ok q/\ds++q=all)->∀ p,H2 p=none->Q (.ref p) (upd H2 p (.lst ys)):=by
  rintro ys H2 ⟨s2,ds,wd,q,hq,hall'⟩ p hp
  rw [q7K] at hq
  cases hq
  rw [N10] at hall'
  subst hall'
  have s12:=s1.trans s2
  obtain ⟨q1,q2⟩:=q1S hp wd ((r.same s12).new m hp)
  exact z _ _ (s12.trans (Z6 hp _)) q1 λ o_=>q2.back s12
 rcases w with ⟨a,vs,rfl,sa,ha,wa⟩ | ⟨a,vs,rfl,ha,wa⟩ | ⟨lo,n,rfl,rfl⟩ | ⟨zz,rfl,rfl⟩
 ·refine q3N (K:=X.K) (a:=a) (xs:=vs) (λ j ys H'=>Same H1 H'/\∃ ds,Ats X.K C.cl H' (Sk C F m) ys ds/\∃ q,compL (capD (caps.map (·.2)) δ) gt ge (xs.drop j)=.ok q/\ds++q=all)
   ⟨Same.refl H1,[],Ats.nil,all,e2,rfl⟩ (λ j ys H' o1_ ⟨s,o2_⟩=>.inl (s.rd ha)) ?_ ?_
  ·rintro c j v ys H' hj ⟨s,ds,wd,hc⟩
   obtain ⟨d,hd,ad⟩:=(wa.same s).get' hj
   rw [W4 hd] at hc
   exact q0H (N:=λ ys H'=>Same H1 H'/\∃ ds,Ats X.K C.cl H' (Sk C F m) ys ds/\∃ q,compL (capD (caps.map (·.2)) δ) gt ge (xs.drop (j+1))=.ok q/\ds++q=all) (dt c) (de c) r1 s ad wd hall hc λ ys' H' ds' s' w' h'=>⟨s',ds',w',h'⟩
  ·rintro ys H' ⟨s,ds,wd,hc⟩
   rw [wa.length,N1i] at hc
   exact fin ys H' ⟨s,ds,wd,hc⟩
 ·refine q5s (K:=X.K) (a:=a) (xs:=vs) (λ j ys H'=>Same H1 H'/\∃ ds,Ats X.K C.cl H' (Sk C F m) ys ds/\∃ q,compL (capD (caps.map (·.2)) δ) gt ge (xs.drop j)=.ok q/\ds++q=all)
   ⟨Same.refl H1,[],Ats.nil,all,e2,rfl⟩ (λ j ys H' o1_ ⟨s,o2_⟩=>SqT.of (s _ _ ha)) ?_ ?_
  ·rintro c j v ys H' hj ⟨s,ds,wd,hc⟩
   obtain ⟨d,hd,ad⟩:=(wa.same s).get' hj
   rw [W4 hd] at hc
   exact q0H (N:=λ ys H'=>Same H1 H'/\∃ ds,Ats X.K C.cl H' (Sk C F m) ys ds/\∃ q,compL (capD (caps.map (·.2)) δ) gt ge (xs.drop (j+1))=.ok q/\ds++q=all) (dt c) (de c) r1 s ad wd hall hc λ ys' H' ds' s' w' h'=>⟨s',ds',w',h'⟩
  ·rintro ys H' ⟨s,ds,wd,hc⟩
   rw [wa.length,N1i] at hc
   exact fin ys H' ⟨s,ds,wd,hc⟩
 ·have hl:(rangeD lo n).length=n:=by unfold rangeD;rw [N01,N17]
  refine q2l (lo:=lo) (n:=n) (λ j ys H'=>Same H1 H'/\∃ ds,Ats X.K C.cl H' (Sk C F m) ys ds/\∃ q,compL (capD (caps.map (·.2)) δ) gt ge ((rangeD lo n).drop j)=.ok q/\ds++q=all)
   ⟨Same.refl H1,[],Ats.nil,all,e2,rfl⟩ ?_ ?_
  ·rintro c j ys H' hj ⟨s,ds,wd,hc⟩
   have hd:(rangeD lo n)[j]? = some (.int (lo+(j:Int))):=by unfold rangeD;rw [N0i,N1k hj];rfl
   rw [W4 hd] at hc
   exact q0H (N:=λ ys H'=>Same H1 H'/\∃ ds,Ats X.K C.cl H' (Sk C F m) ys ds/\∃ q,compL (capD (caps.map (·.2)) δ) gt ge ((rangeD lo n).drop (j+1))=.ok q/\ds++q=all) (dt c) (de c) r1 s (by rw [At]) wd hall hc λ ys' H' ds' s' w' h'=>⟨s',ds',w',h'⟩
  ·rintro ys H' ⟨s,ds,wd,hc⟩
   rw [show (rangeD lo n).drop n=[] by rw [N1c];simp_all] at hc
   exact fin ys H' ⟨s,ds,wd,hc⟩
 ·have hl:(signsD zz).length=zz.cps.size:=by unfold signsD;rw [N01,N0g]
  refine q5t (z:=zz) (λ j ys H'=>Same H1 H'/\∃ ds,Ats X.K C.cl H' (Sk C F m) ys ds/\∃ q,compL (capD (caps.map (·.2)) δ) gt ge ((signsD zz).drop j)=.ok q/\ds++q=all)
   ⟨Same.refl H1,[],Ats.nil,all,e2,rfl⟩ ?_ ?_
  ·rintro c j ch ys H' hj ⟨s,ds,wd,hc⟩
   have hd:(signsD zz)[j]? = some (.str ⟨#[ch]⟩):=by unfold signsD;rw [N0i,Array.getElem?_toList,hj];rfl
   rw [W4 hd] at hc
   exact q0H (N:=λ ys H'=>Same H1 H'/\∃ ds,Ats X.K C.cl H' (Sk C F m) ys ds/\∃ q,compL (capD (caps.map (·.2)) δ) gt ge ((signsD zz).drop (j+1))=.ok q/\ds++q=all) (dt c) (de c) r1 s (by rw [At]) wd hall hc λ ys' H' ds' s' w' h'=>⟨s',ds',w',h'⟩
  ·rintro ys H' ⟨s,ds,wd,hc⟩
   rw [show (signsD zz).drop zz.cps.size=[] by rw [N1c];simp_all] at hc
   exact fin ys H' ⟨s,ds,wd,hc⟩
theorem q0y (caps:q2j) (hk:U4 X.env.scope sc X.N x caps=true) (hc:X.calm=true) (hi:DI X C κ kx (.Name x px) iter gi) (ht:∀ z,z42 (cxC X x caps sc z) C (kx::capK caps κ) ifs gt) (he:∀ z,DE (cxC X x caps sc z) C (kx::capK caps κ) m fe elt ge)
 (hs:∀ v,foldedSetIterable iter X.env v=pure v:=by intro _;rfl):DE X C κ m true (.ListComp elt [⟨.Name x px,iter,ifs,0⟩] sc pos) (q0o gi (caps.map (·.2)) gt ge):=by
 obtain ⟨wi,pw,dw⟩:=hi
 obtain ⟨tt,htt⟩:=Classical.axiomOfChoice ht
 obtain ⟨te,hte⟩:=Classical.axiomOfChoice he
 exact ⟨_,z11 hk hc pw (λ z=>(htt z).1) (λ z=>(hte z).1) hs,q30 dw (λ z=>(htt z).2) (λ z=>(hte z).2)⟩
theorem z1l {i:Nat}{y:Str}{k:Kd}{py spos:Pos}{t:TE}{e:Expr}(hkk:k=.b\/k=.s) (hk:i<κ.length) (ps:PS X (.Assign [.Name y py] e spos) (z02 t (q2J i))) (dt:∀ F σ H δ,Rx X.K C κ F σ H δ->∀ Q,Post X.K C F k fr H Q (ge δ)->t σ H Q) (hni:i∉C.io) :
 DSt X C L κ (κ.set i k) (.Assign [.Name y py] e spos) (gSet i ge):=by
 refine ⟨_,ps,λ φ σ H δ r D p=>dt (Fo φ) σ H δ r.rx _ ?_⟩
 obtain ⟨d,e1,p⟩:=j3 (T:=FinS X.K C L (κ.set i k) (Fo φ) H D) (λ o_ o_ q=>q) (λ q=>q) p
 rw [e1]
 intro v H1 s1 a n
 have so:SlOk X.K C (Fo (φset φ i [])) H1 [] v d k:=by
  rcases hkk with rfl | rfl
  ·exact At.sub a λ b z o_ f=>z (q0s f)
  ·exact At.sub a λ b z o_=>⟨z.1,λ f=>z.2 (q0s f)⟩
 obtain ⟨r2,kp⟩:=r.put s1 hk so (λ a m=>absurd m (by simp)) hni
 exact p _ _ _ r2 kp
theorem q7L {i:Nat}{y:Str}{k:Kd}{py spos:Pos}(caps:q2j) (hkk:k=.b\/k=.s) (hkl:i<κ.length) (hN:X.N.Nodup) (hi':X.N[i]? = some y) (hy:Loc X.env.scope y) (hk:U4 X.env.scope sc X.N x caps=true) (hc:X.calm=true) (hi:DI X C κ kx (.Name x px) iter gi)
 (ht:∀ z,z42 (cxC X x caps sc z) C (kx::capK caps κ) ifs gt) (he:∀ z,DE (cxC X x caps sc z) C (kx::capK caps κ) k fe elt ge)
 (hsw:swapsWith (.ListComp elt [⟨.Name x px,iter,ifs,0⟩] sc pos) (some (.Name y py)) spos.line X.env=pure true:=by rfl)
 (hs:∀ v,foldedSetIterable iter X.env v=pure v:=by intro _;rfl) (hf:X.fn y=true\/X.env.scope.names.lookup y=some .local:=by first | exact .inl rfl | exact .inr rfl | assumption) (hni:C.io.contains i=false:=by rfl) :
 DSt X C L κ (κ.set i k) (.Assign [.Name y py] (.ListComp elt [⟨.Name x px,iter,ifs,0⟩] sc pos) spos) (gSet i (q0o gi (caps.map (·.2)) gt ge)):=by
 obtain ⟨wi,pw,dw⟩:=hi
 obtain ⟨tt,htt⟩:=Classical.axiomOfChoice ht
 obtain ⟨te,hte⟩:=Classical.axiomOfChoice he
 exact z1l hkk hkl (q7g hN hi' hy hk hc pw (λ z=>(htt z).1) (λ z=>(hte z).1) hsw hs hf) (q30 dw (λ z=>(htt z).2) (λ z=>(hte z).2)) (u7 hni)
theorem q9p {i:Nat}{y:Str}{py spos:Pos}{t:TE}{e:Expr}(hk:i<κ.length) (ps:PS X (.Assign [.Name y py] e spos) (z02 t (q2J i))) (dt:∀ F σ H δ,Rx X.K C κ F σ H δ->∀ Q,Post X.K C F .s true H Q (ge δ)->t σ H Q) (hni:i∉C.io) :
 DSt X C L κ (κ.set i .o) (.Assign [.Name y py] e spos) (q2a i ge):=by
 refine ⟨_,ps,λ φ σ H δ r D p=>dt (Fo φ) σ H δ r.rx _ ?_⟩
 obtain ⟨d,e1,p⟩:=j3 (T:=FinS X.K C L (κ.set i .o) (Fo φ) H D) (λ o_ o_ q=>q) (λ q=>q) p
 obtain ⟨hb,p⟩:=Q0 (T:=FinS X.K C L (κ.set i .o) (Fo φ) H D) (λ z=>z) p
 rw [e1]
 intro v H1 s1 a n
 obtain ⟨l,o,hl⟩:=n rfl hb
 have so:SlOk X.K C (Fo (φset φ i l)) H1 l v d .o:=by
  refine ⟨?_,λ a m=>r.old (hl a m)⟩
  have key:∀ b,(Sk C (Fo φ) .s b/\b∉l)->Sk C (Fo (φset φ i l)) .s b:=λ b z=>⟨z.1.1,λ f=>by
   obtain ⟨j,hj⟩:=f
   by_cases e:j=i
   ·subst e;rw [φset_same] at hj;exact z.2 hj
   ·rw [φset_ne e] at hj;exact z.1.2 ⟨j,hj⟩⟩
  cases d with
  | lst ds=>obtain ⟨a',vs,q1,q2,q3,q4⟩:=o;exact ⟨a',vs,q1,q2,q3,q4.sub λ b z o_=>⟨key b z,z.2⟩⟩
  | dct ks ds=>obtain ⟨a',vs,q1,q2,q3,q5,q4⟩:=o;exact ⟨a',vs,q1,q2,q3,q5,q4.sub λ b z o_=>⟨key b z,z.2⟩⟩
  | obj c f d' =>
   cases d' with
   | dct ks ds=>obtain ⟨a',dx,b',vs,q1,q2,q3,q5,q6,q7,q4⟩:=o;exact ⟨a',dx,b',vs,q1,q2,q3,q5,q6,q7,q4.sub λ b z o_=>⟨key b z,z.2⟩⟩
   | _=>exact o.elim
  | _=>cases hb
 obtain ⟨r2,kp⟩:=r.put s1 hk so (λ a m=>⟨hl a m,o.ex m⟩) hni
 exact p _ _ _ r2 kp
theorem q9q {i:Nat}{y:Str}{py spos:Pos}(caps:q2j) (hkl:i<κ.length) (hN:X.N.Nodup) (hi':X.N[i]? = some y) (hy:Loc X.env.scope y) (hk:U4 X.env.scope sc X.N x caps=true) (hc:X.calm=true) (hi:DI X C κ kx (.Name x px) iter gi)
 (ht:∀ z,z42 (cxC X x caps sc z) C (kx::capK caps κ) ifs gt) (he:∀ z,DE (cxC X x caps sc z) C (kx::capK caps κ) .s fe elt ge)
 (hsw:swapsWith (.ListComp elt [⟨.Name x px,iter,ifs,0⟩] sc pos) (some (.Name y py)) spos.line X.env=pure true:=by rfl)
 (hs:∀ v,foldedSetIterable iter X.env v=pure v:=by intro _;rfl) (hf:X.fn y=true\/X.env.scope.names.lookup y=some .local:=by first | exact .inl rfl | exact .inr rfl | assumption) (hni:C.io.contains i=false:=by rfl) :
 DSt X C L κ (κ.set i .o) (.Assign [.Name y py] (.ListComp elt [⟨.Name x px,iter,ifs,0⟩] sc pos) spos) (q2a i (q0o gi (caps.map (·.2)) gt ge)):=by
 obtain ⟨wi,pw,dw⟩:=hi
 obtain ⟨tt,htt⟩:=Classical.axiomOfChoice ht
 obtain ⟨te,hte⟩:=Classical.axiomOfChoice he
 exact q9p hkl (q7g hN hi' hy hk hc pw (λ z=>(htt z).1) (λ z=>(hte z).1) hsw hs hf) (q30 dw (λ z=>(htt z).2) (λ z=>(hte z).2)) (u7 hni)
theorem z6 {n:Nat}{gs:GA}(h:∀ δ ds,gs δ=.ok ds->ds.length=n):∀ δ ds,gCons ga gs δ=.ok ds->ds.length=n+1:=λ δ ds e=>by
 obtain ⟨d,_,e⟩:=j3 (T:=λ r=>r=Rz.ok ds) (λ o_ o_ z=>by cases z) (λ z=>by cases z) e
 obtain ⟨ds',e2,e⟩:=j7 (T:=λ r=>r=Rz.ok ds) (λ o_ o_ z=>by cases z) (λ z=>by cases z) e
 cases e
 rw [N0h,h δ ds' e2]
theorem j6:∀ δ ds,gNil δ=.ok ds->ds.length=0:=λ δ ds e=>by cases e;rfl
noncomputable def q6s (K:PySem.W.Frag) (cl:Nat->Addr) (r:List V->Hp->VK->Prop) (p:List D->Rz D):Prop :=
 ∀ (H:Hp) (S:Addr->Prop) (vs:List V) (ds:List D) (Q:VK),Ats K cl H S vs ds->(match p ds with | .ok d=>∀ v,(∀ S',At K cl H S' v d)->Q v H | _=>False)->r vs H Q
theorem Z7 {id:String}{r:List V->Hp->VK->Prop}{p:List D->Rz D}{pp:Pos}(hc:X8 X (.builtin id) r) (hp:q6s X.K C.cl r p) (hi:∀ ds d,p ds=.ok d->d.big=false) (hg:Gl X x) (hm:X.mg x=none) (hv:bootBuiltins x=some (.builtin id)) (ha:DA X C κ .v (e::es) gs) (hn:x≠"__name__":=by decide) (hdb:(x==("__debug__" : Str))=false:=by decide)
 (he:starEach (e::es) X.env=(false,eval e X.env)::starEach es X.env:=by rfl) (hpl:(backTo pos (starEach es X.env)).any (·.1)=false:=by rfl):DE X C κ m true (.Call (.Name x pp) (e::es) [] pos) (gCall p gs):=by
 obtain ⟨t,pt,dt⟩:=ha
 refine ⟨_,q96 hc hg hm hv pt hn hdb he hpl,λ F σ H δ rx Q z=>dt F σ H δ rx _ ?_⟩
 obtain ⟨ds,e1,z⟩:=j7 (T:=Post X.K C F m true H Q) (λ o_ o_ q=>q) (λ q=>q) z
 rw [e1]
 intro vs H1 s1 a1
 refine hp H1 _ vs ds Q a1 ?_
 cases q:p ds with
 | ok d=>rw [q] at z;exact λ v av=>z v H1 s1 (av _) λ o_=>Nw.small (hi ds d q)
 | er c s=>rw [q] at z;exact z
 | un=>rw [q] at z;exact z
theorem q7M {id:String}{r:List V->Hp->VK->Prop}{p:List D->Rz D}{pp:Pos}(hc:X8 X (.type id) r) (hp:q6s X.K C.cl r p) (hi:∀ ds d,p ds=.ok d->d.big=false) (hg:Gl X x) (hm:X.mg x=none) (hv:bootBuiltins x=some (.type id)) (ha:DA X C κ .v (e::es) gs) (hn:x≠"__name__":=by decide) (hdb:(x==("__debug__" : Str))=false:=by decide)
 (he:starEach (e::es) X.env=(false,eval e X.env)::starEach es X.env:=by rfl) (hpl:(backTo pos (starEach es X.env)).any (·.1)=false:=by rfl):DE X C κ m true (.Call (.Name x pp) (e::es) [] pos) (gCall p gs):=by
 obtain ⟨t,pt,dt⟩:=ha
 refine ⟨_,q3F hc hg hm hv pt hn hdb he hpl,λ F σ H δ rx Q z=>dt F σ H δ rx _ ?_⟩
 obtain ⟨ds,e1,z⟩:=j7 (T:=Post X.K C F m true H Q) (λ o_ o_ q=>q) (λ q=>q) z
 rw [e1]
 intro vs H1 s1 a1
 refine hp H1 _ vs ds Q a1 ?_
 cases q:p ds with
 | ok d=>rw [q] at z;exact λ v av=>z v H1 s1 (av _) λ o_=>Nw.small (hi ds d q)
 | er c s=>rw [q] at z;exact z
 | un=>rw [q] at z;exact z
theorem q0I {id:String}{r:List V->Hp->VK->Prop}{p:List D->Rz D}{pp:Pos}(hc:X8 X (.type id) r) (hp:z2U X.K C.cl r p) (hg:Gl X x) (hm:X.mg x=none) (hv:bootBuiltins x=some (.type id)) (ha:DA X C κ m (e::es) gs) (hn:x≠"__name__":=by decide) (hdb:(x==("__debug__" : Str))=false:=by decide)
 (he:starEach (e::es) X.env=(false,eval e X.env)::starEach es X.env:=by rfl) (hpl:(backTo pos (starEach es X.env)).any (·.1)=false:=by rfl):DE X C κ m true (.Call (.Name x pp) (e::es) [] pos) (gCall p gs):=by
 obtain ⟨t,pt,dt⟩:=ha
 refine ⟨_,q3F hc hg hm hv pt hn hdb he hpl,λ F σ H δ rx Q z=>dt F σ H δ rx _ ?_⟩
 obtain ⟨ds,e1,z⟩:=j7 (T:=Post X.K C F m true H Q) (λ o_ o_ q=>q) (λ q=>q) z
 rw [e1]
 intro vs H1 s1 a1
 exact hp H1 _ vs ds Q (λ a h=>(rx.same s1).new m h) a1 (q2T s1 z)
theorem W6:∀ ds d,pLen ds=.ok d->d.big=false:=λ ds d h=>by
 match ds,h with
 | [x],h=>cases x<;>first | (cases h;rfl) | (have q:=(X4 h).2;cases q;rfl) | cases h
 | [],h=>cases h
 | _::_::_,h=>cases h
theorem Z4 {K:PySem.W.Frag}{cl:Nat->Addr}:q6s K cl (λ xs H Q=>(∃ p ys,xs=[.ref p]/\(SqL K H p ys\/SqT K H p ys)/\Q (.int ys.length) H)\/(∃ z,xs=[.str z]/\z.length<=sizeLine/\Q (.int z.length) H)\/∃ a kvs,xs=[V.ref a]/\H a=some (.dK kvs)/\Q (.int kvs.length) H) pLen:=by
 intro H S vs ds Q w z
 match vs,ds,w,z with
 | [v],[d],w,z =>
  rw [Ats] at w
  have a:=w.1
  cases d with
  | lst xs =>
   rw [At] at a
   obtain ⟨b,us,rfl,sb,hb,wb⟩:=a
   refine .inl ⟨b,us,rfl,.inl (.inl hb),?_⟩
   rw [wb.length]
   exact z _ λ S'=>by rw [At]
  | tup xs =>
   rw [At] at a
   obtain ⟨b,us,rfl,hb,wb⟩:=a
   refine .inl ⟨b,us,rfl,.inr (SqT.of hb),?_⟩
   rw [wb.length]
   exact z _ λ S'=>by rw [At]
  | str x =>
   rw [At] at a
   subst a
   by_cases h:x.length<=sizeLine
   ·simp only [pLen,z54,w9 h] at z
    exact .inr (.inl ⟨x,rfl,h,z _ λ S'=>by rw [At]⟩)
   ·simp only [pLen,z54,Rz.guard,N0l h] at z
  | dct ks xs =>
   rw [At] at a
   obtain ⟨b,us,rfl,sb,hb,l,wb⟩:=a
   refine .inr (.inr ⟨b,_,rfl,hb,?_⟩)
   rw [List.length_zip,wb.length,l,Nat.min_self,<- l]
   exact z _ λ S'=>by rw [At]
  | _=>exact z.elim
 | [],[],_,z=>exact z.elim
 | _::_::_,[],w,_=>rw [Ats] at w;exact w.elim
 | [_],[],w,_=>rw [Ats] at w;exact w.elim
 | [],_::_,w,_=>rw [Ats] at w;exact w.elim
 | [_],_::_::_,w,z=>exact z.elim
 | _::_::_,[_],w,_=>rw [Ats,Ats] at w;exact w.2.elim
 | _::_::_,_::_::_,w,z=>exact z.elim
theorem Z5:X8 X (.builtin "len") (λ xs H Q=>(∃ p ys,xs=[.ref p]/\(SqL X.K H p ys\/SqT X.K H p ys)/\Q (.int ys.length) H)\/(∃ z,xs=[.str z]/\z.length<=sizeLine/\Q (.int z.length) H)\/∃ a kvs,xs=[V.ref a]/\H a=some (.dK kvs)/\Q (.int kvs.length) H) :=
 X8.or q3I (X8.or q3J q7d)
end
end Dl
namespace Dl
open PySem L2 PyProof.Rows
structure Df (K:PySem.W.Frag) (mg:Str->Option Value) (x:Str) (st:Stmt) (ps:List Str) (f:Addr) (fd:FuncData):Prop where
 F:Fun K x x st f fd
 b:X9 K fd ps []
 m:mg x=some (.ref f)
section
variable {X:Cx}{C:Dc}{L:List Kd×List Nat}{κ κ':List Kd}{m kx:Kd}{fr fa fb fe:Bool}{a b e elt iter:Expr}{es:List Expr}{ga gb ge:GE}{gs:GA}{pos p:Pos}{x:Str}
theorem Q3 {st:Stmt}{ps:List Str}{f:Addr}{fd:FuncData}{k n:Nat}{F:PF}(D:Df X.K X.mg x st ps f fd) (G:FnOk X.prog X.w X.K X.mg X.base CX0 k f fd ps (spD X.K C.cl n F)) (hr:Room k X.A) (hg:Gl X x) (hlen:∀ δ ds,gs δ=.ok ds->ds.length=n) (ha:DA X C κ .v (e::es) gs)
 (hdb:(x==("__debug__" : Str))=false:=by decide) (hst:starEach (e::es) X.env=(false,eval e X.env)::starEach es X.env:=by rfl) (hpl:(backTo pos (starEach es X.env)).any (·.1)=false:=by rfl):DE X C κ m true (.Call (.Name x p) (e::es) [] pos) (gCall F gs):=by
 obtain ⟨t,pt,dt⟩:=ha
 exact q9o (n:=n) (q4v G hr hg D.m D.F.kp D.b .nil q9d pt hdb hst hpl) hlen dt
theorem z31 (h:DE X C κ .v true e ge):DE X C κ m true e (z55 ge):=by
 obtain ⟨t,pt,dt⟩:=h
 refine ⟨t,pt,λ F σ H δ r Q p=>dt F σ H δ r Q ?_⟩
 obtain ⟨d,e1,p⟩:=j3 (T:=Post X.K C F m true H Q) (λ o_ o_ q=>q) (λ q=>q) p
 obtain ⟨hi,p⟩:=Q0 (T:=Post X.K C F m true H Q) (λ z=>z) p
 rw [e1]
 intro v H1 s1 a n
 have n:=n rfl
 cases d with
 | lst xs =>
  obtain ⟨l,⟨b,vs,rfl,rfl,hb,w⟩,hl⟩:=n rfl
  have w2:∀ S,Ats X.K C.cl H1 S vs xs:=λ S=>w.imm TupK.refl hi
  have nb:=hl b N00
  refine p _ H1 s1 ?_ λ o_ o_=>⟨[b],⟨b,vs,rfl,rfl,hb,w2 _⟩,hl⟩
  rw [At]
  exact ⟨b,vs,rfl,r.new m nb,.inl hb,w2 _⟩
 | dct ks xs =>
  obtain ⟨l,⟨b,vs,rfl,rfl,hb,kl,w⟩,hl⟩:=n rfl
  have w2:∀ S,Ats X.K C.cl H1 S vs xs:=λ S=>w.imm TupK.refl hi
  have nb:=hl b N00
  refine p _ H1 s1 ?_ λ o_ o_=>⟨[b],⟨b,vs,rfl,rfl,hb,kl,w2 _⟩,hl⟩
  rw [At]
  exact ⟨b,vs,rfl,r.new m nb,hb,kl,w2 _⟩
 | obj _ _ _=>exact absurd hi (by simp [D.imI,D.imm])
 | tup xs=>exact p _ H1 s1 (At.imm TupK.refl hi a) λ o_=>Nw.small rfl
 | non=>exact p _ H1 s1 (At.imm TupK.refl hi a) λ o_=>Nw.small rfl
 | bl _=>exact p _ H1 s1 (At.imm TupK.refl hi a) λ o_=>Nw.small rfl
 | int _=>exact p _ H1 s1 (At.imm TupK.refl hi a) λ o_=>Nw.small rfl
 | str _=>exact p _ H1 s1 (At.imm TupK.refl hi a) λ o_=>Nw.small rfl
theorem q4K (h:DE X C κ .v fr e ge):DE X C κ m true e (gIm ge):=by
 obtain ⟨t,pt,dt⟩:=h
 refine ⟨t,pt,λ F σ H δ r Q p=>dt F σ H δ r Q ?_⟩
 obtain ⟨d,e1,p⟩:=j3 (T:=Post X.K C F m true H Q) (λ o_ o_ q=>q) (λ q=>q) p
 obtain ⟨hi,p⟩:=Q0 (T:=Post X.K C F m true H Q) (λ z=>z) p
 rw [e1]
 intro v H1 s1 a n
 refine p _ H1 s1 (At.imm TupK.refl hi a) λ o_=>Nw.small ?_
 cases d<;>first | rfl | (rw [D.imm] at hi;cases hi)
end
section
variable {P:Program}{w:World}{K:PySem.W.Frag}{mg:Str->Option Value}{base:Heap}
theorem q41 {N:List Str}{vs:List V}{ds:List D}{cl:Nat->Addr}{H:Hp}{S:Addr->Prop}(a:Ats K cl H S vs ds){i:Nat}{d:D}(e:(startD N.length ds)[i]? = some (some d)):i<ds.length/\∃ v,(L2.start N vs)[i]? = some (some v)/\At K cl H S v d:=by
 unfold startD at e
 by_cases h:i<ds.length
 ·rw [N0x (by simpa using h),N0i] at e
  cases q:ds[i]? with
  | none=>rw [q] at e;cases e
  | some x =>
   rw [q] at e
   have e:x=d:=N0b (N0b e)
   subst e
   obtain ⟨v,h1,h2⟩:=a.get q
   refine ⟨h,v,?_,h2⟩
   unfold L2.start
   rw [N0x (by rw [N01,a.length];exact h),N0i,h1]
   rfl
 ·rw [N19 (by simpa using h),List.getElem?_replicate] at e
  split at e<;>cases e
theorem q3s {x qual:Str}{st:Stmt}{f:Addr}{fd:FuncData}{N ps:List Str}{k n:Nat}{cl:Nat->Addr}{κ κ':List Kd}{g:GS}(F:Fun K x qual st f fd) (S:FnScope N ps (defScope st)) (hn:ps.length=n) (hκ:∀ i:Nat,i<n->κ[i]? = some .b)
 (hbody:∀ (cdv:Value) (A:Around) (outer:List Env) (s:Shared) (H:Hp) (E:XK),Room k (A.deeper (envOfC qual (defScope st) s.heap.objs.size f cdv)) ->
  DSs (cxOf CX0 P w K mg base N qual (defScope st) f cdv A outer s H E).nox ⟨cl,H,λ o_=>False,[],λ o_=>.non,λ o_=>[]⟩ ([],[]) κ κ' (defBody st) g):FnOk P w K mg base CX0 (k+1) f fd ps (spD K cl n (y3 N.length g)):=by
 refine F.ok S (λ vs H Q E h=>by rw [z1g h,hn]) (λ cdv A outer s H vs Q E hr h=>?_)
 obtain ⟨ds,d,hl,wa,he,q⟩:=h
 obtain ⟨t,pt,dt⟩:=hbody cdv A outer s H E hr
 refine ⟨t,pt,dt (λ o_=>[]) (L2.start N vs) H (startD N.length ds) ?_ _ ?_⟩
 ·refine ⟨λ i d e=>?_,λ i j a m=>absurd m (by simp),λ a f=>?_,λ a f=>?_,λ a o e o_=>e,λ a z=>z.elim,TupK.refl,λ j hj=>absurd hj (by simp),?_⟩
  ·obtain ⟨hi,v,h1,h2⟩:=q41 wa e
   refine ⟨v,.b,h1,hκ i (by simp_all),h2.sub λ b o_ o_ f=>?_⟩
   obtain ⟨j,hj⟩:=f
   exact absurd hj (by simp)
  ·obtain ⟨j,hj⟩:=f
   exact absurd hj (by simp)
  ·obtain ⟨j,hj⟩:=f
   exact absurd hj (by simp)
  ·unfold L2.start startD
   rw [N06,N06,N01,N01,N13,N13,wa.length]
 ·have he:(g (startD N.length ds)).bind _=Rz.ok d:=he
  cases e:g (startD N.length ds) with
  | ok o =>
   rw [e] at he
   cases o with
   | nx δ' =>
    cases he
    intro φ' σ' H' r _
    exact q .non H' (λ b u e=>r.fr b u e (λ z=>z)) (by rw [At]) (Nw.small rfl)
   | rt d' δ' =>
    cases he
    intro v κr φ' σ' H' _ r a nw
    exact q v H' (λ b u e=>r.fr b u e (λ z=>z)) a nw
   | bk δ'=>cases he
   | ct δ'=>cases he
  | er c s=>rw [e] at he;cases he
  | un=>rw [e] at he;cases he
end
mutual
noncomputable def toP:D->PyData
 | .non=>.none
 | .bl b=>.bool b
 | .int i=>.int i
 | .str x=>.str x
 | .tup xs=>.tuple (q4q xs)
 | .lst xs=>.list (q4q xs)
 | .dct _ _=>.dict []
 | .obj _ _ _=>.dict []
noncomputable def q4q:List D->List PyData
 | []=>[]
 | x::xs=>toP x::q4q xs
end
mutual
theorem q1U:∀ d:D,okS d=true->(toP d).canLay0=true
 | .non,_=>by rw [toP];rfl
 | .bl _,_=>by rw [toP];rfl
 | .int _,_=>by rw [toP];rfl
 | .str x,h=>by rw [toP];rw [okS] at h;exact h
 | .tup xs,h=>by rw [toP,PyData.canLay0];rw [okS] at h;exact q31 xs h
 | .lst xs,h=>by rw [toP,PyData.canLay0];rw [okS] at h;exact q31 xs h
 | .dct _ _,h=>by rw [okS] at h;cases h
 | .obj _ _ _,h=>by rw [okS] at h;cases h
theorem q31:∀ ds:List D,q7w ds=true->PyData.canLayAll0 (q4q ds)=true
 | [],_=>by rw [q4q];rfl
 | d::ds,h=>by
  rw [q7w,N0q] at h
  rw [q4q,PyData.canLayAll0,q1U d h.1,q31 ds h.2];rfl
end
mutual
theorem q1V:∀ d:D,okS d=true->(toP d).depth=q6K d
 | .non,_=>by rw [toP,q6K];rfl
 | .bl _,_=>by rw [toP,q6K];rfl
 | .int _,_=>by rw [toP,q6K];rfl
 | .str x,h=>by rw [toP,q6K];rfl
 | .tup xs,h=>by rw [toP,PyData.depth,q6K];rw [okS] at h;rw [q32 xs h]
 | .lst xs,h=>by rw [toP,PyData.depth,q6K];rw [okS] at h;rw [q32 xs h]
 | .dct _ _,h=>by rw [okS] at h;cases h
 | .obj _ _ _,h=>by rw [okS] at h;cases h
theorem q32:∀ ds:List D,q7w ds=true->PyData.depthAll (q4q ds)=q6o ds
 | [],_=>by rw [q4q,q6o];rfl
 | d::ds,h=>by
  rw [q7w,N0q] at h
  rw [q4q,PyData.depthAll,q6o,q1V d h.1,q32 ds h.2]
end
mutual
theorem q4L:∀ x y:D,okS x=true->okS y=true->PyData.eqv (toP x) (toP y)=eqD x y
 | .tup xs,y,hx,hy=>by
  cases y with
  | tup ys=>exact q33 xs ys hx hy
  | _=>first | rfl | exact Bool.noConfusion hy
 | .lst xs,y,hx,hy=>by
  cases y with
  | lst ys=>exact q33 xs ys hx hy
  | _=>first | rfl | exact Bool.noConfusion hy
 | .dct _ _,_,h,_=>Bool.noConfusion h
 | .obj _ _ _,_,h,_=>Bool.noConfusion h
 | .non,y,_,hy=>by cases y<;>first | rfl | exact Bool.noConfusion hy
 | .bl _,y,_,hy=>by cases y<;>first | rfl | exact Bool.noConfusion hy
 | .int _,y,_,hy=>by cases y<;>first | rfl | exact Bool.noConfusion hy
 | .str _,y,_,hy=>by cases y<;>first | rfl | exact Bool.noConfusion hy
theorem q33:∀ xs ys:List D,q7w xs=true->q7w ys=true->PyData.eqvAll (q4q xs) (q4q ys)=z2P xs ys
 | [],[],_,_=>rfl
 | [],_::_,_,_=>rfl
 | _::_,[],_,_=>rfl
 | x::xs,y::ys,hx,hy=>by
  have hx:=(N0q _ _).mp hx
  have hy:=(N0q _ _).mp hy
  show (PyData.eqv (toP x) (toP y)&&PyData.eqvAll (q4q xs) (q4q ys))=(eqD x y&&z2P xs ys)
  rw [q4L x y hx.1 hy.1,q33 xs ys hx.2 hy.2]
end
section
variable {P:Program}{w:World}{K:PySem.W.Frag}{cl:Nat->Addr}{H:Hp}{h:Heap}{S:Addr->Prop}
mutual
theorem At.reads (ok:HOk P w H h):∀ {d:D}{v:V}{u:Value},okS d=true->At K cl H S v d->y4 v u->∃ as,Reads h u (toP d) as
 | .non,v,u,_,a,r=>by rw [At] at a;subst a;cases r;rw [toP];exact ⟨_,.none⟩
 | .bl b,v,u,_,a,r=>by rw [At] at a;subst a;cases r;rw [toP];exact ⟨_,.bool b⟩
 | .int i,v,u,_,a,r=>by rw [At] at a;subst a;obtain ⟨t,rfl⟩:=r;rw [toP];exact ⟨_,.int i t⟩
 | .str x,v,u,_,a,r=>by rw [At] at a;subst a;obtain ⟨t,rfl⟩:=r;rw [toP];exact ⟨_,.str x t⟩
 | .tup ds,v,u,o,a,r=>by
  rw [At] at a
  rw [okS] at o
  obtain ⟨b,vs,rfl,hb,wb⟩:=a
  cases r
  obtain ⟨_,its,rv,p⟩:=ok b _ hb
  obtain ⟨ob,e1,e2,n,e3⟩:=p
  obtain ⟨as,q⟩:=Ats.reads ok o wb rv
  rw [toP]
  exact ⟨_,.tuple e1 e2 e3 q⟩
 | .lst ds,v,u,o,a,r=>by
  rw [At] at a
  rw [okS] at o
  obtain ⟨b,vs,rfl,_,hb,wb⟩:=a
  cases r
  obtain ⟨_,its,n,rv,e1⟩:=hb.ok ok
  obtain ⟨as,q⟩:=Ats.reads ok o wb rv
  rw [toP]
  exact ⟨_,.list e1 rfl rfl q⟩
 | .dct _ _,_,_,o,_,_=>by rw [okS] at o;cases o
 | .obj _ _ _,_,_,o,_,_=>by rw [okS] at o;cases o
theorem Ats.reads (ok:HOk P w H h):∀ {ds:List D}{vs:List V}{us:List Value},q7w ds=true->Ats K cl H S vs ds->Vals vs us->∃ as,ReadsAll h us (q4q ds) as
 | [],[],_,_,_,.nil=>by rw [q4q];exact ⟨_,.nil⟩
 | d::ds,v::vs,u::us,o,a,.cons r t=>by
  rw [q7w,N0q] at o
  rw [Ats] at a
  obtain ⟨as,q⟩:=At.reads ok o.1 a.1 r
  obtain ⟨bs,q2⟩:=Ats.reads ok o.2 a.2 t
  rw [q4q]
  exact ⟨_,.cons q q2⟩
 | [],_::_,_,_,z,_=>by rw [Ats] at z;exact z.elim
 | _::_,[],_,_,z,_=>by rw [Ats] at z;exact z.elim
end
end
noncomputable def z29 (K:PySem.W.Frag) (cl:Nat->Addr) (neg:Bool):R2:=λ x y H Q=>∃ S dx dy,At K cl H S x dx/\At K cl H S y dy/\okS dx=true/\okS dy=true/\q6K dx<=64/\q6K dy<=64/\Q (.bl (if neg then !eqD dx dy else eqD dx dy)) H
section
variable {X:Cx}{cl:Nat->Addr}{K:PySem.W.Frag}{C:Dc}
theorem z32 (hu:X.A.units+64<cLine):OpR X (compareOp .Eq) (z29 X.K cl false):=by
 intro pins s σ H x y v u Q I rx ry h
 obtain ⟨S,dx,dy,ax,ay,ox,oy,ex,ey,q⟩:=h
 obtain ⟨as,ra⟩:=ax.reads I.hok ox rx
 obtain ⟨bs,rb⟩:=ay.reads I.hok oy ry
 refine eq_dataH ra rb ?_ ?_ hu ?_
 ·unfold SeqAt.shaped;rw [q1U dx ox,q1V dx ox,N0o ex];rfl
 ·unfold SeqAt.shaped;rw [q1U dy oy,q1V dy oy,N0o ey];rfl
 ·rw [q4L dx dy ox oy];exact ⟨.bl _,H,I,rfl,q⟩
theorem z33 (hu:X.A.units+64<cLine):OpR X (compareOp .NotEq) (z29 X.K cl true):=by
 intro pins s σ H x y v u Q I rx ry h
 obtain ⟨S,dx,dy,ax,ay,ox,oy,ex,ey,q⟩:=h
 obtain ⟨as,ra⟩:=ax.reads I.hok ox rx
 obtain ⟨bs,rb⟩:=ay.reads I.hok oy ry
 refine ne_dataH ra rb ?_ ?_ hu ?_
 ·unfold SeqAt.shaped;rw [q1U dx ox,q1V dx ox,N0o ex];rfl
 ·unfold SeqAt.shaped;rw [q1U dy oy,q1V dy oy,N0o ey];rfl
 ·rw [q4L dx dy ox oy];exact ⟨.bl _,H,I,rfl,q⟩
theorem K2 (hu:X.A.units+64<cLine):OpR X (compareOp .Eq) (λ x y H Q=>rEq x y H Q\/z29 X.K cl false x y H Q):=OpR.or z4K (z32 hu)
theorem z0l (hu:X.A.units+64<cLine):OpR X (compareOp .NotEq) (λ x y H Q=>rNe x y H Q\/z29 X.K cl true x y H Q):=OpR.or z4L (z33 hu)
theorem q7N {H:Hp}{S:Addr->Prop}{x y:V}{dx dy:D}(ax:At K cl H S x dx) (ay:At K cl H S y dy) (h:z2Q dx dy=true):z4J x y=true/\decide (x=y)=eqD dx dy:=by
 cases dx<;>cases dy<;>first | exact Bool.noConfusion h | (cases ax;cases ay;exact ⟨rfl,by first | rfl | exact dec_str | exact dec_int | exact dec_bl⟩)
theorem K3:OpS K cl (λ x y H Q=>rEq x y H Q\/z29 K cl false x y H Q) dEq:=by
 intro H S x y dx dy Q ax ay p
 unfold dEq at p
 by_cases c:cmpOk dx dy=true
 ·rw [w9 c] at p
  have q:=p.2 (.bl (eqD dx dy)) H (Same.refl H) λ S'=>by rw [At]
  unfold cmpOk at c
  rw [Bool.or_eq_true] at c
  rcases c with c | c
  ·obtain ⟨h1,h2⟩:=q7N ax ay c
   exact .inl ⟨h1,by rw [h2];exact q⟩
  ·simp only [N0q,decide_eq_true_eq] at c
   exact .inr ⟨S,dx,dy,ax,ay,c.1.1.1,c.1.1.2,c.1.2,c.2,q⟩
 ·unfold Rz.guard at p
  rw [N0l c] at p
  exact p.elim
theorem z0m:OpS K cl (λ x y H Q=>rNe x y H Q\/z29 K cl true x y H Q) dNe:=by
 intro H S x y dx dy Q ax ay p
 unfold dNe at p
 by_cases c:cmpOk dx dy=true
 ·rw [w9 c] at p
  have q:=p.2 (.bl (!eqD dx dy)) H (Same.refl H) λ S'=>by rw [At]
  unfold cmpOk at c
  rw [Bool.or_eq_true] at c
  rcases c with c | c
  ·obtain ⟨h1,h2⟩:=q7N ax ay c
   exact .inl ⟨h1,by rw [h2];exact q⟩
  ·simp only [N0q,decide_eq_true_eq] at c
   exact .inr ⟨S,dx,dy,ax,ay,c.1.1.1,c.1.1.2,c.1.2,c.2,q⟩
 ·unfold Rz.guard at p
  rw [N0l c] at p
  exact p.elim
theorem K4:∀ x y d,dEq x y=.ok d->d.imm=true:=λ x y d h=>by have q:=(X4 h).2;cases q;rfl
theorem z0n:∀ x y d,dNe x y=.ok d->d.imm=true:=λ x y d h=>by have q:=(X4 h).2;cases q;rfl
theorem q34 {H:Hp}{S:Addr->Prop}{x:V}{d:D}(a:At K cl H S x d) (f:flatD d=true):q1m x=true/\∀ {y:V}{e:D},At K cl H S y e->flatD e=true->eqV y x=eqD e d:=by
 cases d<;>first | exact Bool.noConfusion f | (cases a;refine ⟨rfl,λ {y e} b g=>?_⟩;cases e<;>first | exact Bool.noConfusion g | (cases b;rfl))
theorem q35 {H:Hp}{S:Addr->Prop}{x:V}{d:D}(a:At K cl H S x d) (f:flatD d=true):∀ {vs:List V}{ds:List D},Ats K cl H S vs ds->ds.all flatD=true->vs.all q1m=true/\inV x vs=ds.any λ y=>eqD y d
 | [],[],_,_=>⟨rfl,rfl⟩
 | v::vs,e::ds,w,g=>by
  rw [Ats] at w
  rw [List.all_cons,N0q] at g
  obtain ⟨h1,h2⟩:=q35 a f w.2 g.2
  unfold inV at h2 ⊢
  rw [List.all_cons,N1j,N1j,h1,h2,(q34 w.1 g.1).1,(q34 a f).2 w.1 g.1]
  exact ⟨rfl,rfl⟩
 | [],_::_,z,_=>by rw [Ats] at z;exact z.elim
 | _::_,[],z,_=>by rw [Ats] at z;exact z.elim
theorem z34 (hu:X.A.units+64<cLine):OpR X (compareOp .In) (λ x y H Q=>∃ a o,y=.ref a/\q5p H a x o/\Q (.bl o.isSome) H):=by
 intro pins s σ H x y v u Q I rx ry h
 obtain ⟨a,o,rfl,g,q⟩:=h
 cases ry
 exact d_in (by lia) I g rx λ s3 I3=>⟨.bl o.isSome,H,I3,rfl,q⟩
theorem q5z (hu:X.A.units+64<cLine):OpR X (compareOp .In) (λ x y H Q=>rIn X.K false x y H Q\/∃ a o,y=.ref a/\q5p H a x o/\Q (.bl o.isSome) H):=OpR.or q3H (z34 hu)
theorem q5A (k:Ky):∀ (ks:List Ky) (vs:List V),ks.length=vs.length->(valD k ks vs).isSome=ks.any λ j=>decide (j=k)
 | [],[],_=>rfl
 | [],_::_,h=>by simp at h
 | _::_,[],h=>by simp at h
 | x::ks,v::vs,h=>by
  rw [valD,N1j]
  by_cases e:x=k
  ·rw [N0j e,N0o e];rfl
  ·rw [N0l e,N0e e,Bool.false_or,q5A k ks vs (by simpa using h)]
theorem in_all {H:Hp}{S:Addr->Prop}{x y:V}{dx dy:D}{b:Bool}(ax:At K cl H S x dx) (ay:At K cl H S y dy) (h:inD dx dy=.ok b) :
 (∃ p xs,y=.ref p/\(SqL K H p xs\/SqT K H p xs)/\q1m x=true/\xs.all q1m=true/\inV x xs=b)\/∃ a o,y=.ref a/\q5p H a x o/\o.isSome=b:=by
 cases dy with
 | lst ys =>
  obtain ⟨c,e⟩:=X4 h
  cases e
  rw [N0q] at c
  rw [At] at ay
  obtain ⟨p,vs,rfl,_,hp,w⟩:=ay
  obtain ⟨h1,h2⟩:=q35 ax c.1 w c.2
  exact .inl ⟨p,vs,rfl,.inl (.inl hp),(q34 ax c.1).1,h1,h2⟩
 | tup ys =>
  obtain ⟨c,e⟩:=X4 h
  cases e
  rw [N0q] at c
  rw [At] at ay
  obtain ⟨p,vs,rfl,hp,w⟩:=ay
  obtain ⟨h1,h2⟩:=q35 ax c.1 w c.2
  exact .inl ⟨p,vs,rfl,.inr (SqT.of hp),(q34 ax c.1).1,h1,h2⟩
 | dct ks ds =>
  have h:(match keyD dx with | some k=>Rz.ok (ks.any λ j=>decide (j=k)) | none=>.un)=.ok b:=h
  cases e:keyD dx with
  | none=>rw [e] at h;cases h
  | some k =>
   rw [e] at h
   cases h
   have hk:=q7H ax e
   subst hk
   rw [At] at ay
   obtain ⟨p,vs,rfl,_,hp,l,w⟩:=ay
   refine .inr ⟨p,q6g (ks.zip vs) k,rfl,q5p.k hp,?_⟩
   rw [q4E,q5A k ks vs (by rw [w.length];exact l)]
 | _=>cases h
theorem q5B:OpS K cl (λ x y H Q=>rIn K false x y H Q\/∃ a o,y=.ref a/\q5p H a x o/\Q (.bl o.isSome) H) dIn:=by
 intro H S x y dx dy Q ax ay p
 unfold dIn at p
 cases e:inD dx dy with
 | ok b =>
  rw [e] at p
  have q:=p.2 (.bl b) H (Same.refl H) λ S'=>by rw [At]
  rcases in_all ax ay e with ⟨r,xs,h1,h2,h3,h4,h5⟩ | ⟨a,o,h1,h2,h3⟩
  ·exact .inl ⟨r,xs,h1,h2,h3,h4,by rw [N0l N0d,h5];exact q⟩
  ·exact .inr ⟨a,o,h1,h2,by rw [h3];exact q⟩
 | er c s=>rw [e] at p;exact p.elim
 | un=>rw [e] at p;exact p.elim
theorem q5C:∀ x y d,dIn x y=.ok d->d.imm=true:=λ x y d h=>by
 obtain ⟨b,_,h⟩:=j7 (T:=λ r=>r=Rz.ok d) (λ o_ o_ z=>by cases z) (λ z=>by cases z) h
 cases h;rfl
theorem q1W:∀ x d,q8Q x=.ok d->d.imm=true:=λ x d h=>by cases x<;>first | (cases h;rfl) | cases h
theorem q1X:∀ (H:Hp) (S:Addr->Prop) (x:V) (dx:D) (Q:VK),At K cl H S x dx->(match q8Q dx with | .ok d=>d.imm=true/\∀ v,(∀ S',At K cl H S' v d)->Q v H | _=>False)->rU (λ i=>.int (-i)) x H Q:=by
 intro H S x dx Q ax p
 cases dx with
 | int i=>rw [At] at ax;exact ⟨i,ax,p.2 _ λ S'=>by rw [At]⟩
 | _=>exact p.elim
theorem w6:OpR X (binaryOp .Add) (λ x y H Q=>rI0 (λ i j=>.int (i+j)) x y H Q\/∃ i j,x=.str i/\y=.str j/\i.length+j.length<=sizeLine/\Q (.str (i++j)) H):=OpR.or z05 q2h
theorem u5:OpR X (binaryOp .Add) (λ x y H Q=>(rI0 (λ i j=>.int (i+j)) x y H Q\/∃ i j,x=.str i/\y=.str j/\i.length+j.length<=sizeLine/\Q (.str (i++j)) H) \/
 (∃ l b xs zs,x=.ref l/\y=.ref b/\Rd H l (.lst xs)/\Rd H b (.lst zs)/\xs.length+zs.length<=sizeLine/\∀ p,H p=none->Q (.ref p) (upd H p (.lst (xs++zs))))\/z0V X.K x y H Q):=OpR.or (OpR.or z05 q2h) (OpR.or q7F q6Z)
theorem q36 {H:Hp}{S:Addr->Prop}{vs:List V}{ds:List D}{r:Prop}(w:Ats K cl H S vs ds) (h1:∀ v d,vs=[v]->ds=[d]->At K cl H S v d->r) (h2:(∀ d,ds≠[d])->r):r:=by
 match vs,ds,w with
 | [v],[d],w=>rw [Ats] at w;exact h1 v d rfl rfl w.1
 | _,[],_=>exact h2 λ d z=>by cases z
 | _,_::_::_,_=>exact h2 λ d z=>by cases z
 | [],[_],w=>rw [Ats] at w;exact w.elim
 | _::_::_,[_],w=>rw [Ats,Ats] at w;exact w.2.elim
theorem q7O {H:Hp}{S:Addr->Prop}:∀ {vs:List V}{ds:List D}{bs:List Bool},Ats K cl H S vs ds->blsD ds=some bs->vs=bs.map V.bl
 | [],[],bs,_,e=>by cases e;rfl
 | v::vs,d::ds,bs,w,e=>by
  rw [Ats] at w
  cases d with
  | bl b =>
   rw [blsD] at e
   cases q:blsD ds with
   | none=>rw [q] at e;cases e
   | some r =>
    rw [q] at e
    cases e
    have w1:=w.1
    rw [At] at w1
    rw [N09,w1,q7O w.2 q]
  | _=>cases e
 | [],_::_,_,z,_=>by rw [Ats] at z;exact z.elim
 | _::_,[],_,z,_=>by rw [Ats] at z;exact z.elim
theorem q5D {H:Hp}{S:Addr->Prop}:∀ {vs:List V}{ds:List D}{bs:List Int},Ats K cl H S vs ds->intsD ds=some bs->vs=bs.map V.int
 | [],[],bs,_,e=>by cases e;rfl
 | v::vs,d::ds,bs,w,e=>by
  rw [Ats] at w
  cases d with
  | int b =>
   rw [intsD] at e
   cases q:intsD ds with
   | none=>rw [q] at e;cases e
   | some r =>
    rw [q] at e
    cases e
    have w1:=w.1
    rw [At] at w1
    rw [N09,w1,q5D w.2 q]
  | _=>cases e
 | [],_::_,_,z,_=>by rw [Ats] at z;exact z.elim
 | _::_,[],_,z,_=>by rw [Ats] at z;exact z.elim
theorem q7P:q6s K cl (λ xs H Q=>∃ (a:Addr) (bs:List Bool),xs=[.ref a]/\SqL K H a (bs.map V.bl)/\Q (.bl (bs.all id)) H) z3Y:=by
 intro H S vs ds Q w z
 refine q36 w (λ v d e1 e2 a=>?_) (λ n=>?_)
 ·subst e1 e2
  cases d with
  | lst xs =>
   rw [At] at a
   obtain ⟨b,us,rfl,_,hb,wb⟩:=a
   have z:match (optR (blsD xs)).bind λ bs=>Rz.ok (D.bl (bs.all id)) with | .ok d=>∀ v,(∀ S',At K cl H S' v d)->Q v H | _=>False:=z
   cases e:blsD xs with
   | none=>rw [e] at z;exact z.elim
   | some bs =>
    rw [e] at z
    refine ⟨b,bs,rfl,?_,z _ λ S'=>by rw [At]⟩
    rw [<- q7O wb e]
    exact .inl hb
  | _=>exact z.elim
 ·match ds,n,z with
  | [],_,z=>exact z.elim
  | [d],n,_=>exact absurd rfl (n d)
  | _::_::_,_,z=>exact z.elim
theorem q7Q:q6s K cl (λ xs H Q=>∃ (a:Addr) (ns:List Int),xs=[.ref a]/\SqL K H a (ns.map V.int)/\Q (.int ns.sum) H) z3Z:=by
 intro H S vs ds Q w z
 refine q36 w (λ v d e1 e2 a=>?_) (λ n=>?_)
 ·subst e1 e2
  cases d with
  | lst xs =>
   rw [At] at a
   obtain ⟨b,us,rfl,_,hb,wb⟩:=a
   have z:match (optR (intsD xs)).bind λ bs=>Rz.ok (D.int bs.sum) with | .ok d=>∀ v,(∀ S',At K cl H S' v d)->Q v H | _=>False:=z
   cases e:intsD xs with
   | none=>rw [e] at z;exact z.elim
   | some bs =>
    rw [e] at z
    refine ⟨b,bs,rfl,?_,z _ λ S'=>by rw [At]⟩
    rw [<- q5D wb e]
    exact .inl hb
  | _=>exact z.elim
 ·match ds,n,z with
  | [],_,z=>exact z.elim
  | [d],n,_=>exact absurd rfl (n d)
  | _::_::_,_,z=>exact z.elim
theorem q7R:q6s K cl (λ xs H Q=>∃ i,xs=[.int i]/\i.natAbs.log2<1920/\Q (.str (toString i)) H) z1a:=by
 intro H S vs ds Q w z
 refine q36 w (λ v d e1 e2 a=>?_) (λ n=>?_)
 ·subst e1 e2
  cases d with
  | int i =>
   rw [At] at a;subst a
   by_cases h:i.natAbs.log2<1920
   ·simp only [z1a,z19,w9 h] at z
    exact ⟨i,rfl,h,z _ λ S'=>by rw [At]⟩
   ·simp only [z1a,z19,Rz.guard,N0l h] at z
  | _=>exact z.elim
 ·match ds,n,z with
  | [],_,z=>exact z.elim
  | [d],n,_=>exact absurd rfl (n d)
  | _::_::_,_,z=>exact z.elim
theorem q4M {f:D->Rz D}(h:∀ x d,f x=.ok d->d.big=false):∀ ds d,z19 f ds=.ok d->d.big=false:=λ ds d e=>by
 match ds,e with
 | [x],e=>exact h x d e
 | [],e=>cases e
 | _::_::_,e=>cases e
theorem z1m:∀ ds d,z3Y ds=.ok d->d.big=false:=q4M λ x d h=>by
 cases x<;>first | (cases h;done) | skip
 obtain ⟨b,_,h⟩:=j7 (T:=λ r=>r=Rz.ok d) (λ o_ o_ z=>by cases z) (λ z=>by cases z) h
 cases h;rfl
theorem z1n:∀ ds d,z3Z ds=.ok d->d.big=false:=q4M λ x d h=>by
 cases x<;>first | (cases h;done) | skip
 obtain ⟨b,_,h⟩:=j7 (T:=λ r=>r=Rz.ok d) (λ o_ o_ z=>by cases z) (λ z=>by cases z) h
 cases h;rfl
theorem z1o:∀ ds d,z1a ds=.ok d->d.big=false:=q4M λ x d h=>by
 cases x<;>first | (cases h;done) | (have q:=(X4 h).2;cases q;rfl)
theorem v8:z2U K cl (λ xs H Q=>∃ p ys,xs=[.ref p]/\((SqL K H p ys/\∀ l,H l=none->Q (.ref l) (upd H l (.tup ys)))\/(SqT K H p ys/\Q (.ref p) H))) pTuple:=by
 intro H S vs ds Q cs w z
 refine q36 w (λ v d e1 e2 a=>?_) (λ n=>?_)
 ·subst e1 e2
  cases d with
  | lst xs =>
   rw [At] at a
   obtain ⟨b,us,rfl,_,hb,wb⟩:=a
   refine ⟨b,us,rfl,.inl ⟨.inl hb,λ l hl=>z _ _ (Z6 hl _) ?_ (Nw.small rfl)⟩⟩
   rw [At]
   exact ⟨l,us,rfl,Z0,wb.same (Z6 hl _)⟩
  | tup xs =>
   have a':=a
   rw [At] at a
   obtain ⟨b,us,rfl,hb,wb⟩:=a
   exact ⟨b,us,rfl,.inr ⟨SqT.of hb,z _ H (Same.refl H) a' (Nw.small rfl)⟩⟩
  | _=>exact z.elim
 ·match ds,n,z with
  | [],_,z=>exact z.elim
  | [d],n,_=>exact absurd rfl (n d)
  | _::_::_,_,z=>exact z.elim
end
theorem X0 {X:Cx}{C:Dc}{κ:List Kd}{m:Kd}{x:Str}{i:Int}{t:Tok}{pos:Pos}(hg:Gl X x) (hm:X.mg x=some (.int i t)) (hd:(x==("__debug__" : Str))=false:=by decide):DE X C κ m true (.Name x pos) (gC (.int i)) :=
 ⟨_,q2I (v:=.int i) hg hm ⟨t,rfl⟩ hd,λ F σ H δ r Q p=>p _ H (Same.refl H) (by rw [At]) λ o_=>Nw.small rfl⟩
theorem q9r {X:Cx}{C:Dc}{κ:List Kd}{m:Kd}{fa fb fc:Bool}{a b c:Expr}{ga gb gc:GE}{pos:Pos}{op op':CmpOp}{r r':R2}{p p':D->D->Rz D}(ho:OpR X (compareOp op) r) (ho':OpR X (compareOp op') r') (hp:OpS X.K C.cl r p) (hp':OpS X.K C.cl r' p') (hi:∀ x y d,p x y=.ok d->d.imm=true) (hi':∀ x y d,p' x y=.ok d->d.imm=true)
 (ha:DE X C κ .v fa a ga) (hb:DE X C κ .v fb b gb) (hc:DE X C κ .v fc c gc) (hm:lastMarks [op,op'] [b,c]=false:=by with_unfolding_all rfl):DE X C κ m true (.Compare a [op,op'] [b,c] pos) (gChain p p' ga gb gc):=by
 obtain ⟨ta,pa,da⟩:=ha
 obtain ⟨tb,pb,db⟩:=hb
 obtain ⟨tc,pc,dc⟩:=hc
 refine ⟨_,q90 ho ho' pa pb pc hm,λ F σ H δ rx Q z=>da F σ H δ rx _ ?_⟩
 obtain ⟨d1,e1,z⟩:=j3 (T:=Post X.K C F m true H Q) (λ o_ o_ q=>q) (λ q=>q) z
 obtain ⟨d2,e2,z⟩:=j3 (T:=Post X.K C F m true H Q) (λ o_ o_ q=>q) (λ q=>q) z
 obtain ⟨d3,e3,z⟩:=j3 (T:=Post X.K C F m true H Q) (λ o_ o_ q=>q) (λ q=>q) z
 rw [e1]
 intro v H1 s1 a1 _
 refine db F σ H1 δ (rx.same s1) _ ?_
 rw [e2]
 intro u H2 s2 a2 _
 refine hp H2 _ v u d1 d2 _ (a1.same s2) a2 ?_
 rw [e3]
 refine ⟨hi _ _ _ e3,λ w H3 s3 aw=>?_⟩
 have s13:=(s1.trans s2).trans s3
 cases d3 with
 | bl k =>
  have q:=aw (λ o_=>True)
  rw [At] at q
  refine ⟨k,q,?_⟩
  cases k with
  | false=>exact z09 (z _ H3 s13 (by rw [At]) λ o_=>Nw.small rfl)
  | true =>
   refine q7e (dc F σ H3 δ (rx.same s13) _ ?_)
   obtain ⟨d4,e4,z⟩:=j3 (T:=Post X.K C F m true H Q) (λ o_ o_ q=>q) (λ q=>q) z
   rw [e4]
   intro w4 H4 s4 a4 _
   refine hp' H4 _ u w4 d2 d4 Q (a2.same (s3.trans s4)) a4 ?_
   cases q5:p' d2 d4 with
   | ok d5 =>
    rw [q5] at z
    have im:=hi' _ _ _ q5
    exact ⟨im,λ w5 H5 s5 a5=>z w5 H5 ((s13.trans s4).trans s5) (a5 _) λ o_=>Nw.small (by cases d5<;>first | rfl | (rw [D.imm] at im;cases im))⟩
   | er c s=>rw [q5] at z;exact z.elim
   | un=>rw [q5] at z;exact z.elim
 | _=>exact z.elim
theorem z35 {X:Cx}{C:Dc}{κ:List Kd}{fa:Bool}{a:Expr}{ga:GE}{x:Str}{pos p2:Pos}{ad:Addr}{ob:Obj}{its:Array Value}{n:Nat}{ws:List Str}(hg:Gl X x) (hm:X.mg x=some (.ref ad)) (hk:X.K.lookup ad=some ob) (hc:ob.cls=.type "tuple") (hd:ob.data=.seq its n) (hz:its.size<=sizeLine) (hv:Vals (ws.map V.str) its.toList)
 (ha:DE X C κ .v fa a ga) (hmk:behindInMarks .In (.Name x p2)=false:=by rfl) (hdb:(x==("__debug__" : Str))=false:=by decide):DT X C κ (.Compare a [.In] [.Name x p2] pos) (gB (gUn (dInW ws) ga)):=by
 obtain ⟨ta,pa,da⟩:=ha
 refine ⟨_,q4s q3H pa (q2I (v:=.ref ad) hg hm rfl hdb) hmk,λ F σ H δ rx Q z=>da F σ H δ rx _ ?_⟩
 have z:PostT H Q (((ga δ).bind (dInW ws)).bind λ x=>match x with | .bl c=>.ok c | _=>.un):=z
 obtain ⟨d0,e0,z⟩:=j3 (T:=PostT H Q) (λ o_ o_ q=>q) (λ q=>q) z
 obtain ⟨d1,e1,e0⟩:=j3 (T:=λ r=>r=Rz.ok d0) (λ o_ o_ z=>by cases z) (λ z=>by cases z) e0
 rw [e1]
 intro v H1 s1 a1 _
 cases d1 with
 | str y =>
  cases e0
  rw [At] at a1
  subst a1
  refine ⟨ad,ws.map V.str,rfl,.inr (.inr ⟨ob,its,n,hk,hc,hd,hz,hv⟩),rfl,by rw [List.all_map,List.all_eq_true];intro _ _;rfl,?_⟩
  have e:inV (.str y) (ws.map V.str)=decide (y∈ws):=by
   unfold inV
   rw [List.any_map,Bool.eq_iff_iff,List.any_eq_true,N1p]
   constructor
   ·rintro ⟨q,hq,e⟩
    have e:(q==y)=true:=e
    rw [<- eq_of_beq e]
    exact hq
   ·intro h
    exact ⟨y,h,beq_self_eq_true y⟩
  rw [N0l N0d,e]
  exact ⟨_,rfl,z H1 s1⟩
 | _=>cases e0
theorem v9:bootBuiltins "tuple" = some (.type "tuple"):=by decide +kernel
theorem q7S:bootBuiltins "str" = some (.type "str"):=by decide +kernel
theorem q7T:bootBuiltins "all" = some (.builtin "all"):=by decide +kernel
theorem q7U:bootBuiltins "sum" = some (.builtin "sum"):=by decide +kernel
section
variable {X:Cx}{C:Dc}{L:List Kd×List Nat}{κ κ':List Kd}{m:Kd}{fr fa fb fk:Bool}{a b e o:Expr}{es:List Expr}{ga gb ge gk:GE}{gs:GA}{pos p apos:Pos}{x:Str}{c:Nat}{f:Str}
set_option tactic.hygienic true in
theorem q42 (cls:Cls X.K (C.cl c)) (na:X1 X.K (C.cl c) f) (ha:DE X C κ m fa e ga) (hb:attributeBase e f X.env (eval e X.env)=eval e X.env:=by rfl):DE X C κ m false (.Attribute e f pos) (gUn (q9n c f) ga):=by
 obtain ⟨t,pt,dt⟩:=ha
 refine ⟨_,z06 pt hb,λ F σ H δ r Q z=>dt F σ H δ r _ ?_⟩
 obtain ⟨d,e1,z⟩:=j3 (T:=Post X.K C F m false H Q) (λ o_ o_ q=>q) (λ q=>q) z
 rw [e1]
 intro v H1 s1 a1 _
 cases d with
 | obj c' f' d =>
  have z:Post X.K C F m false H Q (Rz.guard (c'=c/\f'=f) (.ok d)):=z
  obtain ⟨hh,z2⟩:=Q0 (T:=Post X.K C F m false H Q) (λ z=>z) z
  clear z
  obtain ⟨rfl,rfl⟩:=hh
  rw [At] at a1
  obtain ⟨a,dx,u,rfl,sa,ha,wu⟩:=a1
  exact ⟨a,_,dx,_,u,rfl,ha,cls,na,by simp [List.lookup],z2 u H1 s1 wu (λ z=>by cases z)⟩
 | _=>exact z.elim
theorem q5E {K:PySem.W.Frag}{cl:Nat->Addr}{H:Hp}{S:Addr->Prop}{v:V}{d:D}{mm:Str}(a:At K cl H S v d) (i:isObj c mm d=true):∃ q dx fs,v=.ref q/\H q=some (.ins (cl c) dx fs)/\fs.lookup mm=none:=by
 cases d with
 | obj c' f' d =>
  simp only [isObj,N0q,decide_eq_true_eq,Bool.not_eq_true',decide_eq_false_iff_not] at i
  obtain ⟨rfl,ne⟩:=i
  rw [At] at a
  obtain ⟨q,dx,u,rfl,_,h,_⟩:=a
  refine ⟨q,dx,_,rfl,h,?_⟩
  have e:(mm==f')=false:=by
   cases h:mm==f' with
   | false=>rfl
   | true=>exact absurd (eq_of_beq h).symm ne
  simp only [List.lookup,e]
 | _=>cases i
noncomputable def spInit (C:Addr) (f:Str):Sp:=λ vs H Q o_=>∃ (q dx:Addr),vs=[.ref q]/\H q=some (.ins C dx [])/\∀ (d:Addr),H d=none->Q .non (upd (upd H d (.dK [])) q (.ins C dx [(f,.ref d)]))
theorem q7V {ps:List Str}{fx:Addr}{fd:FuncData}{k:Nat}{x:Str}(M:Mk X.K (C.cl c) fx) (G:FnOk X.prog X.w X.K X.mg X.base CX0 k fx fd ps (spInit (C.cl c) f)) (hr:Room (k+1) X.A) (hg:Gl X x) (hm:X.mg x=some (.ref (C.cl c))) (hb:X9 X.K fd ps []) (hdb:(x==("__debug__" : Str))=false:=by decide) :
 DE X C κ m true (.Call (.Name x p) [] [] pos) (gC (.obj c f (.dct [] []))):=by
 refine ⟨_,q95 M G hr hg hm hb .nil q9d hdb,λ F σ H δ r Q z q dx hq hdx ne=>?_⟩
 refine ⟨q,dx,rfl,Z0,λ d hd=>⟨rfl,?_⟩⟩
 have s0:Same H (upd (upd H dx (.own q)) q (.ins (C.cl c) dx [])):=(Z6 hdx _).trans (Z6 (by rw [Z2 (N1f ne)];exact hq) _)
 have nqd:q≠d:=λ z=>by rw [<- z,Z0] at hd;cases hd
 have hd0:H d=none:=s0.free hd
 have s1:Same H (upd (upd (upd (upd H dx (.own q)) q (.ins (C.cl c) dx [])) d (.dK [])) q (.ins (C.cl c) dx [(f,.ref d)])):=λ b u e=>by
  rw [Z2 (J4 e hq),Z2 (J4 e hd0)]
  exact s0 b u e
 refine z _ _ s1 ?_ λ o_ o_=>⟨[q,d],⟨q,dx,d,[],rfl,rfl,nqd,Z0,by rw [Z2 (N1f nqd),Z0];rfl,rfl,Ats.nil⟩,λ b mb=>?_⟩
 ·rw [At]
  refine ⟨q,dx,.ref d,rfl,r.new m hq,Z0,?_⟩
  rw [At]
  exact ⟨d,[],rfl,r.new m hd0,by rw [Z2 (N1f nqd),Z0];rfl,rfl,Ats.nil⟩
 ·rcases N0c.mp mb with rfl | mb
  ·exact hq
  ·rw [N0f.mp mb];exact hd0
noncomputable def q7W:List Nat->TGs
 | []=>L2.gNil
 | i::r=>L2.gCons (L2.q2J i) (q7W r)
noncomputable def setKs (κ:List Kd) (is:List Nat):List Kd:=is.foldl (λ κ i=>κ.set i .s) κ
theorem q7X {K:PySem.W.Frag}:∀ {is:List Nat}{κ:List Kd}{φ:Nat->List Addr}{σ:L2.St}{H:Hp}{δ δ':DS}{vs:List V}{ds:List D}{Q:L2.St->Hp->Prop}{F0:Addr->Prop}{H0:Hp},Rs K C κ φ σ H δ->(∀ i∈is,i<κ.length/\i∉C.io)->Ats K C.cl H (Sk C (Fo φ) .s) vs ds->setT is ds δ=some δ'->Kp F0 H0 (Fo φ) H ->
 (∀ φ' σ',Rs K C (setKs κ is) φ' σ' H δ'->Kp F0 H0 (Fo φ') H->Q σ' H)->q7W is vs σ H Q
 | [],κ,φ,σ,H,δ,δ',vs,ds,Q,F0,H0,r,_,w,e,kp,q=>by
  match vs,ds,w with
  | [],[],_=>cases e;exact ⟨rfl,q φ σ r kp⟩
  | _::_,[],w=>rw [Ats] at w;exact w.elim
  | _,_::_,_=>cases e
 | i::is,κ,φ,σ,H,δ,δ',vs,ds,Q,F0,H0,r,hi,w,e,kp,q=>by
  match vs,ds,w with
  | v::vs,d::ds,w =>
   rw [Ats] at w
   rw [setT] at e
   obtain ⟨h1,h2⟩:=hi i N00
   obtain ⟨r2,kp2⟩:=r.put (k:=.s) (l:=[]) (Same.refl H) h1 (show SlOk K C (Fo (φset φ i [])) H [] v d .s from w.1.sub λ b z o_=>⟨z.1,λ f=>z.2 (q0s f)⟩) (λ a m=>absurd m (by simp)) h2
   refine ⟨v,vs,rfl,?_⟩
   exact q7X r2 (λ j hj=>by rw [N1h];exact hi j (N02 _ hj)) (w.2.sub λ b z o_=>⟨z.1,λ f=>z.2 (q0s f)⟩) e (kp.trans kp2) q
  | _,[],_=>cases e
  | [],_::_,w=>rw [Ats] at w;exact w.elim
theorem z36 {is:List Nat}{k:Nat}{tpos:Pos}(his:∀ i∈is,i<κ.length/\C.io.contains i=false) (hc:X.calm=true) (hg:PGs X es (q7W is)) (hn:(assignEach es X.env).length=is.length) (h:DE X C κ .s fr e ge)
 (hst:(assignEach es X.env).findIdx? (·.1)=none:=by rfl) (hs:swapsWithSole [.Tuple es k tpos] e pos.line X.env=pure false:=by rfl) (hw:swappedStores [.Tuple es k tpos] e X.env=pure none:=by rfl)
 (h1:(assignEach [.Tuple es k tpos] X.env).map (·.2)=[assign (.Tuple es k tpos) X.env]:=by rfl):DSt X C L κ (setKs κ is) (.Assign [.Tuple es k tpos] e pos) (z56 is ge):=by
 obtain ⟨t,pt,dt⟩:=h
 refine ⟨_,z03 pt (z2p hc hg hn hst) hs hw h1,λ φ σ H δ r D p=>dt (Fo φ) σ H δ r.rx _ ?_⟩
 obtain ⟨d,e1,p⟩:=j3 (T:=FinS X.K C L (setKs κ is) (Fo φ) H D) (λ o_ o_ q=>q) (λ q=>q) p
 rw [e1]
 intro v H1 s1 a1 _
 cases d with
 | tup ds =>
  have p:FinS X.K C L (setKs κ is) (Fo φ) H D ((optR (setT is ds δ)).bind λ δ'=>.ok (.nx δ')):=p
  cases e2:setT is ds δ with
  | none=>rw [e2] at p;exact p.elim
  | some δ' =>
   rw [e2] at p
   rw [At] at a1
   obtain ⟨q,vs,rfl,hq,w⟩:=a1
   have hl:∀ {is:List Nat}{ds:List Dl.D}{δ δ':DS},setT is ds δ=some δ'->ds.length=is.length:=by
    intro is
    induction is with
    | nil=>intro ds δ δ' h;cases ds with
     | nil=>rfl
     | cons _ _=>cases h
    | cons i is ih=>intro ds δ δ' h;cases ds with
     | nil=>cases h
     | cons d ds=>rw [setT] at h;rw [N0h,N0h,ih h]
   exact ⟨q,vs,rfl,SqT.of hq,by rw [w.length];exact hl e2,q7X (r.same s1) (λ i hi=>⟨(his i hi).1,u7 (his i hi).2⟩) w e2 (Kp.of s1 λ a f=>.inl f) λ φ' σ' r' kp'=>p φ' σ' H1 r' kp'⟩
 | _=>exact p.elim
end
end Dl
namespace Dl
open PySem L2
noncomputable def PostIO (K:PySem.W.Frag) (cl:Nat->Addr) (p:Nat) (l:Nat->List Addr) (vs:List V) (H:Hp) (Q:VK):Rz (D×List D)->Prop
 | .ok (d,es)=>∀ v H',(∀ a o,H a=some o->(∀ j,j<p->a∉l j)->H' a=some o)->TupK H H'->(∀ a,H a≠none->H' a≠none)->(∀ (j:Nat) e,j<p->es[j]? = some e->∃ u,vs[j]? = some u/\Own K cl H' (λ o_=>False) (l j) u e) ->
  At K cl H' (λ a=>H a=none) v d->Nw K cl H H' (λ a=>H a=none) v d->Q v H'
 | _=>False
noncomputable def spI (K:PySem.W.Frag) (cl:Nat->Addr) (n p:Nat) (F:PFI):Sp:=λ vs H Q o_=>∃ (ds:List D) (l:Nat->List Addr),ds.length=n/\vs.length=n /\
 (∀ (i:Nat) d,ds[i]? = some d->∃ v,vs[i]? = some v/\(i<p->Own K cl H (λ o_=>False) (l i) v d)/\(p<=i->At K cl H (λ a=>∀ j,j<p->a∉l j) v d)) /\
 (∀ i j a,i<p->j<p->a∈l i->a∈l j->i=j)/\PostIO K cl p l vs H Q (F ds)
section
variable {K:PySem.W.Frag}{cl:Nat->Addr}{H H':Hp}{S S':Addr->Prop}
theorem Own.imO {l:List Addr}{v:V}{d:D}(i:d.imO=true) (h:Own K cl H S l v d):Own K cl H S' l v d:=by
 refine q5w h (λ ds=>?_) (λ ks ds=>?_) λ c f ks ds=>?_
 ·rintro rfl ⟨a,vs,e,el,q,r⟩;exact ⟨a,vs,e,el,q,r.imm TupK.refl i⟩
 ·rintro rfl ⟨a,vs,e,el,q,k,r⟩;exact ⟨a,vs,e,el,q,k,r.imm TupK.refl i⟩
 ·rintro rfl ⟨a,dx,b,vs,e,el,ne,q,qb,k,r⟩;exact ⟨a,dx,b,vs,e,el,ne,q,qb,k,r.imm TupK.refl i⟩
set_option tactic.hygienic true in
theorem q10:∀ {is:List Nat}{δ:DS}{es:List D},getS is δ=.ok es->es.length=is.length/\∀ (k i:Nat),is[k]? = some i->∃ e,δ[i]? = some (some e)/\es[k]? = some e/\e.imO=true
 | [],δ,es,h=>by cases h;exact ⟨rfl,λ k i e=>by simp at e⟩
 | i::is,δ,es,h=>by
  rw [getS] at h
  split at h
  ·rename_i d q
   obtain ⟨hi,h⟩:=X4 h
   obtain ⟨ds,h1,h⟩:=j7 (T:=λ r=>r=Rz.ok es) (λ o_ o_ z=>by cases z) (λ z=>by cases z) h
   cases h
   obtain ⟨hl,hs⟩:=q10 h1
   refine ⟨by rw [N0h,N0h,hl],λ k j e=>?_⟩
   cases k with
   | zero =>
    have e:i=j:=N0b e
    subst e
    exact ⟨d,q,rfl,hi⟩
   | succ k=>exact hs k j e
  ·cases h
theorem q5F:∀ (is:List Nat) (es:List D) (δ:DS),(q3r is es δ).length=δ.length
 | [],_,δ=>by rw [q3r];simp
 | _::_,[],δ=>by rw [q3r];simp
 | i::is,e::es,δ=>by rw [q3r,q5F is es,N1h]
theorem setS_get:∀ {is:List Nat}{es:List D}{δ:DS}{j:Nat}{d:D},is.Nodup->es.length=is.length->(q3r is es δ)[j]? = some (some d)->(∃ k:Nat,is[k]? = some j/\es[k]? = some d)\/(j∉is/\δ[j]? = some (some d))
 | [],[],δ,j,d,_,_,h=>.inr ⟨by simp,h⟩
 | [],_::_,_,_,_,_,l,_=>by simp at l
 | _::_,[],_,_,_,_,l,_=>by simp at l
 | i::is,e::es,δ,j,d,nd,l,h=>by
  rw [q3r] at h
  obtain ⟨n1,n2⟩:=List.nodup_cons.mp nd
  rcases setS_get n2 (by simpa using l) h with ⟨k,h1,h2⟩ | ⟨h1,h2⟩
  ·exact .inl ⟨k+1,h1,h2⟩
  ·rcases get_set h2 with ⟨rfl,e',_⟩ | ⟨ne,e'⟩
   ·cases e'
    exact .inl ⟨0,rfl,rfl⟩
   ·exact .inr ⟨λ m=>(N0c.mp m).elim (λ z=>ne z.symm) h1,e'⟩
end
theorem z5b {io:List Nat}{κ:List Kd}(h:(io.all λ j=>decide (κ[j]? = some Kd.i))=true):∀ j:Nat,j∈io->κ[j]? = some .i:=λ j m=>of_decide_eq_true (List.all_eq_true.mp h j m)
section
variable {P:Program}{w:World}{K:PySem.W.Frag}{mg:Str->Option Value}{base:Heap}
theorem q2v {n:Nat}{ds:List D}{i:Nat}{d:D}(e:(startD n ds)[i]? = some (some d)):ds[i]? = some d:=by
 unfold startD at e
 by_cases h:i<ds.length
 ·rw [N0x (by simpa using h),N0i] at e
  cases q:ds[i]? with
  | none=>rw [q] at e;cases e
  | some x=>rw [q] at e;exact N0b e
 ·rw [N19 (by simpa using h),List.getElem?_replicate] at e
  split at e<;>cases e
theorem q0J {N:List Str}{vs:List V}{i:Nat}{v:V}(e:vs[i]? = some v):(L2.start N vs)[i]? = some (some v):=by
 have h:=(N04.mp e).1
 unfold L2.start
 rw [N0x (by rw [N01];exact h),N0i,e]
 rfl
theorem fn_I {x qual:Str}{st:Stmt}{f:Addr}{fd:FuncData}{N ps:List Str}{k n p:Nat}{io:List Nat}{cl:Nat->Addr}{κ κ':List Kd}{g:GS}(F:Fun K x qual st f fd) (S:FnScope N ps (defScope st)) (hn:ps.length=n) (hp:p<=n) (hio:io=List.range p) (hκ:∀ i:Nat,i<n->κ[i]? = some (if i<p then .i else .b)) (hend:(io.all λ j=>decide (κ'[j]? = some Kd.i))=true)
 (hbody:∀ (cdv:Value) (A:Around) (outer:List Env) (s:Shared) (H:Hp) (E:XK) (iv:Nat->V) (l:Nat->List Addr),Room k (A.deeper (PyProof.Rows.envOfC qual (defScope st) s.heap.objs.size f cdv)) ->
  DSs (cxOf CX0 P w K mg base N qual (defScope st) f cdv A outer s H E).nox ⟨cl,H,λ a=>∃ j,j<p/\a∈l j,io,iv,l⟩ ([],[]) κ κ' (defBody st) g):FnOk P w K mg base CX0 (k+1) f fd ps (spI K cl n p (z40 N.length p g)):=by
 refine F.ok S (λ vs H Q E h=>by obtain ⟨ds,l,h1,h2,_⟩:=h;rw [h2,hn]) (λ cdv A outer s H vs Q E hr h=>?_)
 obtain ⟨ds,l,hl,hvl,hs,hdj,q⟩:=h
 obtain ⟨t,pt,dt⟩:=hbody cdv A outer s H E (λ j=>(vs[j]?).getD .non) l hr
 have hmem:∀ j,j∈io↔j<p:=λ j=>by rw [hio];exact List.mem_range
 have Fiff:∀ a,Fo (λ j=>if j<p then l j else []) a↔∃ j,j<p/\a∈l j:=λ a=>by
  constructor
  ·rintro ⟨j,hj⟩
   have hj:a∈(if j<p then l j else []):=hj
   by_cases c:j<p
   ·exact ⟨j,c,by rw [N0j c] at hj;exact hj⟩
   ·rw [N0l c] at hj;exact absurd hj (by simp)
  ·rintro ⟨j,c,hj⟩
   exact ⟨j,by show a∈(if j<p then l j else []);rw [N0j c];exact hj⟩
 have own:∀ j,j<p->∃ d v,ds[j]? = some d/\vs[j]? = some v/\Own K cl H (λ o_=>False) (l j) v d:=λ j c=>by
  have e:ds[j]? = some ds[j]:=N08 (by lia)
  obtain ⟨v,h1,h2,_⟩:=hs j _ e
  exact ⟨_,v,e,h1,h2 c⟩
 have ex:∀ a,(∃ j,j<p/\a∈l j)->H a≠none:=by
  rintro a ⟨j,c,m⟩
  obtain ⟨d,v,_,_,o⟩:=own j c
  exact o.ex m
 refine ⟨t,pt,dt (λ j=>if j<p then l j else []) (L2.start N vs) H (startD N.length ds) ?_ _ ?_⟩
 ·refine ⟨λ i d e=>?_,λ i j a hi hj=>?_,λ a f=>ex a ((Fiff a).mp f),λ a f=>.inr ((Fiff a).mp f),λ a o e o_=>e,λ a z=>ex a z,TupK.refl,λ j hj=>?_,?_⟩
  ·have e:=q2v e
   have hi:i<n:=by rw [<- hl];exact (N04.mp e).1
   obtain ⟨v,h1,h2,h3⟩:=hs i d e
   refine ⟨v,_,q0J h1,hκ i hi,?_⟩
   show SlOk K _ _ H (if i<p then l i else []) v d (if i<p then .i else .b)
   by_cases c:i<p
   ·rw [N0j c,N0j c]
    exact (h2 c).mono TupK.refl (λ a o z=>z.elim) (λ o_ o_ o_ e=>e) λ a z=>z.elim
   ·rw [N0l c,N0l c]
    exact At.sub (h3 (by simp_all)) λ a z o_ f=>by
     obtain ⟨j,c,m⟩:=(Fiff a).mp f
     exact z j c m
  ·have hi:a∈(if i<p then l i else []):=hi
   have hj:a∈(if j<p then l j else []):=hj
   by_cases ci:i<p
   ·by_cases cj:j<p
    ·rw [N0j ci] at hi
     rw [N0j cj] at hj
     exact hdj i j a ci cj hi hj
    ·rw [N0l cj] at hj;exact absurd hj (by simp)
   ·rw [N0l ci] at hi;exact absurd hi (by simp)
  ·have c:=(hmem j).mp hj
   obtain ⟨d,v,_,h2,_⟩:=own j c
   refine ⟨?_,by show (if j<p then l j else [])=l j;rw [N0j c]⟩
   rw [q0J h2]
   show some (some v)=some (some ((vs[j]?).getD .non))
   rw [h2]
   rfl
  ·unfold L2.start startD
   rw [N06,N06,N01,N01,N13,N13,hvl,hl]
 ·have fin:∀ {κr:List Kd}{φ':Nat->List Addr}{σ':L2.St}{H':Hp}{δ':DS}{es:List Dl.D}{v:V}{d:Dl.D},(∀ j:Nat,j∈io->κr[j]? = some .i)->Rs K ⟨cl,H,λ a=>∃ j,j<p/\a∈l j,io,λ j=>(vs[j]?).getD .non,l⟩ κr φ' σ' H' δ'->getS (List.range p) δ'=.ok es ->
   PostIO K cl p l vs H Q (.ok (d,es))->At K cl H' (λ a=>H a=none) v d->Nw K cl H H' (λ a=>H a=none) v d->Q v H':=λ {κr φ' σ' H' δ' es v d} hk r hg q a nw=>by
   refine q v H' (λ a o e z=>r.fr a o e λ ⟨j,c,m⟩=>z j c m) r.tk (λ a h=>?_) (λ j e c he=>?_) a nw
   ·by_cases x:∃ j,j<p/\a∈l j
    ·exact r.xo a x
    ·cases eo:H a with
     | none=>exact absurd eo h
     | some o=>rw [r.fr a o eo x];exact λ z=>by cases z
   ·obtain ⟨_,hget⟩:=q10 hg
    obtain ⟨e',h1,h2,h3⟩:=hget j j (N1k c)
    rw [he] at h2
    cases h2
    obtain ⟨u,k',g1,g2,g3⟩:=r.sl j e h1
    have hj:j∈io:=(hmem j).mpr c
    rw [hk j hj] at g2
    cases g2
    obtain ⟨i1,i2⟩:=r.ii j hj
    rw [g1] at i1
    have i1:u=(vs[j]?).getD .non:=N0b (N0b i1)
    obtain ⟨d0,v0,_,h4,_⟩:=own j c
    rw [h4] at i1
    have i1:u=v0:=i1
    subst i1
    refine ⟨u,h4,?_⟩
    have g3:Own K cl H' _ (φ' j) u e:=g3
    rw [i2] at g3
    exact g3.imO h3
  have q:PostIO K cl p l vs H Q ((g (startD N.length ds)).bind _):=q
  cases e:g (startD N.length ds) with
  | ok o =>
   rw [e] at q
   cases o with
   | nx δ' =>
    intro φ' σ' H' r _
    have q:PostIO K cl p l vs H Q ((getS (List.range p) δ').bind λ es=>.ok (.non,es)):=q
    obtain ⟨es,h1,q⟩:=j7 (T:=PostIO K cl p l vs H Q) (λ o_ o_ z=>z) (λ z=>z) q
    exact fin (z5b hend) r h1 q (by rw [At]) (Nw.small rfl)
   | rt d' δ' =>
    intro v κr φ' σ' H' hk r a nw
    have q:PostIO K cl p l vs H Q ((getS (List.range p) δ').bind λ es=>.ok (d',es)):=q
    obtain ⟨es,h1,q⟩:=j7 (T:=PostIO K cl p l vs H Q) (λ o_ o_ z=>z) (λ z=>z) q
    exact fin hk r h1 q a nw
   | bk δ'=>exact q.elim
   | ct δ'=>exact q.elim
  | er c s=>rw [e] at q;exact q.elim
  | un=>rw [e] at q;exact q.elim
end
noncomputable def PostX (K:PySem.W.Frag) (C:Dc) (κ:List Kd) (φ:Nat->List Addr) (σ:St) (m:Kd) (fr:Bool) (H:Hp) (Q:VK):Rz (D×DS)->Prop
 | .ok (d,δ')=>∀ v H',Rs K C κ φ σ H' δ'->Kp (Fo φ) H (Fo φ) H'->At K C.cl H' (Sk C (Fo φ) m) v d->(fr=true->Nw K C.cl H H' (Sk C (Fo φ) m) v d)->Q v H'
 | _=>False
noncomputable def DX (X:Cx) (C:Dc) (κ:List Kd) (m:Kd) (fr:Bool) (e:Expr) (g:GX):Prop :=
 ∃ t,PE X e t/\∀ φ σ H δ,Rs X.K C κ φ σ H δ->∀ Q,PostX X.K C κ φ σ m fr H Q (g δ)->t σ H Q
section
variable {X:Cx}{C:Dc}{L:List Kd×List Nat}{κ κ':List Kd}{m:Kd}{fr fa fb fk:Bool}{a b e o:Expr}{es:List Expr}{ga gb ge gk:GE}{gs:GA}{gx:GX}{pos p apos:Pos}{x:Str}{c:Nat}{f:Str}{is:List Nat}
theorem Rs.io {K:PySem.W.Frag}{φ:Nat->List Addr}{σ:St}{H H':Hp}{δ:DS}{es:List D}(r:Rs K C κ φ σ H δ) (nd:is.Nodup) (hk:∀ i∈is,κ[i]? = some .o\/κ[i]? = some .i) (hb:∀ (k i:Nat),is[k]? = some i->∃ d,δ[i]? = some (some d)) (hl:es.length=is.length)
 (fr:∀ a o,H a=some o->(∀ i∈is,a∉φ i)->H' a=some o) (tk:TupK H H') (ex:∀ a,H a≠none->H' a≠none) (ow:∀ (k i:Nat) e,is[k]? = some i->es[k]? = some e->∃ u,σ[i]? = some (some u)/\Own K C.cl H' (λ o_=>False) (φ i) u e) :
 Rs K C κ φ σ H' (q3r is es δ)/\Kp (Fo φ) H (Fo φ) H':=by
 have kp:Kp (Fo φ) H (Fo φ) H':=⟨λ a o e n=>fr a o e λ i o_ m=>n ⟨i,m⟩,tk,λ a f=>.inl f,ex⟩
 refine ⟨⟨λ j d e=>?_,r.dj,λ a f=>ex a (r.ow a f),r.fi,λ a o e x=>fr a o (r.fr a o e x) λ i o_ m=>?_,λ a x=>ex a (r.xo a x),r.tk.trans tk,r.ii,by rw [q5F];exact r.len⟩,kp⟩
 ·rcases setS_get nd hl e with ⟨k,h1,h2⟩ | ⟨h1,h2⟩
  ·obtain ⟨u,hu,o⟩:=ow k j d h1 h2
   obtain ⟨d0,hd0⟩:=hb k j h1
   obtain ⟨v,k',g1,g2,g3⟩:=r.sl j d0 hd0
   rw [hu] at g1
   cases g1
   refine ⟨u,k',hu,g2,?_⟩
   have o':Own K C.cl H' (Sk C (Fo φ) .s) (φ j) u d:=o.mono TupK.refl (λ o_ o_ z=>z.elim) (λ o_ o_ o_ e=>e) λ o_ z=>z.elim
   rcases hk j (N0u h1) with q | q
   ·rw [q] at g2;cases g2;exact ⟨o',g3.2⟩
   ·rw [q] at g2;cases g2;exact o'
  ·obtain ⟨v,k',g1,g2,g3⟩:=r.sl j d h2
   refine ⟨v,k',g1,g2,g3.mono kp λ a m o e=>fr a o e λ i hi m'=>?_⟩
   have:=r.dj j i a m m'
   subst this
   exact h1 hi
 ·rcases r.fi a ⟨i,m⟩ with q | q
  ·rw [q] at e;cases e
  ·exact x q
theorem z1p {α:Type}{l:List α}(nd:l.Nodup){i j:Nat}{a:α}(h1:l[i]? = some a) (h2:l[j]? = some a):i=j:=by
 obtain ⟨li,ei⟩:=N04.mp h1
 obtain ⟨lj,ej⟩:=N04.mp h2
 have q:=List.pairwise_iff_getElem.mp nd
 rcases Nat.lt_trichotomy i j with c | c | c
 ·exact absurd (ei.trans ej.symm) (q i j li lj c)
 ·exact c
 ·exact absurd (ej.trans ei.symm) (q j i lj li c)
theorem q7Y {F:PFI}{n:Nat}{φ:Nat->List Addr}{σ:St}{H H1:Hp}{δ:DS}{us vs:List V}{ds os:List D}{Q:VK}{E:XK}(r:Rs X.K C κ φ σ H δ) (nd:is.Nodup) (hk:∀ i∈is,κ[i]? = some .o\/κ[i]? = some .i) (hn:os.length+ds.length=n) (ho:getS is δ=.ok os)
 (s1:Same H H1) (hul:us.length=is.length) (hu:∀ (k i:Nat),is[k]? = some i->∃ u,us[k]? = some u/\σ[i]? = some (some u)) (w:Ats X.K C.cl H1 (Sk C (Fo φ) .b) vs ds)
 (z:PostX X.K C κ φ σ m true H Q ((F (os++ds)).bind λ r=>Rz.guard (r.2.length=is.length) (.ok (r.1,q3r is r.2 δ)))):spI X.K C.cl n is.length F (us++vs) H1 Q E:=by
 obtain ⟨hol,hoa⟩:=q10 ho
 have r1:=r.same s1
 have lk:∀ {k i:Nat},is[k]? = some i->(λ k=>match is[k]? with | some i=>φ i | none=>[]) k=φ i:=λ {k i} e=>by show (match is[k]? with | some i=>φ i | none=>[])=φ i;rw [e]
 have isome:∀ {k:Nat},k<is.length->∃ i,is[k]? = some i:=λ {k} h=>⟨_,N08 h⟩
 refine ⟨os++ds,λ k=>match is[k]? with | some i=>φ i | none=>[],by rw [N06];exact hn,by rw [N06,hul,w.length,<- hol];exact hn,λ i d e=>?_,λ i j a hi hj mi mj=>?_,?_⟩
 ·by_cases c:i<is.length
  ·obtain ⟨j,hj⟩:=isome c
   obtain ⟨d',h1,h2,h3⟩:=hoa i j hj
   rw [N0x (by simp_all),h2] at e
   cases e
   obtain ⟨u,g1,g2⟩:=hu i j hj
   refine ⟨u,by rw [N0x (by simp_all)];exact g1,λ o_=>?_,λ h=>absurd c (by lia)⟩
   rw [lk hj]
   have hk':=hk j (N0u hj)
   rcases hk' with q | q
   ·obtain ⟨v,hv,ov⟩:=r1.own (.inl rfl) q h1
    rw [g2] at hv
    cases hv
    exact ov.imO h3
   ·obtain ⟨v,hv,ov⟩:=r1.own (.inr rfl) q h1
    rw [g2] at hv
    cases hv
    exact ov.imO h3
  ·rw [N19 (by simp_all)] at e
   obtain ⟨v,g1,g2⟩:=w.get e
   refine ⟨v,by rw [N19 (by simp_all),hul,<- hol];exact g1,λ h=>absurd h c,λ o_=>g2.sub λ a z o_ j hj m=>?_⟩
   obtain ⟨i',hi'⟩:=isome hj
   rw [lk hi'] at m
   exact z ⟨i',m⟩
 ·obtain ⟨i',hi'⟩:=isome hi
  obtain ⟨j',hj'⟩:=isome hj
  rw [lk hi'] at mi
  rw [lk hj'] at mj
  have:=r.dj i' j' a mi mj
  subst this
  exact z1p nd hi' hj'
 ·cases q:F (os++ds) with
  | ok res =>
   obtain ⟨d,es⟩:=res
   rw [q] at z
   have z:PostX X.K C κ φ σ m true H Q (Rz.guard (es.length=is.length) (.ok (d,q3r is es δ))):=z
   obtain ⟨hel,z⟩:=Q0 (T:=PostX X.K C κ φ σ m true H Q) (λ z=>z) z
   intro v H' fr tk ex ow a nw
   have hb:∀ (k i:Nat),is[k]? = some i->∃ d,δ[i]? = some (some d):=λ k i e=>let ⟨d,h,_⟩:=hoa k i e;⟨d,h⟩
   obtain ⟨r2,kp⟩:=r1.io nd hk hb hel (λ a o e n=>fr a o e λ j hj m=>by
    obtain ⟨i',hi'⟩:=isome hj
    rw [lk hi'] at m
    exact n i' (N0u hi') m) tk ex (λ k i e hi he=>by
    have c:k<is.length:=(N04.mp hi).1
    obtain ⟨u,g1,g2⟩:=ow k e c he
    rw [lk hi] at g2
    rw [N0x (by simp_all)] at g1
    obtain ⟨u',h1,h2⟩:=hu k i hi
    rw [g1] at h1
    cases h1
    exact ⟨u,h2,g2⟩)
   refine z v H' r2 ((Kp.of s1 λ a f=>.inl f).trans kp) (a.sub λ b h o_=>r1.rx.new m h) λ o_ hbig=>?_
   obtain ⟨l,o,hn'⟩:=nw hbig
   exact ⟨l,o.mono TupK.refl (λ o_ o_ o_ e=>e) (λ o_ o_ o_ e=>e) λ b h o_=>r1.rx.new m h,λ b mb=>s1.free (hn' b mb)⟩
  | er c s=>rw [q] at z;exact z.elim
  | un=>rw [q] at z;exact z.elim
theorem hkB {is:List Nat}{κ:List Kd}(h:(is.all λ i=>decide (κ[i]? = some Kd.o) || decide (κ[i]? = some Kd.i))=true):∀ i∈is,κ[i]? = some .o\/κ[i]? = some .i:=λ i m=>by
 have q:=List.all_eq_true.mp h i m
 rw [Bool.or_eq_true] at q
 exact q.elim (λ z=>.inl (of_decide_eq_true z)) λ z=>.inr (of_decide_eq_true z)
theorem z1q {ps:List Str}{fx:Addr}{fd:FuncData}{k n:Nat}{F:PFI}{mm:Str}{pl:Sem Bool}(i:Nat) (cls:Cls X.K (C.cl c)) (hm:Meth X.K (C.cl c) mm fx) (hk:([i].all λ i=>decide (κ[i]? = some Kd.o) || decide (κ[i]? = some Kd.i))=true) (G:FnOk X.prog X.w X.K X.mg X.base CX0 k fx fd ps (spI X.K C.cl n 1 F)) (hr:Room k X.A) (hb:X9 X.K fd ps []) (hlen:∀ δ ds,gs δ=.ok ds->1+ds.length=n) (ha:DA X C κ .b (e::es) gs)
 (hN:X.N[i]? = some x:=by rfl) (hv:Vis X.env.scope x:=by first | exact N0k rfl | exact N0r (N0k rfl) | exact N0r (N0r rfl)) (hd:(x==("__debug__" : Str))=false:=by decide)
 (hcd:(x==("__classdict__" : Str))=false:=by decide) (hst:starEach (e::es) X.env=(false,eval e X.env)::starEach es X.env:=by rfl) (hpl:(backTo pos (starEach es X.env)).any (·.1)=false:=by rfl)
 (ht:eval (.Call (.Attribute (.Name x p) mm apos) (e::es) [] pos) X.env=(do
  let ov <- eval (.Name x p) X.env
  standAt apos.atName
  let (f,first) <- holding [ov] (getMethod ov mm pl)
  callWith pos f first (backTo pos (starEach (e::es) X.env)) (backToKw pos (keywordEach [] X.env))):=by rfl):DX X C κ m true (.Call (.Attribute (.Name x p) mm apos) (e::es) [] pos) (q7z c mm F i gs):=by
 obtain ⟨t,pt,dt⟩:=ha
 refine ⟨_,z0Q (X7 hN hv hd hcd) cls hm G hr hb .nil q9d pt hst hpl ht,λ φ σ H δ r Q z=>?_⟩
 obtain ⟨ds,e1,z⟩:=j7 (T:=PostX X.K C κ φ σ m true H Q) (λ o_ o_ q=>q) (λ q=>q) z
 obtain ⟨os,e2,z⟩:=j7 (T:=PostX X.K C κ φ σ m true H Q) (λ o_ o_ q=>q) (λ q=>q) z
 obtain ⟨hob,z⟩:=Q0 (T:=PostX X.K C κ φ σ m true H Q) (λ z=>z) z
 obtain ⟨hol,hoa⟩:=q10 e2
 obtain ⟨d,h1,h2,h3⟩:=hoa 0 i rfl
 have hi:isObj c mm d=true:=List.all_eq_true.mp hob d (N0u h2)
 obtain ⟨v,k',g1,g2,a0⟩:=r.rx.sl i d h1
 obtain ⟨q,dx,fs,rfl,hq,hl⟩:=q5E a0 hi
 refine ⟨.ref q,g1,q,dx,fs,rfl,hq,hl,dt (Fo φ) σ H δ r.rx _ ?_⟩
 rw [e1]
 intro vs H1 s1 w
 rw [N10]
 refine q7Y (is:=[i]) (us:=[.ref q]) r (by simp) (hkB hk) (by rw [hol];exact hlen δ ds e1) e2 s1 rfl (λ k j e=>?_) w z
 cases k with
 | zero =>
  have e:i=j:=N0b e
  subst e
  exact ⟨.ref q,rfl,g1⟩
 | succ k=>simp at e
theorem q37 (h:DX X C κ .v fr e gx) (hs:swapsWith e none pos.line X.env=pure false:=by rfl):DSt X C L κ κ (.Expr e pos) (gDropX gx):=by
 obtain ⟨t,pt,dt⟩:=h
 refine ⟨_,q1A pt hs,λ φ σ H δ r D p=>dt φ σ H δ r _ ?_⟩
 obtain ⟨⟨d,δ'⟩,e1,p⟩:=j7 (T:=FinS X.K C L κ (Fo φ) H D) (λ o_ o_ q=>q) (λ q=>q) p
 rw [e1]
 exact λ v H1 r1 kp o_ o_=>p φ σ H1 r1 kp
variable {gt:GTX}{g1 g2:GS}
end
section
variable {X:Cx}{C:Dc}{L:List Kd×List Nat}{κ κ':List Kd}{m:Kd}{fr fa fb fk:Bool}{e ek:Expr}{ge gk:GE}{pos p p1 apos cpos pf pos':Pos}{x:Str}{c:Nat}{f:Str}
theorem q9s {K:PySem.W.Frag}{φ:Nat->List Addr}{H:Hp}{a:Addr}{i:Nat}{o o':HO}{vs:List V}{ds:List D}(fa:a∈φ i) (hH:H a=some o) (nt:∀ xs,o≠.tup xs) (w:Ats K C.cl H (Sk C (Fo φ) .s) vs ds):Ats K C.cl (upd H a o') (λ b=>Sk C (Fo φ) .s b/\b∉φ i) vs ds :=
 w.mono (λ b xs e=>by
  rw [Z2];exact e
  intro z;subst z;rw [hH] at e;exact nt xs (N0b e)) (λ b u z e=>by rw [Z2 (λ q=>z.2 ⟨i,by rw [q];exact fa⟩)];exact e) λ b z o_=>⟨z,λ m=>z.2 ⟨i,m⟩⟩
theorem z1r {K:PySem.W.Frag}{cl:Nat->Addr}{H:Hp}{S:Addr->Prop}{ks:List Ky}{vs:List V}{ds:List D}{kk:Ky}{vv:V}{d:D}(kl:ks.length=ds.length) (w:Ats K cl H S vs ds) (a1:At K cl H S vv d) :
 ∃ ks' vs' ds',putK (ks.zip vs) kk vv=ks'.zip vs'/\putD ks ds kk d=.dct ks' ds'/\ks'.length=ds'.length/\Ats K cl H S vs' ds':=by
 have wl:=w.length
 unfold putD putK
 rw [q4F kk ks vs (by simp_all)]
 by_cases c:(ks.any λ x=>decide (x=kk))=true
 ·rw [N0j c,N0j c,q4G]
  exact ⟨_,_,_,rfl,rfl,by rw [q2V];exact kl,w.setK a1⟩
 ·rw [N0l c,N0l c]
  refine ⟨ks++[kk],vs++[vv],ds++[d],?_,rfl,by rw [N06,N06,kl];rfl,w.append (Ats.cons a1 Ats.nil)⟩
  rw [List.zip_append (by simp_all)]
  rfl
set_option tactic.hygienic true in
theorem z1s (i:Nat){k:Kd}(cls:Cls X.K (C.cl c)) (na:X1 X.K (C.cl c) f) (ho:k=.o\/k=.i) (hk:κ[i]? = some k) (hu:X.A.units+64<cLine) (hkey:DE X C κ .v fk ek gk) (h:DE X C κ .s fr e ge) (hN:X.N[i]? = some x:=by rfl) (hv:Vis X.env.scope x:=by first | exact N0k rfl | exact N0r (N0k rfl) | exact N0r (N0r rfl)) (hd:(x==("__debug__" : Str))=false:=by decide)
 (hcd:(x==("__classdict__" : Str))=false:=by decide) (hb:attributeBase (.Name x p1) f X.env (eval (.Name x p1) X.env)=eval (.Name x p1) X.env:=by rfl) (hs:swapsWith e (some (.Subscript (.Attribute (.Name x p1) f pf) ek pos')) pos.line X.env=pure false:=by rfl) :
 DSt X C L κ κ (.Assign [.Subscript (.Attribute (.Name x p1) f pf) ek pos'] e pos) (z1d i c f gk ge):=by
 obtain ⟨t,pt,dt⟩:=h
 obtain ⟨u,pu,du⟩:=hkey
 refine ⟨_,q79 (by lia) (z06 (X7 hN hv hd hcd) hb) pu pt hs,λ φ σ H δ r D p=>?_⟩
 obtain ⟨d,e1,p⟩:=j3 (T:=FinS X.K C L κ (Fo φ) H D) (λ o_ o_ q=>q) (λ q=>q) p
 obtain ⟨dk,e2,p⟩:=j3 (T:=FinS X.K C L κ (Fo φ) H D) (λ o_ o_ q=>q) (λ q=>q) p
 split at p
 ·rename_i c' f' dx q
  obtain ⟨hh,p2⟩:=Q0 (T:=FinS X.K C L κ (Fo φ) H D) (λ z=>z) p
  clear p
  obtain ⟨rfl,rfl⟩:=hh
  have p:=p2
  cases dx with
  | dct ks ds =>
   obtain ⟨y,e3,p⟩:=j3 (T:=FinS X.K C L κ (Fo φ) H D) (λ o_ o_ q=>q) (λ q=>q) p
   have e3:(match keyD dk with | some k=>Rz.guard (ks.length<sizeLine) (.ok (putD ks ds k d)) | none=>.un)=.ok y:=e3
   cases ek':keyD dk with
   | none=>rw [ek'] at e3;cases e3
   | some kk =>
    rw [ek'] at e3
    obtain ⟨hz,e3⟩:=X4 e3
    cases e3
    obtain ⟨v,hvv,a,ax,b,vs,rfl,hl,nab,hH,hB,kl,w⟩:=r.own ho hk q
    have hbm:b∈φ i:=by rw [hl];simp
    refine dt (Fo φ) σ H δ r.rx _ ?_
    rw [e1]
    intro vv H1 s1 a1 _
    refine ⟨.ref a,hvv,a,_,ax,_,.ref b,rfl,s1 _ _ hH,cls,na,by simp [List.lookup],du (Fo φ) σ H1 δ (r.same s1).rx _ ?_⟩
    rw [e2]
    intro vk H2 s2 a2 _
    have hvk:=q7H a2 ek'
    subst hvk
    have s12:=s1.trans s2
    have r2:=r.same s12
    have hB2:=s12 _ _ hB
    have wl:=w.length
    refine ⟨b,_,rfl,z23.k (k:=kk) hB2 (by rw [List.length_zip,kl,wl,Nat.min_self,<- kl];exact hz),?_⟩
    have nt:∀ xs,HO.dK (ks.zip vs)≠.tup xs:=λ o_ z=>by cases z
    have w2:=(w.same s12).sub (S':=Sk C (Fo φ) .s) λ b z o_=>z.1
    obtain ⟨ks',vs',ds',q1,q2,q3,q4⟩:=z1r (kk:=kk) kl w2 (a1.same s2)
    rw [q1]
    rw [q2] at p
    obtain ⟨r3,kp⟩:=r2.write (o':=.dK (ks'.zip vs')) (d':=.obj c' f' (.dct ks' ds')) ho hk hvv q hbm hB2 nt
     ⟨a,ax,b,vs',rfl,hl,nab,by rw [Z2 nab];exact s12 _ _ hH,Z0,q3,q9s hbm hB2 nt q4⟩
    exact p φ σ _ r3 ((Kp.of s12 λ a f=>.inl f).trans kp)
  | _=>exact p.elim
 ·exact p.elim
end
end Dl
namespace Dl
open PySem L2 PyProof.Rows
section
variable {X:Cx}{C:Dc}{κ:List Kd}{m:Kd}{fa fb:Bool}{e o e1 e2:Expr}{es:List Expr}{ga gb:GE}{gs:GA}{pos apos cpos:Pos}
theorem q5G {K:PySem.W.Frag}{cl:Nat->Addr}{H:Hp}{S:Addr->Prop}:∀ {vs:List V}{ds:List D}{zs:List Str},Ats K cl H S vs ds->txtsD ds=some zs->vs=zs.map V.str
 | [],[],zs,_,h=>by cases h;rfl
 | v::vs,d::ds,zs,a,h=>by
  rw [Ats] at a
  cases d with
  | str x =>
   have h:(txtsD ds).map (x :: ·)=some zs:=h
   cases q:txtsD ds with
   | none=>rw [q] at h;cases h
   | some ys =>
    rw [q] at h
    cases h
    have a1:=a.1
    rw [At] at a1
    rw [a1,q5G a.2 q]
    rfl
  | _=>cases h
 | [],_::_,_,z,_=>by rw [Ats] at z;exact z.elim
 | _::_,[],_,z,_=>by rw [Ats] at z;exact z.elim
theorem q0m (ho:DE X C κ .v fa o ga) (he:DE X C κ .v fb e gb) (hm:M1 X o "join" apos e cpos):DE X C κ m true (.Call (.Attribute o "join" apos) [e] [] cpos) (gOp dJoin ga gb):=by
 obtain ⟨to,po,eo⟩:=ho
 obtain ⟨te,pe,ee⟩:=he
 refine ⟨_,q9h po pe hm,λ F σ H δ rx Q z=>eo F σ H δ rx _ ?_⟩
 obtain ⟨d1,q1,z⟩:=j3 (T:=Post X.K C F m true H Q) (λ o_ o_ q=>q) (λ q=>q) z
 obtain ⟨d2,q2,z⟩:=j3 (T:=Post X.K C F m true H Q) (λ o_ o_ q=>q) (λ q=>q) z
 rw [q1]
 intro v H1 s1 a1 _
 cases d1 with
 | str sep =>
  rw [At] at a1
  refine ⟨sep,a1,ee F σ H1 δ (rx.same s1) _ ?_⟩
  rw [q2]
  intro u H2 s2 a2 _
  cases d2 with
  | lst ds =>
   have z:Post X.K C F m true H Q ((optR (txtsD ds)).bind λ zs=>.guard ((zs.map (·.length)).sum+zs.length * sep.length<=sizeLine) (.ok (.str (Str.join sep zs)))):=z
   obtain ⟨zs,q3,z⟩:=j7 (T:=Post X.K C F m true H Q) (λ o_ o_ q=>q) (λ q=>q) z
   obtain ⟨hz,z⟩:=Q0 (T:=Post X.K C F m true H Q) (λ z=>z) z
   have q3:txtsD ds=some zs:=by
    cases q:txtsD ds with
    | none=>rw [q] at q3;cases q3
    | some ys=>rw [q] at q3;cases q3;rfl
   rw [At] at a2
   obtain ⟨b,vs,rfl,sb,hb,w⟩:=a2
   rw [q5G w q3] at hb
   exact ⟨b,zs,rfl,hb,hz,z _ H2 (s1.trans s2) (by rw [At]) λ o_=>Nw.small rfl⟩
  | _=>exact z.elim
 | _=>exact z.elim
end
noncomputable def tIs (ea:Addr) (b:Bool):TE:=λ σ H Q=>σ[0]? = some (some (.ref ea))/\Q (.bl b) H
noncomputable def rCat:R2:=λ x y H Q=>∃ l b xs zs,x=.ref l/\y=.ref b/\Rd H l (.lst xs)/\Rd H b (.lst zs)/\xs.length+zs.length<=sizeLine/\∀ p,H p=none->Q (.ref p) (upd H p (.lst (xs++zs)))
noncomputable def z5c (K:PySem.W.Frag) (ea:Addr) (c:Nat):TS :=
 z22 (z02 (z3W (tCons (tIs ea (c==0)) (tCons (tIs ea (c==1)) (tCons (tIs ea (c==2)) (tCons (tIs ea (c==3)) tNil))))) (q2J 1))
 (z22 (z02 (tOp rCat (tVar 1) (z3W (tCons (tIs ea (c==4)) (tCons (tIs ea (c==5)) (tCons (tIs ea (c==6)) tNil))))) (q2J 1))
 (z22 (z6u (tOr (z6t (tB (tIs ea true))) (tB (z6s (q7n (tVar 1)) (tC (.int 1))))) (z4D (tC (.str "other"))) z2o)
 (z4D (tOp (z4R K) (z3W (tCons (tC (.str "name")) (tCons (tC (.str "twice")) (tCons (tC (.str "full")) (tCons (tC (.str "kind")) (tCons (tC (.str "large")) (tCons (tC (.str "plain")) (tCons (tC (.str "note")) tNil)))))))) (q7o (tVar 1))))))
theorem q1u {H:Hp}{p:Addr}{o:HO}(h:H p=none):Same H (upd H p o):=Z6 h o
theorem q7Z {K:PySem.W.Frag}{ea:Addr}{c:Nat}(hc:c<7){H:Hp}{D:Ends}(h:∀ H',Same H H'->D.rt (.str ((kindW[c]?).getD "")) H'):z5c K ea c D [some (.ref ea),none] H:=by
 have hz:∀ n:Nat,n<=100->n<=sizeLine:=λ n hn=>N0v hn (by decide)
 refine ⟨rfl,rfl,rfl,rfl,hz 4 (by decide),λ p hp=>?_⟩
 show (z22 _ _) D [some (.ref ea),some (.ref p)] _
 refine ⟨.ref p,rfl,rfl,rfl,rfl,hz 3 (by decide),λ q hq=>?_⟩
 have hpq:p≠q:=λ z=>by rw [<- z,Z0] at hq;cases hq
 refine ⟨p,q,[.bl (c==0),.bl (c==1),.bl (c==2),.bl (c==3)],[.bl (c==4),.bl (c==5),.bl (c==6)],rfl,rfl,.inl ?_,.inl Z0,hz 7 (by decide),λ r hr=>?_⟩
 ·rw [Z2 hpq];exact Z0
 have s3:Same H (upd (upd (upd H p (.lst [.bl (c==0),.bl (c==1),.bl (c==2),.bl (c==3)])) q (.lst [.bl (c==4),.bl (c==5),.bl (c==6)])) r (.lst ([.bl (c==0),.bl (c==1),.bl (c==2),.bl (c==3)]++[.bl (c==4),.bl (c==5),.bl (c==6)]))) :=
  ((q1u hp).trans (q1u hq)).trans (q1u hr)
 show (z22 _ _) D [some (.ref ea),some (.ref r)] _
 have hl:(upd (upd (upd H p (.lst [.bl (c==0),.bl (c==1),.bl (c==2),.bl (c==3)])) q (.lst [.bl (c==4),.bl (c==5),.bl (c==6)])) r (.lst ([.bl (c==0),.bl (c==1),.bl (c==2),.bl (c==3)]++[.bl (c==4),.bl (c==5),.bl (c==6)]))) r=some (.lst (([c==0,c==1,c==2,c==3,c==4,c==5,c==6]:List Bool).map V.bl)):=Z0
 have h1:(([c==0,c==1,c==2,c==3,c==4,c==5,c==6]:List Bool).count true)=1:=by
  have:c=0\/c=1\/c=2\/c=3\/c=4\/c=5\/c=6:=by lia
  rcases this with rfl | rfl | rfl | rfl | rfl | rfl | rfl<;>decide
 have h2:(([c==0,c==1,c==2,c==3,c==4,c==5,c==6]:List Bool).idxOf true)=c:=by
  have:c=0\/c=1\/c=2\/c=3\/c=4\/c=5\/c=6:=by lia
  rcases this with rfl | rfl | rfl | rfl | rfl | rfl | rfl<;>decide
 generalize (upd (upd (upd H p (.lst [.bl (c==0),.bl (c==1),.bl (c==2),.bl (c==3)])) q (.lst [.bl (c==4),.bl (c==5),.bl (c==6)])) r (.lst ([.bl (c==0),.bl (c==1),.bl (c==2),.bl (c==3)]++[.bl (c==4),.bl (c==5),.bl (c==6)])))=H3 at s3 hl ⊢
 refine ⟨rfl,true,rfl,?_⟩
 refine z09 ?_
 refine ⟨.ref r,rfl,r,[c==0,c==1,c==2,c==3,c==4,c==5,c==6],rfl,hl,?_⟩
 rw [h1]
 refine ⟨1,1,rfl,rfl,false,rfl,?_⟩
 refine z09 ?_
 refine ⟨hz 7 (by decide),λ t ht=>⟨.ref r,rfl,r,[c==0,c==1,c==2,c==3,c==4,c==5,c==6],c,rfl,?_,h2,by show c<7;exact hc,by omega,?_⟩⟩
 ·have hrt:r≠t:=λ z=>by rw [<- z,hl] at ht;cases ht
  rw [Z2 hrt]
  exact hl
 ·refine ⟨t,_,(c:Int),.str ((kindW[c]?).getD ""),rfl,rfl,.inl (.inl Z0),?_,h _ (s3.trans (q1u ht))⟩
  have:c=0\/c=1\/c=2\/c=3\/c=4\/c=5\/c=6:=by lia
  rcases this with rfl | rfl | rfl | rfl | rfl | rfl | rfl<;>rfl
section
variable {X:Cx}{pn:List (Addr×Obj)}{ea C f:Addr}{oe:Obj}{n kf p res:Str}{i k:Nat}{fd:FuncData}{p1 p2 p3 p4 p5:Pos}
theorem z1t (G:FnM X.prog X.w X.K X.mg X.base k f fd p C res) (hr:Room k X.A) (hg:Gl X kf) (hm:X.mg kf=some (.ref f)) (hk:PySem.W.keepIn X.K (.ref f)=true) (hb:X9 X.K fd [p] []) (hpn:(ea,oe)∈pn) (hcl:oe.cls=.ref C) (hcell:∀ v,oe.data≠.cell v)
 (hN:X.N[i]? = some n) (hv:Vis X.env.scope n) (hdb:(kf==("__debug__" : Str))=false:=by decide) (hd:(n==("__debug__" : Str))=false:=by decide) (hcd:(n==("__classdict__" : Str))=false:=by decide)
 (he:starEach [.Name n p2] X.env=(false,eval (.Name n p2) X.env)::starEach [] X.env:=by rfl) :
 PE (X.hd pn ea) (.Call (.Name kf p1) [.Name n p2] [] p3) (λ σ H Q=>σ[i]? = some (some (.ref ea))/\∀ H',Same H H'->Q (.str res) H'):=by
 intro pins s σ H Q I h
 have ha:PA (X.hd pn ea) [.Name n p2] (tCons (tVar i) tNil):=W3 (X7 (X:=X.hd pn ea) hN hv hd hcd) q0B he
 refine wpAny_Call_Name_kw (U1 I hg hm ?_ hdb)
 refine PySem.W.callWith_K (h₀:=X.base) I.ok.mod.kin hk (thx (ha p3 pins s σ H (λ vs H1=>vs=[.ref ea]/\H1=H) I ⟨.ref ea,h.1,rfl,rfl⟩) λ us s1 vs H1 I1 r ⟨ev,eh⟩=>⟨I1.kIn,?_⟩) he rfl
 subst ev eh
 obtain rfl:us=[Value.ref ea]:=by
  cases r with
  | cons r1 r2 =>
   cases r2
   rw [show _=Value.ref ea from r1]
 obtain ⟨q1,q2,q3,q4,q5⟩:=I1.pin (ea,oe) (N0w _ hpn)
 have hnf:ea∉frs X.stack:=λ z=>by
  rcases N0c.mp (I1.stkSub ea z) with e | e
  ·exact q3 e
  ·exact q4 e
 refine wpAny_call (codeAny_mono (G (X.A.mark (some (.ref ea))) X.stack s1 H1 ⟨[.ref ea],[]⟩ ea oe Q (hr.mark _) I1.env0 (hb s1 [.ref ea] I1.kIn rfl) q1 hcl hcell q2 hnf h.2) λ r s' hq=>?_)
 cases r with
 | error e=>exact hq.elim
 | ok fl =>
  cases fl with
  | ret u=>exact I1.after hq
  | next=>exact False.elim hq
  | brk=>exact False.elim hq
  | cont=>exact False.elim hq
theorem z37 (G:FnM X.prog X.w X.K X.mg X.base k f fd p C res) (hr:Room k X.A) (hg:Gl X kf) (hm:X.mg kf=some (.ref f)) (hk:PySem.W.keepIn X.K (.ref f)=true) (hb:X9 X.K fd [p] []) (hv:Vis X.env.scope n) (hdb:(kf==("__debug__" : Str))=false:=by decide) (hd:(n==("__debug__" : Str))=false:=by decide) (hcd:(n==("__classdict__" : Str))=false:=by decide)
 (he:starEach [.Name n p2] X.env=(false,eval (.Name n p2) X.env)::starEach [] X.env:=by rfl) :
 PH X n [.Return (some (.Call (.Name kf p1) [.Name n p2] [] p3)) p4] C λ Q H=>∀ H',Same H H'->Q (.str res) H':=by
 intro i pn ea oe s σ H Q hi hcl hcell hpn I hσ hts
 have h:=q0W (q2f (pos:=p4) (z1t (p1:=p1) (p3:=p3) G hr hg hm hk hb hpn hcl hcell hi hv hdb hd hcd he))
 refine N0p (h [] s σ H { nx:=λ o_ o_=>False,rt:=Q } I ⟨hσ,hts⟩) (λ fl s' hs=>?_) λ o_ o_ z=>z.elim
 cases fl with
 | ret u=>obtain ⟨x,σ',H',J,r,q⟩:=hs;exact ⟨u,x,σ',H',rfl,J,r,q⟩
 | next=>obtain ⟨_,_,_,q⟩:=hs;exact q.elim
 | brk=>obtain ⟨_,_,_,q⟩:=hs;exact q.elim
 | cont=>obtain ⟨_,_,_,q⟩:=hs;exact q.elim
end
structure KindOk (K:PySem.W.Frag) (ce:Nat->Addr) (FE:Addr) (c:Nat):Prop where
 lt:c<7
 xc:PySem.W.XCls K (ce c)
 k0:PySem.W.kitOne K (.ref (ce c)) (.ref (ce 0))=some (c==0)
 k1:PySem.W.kitOne K (.ref (ce c)) (.ref (ce 1))=some (c==1)
 k2:PySem.W.kitOne K (.ref (ce c)) (.ref (ce 2))=some (c==2)
 k3:PySem.W.kitOne K (.ref (ce c)) (.ref (ce 3))=some (c==3)
 k4:PySem.W.kitOne K (.ref (ce c)) (.ref (ce 4))=some (c==4)
 k5:PySem.W.kitOne K (.ref (ce c)) (.ref (ce 5))=some (c==5)
 k6:PySem.W.kitOne K (.ref (ce c)) (.ref (ce 6))=some (c==6)
 kv:PySem.W.kitOne K (.ref (ce c)) (.type "ValueError")=some true
 xm:PySem.W.exmOne K (.ref (ce c)) (.ref FE)=some true
noncomputable def ceOf (l:List Addr) (i:Nat):Addr:=(l[i]?).getD 0
theorem q1o:bootBuiltins "ValueError" = some (.type "ValueError"):=by decide +kernel
noncomputable def ExW (K:PySem.W.Frag) (C:Dc) (E:XK) (ce:Nat->Addr) (c:Nat) (δ':DS):Prop:=∀ κr φ' σ' H',(∀ j:Nat,j∈C.io->κr[j]? = some .i)->Rs K C κr φ' σ' H' δ'->E (.ref (ce c)) none H'
noncomputable def DR (X:Cx) (C:Dc) (κ:List Kd) (st:Stmt) (h:HS) (E:XK) (ce:Nat->Addr):Prop :=
 ∃ t,PS X st t/\∀ φ σ H δ,Rs X.K C κ φ σ H δ->∀ D c δ',h δ=some (c,δ')->ExW X.K C E ce c δ'->t D σ H
noncomputable def DRs (X:Cx) (C:Dc) (κ:List Kd) (st:List Stmt) (h:HS) (E:XK) (ce:Nat->Addr):Prop :=
 ∃ t,PSs X st t/\∀ φ σ H δ,Rs X.K C κ φ σ H δ->∀ D c δ',h δ=some (c,δ')->ExW X.K C E ce c δ'->t D σ H
noncomputable def DEX (X:Cx) (C:Dc) (κ:List Kd) (e:Expr) (h:HE) (E:XK) (ce:Nat->Addr):Prop :=
 ∃ t,PE X e t/\∀ F σ H δ,Rx X.K C κ F σ H δ->∀ Q c,h δ=some c->(∀ H',Same H H'->E (.ref (ce c)) none H')->t σ H Q
section
variable {X:Cx}{C:Dc}{L:List Kd×List Nat}{κ κ' κ1:List Kd}{st:Stmt}{sts rest:List Stmt}{g g1:GS}{h h1 h2:HS}{he:HE}{ge ga:GE}{gs:GA}{tA:GT}{e a:Expr}{es:List Expr}{m:Kd}{fr fa:Bool}{pos p:Pos}{E:XK}{ce:Nat->Addr}
theorem K8 (hd:DR X C κ st h E ce):DRs X C κ (st::rest) h E ce:=by
 obtain ⟨t,pt,dt⟩:=hd
 exact ⟨_,q0h pt q3u,λ φ σ H δ r D c δ' e w=>dt φ σ H δ r _ c δ' e w⟩
theorem K9 (h1:DSt X C L κ κ1 st g1) (hd:DRs X C κ1 sts h2 E ce):DRs X C κ (st::sts) (q0q g1 h2) E ce:=by
 obtain ⟨t,pt,dt⟩:=h1
 obtain ⟨u,pu,du⟩:=hd
 refine ⟨_,q0h pt pu,λ φ σ H δ r D c δ' e w=>dt φ σ H δ r _ ?_⟩
 unfold q0q at e
 cases q:g1 δ with
 | ok o =>
  rw [q] at e
  cases o with
  | nx δ1=>exact λ φ' σ' H' r' k=>du φ' σ' H' δ1 r' D c δ' e w
  | bk δ1=>cases e
  | ct δ1=>cases e
  | rt d δ1=>cases e
 | er c s=>rw [q] at e;cases e
 | un=>rw [q] at e;cases e
theorem q43 (a:DRs X C κ sts h1 E ce) (b:DRs X C κ sts h2 E ce):DRs X C κ sts (hOr h1 h2) E ce:=by
 obtain ⟨t,pt,dt⟩:=a
 obtain ⟨u,pu,du⟩:=b
 refine ⟨λ D σ H=>t D σ H\/u D σ H,λ pins s σ H D I q=>?_,λ φ σ H δ r D c δ' e w=>?_⟩
 ·rcases q with q | q
  ·exact pt pins s σ H D I q
  ·exact pu pins s σ H D I q
 ·unfold hOr at e
  cases q:h1 δ with
  | some x=>rw [q] at e;cases e;exact .inl (dt φ σ H δ r D c δ' q w)
  | none=>rw [q] at e;exact .inr (du φ σ H δ r D c δ' e w)
theorem q1h {c:Expr}{b:List Stmt}(hc:DT X C κ c tA) (hd:DRs X C κ sts h E ce):DR X C κ (.If c sts b pos) (hIf tA true h) E ce:=by
 obtain ⟨tc,pc,dc⟩:=hc
 obtain ⟨t,pt,dt⟩:=hd
 refine ⟨_,z0I pc pt q3u,λ φ σ H δ r D cc δ' e w=>dc (Fo φ) σ H δ r.rx _ ?_⟩
 unfold hIf at e
 cases q:tA δ with
 | ok b =>
  rw [q] at e
  cases b with
  | true=>exact λ H1 s1=>q7e (dt φ σ H1 δ (r.same s1) D cc δ' e w)
  | false=>cases e
 | er c s=>rw [q] at e;cases e
 | un=>rw [q] at e;cases e
noncomputable def q5H (X:Cx) (E:XK):Prop:=∀ pins σ H s h' a C vs,Inv X pins σ H s->Heap.MadeExcOf s.heap h' a (.ref C) vs->E (.ref C) none H->X.xe (.ref a) { s with heap:=h' }
theorem q1v {x:Str}{c:Nat}{y:Str}{j:Nat}{np cpos p1:Pos}(hx:q5H X E) (hc:X.calm=true) (hg:Gl X x) (hm:X.mg x=some (.ref (ce c))) (hq:q28 X.K (ce c)) (hio:∀ j:Nat,j∈C.io->κ[j]? = some .i)
 (hdb:(x==("__debug__" : Str))=false:=by decide) (hst:starEach [.Constant (.str y) j p1] X.env=[(false,eval (.Constant (.str y) j p1) X.env)]:=by rfl):DR X C κ (.Raise (some (.Call (.Name x np) [.Constant (.str y) j p1] [] cpos)) none pos) (q04 c) E ce:=by
 refine ⟨_,q5v (W:=λ H=>E (.ref (ce c)) none H) hc hg hm hq (z50 q0p) (λ pins σ H s h' a vs I mk w=>hx pins σ H s h' a _ vs I mk w) hdb hst,λ φ σ H δ r D c' δ' e w=>?_⟩
 cases e
 exact w κ φ σ H hio r
set_option tactic.hygienic true in
theorem q0K {x y lit:Str}{c i j:Nat}{conv:Int}{np cpos p1 p2 p3 p4:Pos}(hx:q5H X E) (hc:X.calm=true) (hg:Gl X x) (hm:X.mg x=some (.ref (ce c))) (hq:q28 X.K (ce c)) (hio:∀ j:Nat,j∈C.io->κ[j]? = some .i)
 (hl:lit.length<=1000) (hcv:conv = -1\/conv=114) (hN:X.N[i]? = some y) (hv:Vis X.env.scope y:=by first | exact N0k rfl | exact N0r (N0k rfl) | exact N0r (N0r rfl)) (hd:(y==("__debug__" : Str))=false:=by decide) (hcd:(y==("__classdict__" : Str))=false:=by decide)
 (hs:evalEach [.Constant (.str lit) j p1,.FormattedValue (.Name y p3) conv none p2] X.env=[eval (.Constant (.str lit) j p1) X.env,eval (.FormattedValue (.Name y p3) conv none p2) X.env]:=by rfl)
 (hdb:(x==("__debug__" : Str))=false:=by decide) (hst:starEach [.JoinedStr [.Constant (.str lit) j p1,.FormattedValue (.Name y p3) conv none p2] p4] X.env=[(false,eval (.JoinedStr [.Constant (.str lit) j p1,.FormattedValue (.Name y p3) conv none p2] p4) X.env)]:=by rfl) :
 DR X C κ (.Raise (some (.Call (.Name x np) [.JoinedStr [.Constant (.str lit) j p1,.FormattedValue (.Name y p3) conv none p2] p4] [] cpos)) none pos) (hRaiseN c i) E ce:=by
 refine ⟨_,q5v (W:=λ H=>E (.ref (ce c)) none H) hc hg hm hq (z0a hl hcv hN hv hd hcd hs) (λ pins σ H s h' a vs I mk w=>hx pins σ H s h' a _ vs I mk w) hdb hst,λ φ σ H δ r D c' δ' e w=>?_⟩
 unfold hRaiseN at e
 split at e
 ·rename_i z q
  split at e
  ·rename_i hz
   cases e
   obtain ⟨v,k,h1,h2,h3⟩:=r.rx.sl i _ q
   rw [At] at h3
   subst h3
   exact ⟨z,h1,hz,w κ φ σ H hio r⟩
  ·cases e
 ·cases e
theorem q80 (hd:DEX X C κ e he E ce) (hio:∀ j:Nat,j∈C.io->κ[j]? = some .i) (hs:swapsWith e none pos.line X.env=pure false:=by rfl):DR X C κ (.Expr e pos) (hOf he) E ce:=by
 obtain ⟨t,pt,dt⟩:=hd
 refine ⟨_,q1A pt hs,λ φ σ H δ r D c δ' q w=>?_⟩
 unfold hOf at q
 cases z:he δ with
 | none=>rw [z] at q;cases q
 | some c' =>
  rw [z] at q
  cases q
  exact dt (Fo φ) σ H δ r.rx _ c z λ H' s'=>w κ φ σ H' hio (r.same s')
theorem z38 {i:Nat}{y:Str}{py:Pos}(hN:X.N.Nodup) (hi:X.N[i]? = some y) (hy:Loc X.env.scope y) (hd:DEX X C κ e he E ce) (hio:∀ j:Nat,j∈C.io->κ[j]? = some .i) (hs:swapsWith e (some (.Name y py)) pos.line X.env=pure false:=by rfl)
 (hf:X.fn y=true\/X.env.scope.names.lookup y=some .local:=by first | exact .inl rfl | exact .inr rfl | assumption):DR X C κ (.Assign [.Name y py] e pos) (hOf he) E ce:=by
 obtain ⟨t,pt,dt⟩:=hd
 refine ⟨_,q3v hN hi hy pt hs hf,λ φ σ H δ r D c δ' q w=>?_⟩
 unfold hOf at q
 cases z:he δ with
 | none=>rw [z] at q;cases q
 | some c' =>
  rw [z] at q
  cases q
  exact dt (Fo φ) σ H δ r.rx _ c z λ H' s'=>w κ φ σ H' hio (r.same s')
noncomputable def spE (K:PySem.W.Frag) (cl ce:Nat->Addr) (n:Nat) (F:PX):Sp:=λ vs H o_ E=>∃ ds c,ds.length=n/\Ats K cl H (λ o_=>True) vs ds/\F ds=some c/\∀ H',Same H H'->E (.ref (ce c)) none H'
theorem z1u {K:PySem.W.Frag}{cl ce:Nat->Addr}{n:Nat}{F:PX}{vs:List V}{H:Hp}{Q:VK}{E:XK}(h:spE K cl ce n F vs H Q E):vs.length=n:=by
 obtain ⟨ds,d,l,a,_⟩:=h
 rw [a.length];exact l
theorem q1w {ctx:Bool}{x:Str}{st:Stmt}{ps:List Str}{f:Addr}{fd:FuncData}{k n:Nat}{F:PX}(hx:Passes (CXG ctx X.prog X.w) X E) (D:Df X.K X.mg x st ps f fd) (G:FnOk X.prog X.w X.K X.mg X.base (CXG ctx X.prog X.w) k f fd ps (spE X.K C.cl ce n F)) (hr:Room k X.A) (hg:Gl X x) (hlen:∀ δ ds,gs δ=.ok ds->ds.length=n) (ha:DA X C κ .v (e::es) gs)
 (hdb:(x==("__debug__" : Str))=false:=by decide) (hst:starEach (e::es) X.env=(false,eval e X.env)::starEach es X.env:=by rfl) (hpl:(backTo pos (starEach es X.env)).any (·.1)=false:=by rfl):DEX X C κ (.Call (.Name x p) (e::es) [] pos) (hCall F gs) E ce:=by
 obtain ⟨t,pt,dt⟩:=ha
 refine ⟨_,q4v G hr hg D.m D.F.kp D.b .nil hx pt hdb hst hpl,λ Fo σ H δ r Q c q w=>dt Fo σ H δ r _ ?_⟩
 unfold hCall at q
 cases z:gs δ with
 | ok ds =>
  rw [z] at q
  intro vs H1 s1 a1
  rw [N10]
  exact ⟨ds,c,hlen δ ds z,a1.sub λ o_ o_ o_=>trivial,q,λ H' s'=>w H' (s1.trans s')⟩
 | er c s=>rw [z] at q;cases q
 | un=>rw [z] at q;cases q
end
section
variable {P:Program}{w:World}{K:PySem.W.Frag}{mg:Str->Option Value}{base:Heap}
theorem z6D {ctx:Bool}{x qual:Str}{st:Stmt}{f:Addr}{fd:FuncData}{N ps:List Str}{k n:Nat}{cl ce:Nat->Addr}{κ:List Kd}{h:HS}(F:Fun K x qual st f fd) (S:FnScope N ps (defScope st)) (hn:ps.length=n) (hκ:∀ i:Nat,i<n->κ[i]? = some .b)
 (hbody:∀ (cdv:Value) (A:Around) (outer:List Env) (s:Shared) (H:Hp) (E:XK),Room k (A.deeper (envOfC qual (defScope st) s.heap.objs.size f cdv))->q5H (cxOf (CXG ctx P w) P w K mg base N qual (defScope st) f cdv A outer s H E) E->Passes (CXG ctx P w) (cxOf (CXG ctx P w) P w K mg base N qual (defScope st) f cdv A outer s H E) E ->
  DRs (cxOf (CXG ctx P w) P w K mg base N qual (defScope st) f cdv A outer s H E) ⟨cl,H,λ o_=>False,[],λ o_=>.non,λ o_=>[]⟩ κ (defBody st) h E ce):FnOk P w K mg base (CXG ctx P w) (k+1) f fd ps (spE K cl ce n (q1P N.length h)):=by
 obtain ⟨oc,od,kV,doc,pm,an,cdv,ct,osl,rfl,lk,hcd⟩:=F.ex
 refine z2x lk hcd S (λ vs H Q E h=>by rw [z1u h,hn]) λ A outer s H vs Q E hr hsp=>?_
 obtain ⟨ds,c,hl,wa,he,q⟩:=hsp
 obtain ⟨t,pt,dt⟩:=hbody cdv A outer s H E hr (λ pins σ H s h' a C vs I mk hw=>q9i I mk hw) z12
 unfold q1P at he
 cases z:h (startD N.length ds) with
 | none=>rw [z] at he;cases he
 | some x =>
  rw [z] at he
  obtain ⟨c',δ'⟩:=x
  have he:c'=c:=N0b he
  subst he
  refine ⟨t,pt,dt (λ o_=>[]) (L2.start N vs) H (startD N.length ds) ?_ _ c' δ' z λ κr φ' σ' H' o_ r=>q H' λ b u e=>r.fr b u e λ z=>z⟩
  refine ⟨λ i d e=>?_,λ i j a m=>absurd m (by simp),λ a f=>?_,λ a f=>?_,λ a o e o_=>e,λ a z=>z.elim,TupK.refl,λ j hj=>absurd hj (by simp),?_⟩
  ·obtain ⟨hi,v,h1,h2⟩:=q41 wa e
   refine ⟨v,.b,h1,hκ i (by simp_all),h2.sub λ b o_ o_ f=>?_⟩
   obtain ⟨j,hj⟩:=f
   exact absurd hj (by simp)
  ·obtain ⟨j,hj⟩:=f
   exact absurd hj (by simp)
  ·obtain ⟨j,hj⟩:=f
   exact absurd hj (by simp)
  ·unfold L2.start startD
   rw [N06,N06,N01,N01,N13,N13,wa.length]
end
section
variable {X:Cx}{C:Dc}{L:List Kd×List Nat}{κ κ':List Kd}{body:List Stmt}{gb:GS}{hb:HS}{ce:Nat->Addr}{kd:Nat->Option D}
theorem z39 {FE:Addr}{tn n:Str}{i:Nat}{b₀:Stmt}{suite:List Stmt}{np hpos pos:Pos}(hstk:X.stack=X.env::X.outer) (hfr:X.env.frame=some X.env.locals) (hN:X.N.Nodup) (hi:X.N[i]? = some n) (hloc:X.env.scope.names.lookup n=some .local)
 (hg:Gl X tn) (hm:X.mg tn=some (.ref FE)) (hbN:∀ pn xe,DSs (X.tr pn xe) C L κ κ' body gb) (hbX:∀ pn xe E',Passes (CXF X.prog X.w) (X.tr pn xe) E'->DRs (X.tr pn xe) C κ body hb E' ce)
 (hph:∀ c d,kd c=some d->PySem.W.exmOne X.K (.ref (ce c)) (.ref FE)=some true/\∃ ts,PH X n (b₀::suite) (ce c) ts/\∀ Q H,(∀ v H',Same H H'->(∀ S,(∀ a,H a=none->S a)->At X.K C.cl H' S v d)->d.big=false->Q v H')->ts Q H)
 (hbig:∀ c d,kd c=some d->d.big=false) (hdb:(tn==("__debug__" : Str))=false:=by decide) :
 DSt X C L κ κ' (.Try body [.ExceptHandler (some (.Name tn np)) (some n) (b₀::suite) hpos] [] [] pos) (z27 gb hb kd):=by
 classical
 let tb:XK->TS:=λ E' D σ H=>∀ pn xe,(∀ (hp:Passes (CXF X.prog X.w) (X.tr pn xe) E'),(Classical.choose (hbN pn xe) D σ H\/Classical.choose (hbX pn xe E' hp) D σ H))
 refine ⟨_,z2O (tb:=tb) hstk hfr hN hi hloc hg hm (λ pn xe E' hp pins s σ H D I q=>?_) hdb,λ φ σ H δ r D p=>λ pn xe hp=>?_⟩
 ·rcases q pn xe hp with q | q
  ·exact (Classical.choose_spec (hbN pn xe)).1 pins s σ H D I q
  ·exact (Classical.choose_spec (hbX pn xe E' hp)).1 pins s σ H D I q
 ·unfold z27 at p
  cases q:hb δ with
  | none =>
   rw [q] at p
   exact .inl ((Classical.choose_spec (hbN pn xe)).2 φ σ H δ r D p)
  | some x =>
   obtain ⟨c,δ'⟩:=x
   rw [q] at p
   refine .inr ((Classical.choose_spec (hbX pn xe _ hp)).2 φ σ H δ r D c δ' q λ κr φ' σ' H' hio r'=>?_)
   cases z:kd c with
   | none=>simp only [z] at p;exact p.elim
   | some d =>
    simp only [z] at p
    obtain ⟨hm,ts,hp1,hp2⟩:=hph c d z
    refine ⟨ce c,ts,rfl,hm,hp1,hp2 _ _ λ v H'' s'' ha hb'=>?_⟩
    exact p v κr φ' σ' H'' hio (r'.same s'') (ha _ λ a h=>r'.old h) (Nw.small hb')
end
theorem z1v {cs:List Nat}:∀ c d,kdW cs c=some d->d.big=false:=λ c d h=>by
 unfold kdW at h
 split at h
 ·cases h;rfl
 ·cases h
section
variable {X:Cx}{C:Dc}{FE:Addr}{n kf:Str}{ce:Nat->Addr}{cs:List Nat}{f:Addr}{fd:FuncData}{p:Str}{k:Nat}{p1 p2 p3 p4 p5 p6:Pos}{j kt:Nat}
set_option tactic.hygienic true in
theorem z5d (hx:∀ c∈cs,PySem.W.exmOne X.K (.ref (ce c)) (.ref FE)=some true) (G:∀ c∈cs,FnM X.prog X.w X.K X.mg X.base k f fd p (ce c) ((kindW[c]?).getD "")) (hr:Room k X.A) (hg:Gl X kf) (hm:X.mg kf=some (.ref f)) (hk:PySem.W.keepIn X.K (.ref f)=true) (hb:X9 X.K fd [p] []) (hv:Vis X.env.scope n) (hdb:(kf==("__debug__" : Str))=false:=by decide) (hd:(n==("__debug__" : Str))=false:=by decide) (hcd:(n==("__classdict__" : Str))=false:=by decide)
 (he:starEach [.Name n p2] X.env=(false,eval (.Name n p2) X.env)::starEach [] X.env:=by rfl) :
 ∀ c d,kdW cs c=some d->PySem.W.exmOne X.K (.ref (ce c)) (.ref FE)=some true/\∃ ts,PH X n [.Return (some (.Call (.Name kf p1) [.Name n p2] [] p3)) p4] (ce c) ts/\∀ Q H,(∀ v H',Same H H'->(∀ S,(∀ a,H a=none->S a)->At X.K C.cl H' S v d)->d.big=false->Q v H')->ts Q H:=λ c d h=>by
 unfold kdW at h
 split at h
 ·rename_i hc
  cases h
  exact ⟨hx c hc,_,z37 (G c hc) hr hg hm hk hb hv hdb hd hcd he,λ Q H q H' s'=>q _ H' s' (λ S o_=>by rw [At]) rfl⟩
 ·cases h
end
end Dl
namespace Dl
open PySem
noncomputable def dPart:D->D->Rz D
 | .str x,.str y=>.guard ((y.length==0)=false/\x.length<=sizeLine) (.ok (.tup [.str (Txt.partition x y).1,.str (Txt.partition x y).2.1,.str (Txt.partition x y).2.2]))
 | _,_=>.un
noncomputable def dSplt:D->D->Rz D
 | .str x,.str y=>.guard ((y.length==0)=false/\x.length+2<=sizeLine) (.ok (.lst ((Txt.split x y).map D.str)))
 | _,_=>.un
noncomputable def dCnt:D->D->Rz D
 | .str x,.str y=>.ok (.int (Txt.count x y))
 | _,_=>.un
noncomputable def dEnds:D->D->Rz D
 | .str x,.str y=>.ok (.bl (Txt.endswith x y))
 | _,_=>.un
noncomputable def z3a (n:Nat) (body:GS):PFI:=λ ds=>match ds with
 | [d1,d0]=>(body (startD n [d0,d1])).bind λ o=>match o with
  | .nx δ=>(getS [1] δ).bind λ es=>.ok (.non,es)
  | .rt d δ=>(getS [1] δ).bind λ es=>.ok (d,es)
  | _=>.un
 | _=>.un
noncomputable def scD:D->Bool
 | .str _=>true
 | .int _=>true
 | _=>false
noncomputable def dNotK (tb:List (Str×List D)):D->Rz D
 | .str z=>.ok (.bl (!(tb.lookup z).isSome))
 | _=>.un
noncomputable def dBeg (tb:List (Str×List D)):D->D->Rz D
 | .str z,.tup es=>match tb.lookup z with
  | some ds=>.guard (ds≠[]/\es≠[]/\ds.length+es.length<=sizeLine/\ds.all scD=true) (.ok (.tup (ds++es)))
  | none=>.un
 | _,_=>.un
noncomputable def q6t (he:HE) (cs:List Nat) (h:HS):HS:=λ δ=>match he δ with
 | some c=>if c∈cs then h δ else none
 | none=>none
noncomputable def hCompL (cap:DS) (ge:GE) (he:HE):List D->Option Nat
 | []=>none
 | d::r=>match he (some d::cap) with
  | some c=>some c
  | none=>match ge (some d::cap) with
   | .ok _=>hCompL cap ge he r
   | _=>none
noncomputable def q2w (gi:GI) (cap:List Nat) (ge:GE) (he:HE):HS:=λ δ=>match gi δ with
 | .ok xs=>if xs.length<=sizeLine then (hCompL (capD cap δ) ge he xs).map λ c=>(c,δ) else none
 | _=>none
noncomputable def dRepl:D->List D->Rz D
 | .str x,[.str y,.str z]=>.guard ((y==z)=false/\x.length+(x.length+1) * z.length<=16777216) (.ok (.str (Txt.replace x y z)))
 | _,_=>.un
noncomputable def z3b (go:GE) (gs:GA):GE:=λ δ=>(go δ).bind λ d=>(gs δ).bind λ ds=>dRepl d ds
end Dl
namespace Dl
open PySem L2 PyProof.Rows
section
variable {X:Cx}{C:Dc}{L:List Kd×List Nat}{κ κ' κ1:List Kd}{st:Stmt}{sts rest:List Stmt}{g gb:GS}{h hb h1 h2:HS}{he:HE}{ge ga:GE}{gs:GA}{tA:GT}{e a:Expr}{es:List Expr}{m:Kd}{fr fa:Bool}{pos p:Pos}{E:XK}{ce:Nat->Addr}
theorem q38 {i:Nat}{k:Kd}{fg:List Nat}{tb t2:TS}{D:Ends}{F0:Addr->Prop}{H0:Hp}(hkk:k=.b\/k=.s) (hk:i<κ.length) (hni:i∉C.io) (ok:okK κ1 κ fg=true)
 (db:∀ φ σ H δ,Rs X.K C (κ.set i k) φ σ H δ->∀ D,FinS X.K C (κ,fg) κ1 (Fo φ) H D (gb δ)->tb D σ H) (dx:∀ φ σ H δ,Rs X.K C (κ.set i k) φ σ H δ->∀ D c δ',hb δ=some (c,δ')->ExW X.K C E ce c δ'->t2 D σ H){N:L2.St->Hp->Prop}
 {φ:Nat->List Addr}{σ:L2.St}{H:Hp}{δ δe:DS}{c:Nat}{v:V}{d:Dl.D}{rest:List Dl.D}(w:ExW X.K C E ce c δe) (r:Rs X.K C κ φ σ H δ) (kp:Kp F0 H0 (Fo φ) H) (a:At X.K C.cl H (Sk C (Fo φ) k) v d) (p:hLoop i fg gb hb (d::rest) δ=some (c,δe))
 (hN:∀ φ' σ' H' δ',Rs X.K C κ φ' σ' H' δ'->Kp F0 H0 (Fo φ') H'->hLoop i fg gb hb rest δ'=some (c,δe)->N σ' H') :
 tb { D with nx:=N,ct:=N,bk:=D.nx } (σ.set i (some v)) H\/t2 { D with nx:=N,ct:=N,bk:=D.nx } (σ.set i (some v)) H:=by
 have so:SlOk X.K C (Fo (φset φ i [])) H [] v d k:=by
  rcases hkk with rfl | rfl
  ·exact At.sub a λ b z o_ f=>z (q0s f)
  ·exact At.sub a λ b z o_=>⟨z.1,λ f=>z.2 (q0s f)⟩
 obtain ⟨r2,kp2⟩:=r.put (Same.refl H) hk so (λ a m=>absurd m (by simp)) hni
 have kp3:=kp.trans kp2
 rw [hLoop] at p
 cases q:hb (δ.set i (some d)) with
 | some x =>
  rw [q] at p
  obtain ⟨c',δ'⟩:=x
  cases p
  exact .inr (dx _ _ H _ r2 _ c δe q w)
 | none =>
  rw [q] at p
  cases q2:gb (δ.set i (some d)) with
  | ok o =>
   rw [q2] at p
   cases o with
   | nx δ'=>exact .inl (db _ _ H _ r2 _ (by rw [q2];exact λ φ' σ' H' r' k'=>hN φ' σ' H' _ (r'.forget ok) (kp3.trans k') p))
   | ct δ'=>exact .inl (db _ _ H _ r2 _ (by rw [q2];exact λ φ' σ' H' r' k'=>hN φ' σ' H' _ r' (kp3.trans k') p))
   | bk δ'=>cases p
   | rt d δ'=>cases p
  | er c s=>rw [q2] at p;cases p
  | un=>rw [q2] at p;cases p
theorem q0L {i:Nat}{fg:List Nat}{δ:DS}:hLoop i fg gb hb [] δ=none:=by rw [hLoop]
theorem z3c {i:Nat}{x:Str}{k:Kd}{fg:List Nat}{iter:Expr}{gi:GI}{body:List Stmt}{px:Pos}(hkk:k=.b\/k=.s) (hk:i<κ.length) (hN:X.N.Nodup) (hi:X.N[i]? = some x) (hx:Loc X.env.scope x) (hp:PassesOwn (model X.prog X.w) X.A X.env X.xe) (hc:X.calm=true)
 (hw:DI X C κ k (.Name x px) iter gi) (hbd:DSs X C (κ,fg) (κ.set i k) κ1 body gb) (hrf:DRs X C (κ.set i k) body hb E ce) (ok:okK κ1 κ fg=true) (hs:∀ x,foldedSetIterable iter X.env x=pure x:=by intro _;rfl)
 (hf:X.fn x=true\/X.env.scope.names.lookup x=some .local:=by first | exact .inl rfl | exact .inr rfl | assumption) (hni:C.io.contains i=false:=by rfl):DR X C κ (.For (.Name x px) iter body [] pos) (z41 gi i fg gb hb) E ce:=by
 obtain ⟨wi,pw,dw⟩:=hw
 obtain ⟨tb,pb,db⟩:=hbd
 obtain ⟨t2,p2,dx⟩:=hrf
 obtain ⟨tc,pb2,hor⟩:∃ tc:TS,PSs X body tc/\∀ D σ H,tb D σ H\/t2 D σ H->tc D σ H:=⟨λ D σ H=>tb D σ H\/t2 D σ H,λ pins s σ H D I q=>by
  rcases q with q | q
  ·exact pb pins s σ H D I q
  ·exact p2 pins s σ H D I q,λ o_ o_ o_ q=>q⟩
 refine ⟨_,z04 hp hc pw (q07 hN hi hx hf) pb2 hs,λ φ σ H δ r D c δe p we=>dw (Fo φ) σ H δ r.rx _ ?_⟩
 unfold z41 at p
 cases e1:gi δ with
 | er c s=>rw [e1] at p;cases p
 | un=>rw [e1] at p;cases p
 | ok xs =>
 rw [e1] at p
 have p:hLoop i fg gb hb xs (forget fg δ)=some (c,δe):=p
 intro J H1 s1 w
 have r1:=(r.same s1).forget (q5x κ fg)
 have kp1:Kp (Fo φ) H (Fo φ) H1:=Kp.of s1 λ a f=>.inl f
 have sk:∀ {φ':Nat->List Addr}{H':Hp}{a:Addr},Kp (Fo φ) H1 (Fo φ') H'->H1 a≠none->Sk C (Fo φ) k a->¬ Fo φ a/\Sk C (Fo φ') k a:=λ {φ' H' a} kp e z=>by
  have m:¬ Fo φ a->¬ Fo φ' a:=λ n f=>(kp.ow a f).elim n e
  rcases hkk with rfl | rfl
  ·exact ⟨z,m z⟩
  ·exact ⟨z.2,z.1,m z.2⟩
 have items:∀ {φ':Nat->List Addr}{H':Hp}{vs:List V},Kp (Fo φ) H1 (Fo φ') H'->Ats X.K C.cl H1 (Sk C (Fo φ) k) vs xs->Ats X.K C.cl H' (Sk C (Fo φ') k) vs xs:=λ {φ' H' vs} kp z =>
  z.mono kp.tk (λ a o za e=>kp.st a o e (sk kp (by rw [e];exact λ z=>by cases z) za).1) λ a za e=>(sk kp e za).2
 rcases w with ⟨a,vs,rfl,sa,ha,wa⟩ | ⟨a,vs,rfl,ha,wa⟩ | ⟨lo,n,rfl,rfl⟩ | ⟨z,rfl,rfl⟩
 ·have hl:=wa.length
  refine q5j (K:=X.K) (a:=a) (xs:=vs) (λ j σ' H'=>∃ φ' δ',Rs X.K C κ φ' σ' H' δ'/\Kp (Fo φ) H1 (Fo φ') H'/\hLoop i fg gb hb (xs.drop j) δ'=some (c,δe))
   ⟨φ,_,r1,Kp.refl,p⟩ (λ j σ' H' o1_ ⟨φ',δ',r',kp,o2_⟩=>?_) ?_ ?_
  ·refine .inl ?_
   rcases ha with ha | ⟨o,ha⟩
   ·exact .inl (kp.st _ _ ha (sk kp (by rw [ha];exact λ z=>by cases z) sa).1)
   ·exact .inr ⟨o,kp.st _ _ ha (sk kp (by rw [ha];exact λ z=>by cases z) sa).1⟩
  ·rintro j v σ' H' hj ⟨φ',δ',r',kp,q⟩
   obtain ⟨d,hd,ad⟩:=(items kp wa).get' hj
   rw [W4 hd] at q
   exact hor _ _ _ <| q38 hkk hk (u7 hni) ok db dx we r' kp ad q λ φ2 σ2 H2 δ2 r2 kp2 q2=>⟨φ2,δ2,r2,kp2,q2⟩
  ·rintro σ' H' ⟨φ',δ',r',kp,q⟩
   rw [hl,N1i,q0L] at q
   cases q
 ·have hl:=wa.length
  refine q6U (K:=X.K) (a:=a) (xs:=vs) (λ j σ' H'=>∃ φ' δ',Rs X.K C κ φ' σ' H' δ'/\Kp (Fo φ) H1 (Fo φ') H'/\hLoop i fg gb hb (xs.drop j) δ'=some (c,δe))
   ⟨φ,_,r1,Kp.refl,p⟩ (λ j σ' H' o1_ ⟨φ',δ',r',kp,o2_⟩=>SqT.of (kp.tk _ _ ha)) ?_ ?_
  ·rintro j v σ' H' hj ⟨φ',δ',r',kp,q⟩
   obtain ⟨d,hd,ad⟩:=(items kp wa).get' hj
   rw [W4 hd] at q
   exact hor _ _ _ <| q38 hkk hk (u7 hni) ok db dx we r' kp ad q λ φ2 σ2 H2 δ2 r2 kp2 q2=>⟨φ2,δ2,r2,kp2,q2⟩
  ·rintro σ' H' ⟨φ',δ',r',kp,q⟩
   rw [hl,N1i,q0L] at q
   cases q
 ·refine q3x (lo:=lo) (n:=n) (λ j σ' H'=>∃ φ' δ',Rs X.K C κ φ' σ' H' δ'/\Kp (Fo φ) H1 (Fo φ') H'/\hLoop i fg gb hb ((rangeD lo n).drop j) δ'=some (c,δe))
   ⟨φ,_,r1,Kp.refl,p⟩ ?_ ?_
  ·rintro j σ' H' hj ⟨φ',δ',r',kp,q⟩
   have hd:(rangeD lo n)[j]? = some (.int (lo+(j:Int))):=by unfold rangeD;rw [N0i,N1k hj];rfl
   rw [W4 hd] at q
   exact hor _ _ _ <| q38 hkk hk (u7 hni) ok db dx we r' kp (by rw [At]) q λ φ2 σ2 H2 δ2 r2 kp2 q2=>⟨φ2,δ2,r2,kp2,q2⟩
  ·rintro σ' H' ⟨φ',δ',r',kp,q⟩
   have hl:(rangeD lo n).length=n:=by unfold rangeD;rw [N01,N17]
   rw [show (rangeD lo n).drop n=[] by rw [N1c];simp_all,q0L] at q
   cases q
 ·refine q7i (z:=z) (λ j σ' H'=>∃ φ' δ',Rs X.K C κ φ' σ' H' δ'/\Kp (Fo φ) H1 (Fo φ') H'/\hLoop i fg gb hb ((signsD z).drop j) δ'=some (c,δe))
   ⟨φ,_,r1,Kp.refl,p⟩ ?_ ?_
  ·rintro j c' σ' H' hj ⟨φ',δ',r',kp,q⟩
   have hd:(signsD z)[j]? = some (.str ⟨#[c']⟩):=by unfold signsD;rw [N0i,Array.getElem?_toList,hj];rfl
   rw [W4 hd] at q
   exact hor _ _ _ <| q38 hkk hk (u7 hni) ok db dx we r' kp (by rw [At]) q λ φ2 σ2 H2 δ2 r2 kp2 q2=>⟨φ2,δ2,r2,kp2,q2⟩
  ·rintro σ' H' ⟨φ',δ',r',kp,q⟩
   have hl:(signsD z).length=z.cps.size:=by unfold signsD;rw [N01,N0g]
   rw [show (signsD z).drop z.cps.size=[] by rw [N1c];simp_all,q0L] at q
   cases q
end
end Dl
namespace L2
open PySem PySem.Spec PyProof.Rows PySem.W
theorem z5e {H H':Hp}{a:Addr}{u:HO}(s:∀ a o,H a=some o->H' a=some o) (h:Rd H a u):Rd H' a u:=by
 rcases h with h | ⟨o,h⟩
 ·exact .inl (s _ _ h)
 ·exact .inr ⟨o,s _ _ h⟩
section
variable {X:Cx}
noncomputable abbrev Cx.inn (X:Cx):Cx:={ X with A:=X.A.in1.in1 }
end
end L2
namespace Dl
open PySem L2 PyProof.Rows
end Dl
namespace L2
open PySem PySem.Spec PyProof.Rows
end L2
namespace Dl
open PySem L2 PyProof.Rows
end Dl
namespace L2
open PySem PySem.Spec PyProof.Rows
end L2
namespace Dl
open PySem L2 PyProof.Rows
end Dl
namespace L2
open PySem PySem.Spec PyProof.Rows
end L2
namespace Dl
open PySem L2 PyProof.Rows
theorem q81 {K:PySem.W.Frag}{cl:Nat->Addr}{H:Hp}{S:Addr->Prop}:∀ ss:List Str,Ats K cl H S (ss.map V.str) (ss.map D.str)
 | []=>Ats.nil
 | s::ss=>by
  rw [N09,N09]
  refine Ats.cons ?_ (q81 ss)
  rw [At]
end Dl
namespace L2
open PySem PySem.Spec PyProof.Rows PySem.Builtin PySem.Builtin.Str
section
variable {X:Cx}
noncomputable def r1 (r:R2):V->List V->Hp->VK->Prop:=λ x vs H Q=>∃ y,vs=[y]/\r x y H Q
noncomputable def z3d:R2:=λ x y H Q=>∃ a b,x=.str a/\y=.str b/\(b.length==0)=false/\a.length<=sizeLine/\∀ p,H p=none->Q (.ref p) (upd H p (.tup [.str (Txt.partition a b).1,.str (Txt.partition a b).2.1,.str (Txt.partition a b).2.2]))
theorem q1Y:MtR X "str.partition" (r1 z3d):=by
 intro pins s σ H x vs v us Q I rx rv h
 obtain ⟨y,rfl,a,b,rfl,rfl,hb,ha,q⟩:=h
 obtain ⟨u,rfl,tk,ru⟩:=rv.one
 subst ru
 obtain ⟨t,rfl⟩:=rx
 have hn:H s.heap.objs.size=none:=I.hok.fresh (N07 _)
 refine call_meets F.slot_str_partition (typeIs_str _ _ _) F.entry_str_partition (F.args_str_partition_2 _ _) (meets_str_partition a b t tk hb ha) ?_
 unfold Txt.partition at q
 revert q
 cases occurrences a b 0 a.length 1 with
 | nil =>
  intro q
  refine ⟨.ref s.heap.objs.size,_,?_,rfl,q _ hn⟩
  refine I.laid (λ b o e=>Heap.get?_push_of_some _ e) (N07 _) ⟨by simp only [N0h,List.length_nil];rw [sizeLine_eq];decide,[.str a t,.str Str.empty s.toks,.str Str.empty s.toks],.cons ⟨_,rfl⟩ (.cons ⟨_,rfl⟩ (.cons ⟨_,rfl⟩ .nil)),?_⟩
  exact ⟨_,Heap.get?_push_size s.heap rfl,rfl,0,rfl⟩
 | cons i r =>
  intro q
  refine ⟨.ref s.heap.objs.size,_,?_,rfl,q _ hn⟩
  refine I.laid (λ b o e=>Heap.get?_push_of_some _ e) (N07 _) ⟨by simp only [N0h,List.length_nil];rw [sizeLine_eq];decide,[.str (strSub a 0 i) s.toks,.str b tk,.str (strSub a (i+b.length) a.length) (s.toks+1)],.cons ⟨_,rfl⟩ (.cons ⟨_,rfl⟩ (.cons ⟨_,rfl⟩ .nil)),?_⟩
  exact ⟨_,Heap.get?_push_size s.heap rfl,rfl,0,rfl⟩
theorem q44:∀ l:List (Str×Tok),Vals ((l.map (·.1)).map V.str) (strValues l)
 | []=>.nil
 | (x,t)::l=>.cons ⟨t,rfl⟩ (q44 l)
noncomputable def z3e:R2:=λ x y H Q=>∃ a b,x=.str a/\y=.str b/\(b.length==0)=false/\a.length+2<=sizeLine/\∀ p,H p=none->Q (.ref p) (upd H p (.lst ((Txt.split a b).map V.str)))
theorem q4N:MtR X "str.split" (r1 z3e):=by
 intro pins s σ H x vs v us Q I rx rv h
 obtain ⟨y,rfl,a,b,rfl,rfl,hb,ha,q⟩:=h
 obtain ⟨u,rfl,tk,ru⟩:=rv.one
 subst ru
 obtain ⟨t,rfl⟩:=rx
 have hn:H s.heap.objs.size=none:=I.hok.fresh (N07 _)
 have e1:=StrLaws.occ_length_le a b 0 a.length (a.length+1)
 have hz:(partsBetween a (occurrences a b 0 a.length (a.length+1)) b.length).length<=sizeLine:=by rw [length_partsBetween];lia
 have fin:∀ (l:List (Str×Tok)) (k:Nat),l.map (·.1)=Txt.split a b->l.length<=sizeLine->EP X pins σ Q (.ref s.heap.objs.size) { s with toks:=k,heap:=s.heap.push { cls:=.type "list",data:=.seq (strValues l).toArray } }:=λ l k e hl=>by
  refine ⟨.ref s.heap.objs.size,_,?_,rfl,q _ hn⟩
  rw [<- e]
  refine I.laid (λ b o e=>Heap.get?_push_of_some _ e) (N07 _) ⟨by rw [N01,N01];exact hl,strValues l,0,q44 l,?_⟩
  exact Heap.get?_push_size s.heap rfl
 cases h1:(decide (a.length<b.length) || decide (strKind a<strKind b))
 ·cases hf:(occurrences a b 0 a.length (a.length+1)).isEmpty
  ·refine call_meets F.slot_str_split (typeIs_str _ _ _) F.entry_str_split (F.args_str_split_2 _ _) (meets_str_split_sep a b t tk h1 hb hf (by lia) hz) ?_
   show wants (EP X pins σ Q) X.xe _ { s with toks:=_,heap:=s.heap.push { cls:=.type "list",data:=.seq (strsFrom s.toks (partsBetween a (occurrences a b 0 a.length (a.length+1)) b.length)).toArray } }
   rw [strsFrom_eq]
   exact fin (numbered s.toks _) _ ((numbered_texts _ _).trans ((N0l (ne_true_of_eq_false h1)).trans (N0l (ne_true_of_eq_false hf))).symm) (by
    have:=congrArg List.length (numbered_texts s.toks (partsBetween a (occurrences a b 0 a.length (a.length+1)) b.length))
    rw [N01] at this
    simp_all)
  ·exact call_meets F.slot_str_split (typeIs_str _ _ _) F.entry_str_split (F.args_str_split_2 _ _) (meets_str_split_not_found a b t tk h1 hb hf)
    (fin [(a,t)] s.toks ((N0l (ne_true_of_eq_false h1)).trans (N0j hf)).symm (by simp only [N11];decide))
 ·exact call_meets F.slot_str_split (typeIs_str _ _ _) F.entry_str_split (F.args_str_split_2 _ _) (meets_str_split_cannot_occur a b t tk h1)
   (fin [(a,t)] s.toks (N0j h1).symm (by simp only [N11];decide))
noncomputable def z6E:R2:=λ x y H Q=>∃ a b,x=.str a/\y=.str b/\Q (.int (Txt.count a b)) H
theorem z0o:MtR X "str.count" (r1 z6E):=by
 intro pins s σ H x vs v us Q I rx rv h
 obtain ⟨y,rfl,a,b,rfl,rfl,q⟩:=h
 obtain ⟨u,rfl,tk,ru⟩:=rv.one
 subst ru
 obtain ⟨t,rfl⟩:=rx
 exact SC.count ⟨.int _,H,I.tok _,⟨_,rfl⟩,q⟩
noncomputable def z3f:R2:=λ x y H Q=>∃ a b,x=.str a/\y=.str b/\Q (.bl (Txt.endswith a b)) H
theorem q4O:MtR X "str.endswith" (r1 z3f):=by
 intro pins s σ H x vs v us Q I rx rv h
 obtain ⟨y,rfl,a,b,rfl,rfl,q⟩:=h
 obtain ⟨u,rfl,tk,ru⟩:=rv.one
 subst ru
 obtain ⟨t,rfl⟩:=rx
 exact SC.endswith ⟨.bl _,H,I,rfl,q⟩
end
end L2
namespace Dl
open PySem L2 PyProof.Rows
section
variable {X:Cx}{C:Dc}{κ:List Kd}{m:Kd}{K:PySem.W.Frag}{cl:Nat->Addr}{o e:Expr}{go ge:GE}{fo fr:Bool}{apos cpos:Pos}{name:Str}{id:String}{r:R2}{p:D->D->Rz D}
theorem K6 (slot:Slot "str" name id) (hty:typeOf (.builtin id)=pure (.type "method_descriptor")) (hm:MtR X id (r1 r)) (hp:OpD X.K C.cl r p) (hn:∀ d d',(∀ a b,¬ (d=.str a/\d'=.str b))->p d d'=.un) (ho:DE X C κ .v fo o go) (h:DE X C κ .v fr e ge)
 (hbase:attributeBase o name X.env (eval o X.env)=eval o X.env:=by rfl)
 (hfew:((backTo cpos (starEach [e] X.env)).all (λ x=>!x.1)&&(backToKw cpos (keywordEach [] X.env)).all (λ x=>x.1.isSome)
  && decide ([e].length+([]:List Keyword).length+(if ([]:List Keyword).isEmpty then 0 else 1)<30))=true:=by rfl)
 (hline:(apos.endLine==cpos.line)=true:=by rfl) (hs:starEach [e] X.env=(false,eval e X.env)::starEach [] X.env:=by rfl) (hplain:(backTo cpos (starEach [] X.env)).any (·.1)=false:=by rfl) :
 DE X C κ m true (.Call (.Attribute o name apos) [e] [] cpos) (gOp p go ge):=by
 obtain ⟨t,pt,dt⟩:=ho
 obtain ⟨u,pu,du⟩:=h
 refine ⟨_,z2E PySem.F.plainAttrs_str slot hty hm pt (W3 pu q0B hs) hbase hfew hline hs hplain,λ F σ H δ rx Q z=>dt F σ H δ rx _ ?_⟩
 obtain ⟨d1,e1,z⟩:=j3 (T:=Post X.K C F m true H Q) (λ o_ o_ q=>q) (λ q=>q) z
 obtain ⟨d2,e2,z⟩:=j3 (T:=Post X.K C F m true H Q) (λ o_ o_ q=>q) (λ q=>q) z
 rw [e1]
 intro v H1 s1 a1 _
 have hd:∃ a b,d1=.str a/\d2=.str b:=by
  apply Classical.byContradiction
  intro q
  rw [hn d1 d2 λ a b z=>q ⟨a,b,z⟩] at z
  exact z
 obtain ⟨a,b,rfl,rfl⟩:=hd
 rw [At] at a1
 subst a1
 refine ⟨rfl,du F σ H1 δ (rx.same s1) _ ?_⟩
 rw [e2]
 intro w2 H2 s2 a2 _
 rw [At] at a2
 subst a2
 exact ⟨_,rfl,hp H2 _ _ _ _ _ Q (λ b hb=>(rx.same (s1.trans s2)).new m hb) (by rw [At]) (by rw [At]) (q2T (s1.trans s2) z)⟩
theorem q0M:OpD K cl z3d dPart:=by
 intro H S x y dx dy Q cs a1 a2 z
 cases dx<;>first | exact z.elim | skip
 cases dy<;>first | exact z.elim | skip
 rw [At] at a1 a2
 subst a1 a2
 obtain ⟨⟨h1,h2⟩,z⟩:=Q0 (T:=q3X K cl S H Q) (λ z=>z) z
 refine ⟨_,_,rfl,rfl,h1,h2,λ p hp=>z _ _ (Z6 hp _) ?_ (Nw.small rfl)⟩
 rw [At]
 exact ⟨p,_,rfl,Z0,Ats.cons (by rw [At]) (Ats.cons (by rw [At]) (Ats.cons (by rw [At]) Ats.nil))⟩
theorem q39:OpD K cl z3e dSplt:=by
 intro H S x y dx dy Q cs a1 a2 z
 cases dx<;>first | exact z.elim | skip
 cases dy<;>first | exact z.elim | skip
 rw [At] at a1 a2
 subst a1 a2
 obtain ⟨⟨h1,h2⟩,z⟩:=Q0 (T:=q3X K cl S H Q) (λ z=>z) z
 refine ⟨_,_,rfl,rfl,h1,h2,λ p hp=>?_⟩
 obtain ⟨q1,q2⟩:=q1S hp (q81 (K:=K) (cl:=cl) (H:=H) (S:=S) _) (cs p hp)
 exact z _ _ (Z6 hp _) q1 q2
theorem q82:OpD K cl z6E dCnt:=by
 intro H S x y dx dy Q cs a1 a2 z
 cases dx<;>first | exact z.elim | skip
 cases dy<;>first | exact z.elim | skip
 rw [At] at a1 a2
 subst a1 a2
 exact ⟨_,_,rfl,rfl,z _ _ (Same.refl _) (by rw [At]) (Nw.small rfl)⟩
theorem q3a:OpD K cl z3f dEnds:=by
 intro H S x y dx dy Q cs a1 a2 z
 cases dx<;>first | exact z.elim | skip
 cases dy<;>first | exact z.elim | skip
 rw [At] at a1 a2
 subst a1 a2
 exact ⟨_,_,rfl,rfl,z _ _ (Same.refl _) (by rw [At]) (Nw.small rfl)⟩
theorem q1Z (d d':D) (h:∀ a b,¬ (d=.str a/\d'=.str b)):dPart d d'=.un:=by cases d<;>first | rfl | (cases d'<;>first | rfl | exact absurd ⟨rfl,rfl⟩ (h _ _))
theorem q4P (d d':D) (h:∀ a b,¬ (d=.str a/\d'=.str b)):dSplt d d'=.un:=by cases d<;>first | rfl | (cases d'<;>first | rfl | exact absurd ⟨rfl,rfl⟩ (h _ _))
theorem z0p (d d':D) (h:∀ a b,¬ (d=.str a/\d'=.str b)):dCnt d d'=.un:=by cases d<;>first | rfl | (cases d'<;>first | rfl | exact absurd ⟨rfl,rfl⟩ (h _ _))
theorem q4Q (d d':D) (h:∀ a b,¬ (d=.str a/\d'=.str b)):dEnds d d'=.un:=by cases d<;>first | rfl | (cases d'<;>first | rfl | exact absurd ⟨rfl,rfl⟩ (h _ _))
end
end Dl
namespace Dl
open PySem L2
noncomputable def spJ (K:PySem.W.Frag) (cl:Nat->Addr) (F:PFI):Sp:=λ vs H Q E=>∃ u0 u1,vs=[u0,u1]/\spI K cl 2 1 F [u1,u0] H Q E
section
variable {P:Program}{w:World}{K:PySem.W.Frag}{mg:Str->Option Value}{base:Heap}
theorem fn_J {x qual:Str}{st:Stmt}{f:Addr}{fd:FuncData}{N ps:List Str}{k:Nat}{cl:Nat->Addr}{κ κ':List Kd}{g:GS}(F:Fun K x qual st f fd) (S:FnScope N ps (defScope st)) (hn:ps.length=2) (h0:κ[0]? = some .b) (h1:κ[1]? = some .i) (hend:κ'[1]? = some Kd.i)
 (hbody:∀ (cdv:Value) (A:Around) (outer:List Env) (s:Shared) (H:Hp) (E:XK) (iv:Nat->V) (l:Nat->List Addr),Room k (A.deeper (PyProof.Rows.envOfC qual (defScope st) s.heap.objs.size f cdv)) ->
  DSs (cxOf CX0 P w K mg base N qual (defScope st) f cdv A outer s H E).nox ⟨cl,H,λ a=>∃ j,j<1/\a∈l j,[1],iv,λ o_=>l 0⟩ ([],[]) κ κ' (defBody st) g):FnOk P w K mg base CX0 (k+1) f fd ps (spJ K cl (z3a N.length g)):=by
 refine F.ok S (λ vs H Q E h=>by obtain ⟨u0,u1,rfl,_⟩:=h;rw [hn];rfl) (λ cdv A outer s H vs Q E hr h=>?_)
 obtain ⟨u0,u1,rfl,ds,l,hl,_,hs,_,q⟩:=h
 obtain ⟨d1,d0,rfl⟩:∃ d1 d0,ds=[d1,d0]:=by
  match ds,hl with
  | [a,b],_=>exact ⟨a,b,rfl⟩
 obtain ⟨v1,hv1,o1,_⟩:=hs 0 d1 rfl
 obtain ⟨v0,hv0,_,o0⟩:=hs 1 d0 rfl
 cases hv1
 cases hv0
 have o1:=o1 (by simp)
 have o0:=o0 (by simp)
 obtain ⟨t,pt,dt⟩:=hbody cdv A outer s H E (λ j=>([u0,u1][j]?).getD .non) l hr
 have Fiff:∀ a,Fo (λ j=>if j=1 then l 0 else []) a↔∃ j,j<1/\a∈l j:=λ a=>by
  constructor
  ·rintro ⟨j,hj⟩
   have hj:a∈(if j=1 then l 0 else []):=hj
   by_cases c:j=1
   ·exact ⟨0,by simp,by rw [N0j c] at hj;exact hj⟩
   ·rw [N0l c] at hj;exact absurd hj (by simp)
  ·rintro ⟨j,c,hj⟩
   have:j=0:=by simp_all
   subst this
   exact ⟨1,by show a∈(if 1=1 then l 0 else []);rw [N0j rfl];exact hj⟩
 have ex:∀ a,(∃ j,j<1/\a∈l j)->H a≠none:=by
  rintro a ⟨j,c,m⟩
  have:j=0:=by simp_all
  subst this
  exact o1.ex m
 refine ⟨t,pt,dt (λ j=>if j=1 then l 0 else []) (L2.start N [u0,u1]) H (startD N.length [d0,d1]) ?_ _ ?_⟩
 ·refine ⟨λ i d e=>?_,λ i j a hi hj=>?_,λ a f=>ex a ((Fiff a).mp f),λ a f=>.inr ((Fiff a).mp f),λ a o e o_=>e,λ a z=>ex a z,TupK.refl,λ j hj=>?_,?_⟩
  ·have e:=q2v e
   match i,e with
   | 0,e =>
    cases e
    refine ⟨u0,.b,q0J rfl,h0,?_⟩
    show At K cl H _ u0 d0
    exact At.sub o0 λ a z o_ f=>by
     obtain ⟨j,c,m⟩:=(Fiff a).mp f
     exact z j c m
   | 1,e =>
    cases e
    refine ⟨u1,.i,q0J rfl,h1,?_⟩
    show Own K cl H _ (if (1:Nat)=1 then l 0 else []) u1 d1
    rw [N0j rfl]
    exact o1.mono TupK.refl (λ a o z=>z.elim) (λ o_ o_ o_ e=>e) λ a z=>z.elim
   | i+2,e=>simp at e
  ·have hi:a∈(if i=1 then l 0 else []):=hi
   have hj:a∈(if j=1 then l 0 else []):=hj
   by_cases ci:i=1
   ·by_cases cj:j=1
    ·rw [ci,cj]
    ·rw [N0l cj] at hj;exact absurd hj (by simp)
   ·rw [N0l ci] at hi;exact absurd hi (by simp)
  ·have c:j=1:=N0f.1 hj
   subst c
   refine ⟨?_,by show (if (1:Nat)=1 then l 0 else [])=l 0;rw [N0j rfl]⟩
   rw [q0J (show [u0,u1][1]? = some u1 from rfl)]
   rfl
  ·unfold L2.start startD
   rw [N06,N06,N01,N01,N13,N13]
   rfl
 ·have fin:∀ {κr:List Kd}{φ':Nat->List Addr}{σ':L2.St}{H':Hp}{δ':DS}{es:List Dl.D}{v:V}{d:Dl.D},κr[1]? = some .i->Rs K ⟨cl,H,λ a=>∃ j,j<1/\a∈l j,[1],λ j=>([u0,u1][j]?).getD .non,λ o_=>l 0⟩ κr φ' σ' H' δ'->getS [1] δ'=.ok es ->
   PostIO K cl 1 l [u1,u0] H Q (.ok (d,es))->At K cl H' (λ a=>H a=none) v d->Nw K cl H H' (λ a=>H a=none) v d->Q v H':=λ {κr φ' σ' H' δ' es v d} hk r hg q a nw=>by
   refine q v H' (λ a o e z=>r.fr a o e λ ⟨j,c,m⟩=>z j c m) r.tk (λ a h=>?_) (λ j e c he=>?_) a nw
   ·by_cases x:∃ j,j<1/\a∈l j
    ·exact r.xo a x
    ·cases eo:H a with
     | none=>exact absurd eo h
     | some o=>rw [r.fr a o eo x];exact λ z=>by cases z
   ·have:j=0:=by simp_all
    subst this
    obtain ⟨_,hget⟩:=q10 hg
    obtain ⟨e',g1,g2,g3⟩:=hget 0 1 rfl
    rw [he] at g2
    cases g2
    obtain ⟨u,k',f1,f2,f3⟩:=r.sl 1 e g1
    rw [hk] at f2
    cases f2
    obtain ⟨i1,i2⟩:=r.ii 1 (N0f.2 rfl)
    rw [f1] at i1
    have i1:u=u1:=N0b (N0b i1)
    subst i1
    refine ⟨u,rfl,?_⟩
    have f3:Own K cl H' _ (φ' 1) u e:=f3
    rw [i2] at f3
    exact f3.imO g3
  have q:PostIO K cl 1 l [u1,u0] H Q ((g (startD N.length [d0,d1])).bind _):=q
  cases e:g (startD N.length [d0,d1]) with
  | ok o =>
   rw [e] at q
   cases o with
   | nx δ' =>
    intro φ' σ' H' r _
    have q:PostIO K cl 1 l [u1,u0] H Q ((getS [1] δ').bind λ es=>.ok (.non,es)):=q
    obtain ⟨es,g1,q⟩:=j7 (T:=PostIO K cl 1 l [u1,u0] H Q) (λ o_ o_ z=>z) (λ z=>z) q
    exact fin hend r g1 q (by rw [At]) (Nw.small rfl)
   | rt d' δ' =>
    intro v κr φ' σ' H' hk r a nw
    have q:PostIO K cl 1 l [u1,u0] H Q ((getS [1] δ').bind λ es=>.ok (d',es)):=q
    obtain ⟨es,g1,q⟩:=j7 (T:=PostIO K cl 1 l [u1,u0] H Q) (λ o_ o_ z=>z) (λ z=>z) q
    exact fin (hk 1 (N0f.2 rfl)) r g1 q a nw
   | bk δ'=>exact q.elim
   | ct δ'=>exact q.elim
  | er c s=>rw [e] at q;exact q.elim
  | un=>rw [e] at q;exact q.elim
end
section
variable {X:Cx}{C:Dc}{κ:List Kd}{m:Kd}{fr:Bool}{e0:Expr}{g0:GE}{pos p pv:Pos}{x y:Str}
theorem q5I {st:Stmt}{ps:List Str}{fx:Addr}{fd:FuncData}{k:Nat}{F:PFI}(i:Nat) (D:Df X.K X.mg y st ps fx fd) (hk:([i].all λ i=>decide (κ[i]? = some Kd.o) || decide (κ[i]? = some Kd.i))=true) (G:FnOk X.prog X.w X.K X.mg X.base CX0 k fx fd ps (spJ X.K C.cl F)) (hr:Room k X.A) (hg:Gl X y) (h:DE X C κ .b fr e0 g0)
 (hN:X.N[i]? = some x:=by rfl) (hv:Vis X.env.scope x:=by first | exact N0k rfl | exact N0r (N0k rfl) | exact N0r (N0r rfl)) (hd:(x==("__debug__" : Str))=false:=by decide)
 (hcd:(x==("__classdict__" : Str))=false:=by decide) (hs:starEach [.Name x pv] X.env=(false,eval (.Name x pv) X.env)::starEach [] X.env:=by rfl)
 (hdb:(y==("__debug__" : Str))=false:=by decide) (hst:starEach [e0,.Name x pv] X.env=(false,eval e0 X.env)::starEach [.Name x pv] X.env:=by rfl) (hpl:(backTo pos (starEach [.Name x pv] X.env)).any (·.1)=false:=by rfl):DX X C κ m true (.Call (.Name y p) [e0,.Name x pv] [] pos) (gCallI F [i] (gCons g0 gNil)):=by
 obtain ⟨t,pt,dt⟩:=h
 refine ⟨_,q4v G hr hg D.m D.F.kp D.b .nil q9d (W3 pt (W3 (X7 hN hv hd hcd) q0B hs) hst) hdb hst hpl,λ φ σ H δ r Q z=>?_⟩
 obtain ⟨ds,e1,z⟩:=j7 (T:=PostX X.K C κ φ σ m true H Q) (λ o_ o_ q=>q) (λ q=>q) z
 obtain ⟨os,e2,z⟩:=j7 (T:=PostX X.K C κ φ σ m true H Q) (λ o_ o_ q=>q) (λ q=>q) z
 obtain ⟨d0,e3,e1⟩:=j3 (T:=λ r=>r=Rz.ok ds) (λ o_ o_ z=>by cases z) (λ z=>by cases z) e1
 cases e1
 obtain ⟨hol,hoa⟩:=q10 e2
 obtain ⟨d,g1,g2,g3⟩:=hoa 0 i rfl
 obtain ⟨v,k',f1,f2,_⟩:=r.rx.sl i d g1
 refine dt (Fo φ) σ H δ r.rx _ ?_
 rw [e3]
 intro u H1 s1 a1 _
 refine ⟨v,f1,?_⟩
 show spJ X.K C.cl F _ H1 _ _
 refine ⟨u,v,rfl,?_⟩
 exact q7Y (is:=[i]) (us:=[v]) (vs:=[u]) r (by simp) (hkB hk) (by rw [hol];rfl) e2 s1 rfl (λ k j e=>by
  cases k with
  | zero =>
   have e:i=j:=N0b e
   subst e
   exact ⟨v,rfl,f1⟩
  | succ k=>simp at e) (Ats.cons a1 Ats.nil) z
end
end Dl
namespace L2
open PySem PySem.Spec PyProof.Rows
theorem z1w {X:Cx}{body:List Stmt}{t:TS}{h₀:ExceptHandler}{pos:Pos}(hb:∀ pn xe,PSs (X.tr pn xe) body t):PS X (.Try body [h₀] [] [] pos) t:=by
 intro pins s σ H D I h
 refine wpAny_Try_except ?_
 refine N0p (hb (X.pn++pins) (λ e s₁=>wpAny (model X.prog X.w) X.A (noteFrame e X.env) (λ o_ s₂=>wpAny (model X.prog X.w) X.A (setFlight e none) (λ o_ s₃=>wpAny (model X.prog X.w) X.A (handleBy e X.env [h₀]) (SP X pins D) X.xe s₃) X.xe s₂) X.xe s₁) [] s σ H D (I.tr _) h) (λ f s1 hs=>?_) λ e s1 hs=>hs
 cases f with
 | next =>
  obtain ⟨σ',H',J,q⟩:=hs
  exact wpAny_execs_nil ⟨σ',H',J.untr,q⟩
 | ret u =>
  obtain ⟨x,σ',H',J,r,q⟩:=hs
  exact ⟨x,σ',H',J.untr,r,q⟩
 | brk =>
  obtain ⟨σ',H',J,q⟩:=hs
  exact ⟨σ',H',J.untr,q⟩
 | cont =>
  obtain ⟨σ',H',J,q⟩:=hs
  exact ⟨σ',H',J.untr,q⟩
end L2
namespace Dl
open PySem L2
theorem z1x {X:Cx}{C:Dc}{L:List Kd×List Nat}{κ κ':List Kd}{body:List Stmt}{g:GS}{h₀:ExceptHandler}{pos:Pos}(hb:∀ pn xe,DSs (X.tr pn xe) C L κ κ' body g):DSt X C L κ κ' (.Try body [h₀] [] [] pos) g:=by
 classical
 let t:TS:=λ D σ H=>∀ pn xe,Classical.choose (hb pn xe) D σ H
 refine ⟨t,z1w λ pn xe pins s σ H D I q=>(Classical.choose_spec (hb pn xe)).1 pins s σ H D I (q pn xe),λ φ σ H δ r D p pn xe=>(Classical.choose_spec (hb pn xe)).2 φ σ H δ r D p⟩
end Dl
namespace L2
open PySem PySem.Spec PyProof.Rows
end L2
namespace Dl
open PySem L2
end Dl
namespace Dl
open PySem L2 PyProof.Rows
noncomputable def scV:D->V
 | .str x=>.str x
 | .int i=>.int i
 | _=>.non
structure KDict (P:Program) (w:World) (K:PySem.W.Frag) (ad:Addr) (tb:List (Str×List D)):Prop where
 sys:(ad==sysModules)=false
 ex:∃ ob vs,K.lookup ad=some ob/\ob.IsDictOf (mixKind P w) vs/\∀ z,match tb.lookup z with
  | some ds=>∃ b o its n,valueAt vs (.inr z)=some (.ref b)/\K.lookup b=some o/\o.cls=.type "tuple"/\o.data=.seq its n/\its.size<=sizeLine/\Vals (ds.map scV) its.toList
  | none=>valueAt vs (.inr z)=none
section
variable {X:Cx}{ad:Addr}{tb:List (Str×List D)}
noncomputable def z5f (ad:Addr) (tb:List (Str×List D)):R2:=λ x y H Q=>∃ z,x=.str z/\y=.ref ad/\Q (.bl (!(tb.lookup z).isSome)) H
set_option tactic.hygienic true in
theorem z1y (kd:KDict X.prog X.w X.K ad tb):OpR X (compareOp .NotIn) (z5f ad tb):=by
 intro pins s σ H x y v u Q I rx ry h
 obtain ⟨z,rfl,rfl,q⟩:=h
 cases (show u=Value.ref ad from ry)
 obtain ⟨ob,vs,hk,hd,ht⟩:=kd.ex
 have dd:s.heap.DictOf (mixKind X.prog X.w) ad vs:=Heap.dictOf_iff.2 ⟨ob,I.kIn _ _ hk,hd⟩
 refine wpAny_notIn_of (q6h (k:=.inr z) rx) kd.sys dd.mapOf ?_
 have e:(valueAt vs (.inr z)).isSome=(tb.lookup z).isSome:=by
  have:=ht z
  split at this
  ·rename_i ds hz
   obtain ⟨b,o,its,n,h1,_⟩:=this
   rw [h1,hz];rfl
  ·rename_i hz
   rw [this,hz];rfl
 rw [e]
 exact ⟨.bl _,H,I.tok _,rfl,q⟩
theorem z1z {x:Str}{k:Expr}{tk:TE}{pos p2:Pos}(kd:KDict X.prog X.w X.K ad tb) (hg:Gl X x) (hm:X.mg x=some (.ref ad)) (hk:PE X k tk) (hs:z2H k) (hdb:(x==("__debug__" : Str))=false:=by decide) :
 PE X (.Subscript (.Name x p2) k pos) (λ σ H Q=>tk σ H λ y H1=>∃ z ds,y=.str z/\tb.lookup z=some ds/\∀ b,SqT X.K H1 b (ds.map scV)->Q (.ref b) H1):=by
 intro pins s σ H Q I h
 refine q78 PySem.F.slot_dict_getitem.lookup hs (thx (q2I (v:=.ref ad) hg hm rfl hdb pins s σ H (λ x H1=>x=.ref ad/\H1=H) I ⟨rfl,rfl⟩) λ u s1 x H1 I1 rx hx_=>?_)
 obtain ⟨ex,eH⟩:=hx_
 subst ex eH
 cases (show u=Value.ref ad from rx)
 refine thx (hk pins s1 σ H1 _ I1 h) λ iv s2 y H2 I2 ry hx_=>?_
 obtain ⟨z,ds,ey,hz,q⟩:=hx_
 subst ey
 obtain ⟨ob,vs,hk,hd,ht⟩:=kd.ex
 have g0:=I2.kIn _ _ hk
 have dd:s2.heap.DictOf (mixKind X.prog X.w) ad vs:=Heap.dictOf_iff.2 ⟨ob,g0,hd⟩
 have ht:=ht z
 rw [hz] at ht
 obtain ⟨b,o,its,n,h1,h2,h3,h4,h5,h6⟩:=ht
 obtain ⟨es,ep,hx,_⟩:=hd
 exact ⟨⟨ob,g0,hx.1⟩,wpAny_getItem_of (q6h (k:=.inr z) ry) dd.mapOf h1 ⟨.ref b,H2,I2.tok _,rfl,q b (.inr ⟨o,its,n,h2,h3,h4,h5,h6⟩)⟩⟩
theorem z0q {K:PySem.W.Frag}{cl:Nat->Addr}{H:Hp}{S:Addr->Prop}{ys:List V}{es:List D}(w:Ats K cl H S ys es):∀ {ds:List D},ds.all scD=true->Ats K cl H S (ds.map scV++ys) (ds++es)
 | [],_=>w
 | d::ds,h=>by
  rw [List.all_cons,N0q] at h
  refine Ats.cons ?_ (z0q w h.2)
  cases d with
  | str x=>rw [At];rfl
  | int i=>rw [At];rfl
  | _=>cases h.1
variable {C:Dc}{κ:List Kd}{m:Kd}{fa fb:Bool}{a e:Expr}{ga ge:GE}{x:Str}{pos p2 p3:Pos}
set_option tactic.hygienic true in
theorem z0r (kd:KDict X.prog X.w X.K ad tb) (hg:Gl X x) (hm:X.mg x=some (.ref ad)) (ha:DE X C κ .v fa a ga) (he:DE X C κ m fb e ge) (hs:z2H a:=by intro _ _;rfl) (hdb:(x==("__debug__" : Str))=false:=by decide) :
 DE X C κ m true (.BinOp (.Subscript (.Name x p2) a p3) .Add e pos) (gOp (dBeg tb) ga ge):=by
 obtain ⟨ta,pa,da⟩:=ha
 obtain ⟨te,pe,de⟩:=he
 refine ⟨_,q8Z q6Z (z1z kd hg hm pa hs hdb) pe,λ F σ H δ rx Q z=>da F σ H δ rx _ ?_⟩
 obtain ⟨d1,e1,z1⟩:=j3 (T:=Post X.K C F m true H Q) (λ o_ o_ q=>q) (λ q=>q) z
 obtain ⟨d2,e2,z2⟩:=j3 (T:=Post X.K C F m true H Q) (λ o_ o_ q=>q) (λ q=>q) z1
 clear z z1
 have z:=z2
 clear z2
 rw [e1]
 intro v H1 s1 a1 _nw
 unfold dBeg at z
 split at z
 ·rename_i zz es
  split at z
  ·rename_i ds hz
   obtain ⟨⟨n1,n2,hl,hsc⟩,z⟩:=Q0 (T:=Post X.K C F m true H Q) (λ z=>z) z
   rw [At] at a1
   refine ⟨zz,ds,a1,hz,λ b hb=>de F σ H1 δ (rx.same s1) _ ?_⟩
   rw [e2]
   intro u H2 s2 a2 _
   rw [At] at a2
   obtain ⟨q,ys,rfl,hq,w⟩:=a2
   have wl:=w.length
   have hb2:SqT X.K H2 b (ds.map scV):=by
    rcases hb with (hb | ⟨o,hb⟩) | hb
    ·exact .inl (.inl (s2 _ _ hb))
    ·exact .inl (.inr ⟨o,s2 _ _ hb⟩)
    ·exact .inr hb
   refine ⟨b,q,ds.map scV,ys,rfl,rfl,hb2,SqT.of hq,λ q=>n1 (List.map_eq_nil_iff.1 q),by rw [N01,wl];exact hl,λ q=>?_,λ o_ p hp=>?_⟩
   ·rw [q] at wl
    exact absurd (List.length_eq_zero_iff.1 wl.symm) n2
   ·refine z _ _ ((s1.trans s2).trans (Z6 hp _)) ?_ λ o_=>Nw.small rfl
    rw [At]
    exact ⟨p,_,rfl,Z0,(z0q w hsc).same (Z6 hp _)⟩
  ·exact z.elim
 ·exact z.elim
theorem q4R (kd:KDict X.prog X.w X.K ad tb) (hg:Gl X x) (hm:X.mg x=some (.ref ad)) (ha:DE X C κ .v fa a ga) (hmk:behindInMarks .NotIn (.Name x p2)=false:=by rfl) (hdb:(x==("__debug__" : Str))=false:=by decide):DT X C κ (.Compare a [.NotIn] [.Name x p2] pos) (gB (gUn (dNotK tb) ga)):=by
 obtain ⟨ta,pa,da⟩:=ha
 refine ⟨_,q4s (z1y kd) pa (q2I (v:=.ref ad) hg hm rfl hdb) hmk,λ F σ H δ rx Q z=>da F σ H δ rx _ ?_⟩
 have z:PostT H Q (((ga δ).bind (dNotK tb)).bind λ x=>match x with | .bl c=>.ok c | _=>.un):=z
 obtain ⟨d0,e0,z⟩:=j3 (T:=PostT H Q) (λ o_ o_ q=>q) (λ q=>q) z
 obtain ⟨d1,e1,e0⟩:=j3 (T:=λ r=>r=Rz.ok d0) (λ o_ o_ z=>by cases z) (λ z=>by cases z) e0
 rw [e1]
 intro v H1 s1 a1 _
 cases d1 with
 | str y =>
  cases e0
  rw [At] at a1
  subst a1
  exact ⟨y,rfl,rfl,_,rfl,z H1 s1⟩
 | _=>cases e0
end
noncomputable def z6F (w:World) (K:PySem.W.Frag) (e:DictEntry) (p:Str×List D):Prop :=
 ∃ t b o its n,e=⟨q9X w (.inr p.1),.str p.1 t,.ref b⟩/\K.lookup b=some o/\o.cls=.type "tuple"/\o.data=.seq its n/\its.size<=sizeLine/\Vals (p.2.map scV) its.toList
theorem z0s {P:Program}{w:World}{K:PySem.W.Frag}:∀ {es:List DictEntry}{tb:List (Str×List D)},Paired (z6F w K) es tb->(tb.map (·.1)).Nodup ->
 ∃ vs:List (Key×Value),(∀ e∈es,∃ k,(mixKind P w).is k e.key=true/\e.hash=(mixKind P w).hash k)/\Pairs (mixKind P w) es vs/\vs.map (·.1)=tb.map (λ p=>Sum.inr p.1)/\∀ z,match tb.lookup z with
  | some ds=>∃ b o its n,valueAt vs (.inr z)=some (.ref b)/\K.lookup b=some o/\o.cls=.type "tuple"/\o.data=.seq its n/\its.size<=sizeLine/\Vals (ds.map scV) its.toList
  | none=>valueAt vs (.inr z)=none
 | [],[],_,_=>⟨[],(λ e m=>by cases m),.nil,rfl,λ z=>rfl⟩
 | e::es,p::tb,.cons h r,nd=>by
  obtain ⟨t,b,o,its,n,he,h1,h2,h3,h4,h5⟩:=h
  rw [N09,List.nodup_cons] at nd
  obtain ⟨vs,a1,a2,a3,a4⟩:=z0s (P:=P) r nd.2
  subst he
  refine ⟨(.inr p.1,.ref b)::vs,λ e m=>?_,.cons (q0v P w p.1 t) rfl a2,by rw [N09,N09,a3],λ z=>?_⟩
  ·rcases N0c.1 m with rfl | m
   ·exact ⟨.inr p.1,q0v P w p.1 t,rfl⟩
   ·exact a1 e m
  ·obtain ⟨k,ds⟩:=p
   rw [N15]
   by_cases q:z=k
   ·subst q
    rw [beq_self_eq_true]
    refine ⟨b,o,its,n,?_,h1,h2,h3,h4,h5⟩
    unfold valueAt
    rw [List.find?_cons,N0o rfl]
    rfl
   ·rw [N18.2 q]
    have e:valueAt ((Sum.inr k,Value.ref b)::vs) (.inr z)=valueAt vs (.inr z):=by
     unfold valueAt
     rw [List.find?_cons,N0e (λ e=>q (Sum.inr.inj e).symm)]
    rw [e]
    exact a4 z
theorem KDict.of {P:Program}{w:World}{K:PySem.W.Frag}{ad:Addr}{tb:List (Str×List D)}{es:Array DictEntry}{ep:Nat}(sys:(ad==sysModules)=false) (hk:K.lookup ad=some ⟨.type "dict",none,.dict es ep,#[]⟩) (rows:Paired (z6F w K) es.toList tb) (nd:(tb.map (·.1)).Nodup):KDict P w K ad tb:=by
 obtain ⟨vs,a1,a2,a3,a4⟩:=z0s (P:=P) rows nd
 refine ⟨sys,_,vs,hk,⟨es,ep,⟨rfl,rfl,rfl⟩,rfl,λ e m=>a1 e (by simpa using m),a2,?_⟩,a4⟩
 rw [a3]
 have:=nd
 rw [List.nodup_iff_pairwise_ne,List.pairwise_map] at this ⊢
 exact this.imp λ h z=>h (Sum.inr.inj z)
end Dl
namespace Dl
open PySem L2
end Dl
namespace Dl
open PySem L2 PyProof.Rows
theorem q6u {p:Prop} [Decidable p] {r:Rz D}(h:p):Rz.guard p r=r:=N0j h
theorem q6v {p:Prop} [Decidable p] {r:Rz D}(h:¬ p):Rz.guard p r=.un:=N0l h
section
variable {X:Cx}{C:Dc}{L:List Kd×List Nat}{κ κ' κ1:List Kd}{he:HE}{ge ga:GE}{gi:GI}{gs:GA}{e elt iter o:Expr}{es:List Expr}{m kx:Kd}{fr fa fe:Bool}{pos p px:Pos}{E:XK}{ce:Nat->Addr}{x:Str}{caps:q2j}{sc:Scope}
set_option tactic.hygienic true in
theorem q9t {i:Nat}{y:Str}{py spos:Pos}(caps:q2j) (hstk:X.stack=X.env::X.outer) (hfr:X.env.frame=some X.env.locals) (hex:q3S X E) (hN:X.N.Nodup) (hi':X.N[i]? = some y) (hy:Loc X.env.scope y) (hk:U4 X.env.scope sc X.N x caps=true) (hc:X.calm=true) (hi:DI X C κ kx (.Name x px) iter gi)
 (hel:∀ z,DE (cxC X x caps sc z) C (kx::capK caps κ) m fe elt ge) (hrf:∀ z,Passes (CXF X.prog X.w) (cxC X x caps sc z) E->DEX (cxC X x caps sc z) C (kx::capK caps κ) elt he E ce) (hio:∀ j:Nat,j∈C.io->κ[j]? = some .i)
 (hsw:swapsWith (.ListComp elt [⟨.Name x px,iter,[],0⟩] sc pos) (some (.Name y py)) spos.line X.env=pure true:=by rfl)
 (hs:∀ v,foldedSetIterable iter X.env v=pure v:=by intro _;rfl) (hf:X.fn y=true\/X.env.scope.names.lookup y=some .local:=by first | exact .inl rfl | exact .inr rfl | assumption) :
 DR X C κ (.Assign [.Name y py] (.ListComp elt [⟨.Name x px,iter,[],0⟩] sc pos) spos) (q2w gi (caps.map (·.2)) ge he) E ce:=by
 classical
 obtain ⟨wi,pw,dw⟩:=hi
 let te:CArg->TE:=λ z σ H Q=>∀ hp:Passes (CXF X.prog X.w) (cxC X x caps sc z) E,Classical.choose (hel z) σ H Q\/Classical.choose (hrf z hp) σ H Q
 refine ⟨_,q9j (tt:=λ o_=>z6B) (te:=te) hstk hfr hex hN hi' hy hk hc pw (λ z=>q5r) (λ z hp pins s σ H Q I q=>?_) hsw hs hf,λ φ σ H δ r D c δ' q w=>?_⟩
 ·rcases q hp with q | q
  ·exact (Classical.choose_spec (hel z)).1 pins s σ H Q I q
  ·exact (Classical.choose_spec (hrf z hp)).1 pins s σ H Q I q
 ·unfold q2w at q
  cases e1:gi δ with
  | er c s=>rw [e1] at q;cases q
  | un=>rw [e1] at q;cases q
  | ok xs =>
  rw [e1] at q
  have q:(if xs.length<=sizeLine then (hCompL (capD (caps.map (·.2)) δ) ge he xs).map λ c=>(c,δ) else none)=some (c,δ'):=q
  split at q
  case isFalse=>cases q
  case isTrue hsz =>
  cases e2:hCompL (capD (caps.map (·.2)) δ) ge he xs with
  | none=>rw [e2] at q;cases q
  | some c' =>
  rw [e2] at q
  cases q
  refine dw (Fo φ) σ H δ r.rx _ ?_
  rw [e1]
  intro J H1 s1 wj
  have rx1:=r.rx.same s1
  have turn:∀ (z:CArg) (j:Nat) (v:V) (d:Dl.D) (ys:List V) (H':Hp) (rest:List Dl.D) (N:List V->Hp->Prop),Same H1 H'->At X.K C.cl H' (Sk C (Fo φ) kx) v d->ys.length<sizeLine->hCompL (capD (caps.map (·.2)) δ) ge he (d::rest)=some c ->
   (∀ ys' H'',Same H1 H''->ys'.length=ys.length+1->hCompL (capD (caps.map (·.2)) δ) ge he rest=some c->N ys' H'')->te z (some v::capσ caps σ) H' λ u H4=>ys.length<sizeLine/\N (ys++[u]) H4:=λ z j v d ys H' rest N s av hl q hN' hp=>by
   have r2:Rx X.K C (kx::capK caps κ) (Fo φ) (some v::capσ caps σ) H' (some d::capD (caps.map (·.2)) δ):=(rx1.same s).comp av
   rw [hCompL] at q
   cases h1:he (some d::capD (caps.map (·.2)) δ) with
   | some c1 =>
    rw [h1] at q
    cases q
    exact .inr ((Classical.choose_spec (hrf z hp)).2 (Fo φ) _ H' _ r2 _ c h1 λ H'' s''=>w κ φ σ H'' hio (r.same ((s1.trans s).trans s'')))
   | none =>
    rw [h1] at q
    cases h2:ge (some d::capD (caps.map (·.2)) δ) with
    | er c s=>rw [h2] at q;cases q
    | un=>rw [h2] at q;cases q
    | ok y1 =>
     rw [h2] at q
     refine .inl ((Classical.choose_spec (hel z)).2 (Fo φ) _ H' _ r2 _ ?_)
     rw [h2]
     intro u H4 s4 a4 _
     exact ⟨hl,hN' _ H4 (s.trans s4) (by rw [N06,N11]) q⟩
  have fin:∀ ys H2 (T:Prop),(Same H1 H2/\ys=xs.length/\hCompL (capD (caps.map (·.2)) δ) ge he []=some c)->T:=λ ys H2 T h=>by
   rw [hCompL] at h
   cases h.2.2
  rcases wj with ⟨a,vs,rfl,sa,ha,wa⟩ | ⟨a,vs,rfl,ha,wa⟩ | ⟨lo,n,rfl,rfl⟩ | ⟨zz,rfl,rfl⟩
  ·have hl:=wa.length
   refine q3N (K:=X.K) (a:=a) (xs:=vs) (λ j ys H'=>Same H1 H'/\ys.length=j/\hCompL (capD (caps.map (·.2)) δ) ge he (xs.drop j)=some c) ⟨Same.refl H1,rfl,e2⟩ (λ j ys H' o1_ ⟨s,o2_⟩=>.inl (s.rd ha)) ?_ ?_
   ·rintro z j v ys H' hj ⟨s,hy',hq⟩
    obtain ⟨d,hd,ad⟩:=(wa.same s).get' hj
    rw [W4 hd] at hq
    have hj':=(N04.mp hd).1
    exact q7e (B:=Same H1 H'/\ys.length=j+1/\hCompL (capD (caps.map (·.2)) δ) ge he (xs.drop (j+1))=some c) (turn z j v d ys H' (xs.drop (j+1)) (λ ys' H''=>Same H1 H''/\ys'.length=j+1/\hCompL (capD (caps.map (·.2)) δ) ge he (xs.drop (j+1))=some c) s ad (by lia) hq λ ys' H'' s' l' q'=>⟨s',by simp_all,q'⟩)
   ·rintro ys H' ⟨s,hy',hq⟩
    rw [hl,N1i] at hq
    exact fin _ H' _ ⟨s,rfl,hq⟩
  ·have hl:=wa.length
   refine q5s (K:=X.K) (a:=a) (xs:=vs) (λ j ys H'=>Same H1 H'/\ys.length=j/\hCompL (capD (caps.map (·.2)) δ) ge he (xs.drop j)=some c) ⟨Same.refl H1,rfl,e2⟩ (λ j ys H' o1_ ⟨s,o2_⟩=>SqT.of (s _ _ ha)) ?_ ?_
   ·rintro z j v ys H' hj ⟨s,hy',hq⟩
    obtain ⟨d,hd,ad⟩:=(wa.same s).get' hj
    rw [W4 hd] at hq
    have hj':=(N04.mp hd).1
    exact q7e (B:=Same H1 H'/\ys.length=j+1/\hCompL (capD (caps.map (·.2)) δ) ge he (xs.drop (j+1))=some c) (turn z j v d ys H' (xs.drop (j+1)) (λ ys' H''=>Same H1 H''/\ys'.length=j+1/\hCompL (capD (caps.map (·.2)) δ) ge he (xs.drop (j+1))=some c) s ad (by lia) hq λ ys' H'' s' l' q'=>⟨s',by simp_all,q'⟩)
   ·rintro ys H' ⟨s,hy',hq⟩
    rw [hl,N1i] at hq
    exact fin _ H' _ ⟨s,rfl,hq⟩
  ·refine q2l (lo:=lo) (n:=n) (λ j ys H'=>Same H1 H'/\ys.length=j/\hCompL (capD (caps.map (·.2)) δ) ge he ((rangeD lo n).drop j)=some c) ⟨Same.refl H1,rfl,e2⟩ ?_ ?_
   ·rintro z j ys H' hj ⟨s,hy',hq⟩
    have hd:(rangeD lo n)[j]? = some (.int (lo+(j:Int))):=by unfold rangeD;rw [N0i,N1k hj];rfl
    rw [W4 hd] at hq
    have hj':=(N04.mp hd).1
    exact q7e (B:=Same H1 H'/\ys.length=j+1/\hCompL (capD (caps.map (·.2)) δ) ge he ((rangeD lo n).drop (j+1))=some c) (turn z j _ _ ys H' ((rangeD lo n).drop (j+1)) (λ ys' H''=>Same H1 H''/\ys'.length=j+1/\hCompL (capD (caps.map (·.2)) δ) ge he ((rangeD lo n).drop (j+1))=some c) s (by rw [At]) (by lia) hq λ ys' H'' s' l' q'=>⟨s',by omega,q'⟩)
   ·rintro ys H' ⟨s,hy',hq⟩
    have hl:(rangeD lo n).length=n:=by unfold rangeD;rw [N01,N17]
    rw [show (rangeD lo n).drop n=[] by rw [N1c];omega] at hq
    exact fin _ H' _ ⟨s,rfl,hq⟩
  ·refine q5t (z:=zz) (λ j ys H'=>Same H1 H'/\ys.length=j/\hCompL (capD (caps.map (·.2)) δ) ge he ((signsD zz).drop j)=some c) ⟨Same.refl H1,rfl,e2⟩ ?_ ?_
   ·rintro z j ch ys H' hj ⟨s,hy',hq⟩
    have hd:(signsD zz)[j]? = some (.str ⟨#[ch]⟩):=by unfold signsD;rw [N0i,Array.getElem?_toList,hj];rfl
    rw [W4 hd] at hq
    have hj':=(N04.mp hd).1
    exact q7e (B:=Same H1 H'/\ys.length=j+1/\hCompL (capD (caps.map (·.2)) δ) ge he ((signsD zz).drop (j+1))=some c) (turn z j _ _ ys H' ((signsD zz).drop (j+1)) (λ ys' H''=>Same H1 H''/\ys'.length=j+1/\hCompL (capD (caps.map (·.2)) δ) ge he ((signsD zz).drop (j+1))=some c) s (by rw [At]) (by omega) hq λ ys' H'' s' l' q'=>⟨s',by omega,q'⟩)
   ·rintro ys H' ⟨s,hy',hq⟩
    have hl:(signsD zz).length=zz.cps.size:=by unfold signsD;rw [N01,N0g]
    rw [show (signsD zz).drop zz.cps.size=[] by rw [N1c];omega] at hq
    exact fin _ H' _ ⟨s,rfl,hq⟩
set_option tactic.hygienic true in
theorem z1A {FE:Addr}{fx:Addr}{fd:FuncData}{ps:List Str}{k i il j c6 c n0:Nat}{n x y lit tn mm:Str}{conv:Int}{pl:Sem Bool}{F:PX}{cs:List Nat}{np hpos np2 cpos rpos p1 p2 p3 p4 p5 apos epos tpos:Pos}
 (hstk:X.stack=X.env::X.outer) (hfr:X.env.frame=some X.env.locals) (hxx:X.ex=[]) (hex:q3S X E)
 (cls:Cls X.K (C.cl c)) (hm:Meth X.K (C.cl c) mm fx) (G:FnOk X.prog X.w X.K X.mg X.base (CXG true X.prog X.w) k fx fd ps (spE X.K C.cl ce n0 F)) (hr:Room k X.A) (hb:X9 X.K fd ps []) (hlen:∀ δ ds,gs δ=.ok ds->ds.length+1=n0)
 (ho:∀ pn xe,DE (X.tr pn xe) C κ .v fa o ga) (ha:∀ pn xe,DA (X.tr pn xe) C κ .v (e::es) gs)
 (hxm:∀ c∈cs,PySem.W.exmOne X.K (.ref (ce c)) (.ref FE)=some true/\q28 X.K (ce c))
 (hN:X.N.Nodup) (hi:X.N[i]? = some n) (hl:X.N[il]? = some y) (hil:i≠il) (hloc:X.env.scope.names.lookup n=some .local) (hvy:Vis X.env.scope y) (hg:Gl X tn) (hmt:X.mg tn=some (.ref FE)) (hgx:Gl X x) (hmx:X.mg x=some (.ref (ce c6))) (hqx:q28 X.K (ce c6)) (hio:∀ j:Nat,j∈C.io->κ[j]? = some .i)
 (hlit:lit.length<=1000) (hcv:conv = -1\/conv=114) (hn1:(n==("__debug__" : Str))=false:=by decide) (hn2:(n==("__classdict__" : Str))=false:=by decide) (hy1:(y==("__debug__" : Str))=false:=by decide) (hy2:(y==("__classdict__" : Str))=false:=by decide) (hdb:(x==("__debug__" : Str))=false:=by decide) (hdt:(tn==("__debug__" : Str))=false:=by decide)
 (hs:evalEach [.Constant (.str lit) j p1,.FormattedValue (.Name y p3) conv none p2] X.env=[eval (.Constant (.str lit) j p1) X.env,eval (.FormattedValue (.Name y p3) conv none p2) X.env]:=by rfl)
 (hst2:starEach [.JoinedStr [.Constant (.str lit) j p1,.FormattedValue (.Name y p3) conv none p2] p4] X.env=[(false,eval (.JoinedStr [.Constant (.str lit) j p1,.FormattedValue (.Name y p3) conv none p2] p4) X.env)]:=by rfl)
 (hst:starEach (e::es) X.env=(false,eval e X.env)::starEach es X.env:=by rfl) (hpl:(backTo pos (starEach es X.env)).any (·.1)=false:=by rfl)
 (ht:eval (.Call (.Attribute o mm apos) (e::es) [] pos) X.env=(do
  let ov <- eval o X.env
  standAt apos.atName
  let (f,first) <- holding [ov] (getMethod ov mm pl)
  callWith pos f first (backTo pos (starEach (e::es) X.env)) (backToKw pos (keywordEach [] X.env))):=by rfl)
 (hsw:swapsWith (.Call (.Attribute o mm apos) (e::es) [] pos) none epos.line X.env=pure false:=by rfl) :
 DR X C κ (.Try [.Expr (.Call (.Attribute o mm apos) (e::es) [] pos) epos] [.ExceptHandler (some (.Name tn np)) (some n) [.Raise (some (.Call (.Name x np2) [.JoinedStr [.Constant (.str lit) j p1,.FormattedValue (.Name y p3) conv none p2] p4] [] cpos)) (some (.Name n p5)) rpos] hpos] [] [] tpos)
  (q6t (hMeth c mm F ga gs) cs (hRaiseN c6 il)) E ce:=by
 classical
 refine ⟨_,z15 (E:=E) (ta:=λ pn xe=>Classical.choose (ho pn xe)) (t:=λ pn xe=>Classical.choose (ha pn xe)) hstk hfr hxx hex (λ pn xe=>(Classical.choose_spec (ho pn xe)).1) (λ pn xe=>(Classical.choose_spec (ha pn xe)).1) cls hm G hr hb hN hi hl hil hloc hvy hg hmt hgx hmx hqx hlit hcv hn1 hn2 hy1 hy2 hdb hdt hs hst2 hst hpl ht hsw,λ φ σ H δ r D cc δ' q w=>?_⟩
 unfold q6t at q
 cases h1:hMeth c mm F ga gs δ with
 | none=>rw [h1] at q;cases q
 | some c1 =>
 rw [h1] at q
 have q:(if c1∈cs then hRaiseN c6 il δ else none)=some (cc,δ'):=q
 split at q
 case isFalse=>cases q
 case isTrue hcs =>
 have q0:=q
 unfold hRaiseN at q
 split at q
 case h_2=>cases q
 case h_1 z hz =>
 split at q
 case isFalse=>cases q
 case isTrue okz =>
 cases q
 obtain ⟨v,k1,g1,g2,g3⟩:=r.rx.sl il _ hz
 rw [At] at g3
 subst g3
 refine ⟨⟨z,g1,okz⟩,λ pn xe=>?_⟩
 refine (Classical.choose_spec (ho pn xe)).2 (Fo φ) σ H δ r.rx _ ?_
 unfold hMeth at h1
 cases e1:ga δ with
 | er c s=>rw [e1] at h1;cases h1
 | un=>rw [e1] at h1;cases h1
 | ok d =>
  rw [e1] at h1
  have h1:(match gs δ with | .ok ds=>if isObj c mm d=true then F (d::ds) else none | _=>none)=some c1:=h1
  intro v H1 s1 a1 _
  cases e2:gs δ with
  | er c s=>rw [e2] at h1;cases h1
  | un=>rw [e2] at h1;cases h1
  | ok ds =>
   rw [e2] at h1
   have h1:(if isObj c mm d=true then F (d::ds) else none)=some c1:=h1
   split at h1
   case isFalse=>cases h1
   case isTrue hio' =>
   obtain ⟨qa,dx,fs,rfl,hq,hl'⟩:=q5E a1 hio'
   refine ⟨qa,dx,fs,rfl,hq,hl',(Classical.choose_spec (ha pn xe)).2 (Fo φ) σ H1 δ (r.rx.same s1) _ ?_⟩
   rw [e2]
   intro vs H2 s2 a2
   rw [N10]
   refine ⟨d::ds,c1,by rw [N0h];exact hlen δ ds e2,Ats.cons ((a1.same s2).sub λ o_ o_ o_=>trivial) (a2.sub λ o_ o_ o_=>trivial),h1,λ H' s'=>⟨ce c1,rfl,(hxm c1 hcs).1,(hxm c1 hcs).2,w κ φ σ H' hio (r.same ((s1.trans s2).trans s'))⟩⟩
theorem z1B {y z:Str}{j1 j2:Nat}{p1 p2 apos cpos:Pos}{fo:Bool}{go:GE}(he:DE X C κ m fe e ge) (fr:Fr (eval e X.env)) (ho:DE X C κ .v fo o go)
 (hs2:starEach [e,.Call (.Attribute o "replace" apos) [.Constant (.str y) j1 p1,.Constant (.str z) j2 p2] [] cpos] X.env=[(false,eval e X.env),(false,eval (.Call (.Attribute o "replace" apos) [.Constant (.str y) j1 p1,.Constant (.str z) j2 p2] [] cpos) X.env)]:=by rfl)
 (hbase:attributeBase o "replace" X.env (eval o X.env)=eval o X.env:=by rfl)
 (hfew:((backTo cpos (starEach [.Constant (.str y) j1 p1,.Constant (.str z) j2 p2] X.env)).all (λ x=>!x.1)&&(backToKw cpos (keywordEach [] X.env)).all (λ x=>x.1.isSome)
  && decide ([Expr.Constant (.str y) j1 p1,.Constant (.str z) j2 p2].length+([]:List Keyword).length+(if ([]:List Keyword).isEmpty then 0 else 1)<30))=true:=by rfl)
 (hline:(apos.endLine==cpos.line)=true:=by rfl) (hs:starEach [.Constant (.str y) j1 p1,.Constant (.str z) j2 p2] X.env=[(false,eval (.Constant (.str y) j1 p1) X.env),(false,eval (.Constant (.str z) j2 p2) X.env)]:=by rfl) :
 DA X C κ m [e,.Call (.Attribute o "replace" apos) [.Constant (.str y) j1 p1,.Constant (.str z) j2 p2] [] cpos] (gCons ge (gCons (z3b go (gCons (gC (.str y)) (gCons (gC (.str z)) gNil))) gNil)):=by
 obtain ⟨te,pe,de⟩:=he
 obtain ⟨to,po,d_o⟩:=ho
 refine ⟨_,z18 pe fr po hs2 hbase hfew hline hs,λ F σ H δ r Q q=>de F σ H δ r _ ?_⟩
 unfold gCons at q
 cases e1:ge δ with
 | er c s=>rw [e1] at q;exact q.elim
 | un=>rw [e1] at q;exact q.elim
 | ok d =>
 rw [e1] at q
 intro v H1 s1 a1 _
 refine d_o F σ H1 δ (r.same s1) _ ?_
 have q:PostA X.K C F m H Q ((((go δ).bind λ d=>dRepl d [.str y,.str z]).bind λ x=>(gNil δ).bind λ xs=>.ok (x::xs)).bind λ xs=>.ok (d::xs)):=q
 cases e2:go δ with
 | er c s=>rw [e2] at q;exact q.elim
 | un=>rw [e2] at q;exact q.elim
 | ok d2 =>
 rw [e2] at q
 have q:PostA X.K C F m H Q (((dRepl d2 [.str y,.str z]).bind λ x=>(gNil δ).bind λ xs=>.ok (x::xs)).bind λ xs=>.ok (d::xs)):=q
 intro x H2 s2 a2 _
 cases d2 with
 | str a =>
  rw [At] at a2
  subst a2
  rw [show dRepl (.str a) [.str y,.str z]=Rz.guard ((y==z)=false/\a.length+(a.length+1) * z.length<=16777216) (.ok (.str (Txt.replace a y z))) from rfl] at q
  by_cases c:(y==z)=false/\a.length+(a.length+1) * z.length<=16777216
  ·rw [q6u c] at q
   have q:PostA X.K C F m H Q (.ok [d,.str (Txt.replace a y z)]):=q
   exact ⟨a,y,z,rfl,rfl,c.1,c.2,q _ _ (s1.trans s2) (Ats.cons (a1.same s2) (Ats.cons (by rw [At]) Ats.nil))⟩
  ·rw [q6v c] at q
   exact q.elim
 | _=>exact q.elim
end
section
variable {P:Program}{w:World}{K:PySem.W.Frag}{mg:Str->Option Value}{base:Heap}
theorem z1C {x qual:Str}{st:Stmt}{f:Addr}{fd:FuncData}{N ps:List Str}{k n:Nat}{cl ce:Nat->Addr}{κ:List Kd}{h:HS}(F:Fun K x qual st f fd) (S:FnScope N ps (defScope st)) (hn:ps.length=n) (hκ:∀ i:Nat,i<n->κ[i]? = some .b)
 (hbody:∀ (cdv:Value) (A:Around) (outer:List Env) (s:Shared) (H:Hp) (E:XK),Room k (A.deeper (envOfC qual (defScope st) s.heap.objs.size f cdv))->q5H (cxOf (CXF P w) P w K mg base N qual (defScope st) f cdv A outer s H E) E->Passes (CXF P w) (cxOf (CXF P w) P w K mg base N qual (defScope st) f cdv A outer s H E) E->q3S (cxOf (CXF P w) P w K mg base N qual (defScope st) f cdv A outer s H E) E ->
  DRs (cxOf (CXF P w) P w K mg base N qual (defScope st) f cdv A outer s H E) ⟨cl,H,λ o_=>False,[],λ o_=>.non,λ o_=>[]⟩ κ (defBody st) h E ce):FnOk P w K mg base (CXF P w) (k+1) f fd ps (spE K cl ce n (q1P N.length h)) :=
 z6D F S hn hκ λ cdv A outer s H E hr hx hp=>hbody cdv A outer s H E hr hx hp z13
end
end Dl
namespace Dl
open PySem
noncomputable def ifK {α:Type}(s r:DS->Rz α) (δ:DS):Bool->Rz α:=λ c=>if c=true then s δ else r δ
noncomputable def z3g (r:GS):Out->Rz Out:=λ o=>match o with | .nx δ'=>r δ' | o=>.ok o
@[simp] theorem z43 {α:Type}(s r:DS->Rz α) (δ:DS):ifK s r δ true=s δ:=rfl
@[simp] theorem z3h {α:Type}(s r:DS->Rz α) (δ:DS):ifK s r δ false=r δ:=rfl
@[simp] theorem z5g (r:GS) (δ:DS):z3g r (.nx δ)=r δ:=rfl
@[simp] theorem z5h (r:GS) (d:D) (δ:DS):z3g r (.rt d δ)=.ok (.rt d δ):=rfl
@[simp] theorem z5i (r:GS) (δ:DS):z3g r (.bk δ)=.ok (.bk δ):=rfl
@[simp] theorem z5j (r:GS) (δ:DS):z3g r (.ct δ)=.ok (.ct δ):=rfl
noncomputable def itD:D->Rz (List D):=λ x=>match x with | .lst xs=>.ok xs | .tup xs=>.ok xs | .str z=>.guard (z.cps.all (· < 128)=true) (.ok (signsD z)) | _=>.un
@[simp] theorem z5k (xs:List D):itD (.lst xs)=.ok xs:=rfl
@[simp] theorem z5l (xs:List D):itD (.tup xs)=.ok xs:=rfl
@[simp] theorem z5m (z:Str):itD (.str z)=.guard (z.cps.all (· < 128)=true) (.ok (signsD z)):=rfl
section
variable (δ:DS) (a b:GE) (ga:GA) (t u:GT) (s r:GS) (x:GX) (i:Nat)
@[simp] theorem z5n:gVar i δ=(match δ[i]? with | some (some d)=>.ok d | _=>.un):=rfl
@[simp] theorem z44:q3U i δ=(match δ[i]? with | some (some d)=>.guard (d.imm=true) (.ok d) | _=>.un):=rfl
@[simp] theorem gC_ap (d:D):gC d δ=.ok d:=rfl
@[simp] theorem z6G (f:D->D->Rz D):gOp f a b δ=(a δ).bind λ x=>(b δ).bind λ y=>f x y:=rfl
@[simp] theorem z6H (f:D->Rz D):gUn f a δ=(a δ).bind f:=rfl
@[simp] theorem z6I:gIf t a b δ=(t δ).bind (ifK a b δ):=rfl
@[simp] theorem z5o:z25 a b δ=(a δ).bind λ x=>match x with | .bl true=>b δ | .bl false=>.ok (.bl false) | _=>.un:=rfl
@[simp] theorem gB_ap:gB a δ=(a δ).bind λ x=>match x with | .bl c=>.ok c | _=>.un:=rfl
@[simp] theorem z5p:q7x a δ=(a δ).bind z3X:=rfl
@[simp] theorem z5q:q8R t u δ=(t δ).bind (ifK (λ o_=>.ok true) u δ):=rfl
@[simp] theorem z45:q3V t δ=(t δ).bind λ c=>.ok (!c):=rfl
@[simp] theorem z5r:q1n δ=.ok true:=rfl
@[simp] theorem z5s:gNil δ=.ok []:=rfl
@[simp] theorem z46:gCons a ga δ=(a δ).bind λ x=>(ga δ).bind λ xs=>.ok (x::xs):=rfl
@[simp] theorem z5t:gTup ga δ=(ga δ).bind λ xs=>.guard (xs.length<=sizeLine) (.ok (.tup xs)):=rfl
@[simp] theorem z5u:q2o ga δ=(ga δ).bind λ xs=>.guard (xs.length<=sizeLine) (.ok (.lst xs)):=rfl
@[simp] theorem z47 (F:PF):gCall F ga δ=(ga δ).bind F:=rfl
@[simp] theorem z6J:gOI a δ=(a δ).bind λ x=>match x with | .int i=>.ok (some i) | _=>.un:=rfl
@[simp] theorem z6K:gON δ=.ok none:=rfl
@[simp] theorem z6L (lo hi:DS->Rz (Option Int)):gSl a lo hi δ=(a δ).bind λ x=>(lo δ).bind λ l=>(hi δ).bind λ h=>z2R x l h:=rfl
@[simp] theorem z5v:q7y a δ=(a δ).bind itD:=rfl
@[simp] theorem z48:q29 a δ=(a δ).bind λ x=>match x with | .int j=>.guard (Rng j) (.ok (rangeD 0 j.toNat)) | _=>.un:=rfl
@[simp] theorem z49 (it:GI) (caps:List Nat):q0o it caps t a δ=(it δ).bind λ xs=>(compL (capD caps δ) t a xs).bind λ ys=>.guard (ys.length<=sizeLine) (.ok (.lst ys)):=rfl
@[simp] theorem z4a:J8 δ=.ok (.nx δ):=rfl
@[simp] theorem z5w:W1 s r δ=(s δ).bind (z3g r):=rfl
@[simp] theorem z5x:Y7 t s r δ=(t δ).bind (ifK s r δ):=rfl
@[simp] theorem z5y:q06 a δ=(a δ).bind λ d=>.ok (.rt d δ):=rfl
@[simp] theorem z4b:q1O a δ=(a δ).bind λ d=>.guard (d.big=false) (.ok (.rt d δ)):=rfl
@[simp] theorem z4c:z1b a δ=(a δ).bind λ o_=>.ok (.nx δ):=rfl
@[simp] theorem z5z:gSet i a δ=(a δ).bind λ d=>.ok (.nx (δ.set i (some d))):=rfl
@[simp] theorem z4d:q2a i a δ=(a δ).bind λ d=>.guard (d.big=true) (.ok (.nx (δ.set i (some d)))):=rfl
@[simp] theorem z3i:Y8 δ=.un:=rfl
@[simp] theorem z5A:q9m i a δ=(a δ).bind λ d=>match δ[i]? with | some (some (.lst xs))=>.guard (xs.length<sizeLine) (.ok (.nx (δ.set i (some (.lst (xs++[d])))))) | _=>.un:=rfl
@[simp] theorem z5B:z26 i b a δ=(a δ).bind λ d=>(b δ).bind λ k=>match δ[i]? with | some (some x)=>(dPut x k d).bind λ y=>.ok (.nx (δ.set i (some y))) | _=>.un:=rfl
@[simp] theorem z5C (it:GI) (fg:List Nat):z1c it i fg s δ=(it δ).bind λ xs=>v4 i fg s xs (forget fg δ):=rfl
@[simp] theorem z5D:z55 a δ=(a δ).bind λ d=>.guard (d.imI=true) (.ok d):=rfl
@[simp] theorem z6M:gIm a δ=(a δ).bind λ d=>.guard (d.imm=true) (.ok d):=rfl
@[simp] theorem z3j (F:PFI) (is:List Nat):gCallI F is ga δ=(ga δ).bind λ ds=>(getS is δ).bind λ os=>(F (os++ds)).bind λ r=>.guard (r.2.length=is.length) (.ok (r.1,q3r is r.2 δ)):=rfl
@[simp] theorem z3k (c:Nat) (m:Str) (F:PFI):q7z c m F i ga δ=(ga δ).bind λ ds=>(getS [i] δ).bind λ os=>.guard ((os.all (isObj c m))=true) ((F (os++ds)).bind λ r=>.guard (r.2.length=[i].length) (.ok (r.1,q3r [i] r.2 δ))):=rfl
@[simp] theorem z3l:gDropX x δ=(x δ).bind λ r=>.ok (.nx r.2):=rfl
@[simp] theorem z4e (c:Nat) (f:Str):z1d i c f b a δ=(a δ).bind λ d=>(b δ).bind λ k=>match δ[i]? with
 | some (some (.obj c' f' x))=>.guard (c'=c/\f'=f) (match x with
  | .dct ks vs=>(dPut (.dct ks vs) k d).bind λ y=>.ok (.nx (δ.set i (some (.obj c' f' y))))
  | _=>.un)
 | _=>.un:=rfl
@[simp] theorem z5E (is:List Nat):z56 is a δ=(a δ).bind λ d=>match d with | .tup ds=>(optR (setT is ds δ)).bind λ δ'=>.ok (.nx δ') | _=>.un:=rfl
@[simp] theorem z3m (f g:D->D->Rz D) (c:GE):gChain f g a b c δ=(a δ).bind λ x=>(b δ).bind λ y=>(f x y).bind λ z=>match z with
 | .bl true=>(c δ).bind λ w=>g y w
 | .bl false=>.ok (.bl false)
 | _=>.un:=rfl
@[simp] theorem z5F (ws:List Str) (x:Str):dInW ws (.str x)=.ok (.bl (decide (x∈ws))):=rfl
@[simp] theorem z2a:forget [] δ=δ:=rfl
@[simp] theorem z1D (r:List Nat):forget (i::r) δ=forget r (δ.set i none):=rfl
end
@[simp] theorem z4f {α:Type}(c:Prop) [Decidable c] (r:Rz α):Rz.guard c r=if c then r else .un:=rfl
@[simp] theorem line_val:sizeLine=16777216:=by decide
@[simp] theorem z4g:(2:Nat) ^ 24=16777216:=rfl
theorem z1E {a b:String}:Str.ofString a=Str.ofString b↔a=b:=by
 constructor
 ·intro h
  rw [Str.ofString_eq_toList,Str.ofString_eq_toList] at h
  injection h with h
  have h2:a.toList.map Char.toNat=b.toList.map Char.toNat:=by
   have:=congrArg Array.toList h
   simpa using this
  have inj:∀ (l m:List Char),l.map Char.toNat=m.map Char.toNat->l=m:=by
   intro l
   induction l with
   | nil=>intro m h;cases m with
    | nil=>rfl
    | cons _ _=>simp at h
   | cons c l ih=>intro m h;cases m with
    | nil=>simp at h
    | cons d m =>
     simp only [N09,List.cons.injEq] at h
     have:c=d:=by
      have h1:c.toNat=d.toNat:=h.1
      exact Char.ext (UInt32.toNat_inj.mp h1)
     rw [this,ih m h.2]
  have:=inj _ _ h2
  exact String.toList_inj.mp this
 ·rintro rfl;rfl
@[simp] theorem z1F (a b:String):(Str.ofString a==Str.ofString b)=(a==b):=by
 rw [Bool.eq_iff_iff]
 simp [z1E]
@[simp] theorem z5G (a b:Str):eqD (.str a) (.str b)=(a==b):=rfl
@[simp] theorem z5H (a b:Int):eqD (.int a) (.int b)=(a==b):=rfl
@[simp] theorem z6N (a b:Bool):eqD (.bl a) (.bl b)=(a==b):=rfl
@[simp] theorem q14 (a b:Str):cmpOk (.str a) (.str b)=true:=rfl
@[simp] theorem z5I (a b:Int):cmpOk (.int a) (.int b)=true:=rfl
@[simp] theorem z6O (a b:Bool):cmpOk (.bl a) (.bl b)=true:=rfl
@[simp] theorem q5J (x y:D):dEq x y=.guard (cmpOk x y=true) (.ok (.bl (eqD x y))):=rfl
@[simp] theorem z0t (x y:D):dNe x y=.guard (cmpOk x y=true) (.ok (.bl (!eqD x y))):=rfl
@[simp] theorem z3n (i j:Int):dAddS (.int i) (.int j)=.ok (.int (i+j)):=rfl
@[simp] theorem z3o (x y:Str):dAddS (.str x) (.str y)=.guard (x.length+y.length<=sizeLine) (.ok (.str (x++y))):=rfl
@[simp] theorem z4h (i j:Int):dAdd (.int i) (.int j)=.ok (.int (i+j)):=rfl
@[simp] theorem z4i (x y:List D):dAdd (.lst x) (.lst y)=.guard (x.length+y.length<=sizeLine) (.ok (.lst (x++y))):=rfl
@[simp] theorem z4j (x y:List D):dAdd (.tup x) (.tup y)=.guard (x≠[]/\x.length+y.length<=sizeLine) (.ok (.tup (x++y))):=rfl
@[simp] theorem z5J (i j:Int):q9l (.int i) (.int j)=.ok (.int (i - j)):=rfl
@[simp] theorem z5K (i j:Int):q8P (.int i) (.int j)=.guard ((-(2 ^ 64)<i/\i<2 ^ 64)\/(-(2 ^ 64)<j/\j<2 ^ 64)) (.ok (.int (i * j))):=rfl
@[simp] theorem z5L (i j:Int):q2n (.int i) (.int j)=.guard (0<j/\j<1073741824) (.ok (.int (i / j))):=rfl
@[simp] theorem z5M (i j:Int):dMod (.int i) (.int j)=.guard (0<j) (.ok (.int (i % j))):=rfl
@[simp] theorem z5N (i:Int):q8Q (.int i)=.ok (.int (-i)):=rfl
@[simp] theorem z6P (i j:Int):dLt (.int i) (.int j)=.ok (.bl (decide (i<j))):=rfl
@[simp] theorem z6Q (i j:Int):dLe (.int i) (.int j)=.ok (.bl (decide (i<=j))):=rfl
@[simp] theorem z5O (x y:Str):dLe (.str x) (.str y)=.ok (.bl (!decide (y.cps.toList<x.cps.toList))):=rfl
@[simp] theorem z5P (x y:Str):dGe (.str x) (.str y)=.ok (.bl (!decide (x.cps.toList<y.cps.toList))):=rfl
@[simp] theorem z6R (i j:Int):dGt (.int i) (.int j)=.ok (.bl (decide (j<i))):=rfl
@[simp] theorem z6S (i j:Int):dGe (.int i) (.int j)=.ok (.bl (decide (j<=i))):=rfl
@[simp] theorem z5Q (xs:List D) (i:Int):dIx (.lst xs) (.int i)=optR (atD xs i):=rfl
@[simp] theorem z5R (xs:List D) (i:Int):dIx (.tup xs) (.int i)=optR (atD xs i):=rfl
@[simp] theorem z5S (z:Str) (i:Int):dIx (.str z) (.int i)=.guard (z.length<=sizeLine) ((optR (atD z.cps.toList i)).bind λ c=>.ok (.str ⟨#[c]⟩)):=rfl
@[simp] theorem z5T (ks:List Ky) (vs:List D) (x:Str):dIx (.dct ks vs) (.str x)=optR (valD (.inr x) ks vs):=rfl
@[simp] theorem q5K (xs:List D):pLen [.lst xs]=.ok (.int xs.length):=rfl
@[simp] theorem z4k (xs:List D):pLen [.tup xs]=.ok (.int xs.length):=rfl
@[simp] theorem z4l (z:Str):pLen [.str z]=.guard (z.length<=sizeLine) (.ok (.int z.length)):=rfl
@[simp] theorem z4m (ks:List Ky) (vs:List D):pLen [.dct ks vs]=.ok (.int ks.length):=rfl
@[simp] theorem z5U (xs:List D):z3Y [.lst xs]=(optR (blsD xs)).bind λ bs=>.ok (.bl (bs.all id)):=rfl
@[simp] theorem z5V (xs:List D):z3Z [.lst xs]=(optR (intsD xs)).bind λ bs=>.ok (.int bs.sum):=rfl
@[simp] theorem z2b (xs:List D):pTuple [.lst xs]=.ok (.tup xs):=rfl
@[simp] theorem z2c (xs:List D):pTuple [.tup xs]=.ok (.tup xs):=rfl
@[simp] theorem z5W (b:Bool):z3X (.bl b)=.ok b:=rfl
@[simp] theorem z4n (xs:List D):z3X (.lst xs)=.ok (!xs.isEmpty):=rfl
@[simp] theorem z6T (x y:D):dIn x y=(inD x y).bind λ b=>.ok (.bl b):=rfl
@[simp] theorem z4o (xs:List D) (lo hi:Option Int):z2R (.lst xs) lo hi=.ok (.lst (cutD xs lo hi)):=rfl
@[simp] theorem q3b (z:Str) (lo hi:Option Int):z2R (.str z) lo hi=.guard (z.length<=sizeLine) (.ok (.str ⟨(cutD z.cps.toList lo hi).toArray⟩)):=rfl
@[simp] theorem z5X (i:Int):(D.int i).imm=true:=by rw [D.imm]
@[simp] theorem z5Y (i:Str):(D.str i).imm=true:=by rw [D.imm]
@[simp] theorem z6U (i:Bool):(D.bl i).imm=true:=by rw [D.imm]
@[simp] theorem z5Z:D.non.imm=true:=by rw [D.imm]
@[simp] theorem z60 (xs:List D):(D.tup xs).imm=xs.all D.imm:=by rw [D.imm,q0k]
@[simp] theorem z1G (xs:List D):(D.lst xs).imI=xs.all D.imm:=by unfold D.imI;exact q0k xs
@[simp] theorem z61 (i:Int):(D.int i).big=false:=rfl
@[simp] theorem z6V (i:Bool):(D.bl i).big=false:=rfl
@[simp] theorem z62 (i:Str):(D.str i).big=false:=rfl
@[simp] theorem z63 (i:List D):(D.tup i).big=false:=rfl
@[simp] theorem z64:D.non.big=false:=rfl
@[simp] theorem z65 (i:List D):(D.lst i).big=true:=rfl
@[simp] theorem z66 (k:List Ky) (i:List D):(D.dct k i).big=true:=rfl
@[simp] theorem z67 (c:Nat) (f:Str) (k:List Ky) (i:List D):(D.obj c f (.dct k i)).big=true:=rfl
theorem q0N {α:Type}(xs:List α) (k:Nat):atD xs (k:Int)=xs[k]?:=by
 unfold atD ixD
 rw [N0j (by simp)]
 by_cases h:(k:Int)<(xs.length:Int)
 ·rw [N0j h];simp
 ·rw [N0l h];simp;simp_all
theorem q83 {α:Type}(xs:List α) (i:Int) (h:0<=i):atD xs i=xs[i.toNat]?:=by
 have:=q0N xs i.toNat
 rwa [show ((i.toNat:Nat):Int)=i by lia] at this
@[simp] theorem z68 {α:Type}(x:α) (xs:List α):atD (x::xs) 0=some x:=q0N (x::xs) 0
@[simp] theorem z6W {α:Type}(x y:α) (xs:List α):atD (x::y::xs) 1=some y:=q0N (x::y::xs) 1
@[simp] theorem z6X {α:Type}(x y z:α) (xs:List α):atD (x::y::z::xs) 2=some z:=q0N (x::y::z::xs) 2
@[simp] theorem z3p {α:Type}(x y:α):atD [x,y] (-1)=some y:=rfl
@[simp] theorem z1H {α:Type}(x y z:α):atD [x,y,z] (-1)=some z:=rfl
theorem q84 {i:Nat}{fg:List Nat}{body:GS}:∀ {xs:List D}{δ:DS}(J:Nat->DS),J 0=δ->(∀ k x,xs[k]? = some x->∃ δ',(body ((J k).set i (some x))=.ok (.nx δ')\/body ((J k).set i (some x))=.ok (.ct δ'))/\forget fg δ'=J (k+1))->v4 i fg body xs δ=.ok (.nx (J xs.length))
 | [],δ,J,h0,_=>by rw [v4,<- h0];rfl
 | x::xs,δ,J,h0,h=>by
  obtain ⟨δ',h1,h2⟩:=h 0 x rfl
  rw [h0] at h1
  have ih:=q84 (i:=i) (fg:=fg) (body:=body) (xs:=xs) (δ:=forget fg δ') (λ k=>J (k+1)) h2.symm (λ k y e=>h (k+1) y e)
  rw [v4]
  rcases h1 with h1 | h1<;>(rw [h1];exact ih)
theorem q2x {α:Type}:∀ l:List α,l.filter (λ o_=>true)=l
 | []=>rfl
 | x::r=>by rw [N1e,N0j rfl,q2x r]
theorem q85 {α:Type}{g:α->D}{cap:DS}{t:GT}{e:GE}{p:α->Bool}{f:α->D}:∀ {l:List α},(∀ x∈l,t (some (g x)::cap)=.ok (p x)/\(p x=true->e (some (g x)::cap)=.ok (f x)))->compL cap t e (l.map g)=.ok ((l.filter p).map f)
 | [],_=>by rw [List.map_nil,compL];rfl
 | x::xs,h=>by
  obtain ⟨h1,h2⟩:=h x N00
  have ih:=q85 (g:=g) (cap:=cap) (t:=t) (e:=e) (p:=p) (f:=f) (l:=xs) λ y hy=>h y (N02 _ hy)
  rw [N09,compL,h1,q2R]
  cases q:p x with
  | true=>rw [N0j rfl,h2 q,q2R,ih,q2R,N1e,N0j q];rfl
  | false=>rw [N0l N0d,ih,N1e,N0l (by rw [q];exact N0d)]
theorem U6 {α:Type}{g:α->D}{cap:DS}{e:GE}{f:α->D}{l:List α}(h:∀ x∈l,e (some (g x)::cap)=.ok (f x)):compL cap q1n e (l.map g)=.ok (l.map f):=by
 have:=q85 (g:=g) (cap:=cap) (t:=q1n) (e:=e) (p:=λ o_=>true) (f:=f) (l:=l) λ x hx=>⟨rfl,λ o_=>h x hx⟩
 rwa [q2x] at this
theorem q5L {cap:DS}{e:GE}{f:Nat->D}{lo:Int}{n:Nat}(h:∀ k,k<n->e (some (.int (lo+(k:Int)))::cap)=.ok (f k)):compL cap q1n e (rangeD lo n)=.ok ((List.range n).map f) :=
 U6 λ k hk=>h k (List.mem_range.mp hk)
theorem q4S {α:Type}{g:α->D}{i:Nat}{fg:List Nat}{body:GS}{l:List α}{δ:DS}(J:Nat->DS) (h0:J 0=δ) (h:∀ k x,l[k]? = some x->∃ δ',(body ((J k).set i (some (g x)))=.ok (.nx δ')\/body ((J k).set i (some (g x)))=.ok (.ct δ'))/\forget fg δ'=J (k+1)):v4 i fg body (l.map g) δ=.ok (.nx (J l.length)):=by
 have:=q84 (i:=i) (fg:=fg) (body:=body) (xs:=l.map g) J h0 λ k x e=>by
  rw [N0i] at e
  cases q:l[k]? with
  | none=>rw [q] at e;cases e
  | some y=>rw [q] at e;cases e;exact h k y q
 rwa [N01] at this
theorem q3c {i:Nat}{fg:List Nat}{body:GS}{lo:Int}{n:Nat}{δ:DS}(J:Nat->DS) (h0:J 0=δ) (h:∀ k,k<n->∃ δ',(body ((J k).set i (some (.int (lo+(k:Int)))))=.ok (.nx δ')\/body ((J k).set i (some (.int (lo+(k:Int)))))=.ok (.ct δ'))/\forget fg δ'=J (k+1)):v4 i fg body (rangeD lo n) δ=.ok (.nx (J n)):=by
 have:=q4S (g:=λ k:Nat=>D.int (lo+(k:Int))) (i:=i) (fg:=fg) (body:=body) (l:=List.range n) J h0 λ k x e=>by
  have hk:k<n:=by have:=(N04.mp e).1;rwa [N17] at this
  rw [N1k hk] at e
  cases e
  exact h k hk
 rwa [N17] at this
@[simp] theorem z69 (n:Nat):Rng (n:Int)↔n<4611686018427387904:=by unfold Rng;omega
@[simp] theorem z6a (i j:Int):(i==j)=decide (i=j):=by
 by_cases h:i=j
 ·simp [h]
 ·rw [N0e h];exact N18.mpr h
theorem q86 (n d k:Nat):sIxD n d (some (k:Int))=min k n:=by
 show (if (k:Int)<0 then ((k:Int)+(n:Int)).toNat else min (Int.toNat (k:Int)) n)=_
 rw [N0l (by simp),Int.toNat_natCast]
@[simp] theorem z3q {α:Type}(xs:List α) (k:Nat):cutD xs none (some (k:Int))=xs.take k:=by
 unfold cutD
 rw [q86]
 show List.take (min k xs.length - 0) (List.drop 0 xs)=_
 rw [List.drop_zero,Nat.sub_zero,Nat.min_def]
 split
 ·rfl
 ·rw [List.take_length,N1l (by lia)]
@[simp] theorem q9u {α:Type}(xs:List α) (k:Nat):cutD xs (some (k:Int)) none=xs.drop k:=by
 unfold cutD
 rw [q86]
 show List.take (xs.length - min k xs.length) (List.drop (min k xs.length) xs)=_
 rw [Nat.min_def]
 split
 ·exact N1l (by rw [N1n];simp)
 ·rw [N1i,List.take_nil,List.drop_of_length_le (by lia)]
theorem q87 (xs:List D) (i:Int) (v:D) (h:0<=i) (h2:i<(xs.length:Int)):dPut (.lst xs) (.int i) v=.ok (.lst (xs.set i.toNat v)):=by
 have:ixD xs.length i=some i.toNat:=by unfold ixD;rw [N0j h,N0j h2]
 show (match ixD xs.length i with | some j=>Rz.ok (D.lst (xs.set j v)) | none=>.un)=_
 rw [this]
@[simp] theorem z6b (ks:List Ky) (vs:List D) (x:Str) (v:D):dPut (.dct ks vs) (.str x) v=.guard (ks.length<sizeLine) (.ok (putD ks vs (.inr x) v)):=rfl
@[simp] theorem q88 {α:Type}(f:α->Bool):∀ l:List α,blsD (l.map λ x=>D.bl (f x))=some (l.map f)
 | []=>rfl
 | x::r=>by
  show (blsD (r.map λ x=>D.bl (f x))).map (f x :: ·)=_
  rw [q88 f r];rfl
@[simp] theorem z4p (xs:List D):(D.lst xs).imO=xs.all D.imm:=by rw [D.imO,q0k]
@[simp] theorem z4q (ks:List Ky) (vs:List D):(D.dct ks vs).imO=vs.all D.imm:=by rw [D.imO,q0k]
@[simp] theorem z4r (c:Nat) (f:Str) (ks:List Ky) (vs:List D):(D.obj c f (.dct ks vs)).imO=vs.all D.imm:=by rw [D.imO,q0k]
@[simp] theorem z4s (δ:DS):getS [] δ=.ok []:=rfl
@[simp] theorem z3r (i:Nat) (r:List Nat) (δ:DS):getS (i::r) δ=match δ[i]? with | some (some d)=>.guard (d.imO=true) ((getS r δ).bind λ ds=>.ok (d::ds)) | _=>.un:=rfl
@[simp] theorem z4t (ds:List D) (δ:DS):q3r [] ds δ=δ:=by rw [q3r];exact λ o_ o_ o_ o_ h=>nomatch h
@[simp] theorem z3s (i:Nat) (r:List Nat) (d:D) (ds:List D) (δ:DS):q3r (i::r) (d::ds) δ=q3r r ds (δ.set i (some d)):=rfl
@[simp] theorem z3t (c c':Nat) (m f:Str) (d:D):isObj c m (.obj c' f d)=(decide (c'=c) && !decide (f=m)):=rfl
@[simp] theorem z6Y (a b:String):(Str.ofString a=Str.ofString b)↔a=b:=⟨λ h=>by
 have:=z1F a b
 rw [h,beq_self_eq_true] at this
 exact beq_iff_eq.1 this.symm,λ h=>by rw [h]⟩
@[simp] theorem z4u (δ:DS):setT [] [] δ=some δ:=rfl
@[simp] theorem z3u (i:Nat) (r:List Nat) (d:D) (ds:List D) (δ:DS):setT (i::r) (d::ds) δ=setT r ds (δ.set i (some d)):=rfl
@[simp] theorem q9v (sep:Str) (ds:List D):dJoin (.str sep) (.lst ds)=(optR (txtsD ds)).bind λ zs=>.guard ((zs.map (·.length)).sum+zs.length * sep.length<=sizeLine) (.ok (.str (Str.join sep zs))):=rfl
@[simp] theorem q5M {α:Type}(f:α->Str):∀ l:List α,txtsD (l.map λ x=>D.str (f x))=some (l.map f)
 | []=>rfl
 | a::r=>by
  show (txtsD (r.map λ x=>D.str (f x))).map (f a :: ·)=_
  rw [q5M f r]
  rfl
@[simp] theorem z6c (g:GS) (h:HS) (kd:Nat->Option D) (δ:DS):z27 g h kd δ=match h δ with | some (c,δ')=>(match kd c with | some d=>.ok (.rt d δ') | none=>.un) | none=>g δ:=rfl
theorem q20 {i:Nat}{g:GE}{δ:DS}{v:D}(h:g δ=.ok v):gSet i g δ=.ok (.nx (δ.set i (some v))):=by unfold gSet;rw [h];rfl
theorem q2b {f:D->D->Rz D}{a b:GE}{δ:DS}{x y r:D}(ha:a δ=.ok x) (hb:b δ=.ok y) (h:f x y=.ok r):gOp f a b δ=.ok r:=by unfold gOp;rw [ha];show (b δ).bind _=_;rw [hb];exact h
end Dl
namespace Fw
open PySem
inductive Nd where
 | sun
 | eats (x:Str)
 | any (ps:List Nd)
 | all (ps:List Nd)
 | some (n:Int) (ps:List Nd)
noncomputable def Nd.parts:Nd->List Nd
 | .sun=>[]
 | .eats _=>[]
 | .any ps=>ps
 | .all ps=>ps
 | .some _ ps=>ps
mutual
noncomputable def Nd.depth:Nd->Nat
 | .sun=>1
 | .eats _=>1
 | .any ps=>depthL ps+1
 | .all ps=>depthL ps+1
 | .some _ ps=>depthL ps+1
noncomputable def depthL:List Nd->Nat
 | []=>0
 | d::r=>max d.depth (depthL r)
end
mutual
noncomputable def Nd.leaves:Nd->Nat
 | .sun=>0
 | .eats _=>1
 | .any ps=>q3d ps
 | .all ps=>q3d ps
 | .some _ ps=>q3d ps
noncomputable def q3d:List Nd->Nat
 | []=>0
 | d::r=>d.leaves+q3d r
end
theorem J9 {d e:Nd}{n:Nat}(h:d.depth<=n+1) (m:e∈d.parts):e.depth<=n:=by
 have key:∀ l:List Nd,e∈l->e.depth<=depthL l:=by
  intro l
  induction l with
  | nil=>intro m;cases m
  | cons a r ih =>
   intro m
   have q:depthL (a::r)=max a.depth (depthL r):=by rw [depthL]
   rcases N0c.mp m with rfl | m
   ·lia
   ·have:=ih m;lia
 cases d with
 | sun=>cases m
 | eats x=>cases m
 | any ps =>
  have q:(Nd.any ps).depth=depthL ps+1:=by rw [Nd.depth]
  have:=key ps m;lia
 | all ps =>
  have q:(Nd.all ps).depth=depthL ps+1:=by rw [Nd.depth]
  have:=key ps m;lia
 | some k ps =>
  have q:(Nd.some k ps).depth=depthL ps+1:=by rw [Nd.depth]
  have:=key ps m;lia
theorem J0 (d:Nd):1<=d.depth:=by
 cases d<;>rw [Nd.depth]<;>simp
noncomputable def addN (acc:List Str) (x:Str):List Str:=if x∈acc then acc else acc++[x]
noncomputable def z3v (acc:List Str) (ns:List Str):List Str:=ns.foldl addN acc
mutual
noncomputable def Nd.names:Nd->List Str
 | .sun=>[]
 | .eats x=>[x]
 | .any ps=>q5N ps []
 | .all ps=>q5N ps []
 | .some _ ps=>q5N ps []
noncomputable def q5N:List Nd->List Str->List Str
 | [],acc=>acc
 | d::r,acc=>q5N r (z3v acc d.names)
end
mutual
noncomputable def Nd.met (alive:List Str):Nd->Bool
 | .sun=>true
 | .eats x=>decide (x∈alive)
 | .any ps=>decide (1<=metL alive ps)
 | .all ps=>decide (ps.length<=metL alive ps)
 | .some n ps=>decide (n<=(metL alive ps:Int))
noncomputable def metL (alive:List Str):List Nd->Nat
 | []=>0
 | d::r=>(if d.met alive then 1 else 0)+metL alive r
end
mutual
noncomputable def Nd.ok (ss:List Str) (sm:Bool):Nd->Prop
 | .sun=>True
 | .eats x=>x∈ss
 | .any ps=>1<=ps.length/\ps.length<=4/\okL ss sm ps
 | .all ps=>sm=false/\1<=ps.length/\ps.length<=4/\okL ss sm ps
 | .some n ps=>sm=false/\1<=n/\n<=(ps.length:Int)/\ps.length<=4/\okL ss sm ps
noncomputable def okL (ss:List Str) (sm:Bool):List Nd->Prop
 | []=>True
 | d::r=>d.ok ss sm/\okL ss sm r
end
theorem J7 {ss:List Str}{sm:Bool}{d:Nd}(h:d.ok ss sm):d.parts.length<=4/\okL ss sm d.parts:=by
 cases d with
 | sun=>exact ⟨by decide,by rw [Nd.parts,okL];exact trivial⟩
 | eats x=>exact ⟨N1b _,by rw [Nd.parts,okL];exact trivial⟩
 | any ps=>rw [Nd.ok] at h;exact ⟨h.2.1,h.2.2⟩
 | all ps=>rw [Nd.ok] at h;exact ⟨h.2.2.1,h.2.2.2⟩
 | some k ps=>rw [Nd.ok] at h;exact ⟨h.2.2.2.1,h.2.2.2.2⟩
theorem Y3 {ss:List Str}{sm:Bool}:∀ {l:List Nd}{d:Nd},okL ss sm l->d∈l->d.ok ss sm
 | a::r,d,h,m=>by
  rw [okL] at h
  rcases N0c.mp m with rfl | m
  ·exact h.1
  ·exact Y3 h.2 m
end Fw
namespace Fw
open PySem Dl
noncomputable abbrev CS:List Nat:=[6]
noncomputable def tBEGINNINGS:List (Str×List D):=[("any",[.str "any"]),("all",[.str "all"]),("1of",[.str "some",.int 1]),("2of",[.str "some",.int 2]),("3of",[.str "some",.int 3]),("4of",[.str "some",.int 4])]
noncomputable def wKEPT_WORDS:List Str:=["any","all","of","sun"]
noncomputable def z1I (F_is_name:PF):GS :=
 (W1 (Y7 (q3V (q7x (gCall F_is_name (gCons (gVar 1) gNil)))) Y8 J8)
  (W1 (Y7 (gB (gOp dIn (gVar 1) (gUn (q9n 0 "need_by_name") (gVar 0)))) Y8 J8)
  (W1 (Y7 (gB (gOp dGe (gCall pLen (gCons (gUn (q9n 0 "need_by_name") (gVar 0)) gNil)) (gC (.int 16)))) Y8 J8)
  (z1d 0 0 "need_by_name" (gVar 1) (q3U 2)))))
noncomputable def z1J (F_is_name:PF):HS :=
 (hOr (hIf (q3V (q7x (gCall F_is_name (gCons (gVar 1) gNil)))) true (hRaiseN 0 1)) (q0q (Y7 (q3V (q7x (gCall F_is_name (gCons (gVar 1) gNil)))) Y8 J8)
  (hOr (hIf (gB (gOp dIn (gVar 1) (gUn (q9n 0 "need_by_name") (gVar 0)))) true (hRaiseN 1 1)) (q0q (Y7 (gB (gOp dIn (gVar 1) (gUn (q9n 0 "need_by_name") (gVar 0)))) Y8 J8)
  (hIf (gB (gOp dGe (gCall pLen (gCons (gUn (q9n 0 "need_by_name") (gVar 0)) gNil)) (gC (.int 16)))) true (q04 2))))))
noncomputable def q15:GS :=
 (q06 (gIf (gB (gOp dIn (gOp dIx (gVar 0) (gC (.int 0))) (gTup (gCons (gC (.str "any")) (gCons (gC (.str "all")) (gCons (gC (.str "some")) gNil)))))) (gIm (gOp dIx (gVar 0) (gUn q8Q (gC (.int 1))))) (gTup gNil)))
noncomputable def U7 (F_parts_of:PF):GS :=
 (W1 (Y7 (gB (gOp dEq (gOp dIx (gVar 0) (gC (.int 0))) (gC (.str "any")))) (q06 (gC (.int 1))) J8)
  (W1 (Y7 (gB (gOp dEq (gOp dIx (gVar 0) (gC (.int 0))) (gC (.str "all")))) (q06 (gCall pLen (gCons (gCall F_parts_of (gCons (gVar 0) gNil)) gNil))) J8)
  (q06 (gIm (gOp dIx (gVar 0) (gC (.int 1)))))))
noncomputable def q09:GS :=
 (W1 (Y7 (q8R (gB (gOp dLt (gCall pLen (gCons (gVar 0) gNil)) (gC (.int 1)))) (q8R (gB (gOp dGt (gCall pLen (gCons (gVar 0) gNil)) (gC (.int 8)))) (gB (gUn (dInW wKEPT_WORDS) (gVar 0))))) (q06 (gC (.bl false))) J8)
  (q06 (gCall z3Y (gCons (q0o (q7y (gVar 0)) [] q1n (gChain dLe dLe (gC (.str "a")) (gVar 0) (gC (.str "z")))) gNil))))
noncomputable def q89 (F_read_line:PFI):GS :=
 (W1 (q2a 1 (gC (.obj 0 "need_by_name" (.dct [] []))))
  (W1 (gSet 2 (gIf (gB (gOp dNe (gVar 0) (gC (.str "")))) (gOp dSplt (gVar 0) (gC (.str "\n"))) (q2o gNil)))
  (W1 (z1c (q7y (gVar 2)) 3 [3] (gDropX (gCallI F_read_line [1] (gCons (gVar 3) gNil))))
  (q06 (gVar 1)))))
noncomputable def q8a (F_read_line:PFI) (E_read_line:PX):HS :=
 (q0q (q2a 1 (gC (.obj 0 "need_by_name" (.dct [] []))))
  (q0q (gSet 2 (gIf (gB (gOp dNe (gVar 0) (gC (.str "")))) (gOp dSplt (gVar 0) (gC (.str "\n"))) (q2o gNil)))
  (z41 (q7y (gVar 2)) 3 [3] (gDropX (gCallI F_read_line [1] (gCons (gVar 3) gNil))) (hOf (hCall E_read_line (gCons (gVar 3) (gCons (gVar 1) gNil)))))))
noncomputable def U8 (F_knots_of:PF) (F_read_need:PF) (F_add:PFI):GS :=
 (W1 (gSet 2 (gOp dPart (gVar 0) (gC (.str ": "))))
  (W1 (gSet 3 (gCall F_read_need (gCons (gOp dIx (gVar 2) (gC (.int 2))) (gCons (gC (.int 1)) gNil))))
  (W1 (Y7 (gB (gOp dGt (gCall F_knots_of (gCons (gVar 3) gNil)) (gC (.int 24)))) Y8 J8)
  (gDropX (q7z 0 "add" F_add 1 (gCons (gOp dIx (gVar 2) (gC (.int 0))) (gCons (gVar 3) gNil)))))))
noncomputable def Y4 (F_knots_of:PF) (F_read_need:PF) (E_add:PX) (E_read_need:PX):HS :=
 (q0q (gSet 2 (gOp dPart (gVar 0) (gC (.str ": "))))
  (hOr (hOf (hCall E_read_need (gCons (gOp dIx (gVar 2) (gC (.int 2))) (gCons (gC (.int 1)) gNil)))) (q0q (gSet 3 (gCall F_read_need (gCons (gOp dIx (gVar 2) (gC (.int 2))) (gCons (gC (.int 1)) gNil))))
  (hOr (hIf (gB (gOp dGt (gCall F_knots_of (gCons (gVar 3) gNil)) (gC (.int 24)))) true (q04 6)) (q0q (Y7 (gB (gOp dGt (gCall F_knots_of (gCons (gVar 3) gNil)) (gC (.int 24)))) Y8 J8)
  (q6t (hMeth 0 "add" E_add (gVar 1) (gCons (gOp dIx (gVar 2) (gC (.int 0))) (gCons (gVar 3) gNil))) [0,1,2] (hRaiseN 6 0)))))))
noncomputable def y6 (F_is_name:PF) (F_parts_asked:PF) (F_read_need:PF) (F_split_parts:PF):GS :=
 (W1 (Y7 (gB (gOp dGt (gVar 1) (gC (.int 5)))) Y8 J8)
  (W1 (Y7 (gB (gOp dEq (gVar 0) (gC (.str "sun")))) (q06 (gTup (gCons (gC (.str "sun")) gNil))) J8)
  (W1 (Y7 (q7x (gCall F_is_name (gCons (gVar 0) gNil))) (q06 (gTup (gCons (gC (.str "eats")) (gCons (q3U 0) gNil)))) J8)
  (W1 (gSet 2 (gOp dPart (gVar 0) (gC (.str "("))))
  (W1 (Y7 (q8R (gB (gUn (dNotK tBEGINNINGS) (gOp dIx (gVar 2) (gC (.int 0))))) (q3V (q7x (gOp dEnds (gOp dIx (gVar 2) (gC (.int 2))) (gC (.str ")")))))) Y8 J8)
  (W1 (gSet 3 (gCall F_split_parts (gCons (gSl (gOp dIx (gVar 2) (gC (.int 2))) gON (gOI (gUn q8Q (gC (.int 1))))) gNil)))
  (W1 (Y7 (gB (gOp dGt (gCall pLen (gCons (gVar 3) gNil)) (gC (.int 4)))) Y8 J8)
  (W1 (gSet 4 (q0o (q7y (gVar 3)) [1] q1n (gCall F_read_need (gCons (gVar 0) (gCons (gOp dAddS (gVar 1) (gC (.int 1))) gNil)))))
  (W1 (gSet 5 (gOp (dBeg tBEGINNINGS) (gOp dIx (gVar 2) (gC (.int 0))) (gTup (gCons (gCall pTuple (gCons (gVar 4) gNil)) gNil))))
  (W1 (Y7 (gB (gOp dGt (gCall F_parts_asked (gCons (gVar 5) gNil)) (gCall pLen (gCons (gVar 4) gNil)))) Y8 J8)
  (q1O (gVar 5))))))))))))
noncomputable def K5 (F_is_name:PF) (F_parts_asked:PF) (F_read_need:PF) (F_split_parts:PF) (E_read_need:PX):HS :=
 (hOr (hIf (gB (gOp dGt (gVar 1) (gC (.int 5)))) true (q04 6)) (q0q (Y7 (gB (gOp dGt (gVar 1) (gC (.int 5)))) Y8 J8)
  (q0q (Y7 (gB (gOp dEq (gVar 0) (gC (.str "sun")))) (q06 (gTup (gCons (gC (.str "sun")) gNil))) J8)
  (q0q (Y7 (q7x (gCall F_is_name (gCons (gVar 0) gNil))) (q06 (gTup (gCons (gC (.str "eats")) (gCons (q3U 0) gNil)))) J8)
  (q0q (gSet 2 (gOp dPart (gVar 0) (gC (.str "("))))
  (hOr (hIf (q8R (gB (gUn (dNotK tBEGINNINGS) (gOp dIx (gVar 2) (gC (.int 0))))) (q3V (q7x (gOp dEnds (gOp dIx (gVar 2) (gC (.int 2))) (gC (.str ")")))))) true (hRaiseN 6 0)) (q0q (Y7 (q8R (gB (gUn (dNotK tBEGINNINGS) (gOp dIx (gVar 2) (gC (.int 0))))) (q3V (q7x (gOp dEnds (gOp dIx (gVar 2) (gC (.int 2))) (gC (.str ")")))))) Y8 J8)
  (q0q (gSet 3 (gCall F_split_parts (gCons (gSl (gOp dIx (gVar 2) (gC (.int 2))) gON (gOI (gUn q8Q (gC (.int 1))))) gNil)))
  (hOr (hIf (gB (gOp dGt (gCall pLen (gCons (gVar 3) gNil)) (gC (.int 4)))) true (q04 6)) (q0q (Y7 (gB (gOp dGt (gCall pLen (gCons (gVar 3) gNil)) (gC (.int 4)))) Y8 J8)
  (hOr (q2w (q7y (gVar 3)) [1] (gCall F_read_need (gCons (gVar 0) (gCons (gOp dAddS (gVar 1) (gC (.int 1))) gNil))) (hCall E_read_need (gCons (gVar 0) (gCons (gOp dAddS (gVar 1) (gC (.int 1))) gNil)))) (q0q (gSet 4 (q0o (q7y (gVar 3)) [1] q1n (gCall F_read_need (gCons (gVar 0) (gCons (gOp dAddS (gVar 1) (gC (.int 1))) gNil)))))
  (q0q (gSet 5 (gOp (dBeg tBEGINNINGS) (gOp dIx (gVar 2) (gC (.int 0))) (gTup (gCons (gCall pTuple (gCons (gVar 4) gNil)) gNil))))
  (hIf (gB (gOp dGt (gCall F_parts_asked (gCons (gVar 5) gNil)) (gCall pLen (gCons (gVar 4) gNil)))) true (hRaiseN 6 0)))))))))))))))
noncomputable def U9:GS :=
 (W1 (q2a 1 (q2o gNil))
  (W1 (gSet 2 (gC (.int 0)))
  (W1 (z1c (q7y (gOp dSplt (gVar 0) (gC (.str " ")))) 3 [3] (W1 (Y7 (gB (gOp dGt (gVar 2) (gC (.int 0)))) (z26 1 (gUn q8Q (gC (.int 1))) (gOp dAddS (gOp dAddS (gOp dIx (gVar 1) (gUn q8Q (gC (.int 1)))) (gC (.str " "))) (gVar 3))) (q9m 1 (q3U 3)))
  (gSet 2 (gOp q9l (gOp dAdd (gVar 2) (gOp dCnt (gVar 3) (gC (.str "(")))) (gOp dCnt (gVar 3) (gC (.str ")")))))))
  (q06 (gVar 1)))))
noncomputable def q0n (F_knots_of:PF) (F_parts_of:PF):GS :=
 (q06 (gOp dAddS (gC (.int 1)) (gCall z3Z (gCons (q0o (q7y (gCall F_parts_of (gCons (gVar 0) gNil))) [] q1n (gCall F_knots_of (gCons (gVar 0) gNil))) gNil))))
noncomputable def u6:GS :=
 (W1 (Y7 (gB (gOp dLt (gVar 1) (gCall pLen (gCons (gVar 0) gNil)))) (q06 (gIm (gOp dIx (gVar 0) (gVar 1)))) J8)
  (q06 (gC (.int 0))))
noncomputable def q0z:GS :=
 (W1 (gSet 0 (gOp dMod (gOp dAddS (gVar 0) (gC (.int 7919))) (gC (.int 2147483647))))
  (q06 (gOp dMod (gOp dAddS (gOp dAddS (gOp q8P (gVar 0) (gVar 0)) (gOp q8P (gC (.int 48271)) (gVar 0))) (gC (.int 12345))) (gC (.int 2147483629)))))
noncomputable def q0a:GS :=
 (W1 (gSet 2 (gOp dIx (q2o (gCons (gC (.str "z")) (gCons (gC (.str "qz")) (gCons (gC (.str "zab")) (gCons (gC (.str "mzk")) (gCons (gC (.str "zoozz")) (gCons (gC (.str "zoozzpa")) (gCons (gC (.str "sun")) (gCons (gC (.str "all")) gNil))))))))) (gOp dMod (gVar 0) (gC (.int 8)))))
  (W1 (gSet 3 (gOp dMod (gOp q2n (gVar 0) (gC (.int 8))) (gOp dAddS (gCall pLen (gCons (gVar 2) gNil)) (gC (.int 1)))))
  (q06 (q0o (q29 (gVar 1)) [2,3,0] q1n (gOp dAddS (gOp dAddS (gSl (gVar 1) gON (gOI (gVar 2))) (gOp dIx (gC (.str "abcdefghijklmnopqrstuvwxyz")) (gOp dMod (gOp dAddS (gVar 0) (gOp q2n (gVar 3) (gC (.int 97)))) (gC (.int 26))))) (gSl (gVar 1) (gOI (gVar 2)) gON))))))
noncomputable def V0 (F__law_need:PF) (F__law_next:PF):GS :=
 (W1 (gSet 4 (gOp dMod (gVar 0) (gC (.int 9))))
  (W1 (Y7 (q8R (gB (gOp dEq (gVar 1) (gC (.int 0)))) (gB (gOp dLt (gVar 4) (gC (.int 4))))) (W1 (Y7 (gB (gOp dEq (gOp dMod (gOp q2n (gVar 0) (gC (.int 9))) (gC (.int 6))) (gC (.int 0)))) (q06 (gTup (gCons (gC (.str "sun")) gNil))) J8)
  (q06 (gTup (gCons (gC (.str "eats")) (gCons (gIm (gOp dIx (gVar 2) (gOp dMod (gOp q2n (gVar 0) (gC (.int 54))) (gCall pLen (gCons (gVar 2) gNil))))) gNil))))) J8)
  (W1 (q2a 5 (q2o gNil))
  (W1 (z1c (q29 (gOp dAddS (gC (.int 1)) (gOp dMod (gOp q2n (gVar 0) (gC (.int 9))) (gC (.int 4))))) 6 [6] (q9m 5 (gCall F__law_need (gCons (gCall F__law_next (gCons (gOp dAddS (gOp dAddS (gVar 0) (gOp q8P (gC (.int 3)) (gVar 6))) (gC (.int 1))) gNil)) (gCons (gOp q9l (gVar 1) (gC (.int 1))) (gCons (gVar 2) (gCons (gVar 3) gNil)))))))
  (W1 (Y7 (q8R (gB (gOp dLt (gVar 4) (gC (.int 6)))) (q7x (gVar 3))) (q06 (gTup (gCons (gC (.str "any")) (gCons (gCall pTuple (gCons (gVar 5) gNil)) gNil)))) J8)
  (W1 (Y7 (gB (gOp dLt (gVar 4) (gC (.int 8)))) (q06 (gTup (gCons (gC (.str "all")) (gCons (gCall pTuple (gCons (gVar 5) gNil)) gNil)))) J8)
  (q06 (gTup (gCons (gC (.str "some")) (gCons (gOp dAddS (gC (.int 1)) (gOp dMod (gOp q2n (gVar 0) (gC (.int 36))) (gCall pLen (gCons (gVar 5) gNil)))) (gCons (gCall pTuple (gCons (gVar 5) gNil)) gNil)))))))))))
noncomputable def q0b:GS :=
 (W1 (Y7 (q8R (gB (gOp dEq (gOp dIx (gVar 0) (gC (.int 0))) (gC (.str "sun")))) (gB (gOp dEq (gOp dIx (gVar 0) (gC (.int 0))) (gC (.str "eats"))))) (q06 (gTup gNil)) J8)
  (q06 (gIm (gOp dIx (gVar 0) (gOp q9l (gCall pLen (gCons (gVar 0) gNil)) (gC (.int 1)))))))
noncomputable def q0c (F__law_cell_at:PF) (F__law_names:PF) (F__law_need:PF) (F__law_next:PF):GS :=
 (W1 (gSet 2 (gOp dAddS (gC (.int 1)) (gOp dMod (gCall F__law_cell_at (gCons (gVar 0) (gCons (gC (.int 0)) gNil))) (gC (.int 7)))))
  (W1 (Y7 (gB (gOp dEq (gOp dMod (gOp q2n (gCall F__law_cell_at (gCons (gVar 0) (gCons (gC (.int 0)) gNil))) (gC (.int 7))) (gC (.int 4))) (gC (.int 1)))) (gSet 2 (gOp dAddS (gC (.int 1)) (gOp dMod (gOp q2n (gCall F__law_cell_at (gCons (gVar 0) (gCons (gC (.int 0)) gNil))) (gC (.int 28))) (gC (.int 16))))) J8)
  (W1 (gSet 3 (gCall F__law_names (gCons (gCall F__law_cell_at (gCons (gVar 0) (gCons (gC (.int 1)) gNil))) (gCons (gOp dAddS (gVar 2) (gC (.int 2))) gNil))))
  (W1 (q2a 4 (q2o gNil))
  (W1 (z1c (q29 (gVar 2)) 5 [5,6] (W1 (gSet 6 (gCall F__law_next (gCons (gOp dAddS (gCall F__law_cell_at (gCons (gVar 0) (gCons (gOp dAddS (gC (.int 2)) (gOp dMod (gVar 5) (gC (.int 12)))) gNil))) (gOp q8P (gC (.int 5003)) (gVar 5))) gNil)))
  (q9m 4 (gCall F__law_need (gCons (gVar 6) (gCons (gOp dAddS (gC (.int 1)) (gOp dMod (gOp q2n (gVar 6) (gC (.int 7))) (gC (.int 2)))) (gCons (gVar 3) (gCons (gVar 1) gNil))))))))
  (W1 (Y7 (gB (gOp dGt (gOp dMod (gOp q2n (gCall F__law_cell_at (gCons (gVar 0) (gCons (gC (.int 1)) gNil))) (gC (.int 30))) (gC (.int 3))) (gC (.int 0)))) (z26 4 (gOp dMod (gOp q2n (gCall F__law_cell_at (gCons (gVar 0) (gCons (gC (.int 1)) gNil))) (gC (.int 90))) (gVar 2)) (gTup (gCons (gC (.str "sun")) gNil))) J8)
  (q06 (gTup (gCons (gSl (gVar 3) gON (gOI (gVar 2))) (gCons (gVar 4) (gCons (gSl (gVar 3) (gOI (gVar 2)) gON) gNil)))))))))))
noncomputable def q00 (F__law_parts:PF) (F__law_text:PF):GS :=
 (W1 (Y7 (gB (gOp dEq (gOp dIx (gVar 0) (gC (.int 0))) (gC (.str "sun")))) (q06 (gC (.str "sun"))) J8)
  (W1 (Y7 (gB (gOp dEq (gOp dIx (gVar 0) (gC (.int 0))) (gC (.str "eats")))) (q06 (gIm (gOp dIx (gVar 0) (gC (.int 1))))) J8)
  (W1 (gSet 1 (gIm (gOp dIx (gVar 0) (gC (.int 0)))))
  (W1 (Y7 (gB (gOp dEq (gOp dIx (gVar 0) (gC (.int 0))) (gC (.str "some")))) (gSet 1 (gOp dAddS (gCall z1a (gCons (gOp dIx (gVar 0) (gC (.int 1))) gNil)) (gC (.str "of")))) J8)
  (W1 (gSet 2 (gOp dAddS (gVar 1) (gC (.str "("))))
  (W1 (gSet 3 (gCall F__law_parts (gCons (gVar 0) gNil)))
  (W1 (z1c (q29 (gCall pLen (gCons (gVar 3) gNil))) 4 [4] (W1 (Y7 (gB (gOp dGt (gVar 4) (gC (.int 0)))) (gSet 2 (gOp dAddS (gVar 2) (gC (.str " ")))) J8)
  (gSet 2 (gOp dAdd (gVar 2) (gCall F__law_text (gCons (gOp dIx (gVar 3) (gVar 4)) gNil))))))
  (q06 (gOp dAddS (gVar 2) (gC (.str ")")))))))))))
noncomputable def V6 (F_read:PF) (E_read:PX):GS :=
 (W1 (z27 (z1b (gCall F_read (gCons (gVar 0) gNil))) (hOf (hCall E_read (gCons (gVar 0) gNil))) (kdW CS))
  (q06 (gC (.str "read"))))
noncomputable def V1:GS :=
 (W1 (gSet 1 (q2o (gCons (gC (.str "")) (gCons (gC (.str "any()")) (gCons (gC (.str "any(")) (gCons (gC (.str "any(a")) (gCons (gC (.str "any a)")) (gCons (gC (.str "any(a  b)")) (gCons (gC (.str "any( a)")) (gCons (gC (.str "any(a )")) (gCons (gC (.str "any(a,b)")) (gCons (gC (.str "(a)")) (gCons (gC (.str "a b")) gNil)))))))))))))
  (W1 (gSet 1 (gOp dAdd (gVar 1) (q2o (gCons (gC (.str "all(a b c d e)")) (gCons (gC (.str "0of(a)")) (gCons (gC (.str "5of(a b c d)")) (gCons (gC (.str "2of(a)")) (gCons (gC (.str "of(a)")) (gCons (gC (.str "22of(a b)")) (gCons (gC (.str "1of()")) (gCons (gC (.str "one(a)")) gNil)))))))))))
  (W1 (gSet 1 (gOp dAdd (gVar 1) (q2o (gCons (gC (.str "1of")) (gCons (gC (.str "any")) (gCons (gC (.str "all")) (gCons (gC (.str "of")) (gCons (gC (.str "Sun")) (gCons (gC (.str "a1")) (gCons (gC (.str "a-b")) (gCons (gC (.str "abcdefghi")) (gCons (gC (.str "any(a))")) (gCons (gC (.str "any(any(a)")) (gCons (gC (.str "sun sun")) gNil))))))))))))))
  (W1 (gSet 1 (gOp dAdd (gVar 1) (q2o (gCons (gC (.str "any(any(any(any(any(a)))))")) (gCons (gC (.str "any(sun) ")) (gCons (gC (.str " sun")) (gCons (gC (.str "sun\t")) (gCons (gC (.str "any(a\tb)")) (gCons (gC (.str "1 of(a)")) (gCons (gC (.str "3of(a b)")) gNil))))))))))
  (W1 (gSet 1 (gOp dAdd (gVar 1) (q2o (gCons (gOp dAddS (gOp dAddS (gC (.str "all(")) (gOp dJoin (gC (.str " ")) (q0o (q29 (gC (.int 4))) [] q1n (gC (.str "any(a b c d)"))))) (gC (.str ") x"))) (gCons (gC (.str "ANY(a)")) (gCons (gC (.str "any(a|b)")) gNil))))))
  (W1 (gSet 2 (gC (.str "all(a b c any(a b c any(a b c any(a b c d))))")))
  (W1 (gSet 1 (gOp dAdd (gVar 1) (q2o (gCons (gOp dAddS (gOp dAddS (gC (.str "all(")) (gOp dJoin (gC (.str " ")) (q0o (q29 (gC (.int 4))) [] q1n (gC (.str "any(a b any(c d))"))))) (gC (.str ")"))) (gCons (z3b (gVar 2) (gCons (gC (.str "d")) (gCons (gC (.str "any(d)")) gNil))) gNil)))))
  (W1 (gSet 1 (gOp dAdd (gVar 1) (q2o (gCons (gOp dAddS (gOp dAddS (gC (.str "any(")) (gOp dJoin (gC (.str " ")) (q0o (q29 (gC (.int 4))) [] q1n (gC (.str "all(a b c d any(e))"))))) (gC (.str ")"))) (gCons (gC (.str "any(any(a)b)")) (gCons (gC (.str "2ofx(a b)")) gNil))))))
  (W1 (gSet 1 (gOp dAdd (gVar 1) (q2o (gCons (gC (.str "any(all(a b)any(c))")) (gCons (gC (.str "all(sun any(a)b)")) (gCons (gC (.str "2of(a b c d e)")) (gCons (gC (.str "01of(a)")) (gCons (gC (.str "002of(a b)")) (gCons (gC (.str "sun: a")) gNil)))))))))
  (q1O (gOp dIx (gVar 1) (gOp dMod (gVar 0) (gCall pLen (gCons (gVar 1) gNil))))))))))))))
noncomputable def V2 (F__law_bad_need:PF):GS :=
 (W1 (gSet 3 (gOp dIx (gOp dPart (gVar 0) (gC (.str ":"))) (gC (.int 0))))
  (W1 (Y7 (gB (gOp dEq (gVar 1) (gC (.int 0)))) (q06 (gOp dAddS (gOp dAddS (gVar 3) (gC (.str ": "))) (gCall F__law_bad_need (gCons (gVar 2) gNil)))) J8)
  (W1 (Y7 (gB (gOp dEq (gVar 1) (gC (.int 1)))) (q06 (gOp dAddS (gOp dIx (q2o (gCons (gC (.str "")) (gCons (gC (.str "any")) (gCons (gC (.str "all")) (gCons (gC (.str "of")) (gCons (gC (.str "sun")) (gCons (gOp dAddS (gC (.str "A")) (gVar 3)) (gCons (gOp dAddS (gVar 3) (gC (.str "1"))) (gCons (gOp dAddS (gC (.str " ")) (gVar 3)) (gCons (gOp dAddS (gVar 3) (gC (.str " "))) gNil)))))))))) (gOp dMod (gVar 2) (gC (.int 9)))) (gC (.str ": sun")))) J8)
  (W1 (Y7 (gB (gOp dEq (gVar 1) (gC (.int 2)))) (q1O (gOp dIx (q2o (gCons (gOp dAddS (gVar 3) (gC (.str " sun"))) (gCons (gOp dAddS (gVar 3) (gC (.str ":sun"))) (gCons (gOp dAddS (gVar 3) (gC (.str ":  sun"))) (gCons (gVar 3) (gCons (gOp dAddS (gVar 3) (gC (.str ":"))) (gCons (gOp dAddS (gVar 3) (gC (.str "; sun"))) (gCons (gC (.str ": sun")) gNil)))))))) (gOp dMod (gVar 2) (gC (.int 7))))) J8)
  (W1 (Y7 (gB (gOp dEq (gVar 1) (gC (.int 3)))) (q06 (z55 (gOp dAdd (gVar 0) (gOp dIx (q2o (gCons (gC (.str " ")) (gCons (gC (.str ")")) (gCons (gC (.str "\t")) (gCons (gC (.str " x")) (gCons (gC (.str "(")) gNil)))))) (gOp dMod (gVar 2) (gC (.int 5))))))) J8)
  (q06 (gC (.str "abcdefghi: sun"))))))))
noncomputable def z1K (F__law_bad_line:PF) (F__law_cell_at:PF) (F__law_drawn:PF) (F__law_names:PF) (F__law_text:PF) (F__law_tried:PF):GS :=
 (W1 (z56 [1,2,3] (gCall F__law_drawn (gCons (gVar 0) (gCons (gC (.bl false)) gNil))))
  (W1 (q2a 4 (q0o (q29 (gCall pLen (gCons (gVar 1) gNil))) [1,2] q1n (gOp dAddS (gOp dAddS (gOp dIx (gVar 1) (gVar 0)) (gC (.str ": "))) (gCall F__law_text (gCons (gOp dIx (gVar 2) (gVar 0)) gNil)))))
  (W1 (gSet 5 (gOp dJoin (gC (.str "\n")) (gVar 4)))
  (W1 (gSet 6 (gOp dMod (gCall F__law_cell_at (gCons (gVar 0) (gCons (gC (.int 14)) gNil))) (gC (.int 10))))
  (W1 (gSet 7 (gOp dMod (gCall F__law_cell_at (gCons (gVar 0) (gCons (gC (.int 15)) gNil))) (gC (.int 1000003))))
  (W1 (Y7 (gB (gOp dLt (gVar 6) (gC (.int 5)))) (W1 (gSet 8 (gOp dMod (gOp q2n (gVar 7) (gC (.int 47))) (gCall pLen (gCons (gVar 4) gNil))))
  (z26 4 (gVar 8) (gCall F__law_bad_line (gCons (gOp dIx (gVar 4) (gVar 8)) (gCons (gVar 6) (gCons (gVar 7) gNil)))))) J8)
  (W1 (gSet 9 (gOp dJoin (gC (.str "\n")) (gVar 4)))
  (W1 (Y7 (gB (gOp dEq (gVar 6) (gC (.int 5)))) (gSet 9 (gOp dAddS (gOp dAddS (gVar 5) (gC (.str "\n"))) (gOp dIx (gVar 4) (gOp dMod (gVar 7) (gCall pLen (gCons (gVar 4) gNil)))))) J8)
  (W1 (Y7 (gB (gOp dEq (gVar 6) (gC (.int 6)))) (gSet 9 (gOp dJoin (gC (.str "\n")) (q0o (q7y (gCall F__law_names (gCons (gVar 7) (gCons (gOp dAddS (gC (.int 17)) (gOp dMod (gOp q2n (gVar 7) (gC (.int 30))) (gC (.int 4)))) gNil)))) [] q1n (gOp dAddS (gVar 0) (gC (.str ": sun")))))) J8)
  (W1 (Y7 (gB (gOp dEq (gVar 6) (gC (.int 7)))) (gSet 9 (gOp dAddS (gVar 5) (gC (.str "\n")))) J8)
  (W1 (Y7 (gB (gOp dEq (gVar 6) (gC (.int 8)))) (gSet 9 (gOp dAddS (gC (.str "\n")) (gVar 5))) J8)
  (W1 (Y7 (gB (gOp dEq (gVar 6) (gC (.int 9)))) (gSet 9 (gOp dIx (q2o (gCons (gC (.str " ")) (gCons (gC (.str "\n")) (gCons (gC (.str ":")) (gCons (gC (.str "sun")) (gCons (gC (.str "a")) gNil)))))) (gOp dMod (gVar 7) (gC (.int 5))))) J8)
  (q1O (z25 (gOp dEq (gCall F__law_tried (gCons (gVar 9) gNil)) (gC (.str "note"))) (z25 (gOp dEq (gCall F__law_tried (gCons (gVar 9) gNil)) (gC (.str "note"))) (gOp dEq (gCall F__law_tried (gCons (gVar 5) gNil)) (gC (.str "read"))))))))))))))))))
noncomputable def F_is_name:PF:=y3 1 (q09)
noncomputable def F_add:PFI:=z40 3 1 (z1I F_is_name)
noncomputable def F_parts_of:PF:=y3 1 (q15)
noncomputable def F_parts_asked:PF:=y3 1 (U7 F_parts_of)
noncomputable def F_knots_of:Nat->PF
 | 0=>λ o_=>.un
 | n+1=>y3 1 (q0n (F_knots_of n) F_parts_of)
noncomputable def F_split_parts:PF:=y3 4 (U9)
noncomputable def F_read_need:Nat->PF
 | 0=>λ o_=>.un
 | n+1=>y3 6 (y6 F_is_name F_parts_asked (F_read_need n) F_split_parts)
noncomputable def F_read_line:PFI:=z3a 5 (U8 (F_knots_of 8) (F_read_need 8) F_add)
noncomputable def F_read:PF:=y3 4 (q89 F_read_line)
noncomputable def F__law_cell_at:PF:=y3 2 (u6)
noncomputable def F__law_next:PF:=y3 1 (q0z)
noncomputable def F__law_names:PF:=y3 4 (q0a)
noncomputable def F__law_need:Nat->PF
 | 0=>λ o_=>.un
 | n+1=>y3 7 (V0 (F__law_need n) F__law_next)
noncomputable def F__law_parts:PF:=y3 1 (q0b)
noncomputable def F__law_drawn:PF:=y3 7 (q0c F__law_cell_at F__law_names (F__law_need 8) F__law_next)
noncomputable def F__law_text:Nat->PF
 | 0=>λ o_=>.un
 | n+1=>y3 5 (q00 F__law_parts (F__law_text n))
noncomputable def E_add:PX:=q1P 3 (z1J F_is_name)
noncomputable def E_read_need:Nat->PX
 | 0=>λ o_=>none
 | n+1=>q1P 6 (K5 F_is_name F_parts_asked (F_read_need n) F_split_parts (E_read_need n))
noncomputable def E_read_line:PX:=q1P 5 (Y4 (F_knots_of 8) (F_read_need 8) E_add (E_read_need 8))
noncomputable def E_read:PX:=q1P 4 (q8a F_read_line E_read_line)
noncomputable def F__law_tried:PF:=y3 2 (V6 F_read E_read)
noncomputable def F__law_bad_need:PF:=y3 3 (V1)
noncomputable def F__law_bad_line:PF:=y3 4 (V2 F__law_bad_need)
noncomputable def F_law:PF:=y3 10 (z1K F__law_bad_line F__law_cell_at F__law_drawn F__law_names (F__law_text 8) F__law_tried)
mutual
noncomputable def Nd.toD:Nd->D
 | .sun=>.tup [.str "sun"]
 | .eats x=>.tup [.str "eats",.str x]
 | .any ps=>.tup [.str "any",.tup (q8S ps)]
 | .all ps=>.tup [.str "all",.tup (q8S ps)]
 | .some n ps=>.tup [.str "some",.int n,.tup (q8S ps)]
noncomputable def q8S:List Nd->List D
 | []=>[]
 | d::r=>d.toD::q8S r
end
theorem q0O:∀ l:List Nd,q8S l=l.map Nd.toD
 | []=>by rw [q8S];rfl
 | d::r=>by rw [q8S,q0O r];rfl
@[simp] theorem q8b:Nd.sun.toD=.tup [.str "sun"]:=by rw [Nd.toD]
@[simp] theorem q5O (x:Str):(Nd.eats x).toD=.tup [.str "eats",.str x]:=by rw [Nd.toD]
@[simp] theorem q8c (ps:List Nd):(Nd.any ps).toD=.tup [.str "any",.tup (ps.map Nd.toD)]:=by rw [Nd.toD,q0O]
@[simp] theorem q4T (ps:List Nd):(Nd.all ps).toD=.tup [.str "all",.tup (ps.map Nd.toD)]:=by rw [Nd.toD,q0O]
@[simp] theorem q5P (n:Int) (ps:List Nd):(Nd.some n ps).toD=.tup [.str "some",.int n,.tup (ps.map Nd.toD)]:=by rw [Nd.toD,q0O]
mutual
theorem q8d:∀ d:Nd,d.toD.imm=true
 | .sun=>by simp
 | .eats x=>by simp
 | .any ps=>by rw [Nd.toD];simp [q0P ps]
 | .all ps=>by rw [Nd.toD];simp [q0P ps]
 | .some n ps=>by rw [Nd.toD];simp [q0P ps]
theorem q0P:∀ l:List Nd,(q8S l).all D.imm=true
 | []=>by rw [q8S];rfl
 | d::r=>by rw [q8S,List.all_cons,q8d d,q0P r];rfl
end
@[simp] theorem z6Z (d:Nd):d.toD.imm=true:=q8d d
@[simp] theorem q8e (l:List Nd):(l.map Nd.toD).all D.imm=true:=by rw [<- q0O];exact q0P l
@[simp] theorem z0u (l:List Nd):l.all (D.imm ∘ Nd.toD)=true:=by rw [<- List.all_map];exact q8e l
noncomputable def strsL (l:List Str):D:=.lst (l.map D.str)
@[simp] theorem z4v (l:List Str):itD (strsL l)=.ok (l.map D.str):=rfl
@[simp] theorem z4w (l:List Str):(strsL l).big=true:=rfl
@[simp] theorem q9w (l:List Str):(l.map D.str).all D.imm=true:=by rw [List.all_map,List.all_eq_true];intro _ _;rfl
@[simp] theorem z4x (l:List Str):(strsL l).imI=true:=by unfold strsL;rw [z1G,q9w]
@[simp] theorem q5Q (d:Nd):F_parts_of [d.toD]=.ok (.tup (d.parts.map Nd.toD)):=by
 unfold F_parts_of y3 q15
 cases d<;>simp [startD,Nd.parts,inD,flatD,line_val]
@[simp] theorem q8f (d:Nd):F__law_parts [d.toD]=.ok (.tup (d.parts.map Nd.toD)):=by
 unfold F__law_parts y3 q0b
 cases d<;>simp [startD,Nd.parts,line_val]
noncomputable def z6d (a:D) (al:List Str):Prop:=∀ x:Str,inD (.str x) a=.ok (decide (x∈al))
theorem q45 (ks:List Str) (vs:List D):z6d (.dct (ks.map Sum.inr) vs) ks:=λ x=>by
 show (Rz.ok _:Rz Bool)=_
 congr 1
 rw [List.any_map,Bool.eq_iff_iff,List.any_eq_true,N1p]
 constructor
 ·rintro ⟨y,hy,e⟩
  have e:(Sum.inr y:Ky)=Sum.inr x:=of_decide_eq_true e
  cases e;exact hy
 ·intro h;exact ⟨x,h,N0o rfl⟩
noncomputable def Nd.asked:Nd->Int
 | .sun=>0
 | .eats _=>0
 | .any _=>1
 | .all ps=>(ps.length:Int)
 | .some n _=>n
theorem q9x (d:Nd) (h1:d≠.sun) (h2:∀ x,d≠.eats x):F_parts_asked [d.toD]=.ok (.int d.asked):=by
 have hp:=q5Q d
 unfold F_parts_asked y3 U7
 cases d with
 | sun=>exact absurd rfl h1
 | eats x=>exact absurd rfl (h2 x)
 | any ps=>simp [startD,Nd.asked]
 | all ps=>simp only [q4T] at hp;simp [startD,Nd.asked,hp,Nd.parts]
 | some n ps=>simp [startD,Nd.asked]
noncomputable def intsL (ns:List Int):D:=.lst (ns.map D.int)
noncomputable def cellD (ns:List Int) (k:Nat):Int:=(ns[k]?).getD 0
theorem z1L (ns:List Int) (k:Nat):F__law_cell_at [intsL ns,.int (k:Int)]=.ok (.int (cellD ns k)):=by
 unfold F__law_cell_at y3 u6 cellD intsL
 by_cases h:k<ns.length
 ·simp [startD,h,q0N]
 ·simp [startD,h]
noncomputable def nextD (s:Int):Int:=(((s+7919) % 2147483647) * ((s+7919) % 2147483647)+48271 * ((s+7919) % 2147483647)+12345) % 2147483629
@[simp] theorem z6e (s:Int):F__law_next [.int s]=.ok (.int (nextD s)):=by
 have b1:0<=(s+7919) % 2147483647:=N0s _ (by decide)
 have b2:(s+7919) % 2147483647<2147483647:=N0t _ (by decide)
 unfold F__law_next y3 q0z nextD
 simp [startD]
 generalize (s+7919) % 2147483647=x at b1 b2
 rw [N0j (by lia)]
 simp
noncomputable def stubs:List Str:=["z","qz","zab","mzk","zoozz","zoozzpa","sun","all"]
noncomputable def stubOf (c:Int):Str:=(stubs[(c % 8).toNat]?).getD "z"
noncomputable def atOf (c:Int):Int:=c / 8 % (((stubOf c).length:Int)+1)
noncomputable def letters:Str:="abcdefghijklmnopqrstuvwxyz"
noncomputable def q2y (j:Int):Nat:=(letters.cps.toList[(j % 26).toNat]?).getD 0
noncomputable def nameOf (c:Int) (k:Nat):Str:=(⟨(cutD (stubOf c).cps.toList none (some (atOf c))).toArray⟩++⟨#[q2y ((k:Int)+c / 97)]⟩:Str)++⟨(cutD (stubOf c).cps.toList (some (atOf c)) none).toArray⟩
theorem q8g (c:Int):stubOf c∈stubs:=by
 have b1:0<=c % 8:=N0s _ (by decide)
 have b2:c % 8<8:=N0t _ (by decide)
 unfold stubOf
 have hl:(c % 8).toNat<stubs.length:=by show (c % 8).toNat<8;simp_all
 rw [N08 hl]
 exact N0z hl
theorem q1x (c:Int):(stubOf c).length<=7:=by
 have:∀ s∈stubs,s.length<=7:=by decide +kernel
 exact this _ (q8g c)
theorem z1M (c:Int):atD (stubs.map D.str) (c % 8)=some (.str (stubOf c)):=by
 have b1:0<=c % 8:=N0s _ (by decide)
 have b2:c % 8<8:=N0t _ (by decide)
 rw [q83 _ _ b1,N0i]
 unfold stubOf
 have hl:(c % 8).toNat<stubs.length:=by show (c % 8).toNat<8;simp_all
 rw [N08 hl]
 rfl
theorem z1N (j:Int):atD letters.cps.toList (j % 26)=some (q2y j):=by
 have b1:0<=j % 26:=N0s _ (by decide)
 have b2:j % 26<26:=N0t _ (by decide)
 have hl:(j % 26).toNat<letters.cps.toList.length:=by
  have z:letters.cps.toList.length=26:=by decide +kernel
  simp_all
 rw [q83 _ _ b1]
 unfold q2y
 rw [N08 hl]
 rfl
theorem q8h {α:Type}(xs:List α) (lo hi:Option Int):(cutD xs lo hi).length<=xs.length:=by
 unfold cutD
 rw [N16,N1n]
 lia
theorem q3e (a b:Str):(a++b).length=a.length+b.length:=by
 show (a.cps++b.cps).size=_
 rw [Array.size_append];rfl
theorem q9y (c:Int) (k:Nat):(nameOf c k).length<=15:=by
 have hl:=q1x c
 have l1:=q8h (stubOf c).cps.toList none (some (atOf c))
 have l2:=q8h (stubOf c).cps.toList (some (atOf c)) none
 have l3:(stubOf c).cps.toList.length=(stubOf c).length:=by rw [N0g];rfl
 unfold nameOf
 rw [q3e,q3e]
 show (cutD (stubOf c).cps.toList none (some (atOf c))).toArray.size+1+(cutD (stubOf c).cps.toList (some (atOf c)) none).toArray.size<=15
 rw [N0m,N0m]
 lia
theorem q9z (c:Int) (k:Nat) (δ:DS) (h0:δ[0]? = some (some (.int (0+(k:Int))))) (h1:δ[1]? = some (some (.str (stubOf c)))) (h2:δ[2]? = some (some (.int (atOf c)))) (h3:δ[3]? = some (some (.int c))) :
 (gOp dAddS (gOp dAddS (gSl (gVar 1) gON (gOI (gVar 2))) (gOp dIx (gC (.str letters)) (gOp dMod (gOp dAddS (gVar 0) (gOp q2n (gVar 3) (gC (.int 97)))) (gC (.int 26))))) (gSl (gVar 1) (gOI (gVar 2)) gON)) δ=.ok (.str (nameOf c k)):=by
 have hsg:=z1N ((k:Int)+c / 97)
 have h26:letters.length=26:=by decide +kernel
 have hn:=q9y c k
 have hl:=q1x c
 unfold nameOf at hn ⊢
 rw [q3e] at hn
 simp [h0,h1,h2,h3,line_val,hsg,show letters.length<=16777216 by decide,show (stubOf c).length<=16777216 by omega]
 rw [N0j (by rw [q3e] at hn;lia)]
 simp [line_val]
 omega
theorem z6f:[D.str "z",D.str "qz",D.str "zab",D.str "mzk",D.str "zoozz",D.str "zoozzpa",D.str "sun",D.str "all"]=stubs.map D.str:=rfl
theorem hcx (c:Int) (n:Nat):compL [some (D.str (stubOf c)),some (D.int (atOf c)),some (D.int c)] q1n
 (gOp dAddS (gOp dAddS (gSl (gVar 1) gON (gOI (gVar 2))) (gOp dIx (gC (.str "abcdefghijklmnopqrstuvwxyz")) (gOp dMod (gOp dAddS (gVar 0) (gOp q2n (gVar 3) (gC (.int 97)))) (gC (.int 26))))) (gSl (gVar 1) (gOI (gVar 2)) gON)) (rangeD 0 n)=.ok ((List.range n).map λ k=>D.str (nameOf c k)):=by
 refine q5L λ k hk=>?_
 exact q9z c k _ rfl rfl rfl rfl
theorem q5R (c:Int) (n:Nat) (hn:n<=1000):F__law_names [.int c,.int (n:Int)]=.ok (strsL ((List.range n).map (nameOf c))):=by
 have hs:=z1M c
 have hl:=q1x c
 have hc:=hcx c n
 have e6:stubs.length=8:=rfl
 unfold F__law_names y3 q0a
 generalize hE:(gOp dAddS (gOp dAddS (gSl (gVar 1) gON (gOI (gVar 2))) (gOp dIx (gC (.str "abcdefghijklmnopqrstuvwxyz")) (gOp dMod (gOp dAddS (gVar 0) (gOp q2n (gVar 3) (gC (.int 97)))) (gC (.int 26))))) (gSl (gVar 1) (gOI (gVar 2)) gON))=E at hc ⊢
 simp only [startD,y3]
 simp [z6f,hs,line_val,e6]
 rw [N0j (by omega)]
 have hp:(0:Int)<((stubOf c).length:Int)+1:=by simp
 have ea:atOf c=c / 8 % (((stubOf c).length:Int)+1):=rfl
 rw [ea] at hc
 simp [hp,capD]
 rw [N0j (by lia)]
 simp [hc]
 rw [N0j (by omega)]
 simp [strsL]
noncomputable def q21 (ss:List Str) (s:Int):Nd:=if s / 9 % 6=0 then .sun else .eats ((ss[(s / 54 % (ss.length:Int)).toNat]?).getD "")
noncomputable def wideOf (s:Int):Nat:=(1+s / 9 % 4).toNat
noncomputable def V7 (ss:List Str) (sm:Bool):Nat->Int->Nd
 | 0,s=>q21 ss s
 | k+1,s=>if s % 9<4 then q21 ss s else
  let ps:=(List.range (wideOf s)).map λ j:Nat=>V7 ss sm k (nextD (s+3 * (j:Int)+1))
  if s % 9<6\/sm=true then .any ps else if s % 9<8 then .all ps else .some (1+s / 36 % (ps.length:Int)) ps
theorem q8i (s:Int):1<=wideOf s/\wideOf s<=4:=by
 have b1:0<=s / 9 % 4:=N0s _ (by decide)
 have b2:s / 9 % 4<4:=N0t _ (by decide)
 unfold wideOf;lia
theorem q8j (s:Int):((wideOf s:Nat):Int)=1+s / 9 % 4:=by
 have b1:0<=s / 9 % 4:=N0s _ (by decide)
 unfold wideOf;lia
theorem q8k {F G:PF}(ss:List Str) (hs:ss≠[]) (hl:ss.length<=1000) (sm:Bool) (k s:Int) (h:k=0\/s % 9<4):y3 7 (V0 F G) [.int s,.int k,strsL ss,.bl sm]=.ok (q21 ss s).toD:=by
 have hp:0<ss.length:=List.length_pos_iff.2 hs
 have b1:0<=s / 54 % (ss.length:Int):=N0s _ (by simp_all)
 have b2:s / 54 % (ss.length:Int)<(ss.length:Int):=N0t _ (by simp_all)
 have hg:atD (ss.map D.str) (s / 54 % (ss.length:Int))=some (.str ((ss[(s / 54 % (ss.length:Int)).toNat]?).getD "")):=by
  rw [q83 _ _ b1,N0i,N08 (by simp_all)]
  rfl
 unfold y3 V0 q21
 simp [startD,strsL,line_val]
 by_cases h6:s / 9 % 6=0
 ·by_cases h0:k=0
  ·simp [h0,h6]
  ·have h4:s % 9<4:=by rcases h with h | h;exact absurd h h0;exact h
   simp [h0,h4,h6]
 ·by_cases h0:k=0
  ·simp [h0,h6,hg,show ss.length<=16777216 by omega,hp,line_val]
  ·have h4:s % 9<4:=by rcases h with h | h;exact absurd h h0;exact h
   simp [h0,h4,h6,hg,show ss.length<=16777216 by omega,hp,line_val]
theorem q8l (ss:List Str) (hs:ss≠[]) (hl:ss.length<=1000) (sm:Bool):∀ (n k:Nat) (s:Int),k<n->F__law_need n [.int s,.int (k:Int),strsL ss,.bl sm]=.ok (V7 ss sm k s).toD
 | n+1,0,s,_=>by
  rw [F__law_need,V7]
  exact q8k ss hs hl sm _ s (.inl rfl)
 | n+1,k+1,s,hkn=>by
  rw [F__law_need,V7]
  by_cases h4:s % 9<4
  ·rw [N0j h4]
   exact q8k ss hs hl sm _ s (.inr h4)
  rw [N0l h4]
  have ih:=λ s=>q8l ss hs hl sm n k s (by simp_all)
  have hw:=q8i s
  have hk0:¬ ((k:Int)+1=0):=by lia
  let ps:=λ m:Nat=>(List.range m).map λ j:Nat=>V7 ss sm k (nextD (s+3 * (j:Int)+1))
  have hps:∀ m,(ps m).length=m:=λ m=>by show ((List.range m).map _).length=m;rw [N01,N17]
  let J:Nat->DS:=λ m=>[some (.int s),some (.int ((k:Int)+1)),some (strsL ss),some (.bl sm),some (.int (s % 9)),some (.lst ((ps m).map Nd.toD)),none]
  have hloop:v4 6 [6] (q9m 5 (gCall (F__law_need n) (gCons (gCall F__law_next (gCons (gOp dAddS (gOp dAddS (gVar 0) (gOp q8P (gC (.int 3)) (gVar 6))) (gC (.int 1))) gNil)) (gCons (gOp q9l (gVar 1) (gC (.int 1))) (gCons (gVar 2) (gCons (gVar 3) gNil)))))) (rangeD 0 (wideOf s)) [some (D.int s),some (.int ((k:Int)+1)),some (strsL ss),some (.bl sm),some (.int (s % 9)),some (.lst []),none]=.ok (.nx [some (D.int s),some (.int ((k:Int)+1)),some (strsL ss),some (.bl sm),some (.int (s % 9)),some (.lst ((ps (wideOf s)).map Nd.toD)),none]):=by
   refine q3c (n:=wideOf s) J rfl λ m hm=>?_
   refine ⟨(J (m+1)).set 6 (some (.int (0+(m:Int)))),.inl ?_,rfl⟩
   have e:ps (m+1)=ps m++[V7 ss sm k (nextD (s+3 * (m:Int)+1))]:=by
    show (List.range (m+1)).map _=(List.range m).map _++_
    rw [List.range_succ,N14];rfl
   simp [J,ih,e,line_val,hps]
   lia
  unfold y3 V0
  generalize hE:(q9m 5 (gCall (F__law_need n) (gCons (gCall F__law_next (gCons (gOp dAddS (gOp dAddS (gVar 0) (gOp q8P (gC (.int 3)) (gVar 6))) (gC (.int 1))) gNil)) (gCons (gOp q9l (gVar 1) (gC (.int 1))) (gCons (gVar 2) (gCons (gVar 3) gNil))))))=E at hloop ⊢
  simp [startD,h4,hk0,<- q8j]
  rw [N0j (by lia)]
  simp [hloop]
  have hq:((List.range (wideOf s)).map λ j:Nat=>V7 ss sm k (nextD (s+3 * (j:Int)+1)))=ps (wideOf s):=rfl
  rw [hq]
  have hpl:=hps (wideOf s)
  generalize ps (wideOf s)=P at hpl ⊢
  have hw':0<wideOf s:=hw.1
  by_cases h6:s % 9<6
  ·simp [h6,hpl]
  by_cases h8:s % 9<8
  ·cases sm<;>simp [h6,h8,hpl]
  ·cases sm<;>simp [h6,h8,hpl,hw']
theorem z0v {ss:List Str}{sm:Bool}:∀ {l:List Nd},(∀ e∈l,e.ok ss sm)->okL ss sm l
 | [],_=>by rw [okL];trivial
 | a::r,h=>by rw [okL];exact ⟨h a (N00 ..),z0v λ e m=>h e (N02 _ m)⟩
theorem q46 {n:Nat}:∀ {l:List Nd},(∀ e∈l,e.depth<=n)->depthL l<=n
 | [],_=>by rw [depthL];simp
 | a::r,h=>by
  rw [depthL]
  have h1:=h a (N00 ..)
  have h2:=q46 λ e m=>h e (N02 _ m)
  lia
theorem q3f (ss:List Str) (hs:ss≠[]) (sm:Bool) (s:Int):(q21 ss s).ok ss sm/\(q21 ss s).depth=1:=by
 have hp:0<ss.length:=List.length_pos_iff.2 hs
 have b1:0<=s / 54 % (ss.length:Int):=N0s _ (by simp_all)
 have b2:s / 54 % (ss.length:Int)<(ss.length:Int):=N0t _ (by simp_all)
 unfold q21
 by_cases h6:s / 9 % 6=0
 ·rw [N0j h6,Nd.ok,Nd.depth];exact ⟨trivial,rfl⟩
 ·rw [N0l h6,Nd.ok,Nd.depth,N08 (by simp_all)]
  exact ⟨N0z _,rfl⟩
theorem q8m (ss:List Str) (hs:ss≠[]) (sm:Bool):∀ (k:Nat) (s:Int),(V7 ss sm k s).ok ss sm/\(V7 ss sm k s).depth<=k+1
 | 0,s=>by
  rw [V7]
  exact ⟨(q3f ss hs sm s).1,Nat.le_of_eq (q3f ss hs sm s).2⟩
 | k+1,s=>by
  rw [V7]
  by_cases h4:s % 9<4
  ·rw [N0j h4]
   refine ⟨(q3f ss hs sm s).1,?_⟩
   rw [(q3f ss hs sm s).2];simp
  rw [N0l h4]
  have ih:=q8m ss hs sm k
  have hw:=q8i s
  generalize hP:((List.range (wideOf s)).map λ j:Nat=>V7 ss sm k (nextD (s+3 * (j:Int)+1)))=P
  have hl:P.length=wideOf s:=by rw [<- hP,N01,N17]
  have hm:∀ e∈P,e.ok ss sm/\e.depth<=k+1:=λ e m=>by
   rw [<- hP] at m
   obtain ⟨j,_,rfl⟩:=List.mem_map.1 m
   exact ih _
  have ho:=z0v λ e m=>(hm e m).1
  have hd:=q46 λ e m=>(hm e m).2
  dsimp only
  by_cases h6:s % 9<6\/sm=true
  ·rw [N0j h6,Nd.ok,Nd.depth]
   exact ⟨⟨by simp_all,by simp_all,ho⟩,by simp_all⟩
  rw [N0l h6]
  have hf:sm=false:=by cases sm;rfl;exact absurd (.inr rfl) h6
  by_cases h8:s % 9<8
  ·rw [N0j h8,Nd.ok,Nd.depth]
   exact ⟨⟨hf,by simp_all,by simp_all,ho⟩,by simp_all⟩
  ·have b1:0<=s / 36 % (P.length:Int):=N0s _ (by lia)
   have b2:s / 36 % (P.length:Int)<(P.length:Int):=N0t _ (by lia)
   rw [N0l h8,Nd.ok,Nd.depth]
   exact ⟨⟨hf,by lia,by lia,by simp_all,ho⟩,by simp_all⟩
noncomputable def cnt (ns:List Int):Nat:=(if cellD ns 0 / 7 % 4=1 then 1+cellD ns 0 / 28 % 16 else 1+cellD ns 0 % 7).toNat
theorem q47 (ns:List Int):1<=cnt ns/\cnt ns<=16:=by
 have b1:0<=cellD ns 0 / 28 % 16:=N0s _ (by decide)
 have b2:cellD ns 0 / 28 % 16<16:=N0t _ (by decide)
 have b3:0<=cellD ns 0 % 7:=N0s _ (by decide)
 have b4:cellD ns 0 % 7<7:=N0t _ (by decide)
 unfold cnt;split<;>omega
theorem q9A (ns:List Int):((cnt ns:Nat):Int)=if cellD ns 0 / 7 % 4=1 then 1+cellD ns 0 / 28 % 16 else 1+cellD ns 0 % 7:=by
 have b1:0<=cellD ns 0 / 28 % 16:=N0s _ (by decide)
 have b3:0<=cellD ns 0 % 7:=N0s _ (by decide)
 unfold cnt;split<;>lia
noncomputable def pool (ns:List Int):List Str:=(List.range (cnt ns+2)).map (nameOf (cellD ns 1))
theorem q1y (ns:List Int):(pool ns).length=cnt ns+2:=by unfold pool;rw [N01,N17]
theorem q8n (ns:List Int):pool ns≠[]:=by
 intro h
 have:=q1y ns
 rw [h] at this;simp at this
noncomputable def seedOf (ns:List Int) (i:Nat):Int:=nextD (cellD ns (2+i % 12)+5003 * (i:Int))
noncomputable def rawN (ns:List Int) (sm:Bool) (m:Nat):List Nd:=(List.range m).map λ i=>V7 (pool ns) sm (1+seedOf ns i / 7 % 2).toNat (seedOf ns i)
theorem q16 (ns:List Int) (sm:Bool) (m:Nat):(rawN ns sm m).length=m:=by unfold rawN;rw [N01,N17]
noncomputable def drawN (ns:List Int) (sm:Bool):List Nd:=if 0<cellD ns 1 / 30 % 3 then (rawN ns sm (cnt ns)).set (cellD ns 1 / 90 % (cnt ns:Int)).toNat .sun else rawN ns sm (cnt ns)
theorem q9B (ns:List Int) (sm:Bool):(drawN ns sm).length=cnt ns:=by
 unfold drawN;split
 ·rw [N1h,q16]
 ·rw [q16]
noncomputable def z3w (ns:List Int) (sm:Bool):D:=.tup [strsL ((pool ns).take (cnt ns)),.lst ((drawN ns sm).map Nd.toD),strsL ((pool ns).drop (cnt ns))]
theorem q8o (ns:List Int) (i:Int) (h:0<=i):F__law_cell_at [intsL ns,.int i]=.ok (.int (cellD ns i.toNat)):=by
 have:=z1L ns i.toNat
 rwa [Int.toNat_of_nonneg h] at this
theorem z6g (ns:List Int):F__law_cell_at [intsL ns,.int 0]=.ok (.int (cellD ns 0)):=q8o ns 0 (by decide)
theorem z6h (ns:List Int):F__law_cell_at [intsL ns,.int 1]=.ok (.int (cellD ns 1)):=q8o ns 1 (by decide)
theorem q9C (ns:List Int) (sm:Bool):F__law_drawn [intsL ns,.bl sm]=.ok (z3w ns sm):=by
 have hc:=q47 ns
 have c0:=z6g ns
 have c1:=z6h ns
 have hnm:F__law_names [.int (cellD ns 1),.int ((cnt ns:Int)+2)]=.ok (strsL (pool ns)):=by
  have:=q5R (cellD ns 1) (cnt ns+2) (by lia)
  rwa [show (((cnt ns+2:Nat)):Int)=(cnt ns:Int)+2 by rfl] at this
 have hcc:=q9A ns
 unfold F__law_drawn y3 q0c
 generalize hE:(W1 (gSet 6 (gCall F__law_next (gCons (gOp dAddS (gCall F__law_cell_at (gCons (gVar 0) (gCons (gOp dAddS (gC (.int 2)) (gOp dMod (gVar 5) (gC (.int 12)))) gNil))) (gOp q8P (gC (.int 5003)) (gVar 5))) gNil)))
  (q9m 4 (gCall (F__law_need 8) (gCons (gVar 6) (gCons (gOp dAddS (gC (.int 1)) (gOp dMod (gOp q2n (gVar 6) (gC (.int 7))) (gC (.int 2)))) (gCons (gVar 3) (gCons (gVar 1) gNil)))))))=E
 have hloop:v4 5 [5,6] E (rangeD 0 (cnt ns)) [some (intsL ns),some (.bl sm),some (.int (cnt ns:Int)),some (strsL (pool ns)),some (.lst []),none,none]=.ok (.nx [some (intsL ns),some (.bl sm),some (.int (cnt ns:Int)),some (strsL (pool ns)),some (.lst ((rawN ns sm (cnt ns)).map Nd.toD)),none,none]):=by
  refine q3c (n:=cnt ns) (λ m=>[some (intsL ns),some (.bl sm),some (.int (cnt ns:Int)),some (strsL (pool ns)),some (.lst ((rawN ns sm m).map Nd.toD)),none,none]) rfl λ m hm=>?_
  refine ⟨[some (intsL ns),some (.bl sm),some (.int (cnt ns:Int)),some (strsL (pool ns)),some (.lst ((rawN ns sm (m+1)).map Nd.toD)),some (.int (0+(m:Int))),some (.int (seedOf ns m))],.inl ?_,rfl⟩
  have e:rawN ns sm (m+1)=rawN ns sm m++[V7 (pool ns) sm (1+seedOf ns m / 7 % 2).toNat (seedOf ns m)]:=by
   unfold rawN;rw [List.range_succ,N14];rfl
  have b1:0<=seedOf ns m / 7 % 2:=N0s _ (by decide)
  have b2:seedOf ns m / 7 % 2<2:=N0t _ (by decide)
  have hn:=q8l (pool ns) (q8n ns) (by rw [q1y];lia) sm 8 (1+seedOf ns m / 7 % 2).toNat (seedOf ns m) (by lia)
  rw [Int.toNat_of_nonneg (by lia)] at hn
  have hi:=q8o ns (2+(m:Int) % 12) (by lia)
  rw [show (2+(m:Int) % 12).toNat=2+m % 12 by rfl] at hi
  have hs:nextD (cellD ns (2+m % 12)+5003 * (m:Int))=seedOf ns m:=rfl
  rw [<- hE]
  simp [hi,hs,hn,e,q16]
  lia
 have b1:0<=cellD ns 1 / 90 % (cnt ns:Int):=N0s _ (by lia)
 have b2:cellD ns 1 / 90 % (cnt ns:Int)<(cnt ns:Int):=N0t _ (by lia)
 have b3:0<cnt ns:=hc.1
 have hput:=q87 ((rawN ns sm (cnt ns)).map Nd.toD) (cellD ns 1 / 90 % (cnt ns:Int)) (.tup [.str "sun"]) b1 (by rw [N01,q16];exact b2)
 by_cases h1:cellD ns 0 / 7 % 4=1
 all_goals
  simp only [h1,if_true,if_false] at hcc
  simp [startD,c0,c1,h1,<- hcc,hnm]
  rw [N0j (by lia)]
  simp [hloop,c1]
  unfold z3w drawN
  by_cases h3:0<cellD ns 1 / 30 % 3
  ·simp [h3,c1,q16,strsL,b3,hput]
  ·simp [h3,c1,q16,strsL]
noncomputable def Nm (x:Str):Prop:=2<=x.length/\x.length<=8/\(∀ c∈x.cps.toList,97<=c/\c<=122)/\(122∈x.cps.toList\/x.length=4)
theorem q6w (c:Int):1<=(stubOf c).length/\(∀ d∈(stubOf c).cps.toList,97<=d/\d<=122)/\(122∈(stubOf c).cps.toList\/(stubOf c).length=3):=by
 have:∀ s∈stubs,1<=s.length/\(∀ d∈s.cps.toList,97<=d/\d<=122)/\(122∈s.cps.toList\/s.length=3):=by decide +kernel
 exact this _ (q8g c)
theorem z3x (c:Int):0<=atOf c/\atOf c<=((stubOf c).length:Int):=by
 have b1:0<=atOf c:=N0s _ (by lia)
 have b2:atOf c<((stubOf c).length:Int)+1:=N0t _ (by simp)
 lia
theorem q1z (c:Int) (k:Nat):(nameOf c k).cps.toList=(stubOf c).cps.toList.take (atOf c).toNat++q2y ((k:Int)+c / 97)::(stubOf c).cps.toList.drop (atOf c).toNat:=by
 have h:=z3x c
 have e:atOf c=(((atOf c).toNat:Nat):Int):=by lia
 unfold nameOf
 rw [e,z3q,q9u,<- e]
 show ((List.take _ _).toArray ++ #[_]++(List.drop _ _).toArray).toList=_
 simp
theorem q4U (i:Nat) (h:i<26):letters.cps.toList[i]? = some (97+i):=by
 have:∀ i:Fin 26,letters.cps.toList[i.val]? = some (97+i.val):=by decide +kernel
 exact this ⟨i,h⟩
theorem q3g (j:Int):q2y j=97+(j % 26).toNat:=by
 have b1:0<=j % 26:=N0s _ (by decide)
 have b2:j % 26<26:=N0t _ (by decide)
 unfold q2y
 rw [q4U _ (by simp_all)]
 rfl
theorem q4V (c:Int) (k:Nat):Nm (nameOf c k):=by
 obtain ⟨h1,h2,h3⟩:=q6w c
 have h4:=q1x c
 have hl:(nameOf c k).length=(stubOf c).length+1:=by
  show (nameOf c k).cps.size=(stubOf c).cps.size+1
  rw [<- N0g,q1z,<- N0g,N06,N0h,N16,N1n]
  have:=z3x c
  have z:((stubOf c).length:Int)=(stubOf c).cps.toList.length:=by rw [N0g];rfl
  omega
 refine ⟨by simp_all,by simp_all,?_,?_⟩
 ·intro d m
  rw [q1z] at m
  rcases N0a.1 m with m | m
  ·exact h2 d (List.mem_of_mem_take m)
  ·rcases N0c.1 m with rfl | m
   ·rw [q3g]
    have b1:0<=((k:Int)+c / 97) % 26:=N0s _ (by decide)
    have b2:((k:Int)+c / 97) % 26<26:=N0t _ (by decide)
    lia
   ·exact h2 d (List.mem_of_mem_drop m)
 ·rcases h3 with h3 | h3
  ·refine .inl ?_
   rw [q1z]
   rw [<- List.take_append_drop (atOf c).toNat (stubOf c).cps.toList] at h3
   rcases N0a.1 h3 with m | m
   ·exact N0a.2 (.inl m)
   ·exact N0a.2 (.inr (N02 _ m))
  ·exact .inr (by simp_all)
theorem q5S (c:Int){j k:Nat}(hj:j<26) (hk:k<26) (h:nameOf c j=nameOf c k):j=k:=by
 have h':=congrArg (λ s:Str=>s.cps.toList) h
 simp only [q1z] at h'
 have h2:=List.append_cancel_left h'
 have h3:=(List.cons.inj h2).1
 rw [q3g,q3g] at h3
 have b1:0<=((k:Int)+c / 97) % 26:=N0s _ (by decide)
 have b2:0<=((j:Int)+c / 97) % 26:=N0s _ (by decide)
 omega
theorem q6x (ns:List Int):(pool ns).Nodup:=by
 have hc:=q47 ns
 unfold pool
 rw [List.nodup_iff_pairwise_ne,List.pairwise_map]
 refine List.Pairwise.imp_of_mem ?_ (List.nodup_iff_pairwise_ne.1 List.nodup_range)
 intro a b ha hb hne he
 exact hne (q5S _ (by have:=List.mem_range.1 ha;lia) (by have:=List.mem_range.1 hb;lia) he)
theorem q8p (ns:List Int):∀ x∈pool ns,Nm x:=λ x m=>by
 unfold pool at m
 obtain ⟨k,_,rfl⟩:=List.mem_map.1 m
 exact q4V _ _
theorem q8q (x:Str) (h:Nm x):x∉wKEPT_WORDS:=by
 intro m
 have:∀ w∈wKEPT_WORDS,122∉w.cps.toList/\w.length≠4:=by decide +kernel
 rcases h.2.2.2 with q | q
 ·exact (this x m).1 q
 ·exact (this x m).2 q
theorem q6y (x:Str) (h1:1<=x.length) (h2:x.length<=8) (h3:∀ c∈x.cps.toList,97<=c/\c<=122) (hk:x∉wKEPT_WORDS):F_is_name [.str x]=.ok (.bl true):=by
 have hc:compL [] q1n (gChain dLe dLe (gC (.str "a")) (gVar 0) (gC (.str "z"))) (signsD x)=.ok (x.cps.toList.map λ o_=>D.bl true):=by
  unfold signsD
  refine U6 λ c m=>?_
  have:=h3 c m
  have ea:s!"a".cps.toList=[97]:=by decide +kernel
  have ez:s!"z".cps.toList=[122]:=by decide +kernel
  have l1:dLe (.str "a") (.str ⟨#[c]⟩)=.ok (.bl true):=by
   show Rz.ok (D.bl (!decide ([c]<s!"a".cps.toList)))=_
   rw [ea,N0e (by intro h;cases h with | rel h=>lia | cons h=>cases h)];rfl
  have l2:dLe (.str ⟨#[c]⟩) (.str "z")=.ok (.bl true):=by
   show Rz.ok (D.bl (!decide (s!"z".cps.toList<[c])))=_
   rw [ez,N0e (by intro h;cases h with | rel h=>lia | cons h=>cases h)];rfl
  simp [l1,l2]
 have ha:∀ (i:Nat) (_:i<x.cps.size),x.cps[i]<128:=λ i h=>by
  have:=h3 x.cps[i] (by rw [Array.mem_toList_iff];exact Array.getElem_mem h)
  lia
 have hl:x.cps.toList.length=x.length:=by rw [N0g];rfl
 unfold F_is_name y3 q09
 simp [startD,hk,show ¬ (x.length:Int)<1 by lia,show ¬ 8<(x.length:Int) by lia,show x.length<=16777216 by omega]
 rw [N0j ha]
 simp [capD,hc]
 rw [N0j (by show x.length<=16777216;omega)]
 simp
@[simp] theorem q0d (l:List Str):pLen [strsL l]=.ok (.int (l.length:Int)):=by unfold strsL;simp
theorem q17 (x:Str) (h:Nm x):F_is_name [.str x]=.ok (.bl true):=q6y x (N0v (by decide) h.1) h.2.1 h.2.2.1 (q8q x h)
noncomputable def webD (ks:List Str) (vs:List Nd):D:=.obj 0 "need_by_name" (.dct (ks.map Sum.inr) (vs.map Nd.toD))
@[simp] theorem z6i (ks:List Str) (vs:List Nd):(webD ks vs).imO=true:=by unfold webD;simp
@[simp] theorem z6j (ks:List Str) (vs:List Nd):(webD ks vs).big=true:=rfl
@[simp] theorem z3y (m:String) (ks:List Str) (vs:List Nd):isObj 0 (Str.ofString m) (webD ks vs) = !decide ("need_by_name" = m):=by unfold webD;simp
@[simp] theorem z6k (ks:List Str) (vs:List Nd):q9n 0 s!"need_by_name" (webD ks vs)=.ok (.dct (ks.map Sum.inr) (vs.map Nd.toD)):=by unfold webD;simp [q9n]
theorem z3z (ks:List Str) (x:Str):((ks.map Sum.inr).any λ j:Ky=>decide (j=Sum.inr x))=decide (x∈ks):=by
 rw [List.any_map]
 induction ks with
 | nil=>rfl
 | cons a r ih=>rw [N1j,ih];by_cases h:a=x<;>simp [h,N1f,eq_comm]
theorem z3A (ks:List Str) (vs:List Nd) (x:Str) (v:Nd) (h1:F_is_name [.str x]=.ok (.bl true)) (hn:x∉ks) (hl:ks.length<16):F_add [webD ks vs,.str x,v.toD]=.ok (.non,[webD (ks++[x]) (vs++[v])]):=by
 have h2:inD (.str x) (.dct (ks.map Sum.inr) (vs.map Nd.toD))=.ok false:=by
  rw [q45 ks];simp [hn]
 have h3:putD (ks.map Sum.inr) (vs.map Nd.toD) (.inr x) v.toD=.dct ((ks++[x]).map Sum.inr) ((vs++[v]).map Nd.toD):=by
  unfold putD
  rw [z3z,N0l (by simp [hn])]
  simp
 unfold F_add z40 z1I webD
 simp [startD,h1,q9n,h2,show ¬ (16:Int)<=(ks.length:Int) by lia,h3]
 rw [N0j (by omega)]
 simp
noncomputable def needAt (x:Str):List Str->List Nd->Option Nd
 | k::ks,v::vs=>if k=x then some v else needAt x ks vs
 | _,_=>none
theorem q48:∀ {ks:List Str}{vs:List Nd}{i:Nat}{k:Str}{v:Nd},ks.Nodup->ks[i]? = some k->vs[i]? = some v->needAt k ks vs=some v
 | [],_,_,_,_,_,h,_=>by cases h
 | _::_,[],_,_,_,_,_,h=>by cases h
 | x::ks,y::vs,0,k,v,hd,h1,h2=>by cases h1;cases h2;rw [needAt,N0j rfl]
 | x::ks,y::vs,i+1,k,v,hd,h1,h2=>by
  have hk:k∈ks:=N0u h1
  have hx:¬ x=k:=λ q=>(List.nodup_cons.1 hd).1 (q▸hk)
  rw [needAt,N0l hx]
  exact q48 (List.nodup_cons.1 hd).2 h1 h2
theorem q5T {ks:List Str}{vs:List Nd}(hd:ks.Nodup){p:Str×Nd}(hp:p∈ks.zip vs):p.1∈ks/\p.2∈vs/\needAt p.1 ks vs=some p.2:=by
 obtain ⟨i,hi⟩:=List.mem_iff_getElem?.1 hp
 rw [List.getElem?_zip_eq_some] at hi
 exact ⟨N0u hi.1,N0u hi.2,q48 hd hi.1 hi.2⟩
end Fw
namespace Dl
open PySem
end Dl
namespace Fw
open PySem Dl
noncomputable def Tx (x:Str):Prop:=∀ c∈x.cps.toList,c<0x110000
theorem Nm.tx {x:Str}(h:Nm x):Tx x:=λ c m=>by have:=h.2.2.1 c m;lia
theorem u8 (a b:Str):eqD (.str a) (.str b)=decide (a=b):=by
 show (a==b)=_
 by_cases h:a=b
 ·simp [h]
 ·rw [N0e h];exact N18.mpr h
noncomputable def Good (v:Nd):Prop:=(∃ ss sm,v.ok ss sm)/\v.depth<=3
theorem q1i (ns:List Int) (k:Nat):∀ x∈(pool ns).take k,Nm x:=λ x m=>q8p ns x (List.mem_of_mem_take m)
theorem z0w (ns:List Int) (sm:Bool) (m:Nat):∀ v∈rawN ns sm m,v.ok (pool ns) sm/\v.depth<=3:=λ v h=>by
 unfold rawN at h
 obtain ⟨i,_,rfl⟩:=List.mem_map.1 h
 have b1:0<=seedOf ns i / 7 % 2:=N0s _ (by decide)
 have b2:seedOf ns i / 7 % 2<2:=N0t _ (by decide)
 obtain ⟨h1,h2⟩:=q8m (pool ns) (q8n ns) sm (1+seedOf ns i / 7 % 2).toNat (seedOf ns i)
 exact ⟨h1,by lia⟩
theorem q4W (ns:List Int) (sm:Bool):∀ v∈drawN ns sm,v.ok (pool ns) sm/\v.depth<=3:=λ v h=>by
 unfold drawN at h
 split at h
 ·rcases List.mem_or_eq_of_mem_set h with h | rfl
  ·exact z0w ns sm _ v h
  ·exact ⟨by rw [Nd.ok];trivial,by rw [Nd.depth];simp⟩
 ·exact z0w ns sm _ v h
structure WebOk (ks:List Str) (vs:List Nd):Prop where
 len:ks.length=vs.length
 le:ks.length<=16
 nd:ks.Nodup
 good:∀ v∈vs,Good v
 tx:∀ x∈ks,Tx x
theorem q9D (ns:List Int) (sm:Bool):WebOk ((pool ns).take (cnt ns)) (drawN ns sm):=by
 have hcn:=q47 ns
 have hlk:((pool ns).take (cnt ns)).length=cnt ns:=by rw [N16,q1y];simp
 have hlv:=q9B ns sm
 exact ⟨by simp_all,by simp_all,(q6x ns).sublist (List.take_sublist _ _),λ v m=>⟨⟨_,_,(q4W ns sm v m).1⟩,(q4W ns sm v m).2⟩,λ x m=>(q1i ns _ x m).tx⟩
theorem q8r (ns:List Int):((pool ns).take (cnt ns)).length=cnt ns:=by
 have hcn:=q47 ns
 rw [N16,q1y];simp
theorem q4X (l:List Str) (a:Nat) (h:a<l.length):dIx (strsL l) (.int (a:Int))=.ok (.str l[a]):=by unfold strsL;simp [q0N,h]
theorem q4Y (z:Int) (n:Nat) (h:0<n):∃ a:Nat,a<n/\z % (n:Int)=(a:Int):=by
 have b1:0<=z % (n:Int):=N0s _ (by lia)
 have b2:z % (n:Int)<(n:Int):=N0t _ (by simp_all)
 exact ⟨(z % (n:Int)).toNat,by simp_all,by lia⟩
theorem z1O {l:List Str}(hd:l.Nodup){m:Nat}{x:Str}(hx:l[m]? = some x):x∉l.take m/\l.take (m+1)=l.take m++[x]:=by
 have k1:l.take (m+1)=l.take m++[x]:=by rw [List.take_succ,hx];rfl
 refine ⟨λ q=>?_,k1⟩
 have z:(l.take (m+1)).Nodup:=hd.sublist (List.take_sublist _ _)
 rw [k1] at z
 exact (List.nodup_append.1 z).2.2 _ q _ (N0f.2 rfl) rfl
noncomputable def Nd.word:Nd->Str
 | .any _=>"any"
 | .all _=>"all"
 | .some n _=>(toString n:Str)++"of"
 | _=>""
mutual
noncomputable def Nd.txt:Nd->Str
 | .sun=>"sun"
 | .eats x=>x
 | .any ps=>s!"any"++(s!"("++(Str.join s!" " (z1P ps)++(s!")"++Str.empty)))
 | .all ps=>s!"all"++(s!"("++(Str.join s!" " (z1P ps)++(s!")"++Str.empty)))
 | .some n ps=>((toString n:Str)++s!"of")++(s!"("++(Str.join s!" " (z1P ps)++(s!")"++Str.empty)))
noncomputable def z1P:List Nd->List Str
 | []=>[]
 | d::r=>d.txt::z1P r
end
theorem q01:∀ l:List Nd,z1P l=l.map Nd.txt
 | []=>by rw [z1P];rfl
 | d::r=>by rw [z1P,q01 r];rfl
theorem q2z (d:Nd) (h1:d≠.sun) (h2:∀ x,d≠.eats x):d.txt=d.word++(s!"("++(Str.join s!" " (d.parts.map Nd.txt)++(s!")"++Str.empty))):=by
 cases d with
 | sun=>exact absurd rfl h1
 | eats x=>exact absurd rfl (h2 x)
 | any ps=>rw [Nd.txt,q01];rfl
 | all ps=>rw [Nd.txt,q01];rfl
 | some n ps=>rw [Nd.txt,q01];rfl
theorem q0Q (sep:Str):∀ l:List Str,(Str.join sep l).length<=(l.map (·.length)).sum+l.length * sep.length
 | []=>N1b _
 | [x]=>by
  show x.length<=_
  simp
 | x::y::r=>by
  have h:=q0Q sep (y::r)
  show (x++sep++Str.join sep (y::r)).length<=_
  rw [z5,z5]
  simp only [N09,List.sum_cons,N0h,Nat.succ_mul] at h ⊢
  lia
theorem q0R (sep x:Str):∀ l:List Str,l≠[]->Str.join sep (l++[x])=Str.join sep l++sep++x
 | [],h=>absurd rfl h
 | [a],_=>rfl
 | a::b::r,_=>by
  have h:=q0R sep x (b::r) (by simp)
  show a++sep++Str.join sep (b::r++[x])=(a++sep++Str.join sep (b::r))++sep++x
  rw [h]
  simp only [Q4]
theorem q2A (n:Nat):∀ l:List Nat,(∀ x∈l,x<=n)->l.sum<=l.length * n
 | [],_=>N1b _
 | a::r,h=>by
  have h1:=h a (N00 ..)
  have h2:=q2A n r λ x m=>h x (N02 _ m)
  rw [List.sum_cons,N0h,Nat.succ_mul]
  lia
theorem z70:∀ n:Int,1<=n->n<=4->((toString n:Str).length=1/\n.natAbs.log2<1920):=by
 intro n h1 h2
 have:n=1\/n=2\/n=3\/n=4:=by lia
 rcases this with rfl | rfl | rfl | rfl<;>decide +kernel
theorem q5U {ss:List Str}{sm:Bool}{d:Nd}(h:d.ok ss sm):d.word.length<=3:=by
 cases d with
 | sun=>decide +kernel
 | eats x=>exact (by decide +kernel:s!"".length<=3)
 | any ps=>exact (by decide +kernel:s!"any".length<=3)
 | all ps=>exact (by decide +kernel:s!"all".length<=3)
 | some n ps =>
  rw [Nd.ok] at h
  show ((toString n:Str)++s!"of").length<=3
  rw [z5,(z70 n (by simp_all) (by lia)).1,show s!"of".length=2 by decide +kernel]
  simp
theorem q49 {l:List Nd}{b:Nat}(hb:∀ e∈l,e.txt.length<=b) (h4:l.length<=4):((l.map Nd.txt).map (·.length)).sum<=4 * b:=by
 have h:=q2A b ((l.map Nd.txt).map (·.length)) λ x m=>by
  obtain ⟨y,hy,rfl⟩:=List.mem_map.1 m
  obtain ⟨e,he,rfl⟩:=List.mem_map.1 hy
  exact hb e he
 rw [N01,N01] at h
 exact N0v h (Nat.mul_le_mul_right b h4)
theorem q3h {ss:List Str}{sm:Bool}{d:Nd}{b:Nat}(h:d.ok ss sm) (h1:d≠.sun) (h2:∀ x,d≠.eats x) (hb:∀ e∈d.parts,e.txt.length<=b) (h4:d.parts.length<=4):d.txt.length<=4 * b+9:=by
 rw [q2z d h1 h2,z5,z5,z5,z5]
 have hw:=q5U h
 have hj:=q0Q s!" " (d.parts.map Nd.txt)
 have hs:=q49 hb h4
 rw [N01,show s!" ".length=1 by decide +kernel] at hj
 rw [show s!"(".length=1 by decide +kernel,show s!")".length=1 by decide +kernel,show Str.empty.length=0 by decide +kernel]
 lia
noncomputable def Nd.tag:Nd->String
 | .sun=>"sun"
 | .eats _=>"eats"
 | .any _=>"any"
 | .all _=>"all"
 | .some _ _=>"some"
theorem z3B (d:Nd):dIx d.toD (.int 0)=.ok (.str d.tag):=by
 cases d with
 | sun=>simp [Nd.tag]
 | eats x=>simp [Nd.tag]
 | any ps=>simp [Nd.tag]
 | all ps=>simp [Nd.tag]
 | some k ps=>simp [Nd.tag]
theorem z3C {d:Nd}(h1:d≠.sun) (h2:∀ x,d≠.eats x):d.tag≠"sun"/\d.tag≠"eats":=by
 cases d with
 | sun=>exact absurd rfl h1
 | eats x=>exact absurd rfl (h2 x)
 | any ps=>simp [Nd.tag]
 | all ps=>simp [Nd.tag]
 | some k ps=>simp [Nd.tag]
end Fw
namespace Fw
open PySem Dl PySem.Builtin PySem.Builtin.Str
noncomputable def one (c:Nat):Str:=⟨#[c]⟩
noncomputable def cutsOf (c:Nat) (l:List Nat):List Nat:=(List.range l.length).filter λ i=>decide (l[i]? = some c)
theorem q4Z (x:Str) (c i:Nat) (h:i<x.length):subAt x (one c) i=decide (x.cps.toList[i]? = some c):=by
 have hi:i<x.cps.size:=h
 unfold subAt one
 have e:x.cps.extract i (i+(⟨#[c]⟩:Str).length) = #[x.cps[i]]:=by
  apply Array.ext
  ·simp;show min (i+1) x.cps.size - i=1;lia
  ·intro j h1 h2
   have:j=0:=by simp at h2;omega
   subst this
   simp
 rw [e]
 have e2:x.cps.toList[i]? = some x.cps[i]:=by simp [hi]
 rw [e2]
 by_cases q:x.cps[i]=c
 ·rw [q];simp
 ·rw [N0e (λ z=>q (N0b z))]
  simp [q]
theorem q18 (x:Str) (c:Nat):∀ (n a:Nat) (F:Array Nat) (fr:Nat),fr<=a->F.size<=a->a+n<=x.length+1 ->
 (forIn (List.range' a n) (F,fr) (StrLaws.occBody x (one c) x.length (x.length+1))).run.fst.toList=F.toList++(List.range' a n).filter λ i=>decide (x.cps.toList[i]? = some c)
 | 0,a,F,fr,_,_,_=>by simp
 | n+1,a,F,fr,h1,h2,h3=>by
  rw [List.range'_succ,List.forIn_cons]
  unfold StrLaws.occBody
  by_cases q:x.cps.toList[a]? = some c
  ·have ha:a<x.length:=by
    have:=(N04.1 q).1
    rw [N0g] at this
    exact this
   rw [N0j ⟨⟨⟨by show F.size<x.length+1;lia,h1⟩,by show a+1<=x.length;assumption⟩,by rw [q4Z x c a ha];exact N0o q⟩]
   have:=q18 x c n (a+1) (F.push a) (a+1) (N07 _) (by rw [Array.size_push];simp_all) (by lia)
   rw [N1e,N0j (N0o q)]
   show (forIn (List.range' (a+1) n) (F.push a,a+1) (StrLaws.occBody x (one c) x.length (x.length+1))).run.fst.toList=_
   rw [this]
   simp
  ·rw [N0l (λ z=>by
    have hx:a+1<=x.length:=z.1.2
    have:=z.2
    rw [q4Z x c a (by assumption)] at this
    exact q (of_decide_eq_true this))]
   have:=q18 x c n (a+1) F fr (by lia) (by lia) (by lia)
   rw [N1e,N0l (by simpa using q)]
   exact this
theorem q50 (x:Str) (c:Nat):occurrences x (one c) 0 x.length (x.length+1)=cutsOf c x.cps.toList:=by
 rw [StrLaws.occ_eq,q18 x c (x.length+1 - 0) 0 #[] 0 (N07 _) (N07 _) (by simp)]
 unfold cutsOf
 have hl:x.cps.toList.length=x.length:=by simp;rfl
 rw [hl,show x.length+1 - 0=x.length+1 from rfl,<- List.range_eq_range',List.range_succ,List.filter_append]
 have:([x.length].filter λ i=>decide (x.cps.toList[i]? = some c))=[]:=by
  rw [N1e,N0l (by rw [List.getElem?_eq_none (by simp_all)];simp)];rfl
 rw [this]
 simp
noncomputable def partsL (l:List Nat) (cuts:List Nat):List (List Nat):=((0::cuts.map (· + 1)).zip (cuts++[l.length])).map λ p=>(l.drop p.1).take (p.2 - p.1)
theorem q9E {c:Nat}{t r:List Nat}(h:c∉t):cutsOf c (t++c::r)=t.length::(cutsOf c r).map (· + (t.length+1)):=by
 unfold cutsOf
 rw [N06,N0h,show t.length+(r.length+1)=t.length+1+r.length by lia,List.range_add,List.filter_append,List.range_succ,List.filter_append]
 have e1:((List.range t.length).filter λ i=>decide ((t++c::r)[i]? = some c))=[]:=by
  rw [List.filter_eq_nil_iff]
  intro i hi
  have hi:=List.mem_range.1 hi
  rw [N0x hi,N08 hi]
  intro z
  exact h ((N0b (of_decide_eq_true z))▸N0z hi)
 have e2:([t.length].filter λ i=>decide ((t++c::r)[i]? = some c))=[t.length]:=by
  rw [N1e,N0j (N0o (by simp))];rfl
 rw [e1,e2,List.nil_append,List.filter_map]
 show t.length::_=_
 congr 1
 have e3:((List.range r.length).filter ((λ i=>decide ((t++c::r)[i]? = some c)) ∘ λ x=>t.length+1+x))=(List.range r.length).filter λ i=>decide (r[i]? = some c):=by
  refine List.filter_congr λ i o_=>?_
  show decide ((t++c::r)[t.length+1+i]? = some c)=decide (r[i]? = some c)
  rw [N19 (by lia),show t.length+1+i - t.length=i+1 by lia,List.getElem?_cons_succ]
 rw [e3]
 refine List.map_congr_left λ i o_=>?_
 lia
theorem q4a {c:Nat}{t:List Nat}(h:c∉t):cutsOf c t=[]:=by
 unfold cutsOf
 rw [List.filter_eq_nil_iff]
 intro i hi z
 have hi:=List.mem_range.1 hi
 rw [N08 hi] at z
 exact h ((N0b (of_decide_eq_true z))▸N0z hi)
theorem q8s (c:Nat) (t r C:List Nat):partsL (t++c::r) (t.length::C.map (· + (t.length+1)))=t::partsL r C:=by
 unfold partsL
 have e:(((t.length::C.map (· + (t.length+1))).map (· + 1)))=(0::C.map (· + 1)).map (· + (t.length+1)):=by
  rw [N09,N09,N1q,N1q]
  congr 1
  ·simp
  ·refine List.map_congr_left λ i o_=>?_
   simp only [Function.comp]
   lia
 have e2:C.map (· + (t.length+1))++[(t++c::r).length]=(C++[r.length]).map (· + (t.length+1)):=by
  rw [N14,N06,N0h,N09,List.map_nil]
  congr 2
  lia
 rw [e,List.cons_append,e2,List.zip_cons_cons,N09]
 congr 1
 ·simp
 ·rw [List.zip_map,N1q]
  refine List.map_congr_left λ p o_=>?_
  obtain ⟨i,j⟩:=p
  show ((t++c::r).drop (i+(t.length+1))).take (j+(t.length+1) - (i+(t.length+1)))=(r.drop i).take (j - i)
  rw [show j+(t.length+1) - (i+(t.length+1))=j - i by lia]
  congr 1
  rw [show i+(t.length+1)=t.length+(i+1) by lia,<- List.drop_drop,List.drop_left,List.drop_succ_cons]
theorem q8t (c:Nat) (x:Str):(partsBetween x (cutsOf c x.cps.toList) 1).map (λ y=>y.cps.toList)=partsL x.cps.toList (cutsOf c x.cps.toList):=by
 unfold partsBetween partsL
 have hl:x.cps.toList.length=x.length:=by rw [N0g];rfl
 rw [N1q,hl]
 refine List.map_congr_left λ p o_=>?_
 obtain ⟨i,j⟩:=p
 show (strSub x i j).cps.toList=(x.cps.toList.drop i).take (j - i)
 unfold strSub
 rw [Array.toList_extract,N1g]
theorem q1j (c:Nat) (hc:c<256) (x:Str):(Txt.split x (one c)).map (λ y=>y.cps.toList)=partsL x.cps.toList (cutsOf c x.cps.toList):=by
 unfold Txt.split
 rw [q50]
 have hk:Str.strKind (one c)=1:=by unfold Str.strKind one;rw [N0j (by simp [hc])]
 have hk2:1<=Str.strKind x:=by unfold Str.strKind;split<;>first | lia | (split<;>simp)
 have h1:(one c).length=1:=rfl
 by_cases e:cutsOf c x.cps.toList=[]
 ·have:partsL x.cps.toList (cutsOf c x.cps.toList)=[x.cps.toList]:=by
   rw [e];unfold partsL
   simp [N1l]
  rw [this,e]
  split
  ·rfl
  ·rfl
 ·rw [N0l (by
   rw [hk,Bool.or_eq_true,decide_eq_true_eq,decide_eq_true_eq]
   intro z
   rcases z with z | z
   ·rw [h1] at z
    refine e (q4a ?_)
    have:x.cps.toList=[]:=by
     rw [<- List.length_eq_zero_iff,N0g]
     have:x.cps.size=x.length:=rfl
     simp_all
    rw [this];simp
   ·simp_all),N0l (by rw [List.isEmpty_iff];exact e),h1]
  exact q8t c x
theorem q8u {c:Nat}(hc:c<256){t r:Str}(h:c∉t.cps.toList):Txt.split (t++one c++r) (one c)=t::Txt.split r (one c):=by
 have inj:∀ {a b:List Str},a.map (λ y=>y.cps.toList)=b.map (λ y=>y.cps.toList)->a=b:=λ {a}=>by
  induction a with
  | nil=>intro b h;cases b with
   | nil=>rfl
   | cons _ _=>cases h
  | cons x a ih=>intro b h;cases b with
   | nil=>cases h
   | cons y b =>
    rw [N09,N09] at h
    have h1:=List.head_eq_of_cons_eq h
    have h2:=List.tail_eq_of_cons_eq h
    rw [ih h2]
    congr 1
    cases x;cases y
    congr 1
    exact Array.toList_inj.1 h1
 apply inj
 rw [N09,q1j c hc,q1j c hc]
 have e:(t++one c++r).cps.toList=t.cps.toList++c::r.cps.toList:=by
  show ((t.cps ++ #[c])++r.cps).toList=_
  simp
 rw [e,q9E h,q8s]
theorem q2B {c:Nat}(hc:c<256){t:Str}(h:c∉t.cps.toList):Txt.split t (one c)=[t]:=by
 unfold Txt.split
 rw [q50,q4a h]
 split
 ·rfl
 ·rfl
theorem U0 {c:Nat}(hc:c<256):∀ {ts:List Str},ts≠[]->(∀ t∈ts,c∉t.cps.toList)->Txt.split (Str.join (one c) ts) (one c)=ts
 | [],h,_=>absurd rfl h
 | [t],_,h=>q2B hc (h t (N00 ..))
 | t::u::r,_,h=>by
  show Txt.split (t++one c++Str.join (one c) (u::r)) (one c)=_
  rw [q8u hc (h t (N00 ..)),U0 hc (by simp) λ s m=>h s (N02 _ m)]
theorem q5V (c:Nat):∀ l:List Nat,(cutsOf c l).length=l.count c
 | []=>rfl
 | a::l=>by
  unfold cutsOf
  rw [N0h,List.range_succ_eq_map,N1e,List.filter_map,List.count_cons,<- q5V c l]
  have e:((List.range l.length).filter ((λ i=>decide ((a::l)[i]? = some c)) ∘ Nat.succ))=cutsOf c l:=rfl
  rw [e]
  by_cases q:a=c
  ·rw [N0j (N0o (by rw [List.getElem?_cons_zero,q])),N0j (by rw [q];exact beq_self_eq_true _),N0h,N01]
  ·rw [N0l (by simpa using q),N0l (by simpa using q),N01,Nat.add_zero]
theorem q4b (x:Str) (c:Nat):Txt.count x (one c)=(x.cps.toList.count c:Nat):=by
 unfold Txt.count
 rw [q50,q5V]
theorem X6 {c:Nat}{t y r:Str}{y':List Nat}(hy:y.cps.toList=c::y') (h:c∉t.cps.toList):Txt.partition (t++y++r) y=(t,y,r):=by
 have e:(t++y++r).cps.toList=t.cps.toList++(y.cps.toList++r.cps.toList):=by
  show ((t.cps++y.cps)++r.cps).toList=_
  simp
 have lt:t.cps.toList.length=t.length:=by rw [N0g];rfl
 have ly:y.cps.toList.length=y.length:=by rw [N0g];rfl
 have lx:(t++y++r).length=t.length+y.length+r.length:=by rw [z5,z5]
 have sub:∀ i,subAt (t++y++r) y i=true↔(((t++y++r).cps.toList.drop i).take y.length=y.cps.toList):=λ i=>by
  unfold subAt
  rw [beq_iff_eq,<- Array.toList_inj,Array.toList_extract,N1g,show i+y.length - i=y.length by simp]
 have hAt:StrLaws.At (t++y++r) y (t++y++r).length t.length:=⟨by simp_all,(sub t.length).2 (by
  rw [e,<- lt,List.drop_left,<- ly,List.take_left])⟩
 have hno:∀ k,k<t.length->¬ StrLaws.At (t++y++r) y (t++y++r).length k:=λ k hk z=>by
  have z:=(sub k).1 z.2
  have q:(((t++y++r).cps.toList.drop k).take y.length)[0]? = some c:=by rw [z,hy];rfl
  have y1:0<y.length:=by rw [<- ly,hy];simp
  rw [List.getElem?_take_of_lt y1,List.getElem?_drop,Nat.add_zero,e,N0x (by assumption)] at q
  exact h (N0u q)
 have cut:∀ a b:Str,a.cps.toList=b.cps.toList->a=b:=λ a b q=>by
  cases a;cases b
  congr 1
  exact Array.toList_inj.1 q
 unfold Txt.partition
 rcases StrLaws.occ_head (t++y++r) y 1 (N07 _) with ⟨_,q⟩ | ⟨i,l,q1,q2,q3⟩
 ·exact absurd hAt (q _)
 ·rw [q1]
  have:i=t.length:=by
   rcases Nat.lt_trichotomy i t.length with z | z | z
   ·exact absurd q2 (hno i z)
   ·exact z
   ·exact absurd hAt (q3 _ z)
  subst this
  show (strSub _ 0 t.length,y,strSub _ (t.length+y.length) _)=_
  have a1:strSub (t++y++r) 0 t.length=t:=cut _ _ (by
   unfold strSub
   rw [Array.toList_extract,N1g,List.drop_zero,e,Nat.sub_zero,<- lt,List.take_left])
  have a2:strSub (t++y++r) (t.length+y.length) (t++y++r).length=r:=cut _ _ (by
   unfold strSub
   rw [Array.toList_extract,N1g,e,<- List.drop_drop,<- lt,List.drop_left,<- ly,List.drop_left]
   refine N1l ?_
   have:r.cps.toList.length=r.length:=by rw [N0g];rfl
   rw [this,lx,lt,ly]
   simp)
  rw [a1,a2]
theorem q5W (t:Str) (c:Nat):Txt.endswith (t++one c) (one c)=true:=by
 unfold Txt.endswith
 have lx:(t++one c).length=t.length+1:=by rw [z5];rfl
 rw [N0q]
 refine ⟨N0o (by rw [lx];show 0+1<=_;simp),?_⟩
 rw [lx,show (one c).length=1 from rfl,show t.length+1 - 1=t.length by simp,q4Z _ _ _ (by rw [lx];simp)]
 refine N0o ?_
 have e:(t++one c).cps.toList=t.cps.toList++[c]:=by
  show (t.cps ++ #[c]).toList=_
  simp
 have lt:t.cps.toList.length=t.length:=by rw [N0g];rfl
 rw [e,<- lt]
 simp
end Fw
namespace Fw
open PySem Dl
noncomputable def bal (t:Str):Int:=(t.cps.toList.count 40:Nat) - (t.cps.toList.count 41:Nat)
noncomputable def balS (ts:List Str):Int:=(ts.map bal).sum
theorem Q5 (a b:Str):(a++b).cps.toList=a.cps.toList++b.cps.toList:=by
 show (a.cps++b.cps).toList=_
 simp
theorem q51 (a b:Str):bal (a++b)=bal a+bal b:=by
 unfold bal
 rw [Q5,List.count_append,List.count_append]
 lia
theorem q9F (a b:List Str):balS (a++b)=balS a+balS b:=by unfold balS;rw [N14,List.sum_append]
noncomputable def Pos:Int->List Str->Prop
 | _,[]=>True
 | e,t::ts=>0<e/\Pos (e+bal t) ts
noncomputable def Nn:Int->List Str->Prop
 | _,[]=>True
 | e,t::ts=>0<=e+bal t/\Nn (e+bal t) ts
theorem W7 (t:Str) (ts:List Str):balS (t::ts)=bal t+balS ts:=rfl
theorem q4c:∀ {ts:List Str}{e:Int},Pos e ts->e+balS ts=0->Nn e ts
 | [],_,_,_=>trivial
 | t::ts,e,h,s=>by
  rw [W7] at s
  refine ⟨?_,q4c h.2 (by lia)⟩
  cases ts with
  | nil=>have:balS []=0:=rfl;simp_all
  | cons u r=>exact Int.le_of_lt h.2.1
theorem z0x:∀ {a b:List Str}{e:Int},Nn e a->Nn (e+balS a) b->Nn e (a++b)
 | [],b,e,_,h=>by have e0:balS []=0:=rfl;rw [e0,Int.add_zero] at h;exact h
 | t::a,b,e,h1,h2=>⟨h1.1,z0x h1.2 (by rw [W7] at h2;rw [show e+bal t+balS a=e+(bal t+balS a) by lia];exact h2)⟩
theorem q4d:∀ {ts:List Str}{e:Int},0<=e->Nn e ts->Pos (e+1) ts
 | [],_,_,_=>trivial
 | t::ts,e,h0,h=>⟨by lia,by rw [show e+1+bal t=e+bal t+1 by lia];exact q4d h.1 h.2⟩
noncomputable def sufT (s:Str):List Str->List Str
 | []=>[]
 | [t]=>[t++s]
 | t::u::r=>t::sufT s (u::r)
noncomputable def preT (w:Str):List Str->List Str
 | []=>[]
 | t::r=>(w++t)::r
theorem z0y (s:Str):∀ {ts:List Str},ts≠[]->sufT s ts≠[]
 | [],h=>absurd rfl h
 | [t],_=>by rw [sufT];simp
 | t::u::r,_=>by rw [sufT];simp
theorem q8v (s:Str):∀ {ts:List Str}{e:Int},Pos e ts->Pos e (sufT s ts)
 | [],_,h=>h
 | [t],e,h=>by rw [sufT];exact ⟨h.1,trivial⟩
 | t::u::r,e,h=>by rw [sufT];exact ⟨h.1,q8v s h.2⟩
theorem q8w (s:Str):∀ {ts:List Str},ts≠[]->balS (sufT s ts)=balS ts+bal s
 | [],h=>absurd rfl h
 | [t],_=>by rw [sufT,W7,W7,q51];have:balS []=0:=rfl;simp_all
 | t::u::r,_=>by
  have:=q8w s (ts:=u::r) (by simp)
  rw [sufT,W7,W7,this]
  lia
theorem q3i (s sep:Str):∀ {ts:List Str},ts≠[]->Str.join sep (sufT s ts)=Str.join sep ts++s
 | [],h=>absurd rfl h
 | [t],_=>rfl
 | [t,u],_=>by
  show t++sep++(u++s)=t++sep++u++s
  simp only [Q4]
 | t::u::v::r,_=>by
  have h:=q3i s sep (ts:=u::v::r) (by simp)
  rw [sufT]
  show t++sep++Str.join sep (sufT s (u::v::r))=t++sep++Str.join sep (u::v::r)++s
  rw [h]
  simp only [Q4]
theorem q9G (w sep:Str):∀ {ts:List Str},ts≠[]->Str.join sep (preT w ts)=w++Str.join sep ts
 | [],h=>absurd rfl h
 | [t],_=>rfl
 | t::u::r,_=>by
  show (w++t)++sep++Str.join sep (u::r)=w++(t++sep++Str.join sep (u::r))
  simp only [Q4]
theorem q5X (sep:Str):∀ {a b:List Str},a≠[]->b≠[]->Str.join sep (a++b)=Str.join sep a++sep++Str.join sep b
 | [],_,h,_=>absurd rfl h
 | [x],[],_,h=>absurd rfl h
 | [x],y::b,_,_=>rfl
 | x::y::a,b,_,hb=>by
  have h:=q5X sep (a:=y::a) (b:=b) (by simp) hb
  show x++sep++Str.join sep (y::a++b)=x++sep++Str.join sep (y::a)++sep++Str.join sep b
  rw [h]
  simp only [Q4]
mutual
noncomputable def Nd.toks:Nd->List Str
 | .sun=>[s!"sun"]
 | .eats x=>[x]
 | .any ps=>sufT s!")" (preT (s!"any"++s!"(") (toksL ps))
 | .all ps=>sufT s!")" (preT (s!"all"++s!"(") (toksL ps))
 | .some n ps=>sufT s!")" (preT (((toString n:Str)++s!"of")++s!"(") (toksL ps))
noncomputable def toksL:List Nd->List Str
 | []=>[]
 | d::r=>d.toks++toksL r
end
structure Tk (ts:List Str) (x:Str):Prop where
 ne:ts≠[]
 join:Str.join s!" " ts=x
 sp:∀ t∈ts,32∉t.cps.toList
 sum:balS ts=0
 pos:∀ t r,ts=t::r->Pos (bal t) r
structure Tks (ts:List Str) (xs:List Str):Prop where
 ne:ts≠[]
 join:Str.join s!" " ts=Str.join s!" " xs
 sp:∀ t∈ts,32∉t.cps.toList
 sum:balS ts=0
 nn:Nn 0 ts
theorem Tk.nn {ts:List Str}{x:Str}(h:Tk ts x):Nn 0 ts:=by
 cases ts with
 | nil=>exact trivial
 | cons t r =>
  have p:=h.pos t r rfl
  have s:=h.sum
  rw [W7] at s
  have n:=q4c p s
  refine ⟨?_,by rw [Int.zero_add];exact n⟩
  cases r with
  | nil=>have:balS []=0:=rfl;simp_all
  | cons u q=>have:=p.1;lia
theorem Tks.one {ts:List Str}{x:Str}(h:Tk ts x):Tks ts [x]:=⟨h.ne,h.join,h.sp,h.sum,h.nn⟩
theorem Tks.cons {ts us:List Str}{x:Str}{xs:List Str}(h:Tk ts x) (k:Tks us xs) (hx:xs≠[]):Tks (ts++us) (x::xs):=by
 refine ⟨λ z=>h.ne (List.append_eq_nil_iff.1 z).1,?_,λ t m=>(N0a.1 m).elim (h.sp t) (k.sp t),by rw [q9F,h.sum,k.sum];rfl,z0x h.nn (by rw [h.sum];exact k.nn)⟩
 rw [q5X _ h.ne k.ne,h.join,k.join]
 cases xs with
 | nil=>exact absurd rfl hx
 | cons y r=>rfl
theorem Tk.wrap {ts xs:List Str}{w:Str}(k:Tks ts xs) (hw:bal w=0) (hs:32∉w.cps.toList) :
 Tk (sufT s!")" (preT (w++s!"(") ts)) (w++(s!"("++(Str.join s!" " xs++(s!")"++Str.empty)))):=by
 have b1:bal s!"(" = 1:=by decide +kernel
 have b2:bal s!")" = -1:=by decide +kernel
 obtain ⟨t,r,rfl⟩:∃ t r,ts=t::r:=by
  cases ts with
  | nil=>exact absurd rfl k.ne
  | cons t r=>exact ⟨t,r,rfl⟩
 have pn:preT (w++s!"(") (t::r)≠[]:=by rw [preT];simp
 have bt:bal (w++s!"("++t)=bal t+1:=by rw [q51,q51,hw,b1];lia
 have sm:=k.sum
 rw [W7] at sm
 have nn:=k.nn
 refine ⟨z0y _ pn,?_,?_,?_,?_⟩
 ·rw [q3i _ _ pn,q9G _ _ k.ne,k.join]
  have e0:∀ a:Str,a++Str.empty=a:=λ a=>by
   cases a;show Str.mk _=_;congr 1
  rw [e0]
  simp only [Q4]
 ·have sp:∀ (s:Str),32∉s.cps.toList->∀ {l:List Str},(∀ t∈l,32∉t.cps.toList)->∀ t∈sufT s l,32∉t.cps.toList:=λ s hs2 {l}=>by
   induction l with
   | nil=>intro h t m;cases m
   | cons a l ih =>
    intro h t m
    cases l with
    | nil =>
     rw [sufT,N0f] at m
     rw [m,Q5,N0a]
     exact λ z=>z.elim (h a (N00 ..)) hs2
    | cons b l =>
     rw [sufT] at m
     rcases N0c.1 m with rfl | m
     ·exact h _ (N00 ..)
     ·exact ih (λ t m=>h t (N02 _ m)) t m
  refine sp _ (by decide +kernel) λ u m=>?_
  rw [preT] at m
  rcases N0c.1 m with rfl | m
  ·rw [Q5,Q5,N0a,N0a]
   rintro ((z | z) | z)
   ·exact hs z
   ·exact absurd z (by decide +kernel)
   ·exact k.sp t (N00 ..) z
  ·exact k.sp u (N02 _ m)
 ·rw [q8w _ pn,preT,W7,bt,b2]
  lia
 ·intro t' r' e
  rw [preT] at e
  cases r with
  | nil =>
   rw [sufT] at e
   cases e
   exact trivial
  | cons u q =>
   rw [sufT] at e
   cases e
   rw [bt]
   have n2:=nn.2
   rw [Int.zero_add] at n2
   have h0:=nn.1
   rw [Int.zero_add] at h0
   exact q8v _ (q4d h0 n2)
theorem q0e {x:Str}(h:Nm x){c:Nat}(hc:c<97):c∉x.cps.toList:=λ m=>by have:=(h.2.2.1 c m).1;lia
theorem z3D {x:Str}(h:Nm x):bal x=0:=by
 unfold bal
 rw [List.count_eq_zero.2 (q0e h (by simp)),List.count_eq_zero.2 (q0e h (by simp))]
 rfl
theorem z0z:∀ n:Int,1<=n->n<=4->bal ((toString n:Str)++s!"of")=0/\32∉((toString n:Str)++s!"of").cps.toList/\40∉((toString n:Str)++s!"of").cps.toList:=by
 intro n h1 h2
 have:n=1\/n=2\/n=3\/n=4:=by lia
 rcases this with rfl | rfl | rfl | rfl<;>decide +kernel
mutual
theorem z1Q {ss:List Str}{sm:Bool}(hs:∀ x∈ss,Nm x):∀ d:Nd,d.ok ss sm->Tk d.toks d.txt
 | .sun,_=>by
  rw [Nd.toks,Nd.txt]
  exact ⟨by simp,rfl,λ t m=>by rw [N0f.1 m];decide +kernel,by decide +kernel,λ t r e=>by cases e;exact trivial⟩
 | .eats x,h=>by
  rw [Nd.ok] at h
  rw [Nd.toks,Nd.txt]
  refine ⟨by simp,rfl,λ t m=>by rw [N0f.1 m];exact q0e (hs x h) (by simp),?_,λ t r e=>by cases e;exact trivial⟩
  rw [W7,z3D (hs x h)];rfl
 | .any ps,h=>by
  rw [Nd.ok] at h
  rw [Nd.toks,Nd.txt,q01]
  exact Tk.wrap (q2C hs ps h.2.2 (λ z=>by rw [z] at h;exact absurd h.1 (by simp))) (by decide +kernel) (by decide +kernel)
 | .all ps,h=>by
  rw [Nd.ok] at h
  rw [Nd.toks,Nd.txt,q01]
  exact Tk.wrap (q2C hs ps h.2.2.2 (λ z=>by rw [z] at h;exact absurd h.2.1 (by simp))) (by decide +kernel) (by decide +kernel)
 | .some n ps,h=>by
  rw [Nd.ok] at h
  rw [Nd.toks,Nd.txt,q01]
  have q:=z0z n h.2.1 (by have:=h.2.2.1;have:=h.2.2.2.1;lia)
  exact Tk.wrap (q2C hs ps h.2.2.2.2 (λ z=>by rw [z] at h;have:=h.2.1;have:=h.2.2.1;simp at this;lia)) q.1 q.2.1
theorem q2C {ss:List Str}{sm:Bool}(hs:∀ x∈ss,Nm x):∀ l:List Nd,okL ss sm l->l≠[]->Tks (toksL l) (l.map Nd.txt)
 | [],_,h=>absurd rfl h
 | [d],h,_=>by
  rw [okL] at h
  rw [toksL,toksL,N10]
  exact Tks.one (z1Q hs d h.1)
 | d::e::r,h,_=>by
  rw [okL] at h
  rw [toksL]
  exact Tks.cons (z1Q hs d h.1) (q2C hs (e::r) h.2 (by simp)) (by simp)
end
noncomputable def stepS (p:List Str×Int) (t:Str):List Str×Int :=
 (if 0<p.2 then p.1.set (p.1.length - 1) ((p.1[p.1.length - 1]?).getD ""++s!" "++t) else p.1++[t],p.2+bal t)
theorem q8x {P:List Str}{A t:Str}{e:Int}(h:0<e):stepS (P++[A],e) t=(P++[A++s!" "++t],e+bal t):=by
 unfold stepS
 rw [N0j h]
 simp
theorem q5Y:∀ {ts:List Str}{P:List Str}{A:Str}{e:Int},ts≠[]->Pos e ts->ts.foldl stepS (P++[A],e)=(P++[A++s!" "++Str.join s!" " ts],e+balS ts)
 | [],_,_,_,h,_=>absurd rfl h
 | [t],P,A,e,_,h=>by
  rw [List.foldl_cons,List.foldl_nil,q8x h.1,W7]
  have:balS []=0:=rfl
  rw [this,Int.add_zero]
  rfl
 | t::u::r,P,A,e,_,h=>by
  rw [List.foldl_cons,q8x h.1,q5Y (by simp) h.2,W7 t (u::r)]
  have e1:A++s!" "++t++s!" "++Str.join s!" " (u::r)=A++s!" "++Str.join s!" " (t::u::r):=by
   show _=A++s!" "++(t++s!" "++Str.join s!" " (u::r))
   simp only [Q4]
  rw [e1,show e+bal t+balS (u::r)=e+(bal t+balS (u::r)) by lia]
theorem q9H {ts:List Str}{x:Str}(k:Tk ts x) (P:List Str):ts.foldl stepS (P,0)=(P++[x],0):=by
 obtain ⟨t,r,rfl⟩:∃ t r,ts=t::r:=by
  cases ts with
  | nil=>exact absurd rfl k.ne
  | cons t r=>exact ⟨t,r,rfl⟩
 have s:=k.sum
 rw [W7] at s
 have e:stepS (P,0) t=(P++[t],bal t):=by
  unfold stepS
  rw [N0l (by simp)]
  simp
 rw [List.foldl_cons,e]
 cases r with
 | nil =>
  rw [List.foldl_nil,<- k.join]
  have:balS []=0:=rfl
  rw [show bal t=0 by simp_all]
  rfl
 | cons u q =>
  rw [q5Y (by simp) (k.pos t _ rfl),s,<- k.join]
  rfl
theorem q3j {ss:List Str}{sm:Bool}(hs:∀ x∈ss,Nm x):∀ (l:List Nd) (P:List Str),okL ss sm l->(toksL l).foldl stepS (P,0)=(P++l.map Nd.txt,0)
 | [],P,_=>by rw [toksL];simp
 | d::r,P,h=>by
  rw [okL] at h
  rw [toksL,List.foldl_append,q9H (z1Q hs d h.1),q3j hs r _ h.2,N09,List.append_assoc]
  rfl
theorem q8y:s!" " = one 32:=by decide +kernel
theorem q2D:s!"(" = one 40:=by decide +kernel
theorem q2E:s!")" = one 41:=by decide +kernel
theorem q8z:Str.ofString "\n" = one 10:=by decide +kernel
theorem z3E (t:Str):dCnt (.str t) (.str s!"(")=.ok (.int (t.cps.toList.count 40:Nat)):=by
 show Rz.ok (D.int (Txt.count t _))=_
 rw [q2D,q4b]
theorem z3F (t:Str):dCnt (.str t) (.str s!")")=.ok (.int (t.cps.toList.count 41:Nat)):=by
 show Rz.ok (D.int (Txt.count t _))=_
 rw [q2E,q4b]
theorem q8A {n:Nat}(h:0<n):ixD n (-1)=some (n - 1):=by
 unfold ixD
 rw [N0l (by decide),N0j (by lia)]
 congr 1
 lia
theorem z1R (P:List Str) (h:P≠[]):dIx (strsL P) (.int (-1))=.ok (.str ((P[P.length - 1]?).getD "")):=by
 have hp:0<P.length:=List.length_pos_iff.2 h
 have e:atD (P.map D.str) (-1)=some (.str ((P[P.length - 1]?).getD "")):=by
  unfold atD
  rw [N01,q8A hp]
  show (P.map D.str)[P.length - 1]? = _
  rw [N0i,N08 (by omega)]
  rfl
 unfold strsL
 simp [e]
theorem q9I (P:List Str) (h:P≠[]) (s:Str):dPut (strsL P) (.int (-1)) (.str s)=.ok (strsL (P.set (P.length - 1) s)):=by
 have hp:0<P.length:=List.length_pos_iff.2 h
 show (match ixD (P.map D.str).length (-1) with | some j=>Rz.ok (D.lst ((P.map D.str).set j (.str s))) | none=>.un)=_
 rw [N01,q8A hp]
 show Rz.ok (D.lst ((P.map D.str).set (P.length - 1) (.str s)))=_
 unfold strsL
 rw [List.map_set]
noncomputable def szS (ts:List Str):Nat:=(ts.map λ t=>t.length+1).sum
theorem q8B (ts:List Str) (t:Str):szS (ts++[t])=szS ts+(t.length+1):=by unfold szS;rw [N14,List.sum_append];simp
theorem q22 (ts:List Str):∀ m,m<=ts.length->(∀ s∈((ts.take m).foldl stepS ([],0)).1,s.length<=szS (ts.take m))/\((ts.take m).foldl stepS ([],0)).1.length<=m/\(0<((ts.take m).foldl stepS ([],0)).2->((ts.take m).foldl stepS ([],0)).1≠[])
 | 0,_=>⟨λ s m=>(N1d m).elim,N07 _,λ h=>absurd h (by simp)⟩
 | m+1,hm=>by
  obtain ⟨h1,h2,h3⟩:=q22 ts m (by lia)
  have htk:ts.take (m+1)=ts.take m++[ts[m]]:=by rw [List.take_succ,N08 (by assumption)];rfl
  rw [htk,List.foldl_append,List.foldl_cons,List.foldl_nil,q8B]
  generalize (ts.take m).foldl stepS ([],0)=p at *
  generalize ts[m]=t at *
  unfold stepS
  by_cases c:0<p.2
  ·rw [N0j c]
   have hne:=h3 c
   have hp:0<p.1.length:=List.length_pos_iff.2 hne
   refine ⟨λ s m=>?_,by rw [N1h];lia,λ o_ z=>hne ((List.set_eq_nil_iff _ _).1 z)⟩
   rcases List.mem_or_eq_of_mem_set m with q | q
   ·have:=h1 s q;lia
   ·have hl:=h1 ((p.1[p.1.length - 1]?).getD "") (by rw [N08 (by omega)];exact N0z _)
    rw [q,z5,z5,show s!" ".length=1 by decide +kernel]
    lia
  ·rw [N0l c]
   refine ⟨λ s m=>?_,by rw [N06,N11];simp_all,λ o_ z=>by simp at z⟩
   rcases N0a.1 m with q | q
   ·have:=h1 s q;lia
   ·rw [N0f.1 q];lia
theorem q0t {x:Str}{ts:List Str}(hx:Txt.split x (one 32)=ts) (hl:x.length<=100000) (hs:szS ts<=1000000) (hn:ts.length<=100000):F_split_parts [.str x]=.ok (strsL (ts.foldl stepS ([],0)).1):=by
 unfold F_split_parts y3 U9
 generalize hB:(W1 (Y7 (gB (gOp dGt (gVar 2) (gC (.int 0)))) (z26 1 (gUn q8Q (gC (.int 1))) (gOp dAddS (gOp dAddS (gOp dIx (gVar 1) (gUn q8Q (gC (.int 1)))) (gC (.str " "))) (gVar 3))) (q9m 1 (q3U 3)))
  (gSet 2 (gOp q9l (gOp dAdd (gVar 2) (gOp dCnt (gVar 3) (gC (.str "(")))) (gOp dCnt (gVar 3) (gC (.str ")"))))))=B
 have hloop:v4 3 [3] B (ts.map D.str) [some (.str x),some (.lst []),some (.int 0),none]=.ok (.nx [some (.str x),some (strsL (ts.foldl stepS ([],0)).1),some (.int (ts.foldl stepS ([],0)).2),none]):=by
  have z:=q4S (g:=D.str) (i:=3) (fg:=[3]) (body:=B) (l:=ts) (δ:=[some (.str x),some (.lst []),some (.int 0),none]) (λ m=>[some (.str x),some (strsL ((ts.take m).foldl stepS ([],0)).1),some (.int ((ts.take m).foldl stepS ([],0)).2),none]) rfl λ m t hm=>?_
  ·rwa [List.take_length] at z
  have htk:ts.take (m+1)=ts.take m++[t]:=by rw [List.take_succ,hm];rfl
  obtain ⟨i1,i2,i3⟩:=q22 ts m (by have:=(N04.1 hm).1;lia)
  have hsz:szS (ts.take m)+(t.length+1)<=1000000:=by
   rw [<- q8B,<- htk]
   have e:=congrArg szS (List.take_append_drop (m+1) ts)
   unfold szS at e hs ⊢
   rw [N14,List.sum_append] at e
   lia
  have hml:=(N04.1 hm).1
  rw [htk,List.foldl_append,List.foldl_cons,List.foldl_nil]
  generalize (ts.take m).foldl stepS ([],0)=p at *
  refine ⟨[some (.str x),some (strsL (stepS p t).1),some (.int (stepS p t).2),some (.str t)],.inl ?_,rfl⟩
  have k1:=z3E t
  have k2:=z3F t
  rw [<- hB]
  have hsum:(p.2+((t.cps.toList.count 40:Nat):Int) - ((t.cps.toList.count 41:Nat):Int))=(stepS p t).2:=by
   unfold stepS bal
   show _=p.2+_
   lia
  generalize ((t.cps.toList.count 40:Nat):Int)=C1 at *
  generalize ((t.cps.toList.count 41:Nat):Int)=C2 at *
  by_cases c:0<p.2
  ·have e:(stepS p t).1=p.1.set (p.1.length - 1) ((p.1[p.1.length - 1]?).getD ""++s!" "++t):=by unfold stepS;rw [N0j c]
   have a1:=z1R p.1 (i3 c)
   have a2:=q9I p.1 (i3 c) ((p.1[p.1.length - 1]?).getD ""++s!" "++t)
   have hl1:=i1 ((p.1[p.1.length - 1]?).getD "") (by
    have:=List.length_pos_iff.2 (i3 c)
    rw [N08 (by omega)];exact N0z _)
   rw [<- e] at a2
   have g1:((p.1[p.1.length - 1]?).getD "").length+s!" ".length<=16777216:=by rw [show s!" ".length=1 by decide +kernel];lia
   have g2:((p.1[p.1.length - 1]?).getD ""++s!" ").length+t.length<=16777216:=by rw [z5,show s!" ".length=1 by decide +kernel];lia
   generalize (p.1[p.1.length - 1]?).getD "" = A at *
   have f1:dAddS (.str A) (.str s!" ")=.ok (.str (A++s!" ")):=by simp [g1]
   have f2:dAddS (.str (A++s!" ")) (.str t)=.ok (.str (A++s!" "++t)):=by simp [g2]
   generalize (A++s!" "++t)=A2 at *
   generalize (A++s!" ")=A1 at *
   generalize strsL p.1=S1 at *
   generalize strsL (stepS p t).1=S2 at *
   generalize dCnt=DC at *
   generalize dAddS=DA at *
   simp [c,a1,a2,f1,f2,k1,k2,hsum]
  ·have e:(stepS p t).1=p.1++[t]:=by unfold stepS;rw [N0l c]
   rw [e]
   have e1:strsL (p.1++[t])=.lst (p.1.map D.str++[.str t]):=by unfold strsL;rw [N14];rfl
   have e2:strsL p.1=.lst (p.1.map D.str):=rfl
   have hz:(p.1.map D.str).length<16777216:=by rw [N01];lia
   rw [e1,e2]
   generalize p.1.map D.str=S1 at *
   generalize dCnt=DC at *
   simp [c,hz,k1,k2,hsum]
 have hsp:dSplt (.str x) (.str s!" ")=.ok (.lst (ts.map D.str)):=by
  show Rz.guard _ (Rz.ok (D.lst ((Txt.split x _).map D.str)))=_
  rw [w9 ⟨by decide +kernel,by rw [sizeLine_eq];lia⟩,q8y,hx]
 generalize dSplt=DS1 at *
 generalize ts.map D.str=TS at *
 generalize strsL (ts.foldl stepS ([],0)).1=OUT at *
 simp [startD,hsp,hloop]
theorem z6l (c:Nat):dLe (.str "a") (.str ⟨#[c]⟩)=.ok (.bl (decide (97<=c))):=by
 have ea:s!"a".cps.toList=[97]:=by decide +kernel
 show Rz.ok (D.bl (!decide ([c]<s!"a".cps.toList)))=_
 rw [ea]
 by_cases h:97<=c
 ·rw [N0o h,N0e (by intro q;cases q with | rel q=>lia | cons q=>cases q)];rfl
 ·have q:[c]<[97]:=List.Lex.rel (by simp_all)
  rw [N0e h,N0o q];rfl
theorem z6m (c:Nat):dLe (.str ⟨#[c]⟩) (.str "z")=.ok (.bl (decide (c<=122))):=by
 have ez:s!"z".cps.toList=[122]:=by decide +kernel
 show Rz.ok (D.bl (!decide (s!"z".cps.toList<[c])))=_
 rw [ez]
 by_cases h:c<=122
 ·rw [N0o h,N0e (by intro q;cases q with | rel q=>lia | cons q=>cases q)];rfl
 ·have q:[122]<[c]:=List.Lex.rel (by simp_all)
  rw [N0e h,N0o q];rfl
theorem q9J (x:Str) (hl:x.length<=100000) (ht:∀ c∈x.cps.toList,c<128) (h:40∈x.cps.toList):F_is_name [.str x]=.ok (.bl false):=by
 unfold F_is_name y3 q09
 have hz:x.length<=16777216:=by omega
 by_cases h1:(x.length:Int)<1
 ·simp [startD,hz,h1]
 by_cases h2:(8:Int)<(x.length:Int)
 ·simp [startD,hz,h1,h2]
 by_cases h3:x∈wKEPT_WORDS
 ·simp [startD,hz,h1,h2,h3]
 have hc:compL [] q1n (gChain dLe dLe (gC (.str "a")) (gVar 0) (gC (.str "z"))) (signsD x)=.ok (x.cps.toList.map λ c=>D.bl (decide (97<=c)&&decide (c<=122))):=by
  unfold signsD
  refine U6 λ c m=>?_
  have l1:=z6l c
  have l2:=z6m c
  by_cases q:97<=c
  ·rw [N0o q] at l1 ⊢
   simp [l1,l2]
  ·rw [N0e q] at l1 ⊢
   simp [l1]
 have hb:=q88 (λ c:Nat=>decide (97<=c)&&decide (c<=122)) x.cps.toList
 have ha:∀ (i:Nat) (_:i<x.cps.size),x.cps[i]<128:=λ i h=>by
  have:=ht x.cps[i] (by rw [Array.mem_toList_iff];exact Array.getElem_mem h)
  omega
 have hll:(x.cps.toList.map λ c=>D.bl (decide (97<=c)&&decide (c<=122))).length<=16777216:=by
  rw [N01,N0g];exact hz
 have hf:(x.cps.toList.map λ c:Nat=>decide (97<=c)&&decide (c<=122)).all id=false:=by
  rw [List.all_eq_false]
  exact ⟨false,List.mem_map.2 ⟨40,h,rfl⟩,by simp⟩
 generalize (x.cps.toList.map λ c=>D.bl (decide (97<=c)&&decide (c<=122)))=BS at *
 generalize (x.cps.toList.map λ c:Nat=>decide (97<=c)&&decide (c<=122))=B2 at *
 simp [startD,hz,h1,h2,h3]
 rw [N0j ha]
 simp [capD,hc,hll,hb,hf]
noncomputable def bdN:Nat->Nat
 | 0=>8
 | 1=>8
 | n+2=>4 * bdN (n+1)+9
theorem V3 {ss:List Str}{sm:Bool}(hs:∀ x∈ss,Nm x):∀ (n:Nat) (d:Nd),d.ok ss sm->d.depth<=n->d.txt.length<=bdN n
 | 0,d,_,h=>by have:=J0 d;simp_all
 | 1,d,hk,h=>by
  cases d with
  | sun=>rw [Nd.txt];decide +kernel
  | eats x=>rw [Nd.txt];rw [Nd.ok] at hk;exact (hs x hk).2.1
  | any ps=>exfalso;rw [Nd.depth] at h;rw [Nd.ok] at hk;cases ps with
   | nil=>simp at hk
   | cons d r=>rw [depthL] at h;have:=J0 d;simp_all
  | all ps=>exfalso;rw [Nd.depth] at h;rw [Nd.ok] at hk;cases ps with
   | nil=>simp at hk
   | cons d r=>rw [depthL] at h;have:=J0 d;simp_all
  | some k ps=>exfalso;rw [Nd.depth] at h;rw [Nd.ok] at hk;cases ps with
   | nil=>simp at hk;lia
   | cons d r=>rw [depthL] at h;have:=J0 d;simp_all
 | n+2,d,hk,h=>by
  have h8:8<=bdN (n+1):=by
   clear h hk
   induction n with
   | zero=>exact N07 _
   | succ n ih=>rw [bdN];simp
  have b0:8<=bdN (n+2):=by rw [bdN];simp
  cases d with
  | sun=>rw [Nd.txt];exact N0v (by decide +kernel) b0
  | eats x=>rw [Nd.txt];rw [Nd.ok] at hk;exact N0v (hs x hk).2.1 b0
  | any ps=>rw [bdN];exact q3h hk (by intro z;cases z) (by intro x z;cases z) (λ e m=>V3 hs (n+1) e (Y3 (J7 hk).2 m) (J9 h m)) (J7 hk).1
  | all ps=>rw [bdN];exact q3h hk (by intro z;cases z) (by intro x z;cases z) (λ e m=>V3 hs (n+1) e (Y3 (J7 hk).2 m) (J9 h m)) (J7 hk).1
  | some k ps=>rw [bdN];exact q3h hk (by intro z;cases z) (by intro x z;cases z) (λ e m=>V3 hs (n+1) e (Y3 (J7 hk).2 m) (J9 h m)) (J7 hk).1
theorem q8C {n:Nat}{sep:Str}(h:∀ c∈sep.cps.toList,c<n):∀ {l:List Str},(∀ x∈l,∀ c∈x.cps.toList,c<n)->∀ c∈(Str.join sep l).cps.toList,c<n
 | [],_,c,m=>absurd m (by show c∉Str.empty.cps.toList;simp [Str.empty])
 | [x],hx,c,m=>hx x (N00 ..) c m
 | x::y::r,hx,c,m=>by
  have m:c∈(x++sep++Str.join sep (y::r)).cps.toList:=m
  rw [Q5,Q5,N0a,N0a] at m
  rcases m with (m | m) | m
  ·exact hx x (N00 ..) c m
  ·exact h c m
  ·exact q8C h (λ z mz=>hx z (N02 _ mz)) c m
theorem z1S {ss:List Str}{sm:Bool}{d:Nd}(h:d.ok ss sm):∀ c∈d.word.cps.toList,c<128:=by
 cases d with
 | sun=>exact (by decide +kernel:∀ c∈s!"".cps.toList,c<128)
 | eats x=>exact (by decide +kernel:∀ c∈s!"".cps.toList,c<128)
 | any ps=>exact (by decide +kernel:∀ c∈s!"any".cps.toList,c<128)
 | all ps=>exact (by decide +kernel:∀ c∈s!"all".cps.toList,c<128)
 | some n ps =>
  rw [Nd.ok] at h
  have:n=1\/n=2\/n=3\/n=4:=by have:=h.2.1;have:=h.2.2.1;have:=h.2.2.2.1;lia
  rcases this with rfl | rfl | rfl | rfl
  ·exact (by decide +kernel:∀ c∈((toString (1:Int):Str)++s!"of").cps.toList,c<128)
  ·exact (by decide +kernel:∀ c∈((toString (2:Int):Str)++s!"of").cps.toList,c<128)
  ·exact (by decide +kernel:∀ c∈((toString (3:Int):Str)++s!"of").cps.toList,c<128)
  ·exact (by decide +kernel:∀ c∈((toString (4:Int):Str)++s!"of").cps.toList,c<128)
theorem q8D {ss:List Str}{sm:Bool}(hs:∀ x∈ss,Nm x):∀ (n:Nat) (d:Nd),d.ok ss sm->d.depth<=n->∀ c∈d.txt.cps.toList,c<128
 | 0,d,_,h=>by have:=J0 d;simp_all
 | n+1,d,hk,h=>by
  have ih:=λ e (m:e∈d.parts)=>q8D hs n e (Y3 (J7 hk).2 m) (J9 h m)
  by_cases h1:d=.sun
  ·subst h1;rw [Nd.txt];decide +kernel
  by_cases h2:∃ x,d=.eats x
  ·obtain ⟨x,rfl⟩:=h2
   rw [Nd.ok] at hk
   rw [Nd.txt]
   exact λ c m=>by have:=((hs x hk).2.2.1 c m).2;lia
  have h2:∀ x,d≠.eats x:=λ x z=>h2 ⟨x,z⟩
  rw [q2z d h1 h2]
  intro c m
  rw [Q5,Q5,Q5,Q5,N0a,N0a,N0a,N0a] at m
  rcases m with m | m | m | m | m
  ·exact z1S hk c m
  ·exact (by decide +kernel:∀ c∈s!"(".cps.toList,c<128) c m
  ·exact q8C (by decide +kernel) (λ x mx=>by obtain ⟨e,me,rfl⟩:=List.mem_map.1 mx;exact ih e me) c m
  ·exact (by decide +kernel:∀ c∈s!")".cps.toList,c<128) c m
  ·exact (by decide +kernel:∀ c∈Str.empty.cps.toList,c<128) c m
theorem q52:∀ {ts:List Str},ts≠[]->szS ts=(Str.join s!" " ts).length+1
 | [],h=>absurd rfl h
 | [t],_=>by unfold szS;simp [Str.join]
 | t::u::r,_=>by
  have h:=q52 (ts:=u::r) (by simp)
  have e:szS (t::u::r)=t.length+1+szS (u::r):=by unfold szS;simp
  rw [e,h]
  show _=(t++s!" "++Str.join s!" " (u::r)).length+1
  rw [z5,z5,show s!" ".length=1 by decide +kernel]
  rfl
theorem q8E:∀ ts:List Str,ts.length<=szS ts
 | []=>N1b _
 | t::r=>by
  have:=q8E r
  have e:szS (t::r)=t.length+1+szS r:=by unfold szS;simp
  rw [e,N0h];lia
theorem q8F {ss:List Str}{sm:Bool}(hs:∀ x∈ss,Nm x){l:List Nd}(hk:okL ss sm l) (hn:l≠[]) (hb:(Str.join s!" " (l.map Nd.txt)).length<=100000 - 2):F_split_parts [.str (Str.join s!" " (l.map Nd.txt))]=.ok (strsL (l.map Nd.txt)):=by
 have k:=q2C hs l hk hn
 have hz:=q52 k.ne
 have hl:=q8E (toksL l)
 have hsp:Txt.split (Str.join s!" " (l.map Nd.txt)) (one 32)=toksL l:=by
  rw [<- k.join,q8y]
  exact U0 (by simp) k.ne k.sp
 rw [k.join] at hz
 rw [q0t hsp (by omega) (by lia) (by lia),q3j hs l [] hk]
 rfl
noncomputable def Nd.headD:Nd->List D
 | .any _=>[.str "any"]
 | .all _=>[.str "all"]
 | .some n _=>[.str "some",.int n]
 | _=>[]
theorem z0A {ss:List Str}{sm:Bool}{d:Nd}(h:d.ok ss sm) (h1:d≠.sun) (h2:∀ x,d≠.eats x):tBEGINNINGS.lookup d.word=some d.headD/\40∉d.word.cps.toList/\d.headD≠[]/\d.headD.length<=2/\d.headD.all scD=true/\d.toD=.tup (d.headD++[.tup (d.parts.map Nd.toD)]):=by
 cases d with
 | sun=>exact absurd rfl h1
 | eats x=>exact absurd rfl (h2 x)
 | any ps=>exact ⟨by show tBEGINNINGS.lookup s!"any" = some [.str "any"];rfl,(by decide +kernel:40∉s!"any".cps.toList),by simp [Nd.headD],by simp [Nd.headD],by simp [Nd.headD,scD],by rw [q8c];rfl⟩
 | all ps=>exact ⟨by show tBEGINNINGS.lookup s!"all" = some [.str "all"];rfl,(by decide +kernel:40∉s!"all".cps.toList),by simp [Nd.headD],by simp [Nd.headD],by simp [Nd.headD,scD],by rw [q4T];rfl⟩
 | some n ps =>
  rw [Nd.ok] at h
  have q:=z0z n h.2.1 (by have:=h.2.2.1;have:=h.2.2.2.1;lia)
  refine ⟨?_,q.2.2,by simp [Nd.headD],by simp [Nd.headD],by simp [Nd.headD,scD],by rw [q5P];rfl⟩
  have:n=1\/n=2\/n=3\/n=4:=by have:=h.2.1;have:=h.2.2.1;have:=h.2.2.2.1;lia
  rcases this with rfl | rfl | rfl | rfl
  ·show tBEGINNINGS.lookup ((toString (1:Int):Str)++s!"of")=some [.str "some",.int 1]
   rw [show (toString (1:Int):Str)++s!"of" = s!"1of" by decide +kernel];rfl
  ·show tBEGINNINGS.lookup ((toString (2:Int):Str)++s!"of")=some [.str "some",.int 2]
   rw [show (toString (2:Int):Str)++s!"of" = s!"2of" by decide +kernel];rfl
  ·show tBEGINNINGS.lookup ((toString (3:Int):Str)++s!"of")=some [.str "some",.int 3]
   rw [show (toString (3:Int):Str)++s!"of" = s!"3of" by decide +kernel];rfl
  ·show tBEGINNINGS.lookup ((toString (4:Int):Str)++s!"of")=some [.str "some",.int 4]
   rw [show (toString (4:Int):Str)++s!"of" = s!"4of" by decide +kernel];rfl
theorem q5Z (t:Str) (c:Nat) (h:t.length<=100000):z2R (.str (t++one c)) none (some (-1))=.ok (.str t):=by
 have e:(t++one c).cps.toList=t.cps.toList++[c]:=by rw [Q5];rfl
 have l:(t++one c).length=t.length+1:=by rw [z5];rfl
 rw [q3b,w9 (by rw [sizeLine_eq,l];lia),e]
 have:cutD (t.cps.toList++[c]) none (some (-1))=t.cps.toList:=by
  have l2:t.cps.toList.length=t.length:=by rw [N0g];rfl
  show ((t.cps.toList++[c]).drop 0).take ((if (-1:Int)<0 then ((-1:Int)+((t.cps.toList++[c]).length:Int)).toNat else min (-1:Int).toNat (t.cps.toList++[c]).length) - 0)=_
  rw [N0j (by decide),N06,N11,List.drop_zero,Nat.sub_zero,show ((-1:Int)+((t.cps.toList.length+1:Nat):Int)).toNat=t.cps.toList.length by lia]
  exact List.take_left
 rw [this]
theorem q9K {ss:List Str}{sm:Bool}{d:Nd}(h:d.ok ss sm) (h1:d≠.sun) (h2:∀ x,d≠.eats x):¬ (d.parts.length:Int)<d.asked:=by
 cases d with
 | sun=>exact absurd rfl h1
 | eats x=>exact absurd rfl (h2 x)
 | any ps=>rw [Nd.ok] at h;simp only [Nd.asked,Nd.parts];lia
 | all ps=>simp only [Nd.asked,Nd.parts];simp
 | some n ps=>rw [Nd.ok] at h;simp only [Nd.asked,Nd.parts];simp_all
theorem q8G {ss:List Str}{sm:Bool}(hs:∀ x∈ss,Nm x) (n:Nat) (d:Nd) (k:Nat) (hk:d.ok ss sm) (hd:d.depth<=5) (h5:k<=5) (ih:∀ e∈d.parts,F_read_need n [.str e.txt,.int ((k:Int)+1)]=.ok e.toD):F_read_need (n+1) [.str d.txt,.int (k:Int)]=.ok d.toD:=by
 show y3 6 (y6 F_is_name F_parts_asked (F_read_need n) F_split_parts) _=_
 have hbd:=V3 hs 5 d hk hd
 have hb5:bdN 5=2813:=rfl
 have hlt:=q8D hs 5 d hk hd
 have hk5:¬ (5:Int)<(k:Int):=by lia
 have heq:∀ a:Str,dEq (.str a) (.str s!"sun")=.ok (.bl (decide (a=s!"sun"))):=λ a=>by rw [q5J,w9 (q14 _ _),u8]
 unfold y3 y6
 by_cases h1:d=.sun
 ·subst h1
  have e:=heq s!"sun"
  rw [N0o rfl] at e
  rw [Nd.txt,q8b]
  generalize dEq=Q at *
  simp [startD,hk5,e]
 by_cases h2:∃ x,d=.eats x
 ·obtain ⟨x,rfl⟩:=h2
  rw [Nd.ok] at hk
  have hn:=hs x hk
  have e:=heq x
  rw [N0e (λ z=>q8q x hn (by rw [z];decide +kernel))] at e
  have hi:=q17 x hn
  rw [Nd.txt,q5O]
  generalize dEq=Q at *
  generalize F_is_name=FI at *
  simp [startD,hk5,e,hi]
 have h2:∀ x,d≠.eats x:=λ x z=>h2 ⟨x,z⟩
 obtain ⟨b1,b2,b3,b4,b5,b6⟩:=z0A hk h1 h2
 obtain ⟨p4,pok⟩:=J7 hk
 have pne:d.parts≠[]:=λ z=>by
  cases d with
  | sun=>exact h1 rfl
  | eats x=>exact h2 x rfl
  | any ps=>rw [Nd.ok] at hk;have z:ps=[]:=z;rw [z] at hk;exact absurd hk.1 (by simp)
  | all ps=>rw [Nd.ok] at hk;have z:ps=[]:=z;rw [z] at hk;exact absurd hk.2.1 (by simp)
  | some m ps=>rw [Nd.ok] at hk;have z:ps=[]:=z;rw [z] at hk;have a:=hk.2.1;have b:=hk.2.2.1;simp at b;lia
 have e0:∀ a:Str,a++Str.empty=a:=λ a=>by cases a;show Str.mk _=_;congr 1
 have htx:d.txt=d.word++one 40++(Str.join s!" " (d.parts.map Nd.txt)++one 41):=by
  rw [q2z d h1 h2,e0,q2D,q2E,Q4]
 have hin:(Str.join s!" " (d.parts.map Nd.txt)).length<=2813:=by
  have l:=congrArg Str.length htx
  rw [z5,z5,z5] at l
  lia
 have hpar:40∈d.txt.cps.toList:=by
  rw [htx,Q5,Q5,N0a,N0a]
  exact .inl (.inr (N00 ..))
 have e:=heq d.txt
 rw [N0e (λ z=>absurd (z▸hpar) (by decide +kernel))] at e
 have hi:=q9J d.txt (by omega) hlt hpar
 have hp:dPart (.str d.txt) (.str s!"(")=.ok (.tup [.str d.word,.str (one 40),.str (Str.join s!" " (d.parts.map Nd.txt)++one 41)]):=by
  show Rz.guard _ (Rz.ok (D.tup [.str (Txt.partition d.txt _).1,.str (Txt.partition d.txt _).2.1,.str (Txt.partition d.txt _).2.2]))=_
  rw [w9 ⟨by decide +kernel,by rw [sizeLine_eq];omega⟩,q2D,htx,X6 (y:=one 40) (y':=[]) rfl b2]
 have hnk:dNotK tBEGINNINGS (.str d.word)=.ok (.bl false):=by
  show Rz.ok (D.bl (!(tBEGINNINGS.lookup d.word).isSome))=_
  rw [b1];rfl
 have hen:dEnds (.str (Str.join s!" " (d.parts.map Nd.txt)++one 41)) (.str s!")")=.ok (.bl true):=by
  show Rz.ok (D.bl (Txt.endswith _ _))=_
  rw [q2E,q5W]
 have hcut:=q5Z (Str.join s!" " (d.parts.map Nd.txt)) 41 (by omega)
 have hsp:=q8F hs pok pne (by omega)
 have hln:pLen [strsL (d.parts.map Nd.txt)]=.ok (.int (d.parts.length:Int)):=by rw [q0d,N01]
 have hp4:¬ (4:Int)<(d.parts.length:Int):=by lia
 have hcomp:compL [some (.int (k:Int))] q1n (gCall (F_read_need n) (gCons (gVar 0) (gCons (gOp dAddS (gVar 1) (gC (.int 1))) gNil))) ((d.parts.map Nd.txt).map D.str)=.ok (d.parts.map Nd.toD):=by
  rw [N1q]
  refine U6 λ x mx=>?_
  have q:=ih x mx
  generalize F_read_need n=FR at *
  simp [q]
 have hit:itD (strsL (d.parts.map Nd.txt))=.ok ((d.parts.map Nd.txt).map D.str):=rfl
 have hz:(d.parts.map Nd.toD).length<=16777216:=by rw [N01];omega
 have hbeg:dBeg tBEGINNINGS (.str d.word) (.tup [.tup (d.parts.map Nd.toD)])=.ok d.toD:=by
  show (match tBEGINNINGS.lookup d.word with | some ds=>Rz.guard (ds≠[]/\[D.tup (d.parts.map Nd.toD)]≠[]/\ds.length+[D.tup (d.parts.map Nd.toD)].length<=sizeLine/\ds.all scD=true) (Rz.ok (D.tup (ds++[D.tup (d.parts.map Nd.toD)]))) | none=>.un)=_
  rw [b1]
  show Rz.guard (d.headD≠[]/\_/\_/\_) _=_
  rw [w9 ⟨b3,by simp,by rw [sizeLine_eq,N11];lia,b5⟩,b6]
 have hask:=q9x d h1 h2
 have hal:=q9K hk h1 h2
 have hlt2:pLen [.lst (d.parts.map Nd.toD)]=.ok (.int (d.parts.length:Int)):=by rw [q5K,N01]
 have htu:pTuple [.lst (d.parts.map Nd.toD)]=.ok (.tup (d.parts.map Nd.toD)):=rfl
 have him:(d.parts.map Nd.toD).all D.imm=true:=q8e _
 have himd:d.toD.big=false:=by cases d<;>first | (rw [q8b];rfl) | (rw [q5O];rfl) | (rw [q8c];rfl) | (rw [q4T];rfl) | (rw [q5P];rfl)
 clear htx hpar hlt hbd b1 b2 b3 b4 b5 b6
 generalize (Str.join s!" " (d.parts.map Nd.txt))=INN at *
 generalize strsL (d.parts.map Nd.txt)=SP at *
 generalize (d.parts.map Nd.txt).map D.str=MP at *
 generalize d.parts.map Nd.toD=PT at *
 generalize d.toD=DD at *
 generalize dEq=Q at *
 generalize dPart=DP at *
 generalize dNotK=NK at *
 generalize dEnds=DE1 at *
 generalize dBeg=DB at *
 generalize F_is_name=FI at *
 generalize F_split_parts=FSP at *
 generalize F_parts_asked=FPA at *
 generalize (gCall (F_read_need n) (gCons (gVar 0) (gCons (gOp dAddS (gVar 1) (gC (.int 1))) gNil)))=GR at *
 simp [-q3b,startD,hk5,e,hi,hp,hnk,hen,hcut,hsp,hln,hp4,hit,capD,hcomp,hz,htu,him,hbeg,hask,hlt2,hal,himd]
theorem Y9 {ss:List Str}{sm:Bool}(hs:∀ x∈ss,Nm x):∀ (n:Nat) (d:Nd) (k:Nat),d.ok ss sm->d.depth<=n->d.depth<=5->k+d.depth<=6->F_read_need n [.str d.txt,.int (k:Int)]=.ok d.toD
 | 0,d,k,_,h,_,_=>by have:=J0 d;simp_all
 | n+1,d,k,hk,h,h5,h6=>q8G hs n d k hk h5 (by have:=J0 d;lia) λ e m=>by
  have hd:e.depth+1<=d.depth:=by
   have:=J0 d
   have:=J9 (n:=d.depth - 1) (d:=d) (e:=e) (by simp_all) m
   lia
  have:=Y9 hs n e (k+1) (Y3 (J7 hk).2 m) (by lia) (by lia) (by lia)
  rwa [show ((k+1:Nat):Int)=(k:Int)+1 by rfl] at this
mutual
noncomputable def Nd.knots:Nd->Nat
 | .sun=>1
 | .eats _=>1
 | .any ps=>q0u ps+1
 | .all ps=>q0u ps+1
 | .some _ ps=>q0u ps+1
noncomputable def q0u:List Nd->Nat
 | []=>0
 | d::r=>d.knots+q0u r
end
theorem q3k (d:Nd):d.knots=q0u d.parts+1:=by
 cases d<;>rw [Nd.knots]<;>rfl
theorem q19:∀ l:List Nd,q0u l=(l.map Nd.knots).sum
 | []=>by rw [q0u];rfl
 | d::r=>by rw [q0u,q19 r];rfl
theorem q60:∀ l:List Nat,intsD (l.map λ n:Nat=>D.int (n:Int))=some (l.map λ n:Nat=>(n:Int))
 | []=>rfl
 | n::r=>by rw [N09,intsD,q60 r];rfl
theorem q61:∀ l:List Nat,(l.map λ n:Nat=>(n:Int)).sum=((l.sum:Nat):Int)
 | []=>rfl
 | n::r=>by rw [N09,List.sum_cons,List.sum_cons,q61 r];rfl
theorem q9L:∀ (n:Nat) (d:Nd),d.depth<=n->d.parts.length<=1000->(∀ e∈d.parts,F_knots_of (n - 1) [e.toD]=.ok (.int (e.knots:Int)))->F_knots_of n [d.toD]=.ok (.int (d.knots:Int))
 | 0,d,h,_,_=>by have:=J0 d;simp_all
 | n+1,d,h,hl,ih=>by
  show y3 1 (q0n (F_knots_of n) F_parts_of) _=_
  have hp:=q5Q d
  have hc:compL [] q1n (gCall (F_knots_of n) (gCons (gVar 0) gNil)) (d.parts.map Nd.toD)=.ok ((d.parts.map Nd.knots).map λ n:Nat=>D.int (n:Int)):=by
   rw [N1q]
   refine U6 λ e m=>?_
   have q:=ih e m
   rw [show n+1 - 1=n from rfl] at q
   generalize F_knots_of n=FK at *
   simp [q]
  have hi:=q60 (d.parts.map Nd.knots)
  have hs:=q61 (d.parts.map Nd.knots)
  have hz:((d.parts.map Nd.knots).map λ n:Nat=>D.int (n:Int)).length<=16777216:=by rw [N01,N01];omega
  have hit:itD (.tup (d.parts.map Nd.toD))=.ok (d.parts.map Nd.toD):=rfl
  have hk:(1:Int)+(((d.parts.map Nd.knots).sum:Nat):Int)=(d.knots:Int):=by rw [q3k,q19];lia
  unfold y3 q0n
  generalize F_knots_of n=FK at *
  generalize F_parts_of=FP at *
  generalize (d.parts.map Nd.toD)=PT at *
  generalize ((d.parts.map Nd.knots).map λ n:Nat=>D.int (n:Int))=KI at *
  generalize ((d.parts.map Nd.knots).map λ n:Nat=>(n:Int))=KN at *
  simp [startD,hp,hit,capD,hc,hz,hi,hs,hk]
theorem q0S {ss:List Str}{sm:Bool}:∀ (n:Nat) (d:Nd),d.ok ss sm->d.depth<=n->F_knots_of n [d.toD]=.ok (.int (d.knots:Int))
 | 0,d,_,h=>by have:=J0 d;simp_all
 | n+1,d,hk,h=>q9L (n+1) d h (by have:=(J7 hk).1;omega) λ e m=>q0S n e (Y3 (J7 hk).2 m) (J9 h m)
noncomputable def rowT (x:Str) (d:Nd):Str:=x++s!": "++d.txt
theorem q1k {ss:List Str}{sm:Bool}(hs:∀ x∈ss,Nm x){ks:List Str}{vs:List Nd}{x:Str}{d:Nd}(hx:Nm x) (hn:x∉ks) (hl:ks.length<16) (hk:d.ok ss sm) (hd:d.depth<=5) (h24:d.knots<=24) :
 F_read_line [webD ks vs,.str (rowT x d)]=.ok (.non,[webD (ks++[x]) (vs++[d])]):=by
 have hbd:=V3 hs 5 d hk hd
 have hb5:bdN 5=2813:=rfl
 have hlen:(rowT x d).length<=16777216:=by
  unfold rowT
  rw [z5,z5,show s!": ".length=2 by decide +kernel]
  have:=hx.2.1
  lia
 have hp:dPart (.str (rowT x d)) (.str s!": ")=.ok (.tup [.str x,.str s!": ",.str d.txt]):=by
  show Rz.guard _ (Rz.ok (D.tup [.str (Txt.partition (rowT x d) _).1,.str (Txt.partition (rowT x d) _).2.1,.str (Txt.partition (rowT x d) _).2.2]))=_
  rw [w9 ⟨by decide +kernel,by rw [sizeLine_eq];exact hlen⟩]
  unfold rowT
  rw [X6 (y:=s!": ") (c:=58) (y':=[32]) (by decide +kernel) (q0e hx (by simp))]
 have hr:=Y9 hs 8 d 1 hk (by omega) hd (by lia)
 have hkn:=q0S 8 d hk (by omega)
 have hadd:=z3A ks vs x d (q17 x hx) hn hl
 have h24:¬ (24:Int)<(d.knots:Int):=by lia
 show z3a 5 (U8 (F_knots_of 8) (F_read_need 8) F_add) _=_
 unfold z3a U8
 generalize rowT x d=LN at *
 generalize F_read_need 8=FR at *
 generalize F_knots_of 8=FK at *
 generalize F_add=FA at *
 generalize dPart=DP at *
 have hr:FR [.str d.txt,.int 1]=.ok d.toD:=hr
 generalize d.toD=DD at *
 simp [startD,hp,hr,hkn,h24,hadd]
theorem q8H {n:Nat}{sep:Str}(h:∀ c∈sep.cps.toList,n<=c):∀ {l:List Str},(∀ x∈l,∀ c∈x.cps.toList,n<=c)->∀ c∈(Str.join sep l).cps.toList,n<=c
 | [],_,c,m=>absurd m (by show c∉Str.empty.cps.toList;simp [Str.empty])
 | [x],hx,c,m=>hx x (N00 ..) c m
 | x::y::r,hx,c,m=>by
  have m:c∈(x++sep++Str.join sep (y::r)).cps.toList:=m
  rw [Q5,Q5,N0a,N0a] at m
  rcases m with (m | m) | m
  ·exact hx x (N00 ..) c m
  ·exact h c m
  ·exact q8H h (λ z mz=>hx z (N02 _ mz)) c m
theorem z1T {ss:List Str}{sm:Bool}{d:Nd}(h:d.ok ss sm):∀ c∈d.word.cps.toList,32<=c:=by
 cases d with
 | sun=>exact (by decide +kernel:∀ c∈s!"".cps.toList,32<=c)
 | eats x=>exact (by decide +kernel:∀ c∈s!"".cps.toList,32<=c)
 | any ps=>exact (by decide +kernel:∀ c∈s!"any".cps.toList,32<=c)
 | all ps=>exact (by decide +kernel:∀ c∈s!"all".cps.toList,32<=c)
 | some n ps =>
  rw [Nd.ok] at h
  have:n=1\/n=2\/n=3\/n=4:=by have:=h.2.1;have:=h.2.2.1;have:=h.2.2.2.1;lia
  rcases this with rfl | rfl | rfl | rfl
  ·exact (by decide +kernel:∀ c∈((toString (1:Int):Str)++s!"of").cps.toList,32<=c)
  ·exact (by decide +kernel:∀ c∈((toString (2:Int):Str)++s!"of").cps.toList,32<=c)
  ·exact (by decide +kernel:∀ c∈((toString (3:Int):Str)++s!"of").cps.toList,32<=c)
  ·exact (by decide +kernel:∀ c∈((toString (4:Int):Str)++s!"of").cps.toList,32<=c)
theorem z0B {ss:List Str}{sm:Bool}(hs:∀ x∈ss,Nm x):∀ (n:Nat) (d:Nd),d.ok ss sm->d.depth<=n->∀ c∈d.txt.cps.toList,32<=c
 | 0,d,_,h=>by have:=J0 d;simp_all
 | n+1,d,hk,h=>by
  have ih:=λ e (m:e∈d.parts)=>z0B hs n e (Y3 (J7 hk).2 m) (J9 h m)
  by_cases h1:d=.sun
  ·subst h1;rw [Nd.txt];decide +kernel
  by_cases h2:∃ x,d=.eats x
  ·obtain ⟨x,rfl⟩:=h2
   rw [Nd.ok] at hk
   rw [Nd.txt]
   exact λ c m=>by have:=((hs x hk).2.2.1 c m).1;lia
  have h2:∀ x,d≠.eats x:=λ x z=>h2 ⟨x,z⟩
  rw [q2z d h1 h2]
  intro c m
  rw [Q5,Q5,Q5,Q5,N0a,N0a,N0a,N0a] at m
  rcases m with m | m | m | m | m
  ·exact z1T hk c m
  ·exact (by decide +kernel:∀ c∈s!"(".cps.toList,32<=c) c m
  ·exact q8H (by decide +kernel) (λ x mx=>by obtain ⟨e,me,rfl⟩:=List.mem_map.1 mx;exact ih e me) c m
  ·exact (by decide +kernel:∀ c∈s!")".cps.toList,32<=c) c m
  ·exact (by decide +kernel:∀ c∈Str.empty.cps.toList,32<=c) c m
theorem q8I {ss:List Str}{sm:Bool}(hs:∀ x∈ss,Nm x){x:Str}{d:Nd}(hx:Nm x) (hk:d.ok ss sm) (hd:d.depth<=5):10∉(rowT x d).cps.toList:=by
 unfold rowT
 rw [Q5,Q5,N0a,N0a]
 rintro ((m | m) | m)
 ·exact q0e hx (by simp) m
 ·exact absurd m (by decide +kernel)
 ·have:=z0B hs 5 d hk hd 10 m;simp_all
structure Rd20 (ks:List Str) (vs:List Nd):Prop where
 len:ks.length=vs.length
 le:ks.length<=16
 nd:ks.Nodup
 nm:∀ x∈ks,Nm x
 ok:∃ ss sm,(∀ x∈ss,Nm x)/\∀ v∈vs,v.ok ss sm
 dep:∀ v∈vs,v.depth<=5
 kn:∀ v∈vs,v.knots<=24
noncomputable def rowsT (ks:List Str) (vs:List Nd):List Str:=(ks.zip vs).map λ p=>rowT p.1 p.2
theorem z1U {ks:List Str}{vs:List Nd}(w:Rd20 ks vs) (hne:ks≠[]):F_read [.str (Str.join (Str.ofString "\n") (rowsT ks vs))]=.ok (webD ks vs):=by
 obtain ⟨ss,sm,hs,hok⟩:=w.ok
 have hle:=w.le
 have hlen:=w.len
 have hrl:(rowsT ks vs).length=ks.length:=by unfold rowsT;rw [N01,List.length_zip];simp_all
 have hrne:rowsT ks vs≠[]:=λ z=>by rw [z] at hrl;exact hne (List.length_eq_zero_iff.1 hrl.symm)
 have hrow:∀ t∈rowsT ks vs,10∉t.cps.toList/\t.length<=3000:=λ t m=>by
  obtain ⟨p,mp,rfl⟩:=List.mem_map.1 m
  obtain ⟨z1,z2,_⟩:=q5T w.nd mp
  refine ⟨q8I hs (w.nm _ z1) (hok _ z2) (w.dep _ z2),?_⟩
  unfold rowT
  have h1:=(w.nm _ z1).2.1
  have h2:=V3 hs 5 p.2 (hok _ z2) (w.dep _ z2)
  have hb5:bdN 5=2813:=rfl
  rw [z5,z5,show s!": ".length=2 by decide +kernel]
  lia
 have hsp:Txt.split (Str.join (Str.ofString "\n") (rowsT ks vs)) (Str.ofString "\n")=rowsT ks vs:=by
  rw [q8z]
  exact U0 (by simp) hrne λ t m=>(hrow t m).1
 have hjl:(Str.join (Str.ofString "\n") (rowsT ks vs)).length<=100000:=by
  have h:=q0Q (Str.ofString "\n") (rowsT ks vs)
  have h2:=q2A 3000 ((rowsT ks vs).map (·.length)) λ x m=>by
   obtain ⟨y,my,rfl⟩:=List.mem_map.1 m
   exact (hrow y my).2
  rw [N01,hrl] at h2
  rw [hrl,show (Str.ofString "\n").length=1 by decide +kernel] at h
  have:ks.length * 3000<=16 * 3000:=Nat.mul_le_mul_right _ hle
  lia
 have hemp:Str.join (Str.ofString "\n") (rowsT ks vs)≠s!"":=λ z=>by
  obtain ⟨x,r,rfl⟩:∃ x r,ks=x::r:=by
   cases ks with
   | nil=>exact absurd rfl hne
   | cons x r=>exact ⟨x,r,rfl⟩
  obtain ⟨v,u,rfl⟩:∃ v u,vs=v::u:=by
   cases vs with
   | nil=>simp at hlen
   | cons v u=>exact ⟨v,u,rfl⟩
  have e:rowsT (x::r) (v::u)=rowT x v::rowsT r u:=rfl
  have h2:58∈(Str.join (Str.ofString "\n") (rowsT (x::r) (v::u))).cps.toList:=by
   have:58∈(rowT x v).cps.toList:=by
    unfold rowT
    rw [Q5,Q5,N0a,N0a]
    exact .inl (.inr (by decide +kernel))
   rw [e]
   cases rowsT r u with
   | nil=>exact this
   | cons a b =>
    show 58∈(rowT x v++Str.ofString "\n"++Str.join (Str.ofString "\n") (a::b)).cps.toList
    rw [Q5,Q5,N0a,N0a]
    exact .inl (.inl this)
  rw [z] at h2
  exact absurd h2 (by decide +kernel)
 have hdne:dNe (.str (Str.join (Str.ofString "\n") (rowsT ks vs))) (.str s!"")=.ok (.bl true):=by
  rw [z0t,w9 (q14 _ _),u8,N0e hemp];rfl
 have hds:dSplt (.str (Str.join (Str.ofString "\n") (rowsT ks vs))) (.str (Str.ofString "\n"))=.ok (.lst ((rowsT ks vs).map D.str)):=by
  show Rz.guard _ (Rz.ok (D.lst ((Txt.split _ _).map D.str)))=_
  rw [w9 ⟨by decide +kernel,by rw [sizeLine_eq];lia⟩,hsp]
 unfold F_read y3 q89
 generalize hB:(gDropX (gCallI F_read_line [1] (gCons (gVar 3) gNil)))=B
 generalize hT:Str.join (Str.ofString "\n") (rowsT ks vs)=T at *
 have hloop:v4 3 [3] B ((rowsT ks vs).map D.str) [some (.str T),some (webD [] []),some (.lst ((rowsT ks vs).map D.str)),none]=.ok (.nx [some (.str T),some (webD ks vs),some (.lst ((rowsT ks vs).map D.str)),none]):=by
  have z:=q4S (g:=D.str) (i:=3) (fg:=[3]) (body:=B) (l:=rowsT ks vs) (δ:=[some (.str T),some (webD [] []),some (.lst ((rowsT ks vs).map D.str)),none]) (λ m=>[some (.str T),some (webD (ks.take m) (vs.take m)),some (.lst ((rowsT ks vs).map D.str)),none]) rfl λ m t hm=>?_
  ·rw [hrl,List.take_length] at z
   rw [show vs.take ks.length=vs by rw [hlen,List.take_length]] at z
   exact z
  have hml:m<ks.length:=by rw [<- hrl];exact (N04.1 hm).1
  have hx:ks[m]? = some ks[m]:=N08 hml
  have hv:vs[m]? = some (vs[m]'(by lia)):=N08 (by lia)
  have et:t=rowT ks[m] (vs[m]'(by lia)):=by
   unfold rowsT at hm
   rw [N0i,(List.getElem?_zip_eq_some (z:=(ks[m],vs[m]'(by lia)))).2 ⟨hx,hv⟩] at hm
   exact (N0b hm).symm
  have mv:=N0u hv
  have mx:=N0u hx
  obtain ⟨q1,q2⟩:=z1O w.nd hx
  have q3:vs.take (m+1)=vs.take m++[vs[m]'(by lia)]:=by rw [List.take_succ,hv];rfl
  generalize ks[m]=x at *
  generalize vs[m]'(by lia)=v at *
  have hr:=q1k (ks:=ks.take m) (vs:=vs.take m) hs (w.nm x mx) q1 (by rw [N16];lia) (hok v mv) (w.dep v mv) (w.kn v mv)
  refine ⟨[some (.str T),some (webD (ks.take (m+1)) (vs.take (m+1))),some (.lst ((rowsT ks vs).map D.str)),some (.str t)],.inl ?_,rfl⟩
  rw [q2,q3,et,<- hB]
  generalize F_read_line=FL at *
  generalize (rowsT ks vs).map D.str=RS at *
  generalize rowT x v=LN at *
  simp [hr]
 have w0:D.obj 0 s!"need_by_name" (.dct [] [])=webD [] []:=rfl
 generalize dNe=NE at *
 generalize dSplt=DS1 at *
 generalize (rowsT ks vs).map D.str=RS at *
 simp [startD,w0,hdne,hds,hloop]
theorem q9M (n:Int) (h:n.natAbs.log2<1920):z1a [.int n]=.ok (.str (toString n:Str)):=w9 h
theorem q6z {ss:List Str}{sm:Bool}(n:Nat) (d:Nd) (hk:d.ok ss sm) (hb:∀ e∈d.parts,e.txt.length<=1000) (ih:∀ e∈d.parts,F__law_text n [e.toD]=.ok (.str e.txt)):F__law_text (n+1) [d.toD]=.ok (.str d.txt):=by
 show y3 5 (q00 F__law_parts (F__law_text n)) _=_
 unfold y3 q00
 have hp:=q8f d
 have h4:=(J7 hk).1
 generalize F__law_parts=FP at *
 generalize F__law_text n=FT at *
 by_cases h1:d=.sun
 ·subst h1
  rw [Nd.txt]
  simp [startD]
 ·by_cases h2:∃ x,d=.eats x
  ·obtain ⟨x,rfl⟩:=h2
   rw [Nd.txt]
   simp [startD]
  ·have h2':∀ x,d≠.eats x:=λ x q=>h2 ⟨x,q⟩
   have hwl:=q5U hk
   have hx:=q2z d h1 h2'
   have hi:=z3B d
   obtain ⟨hne1,hne2⟩:=z3C h1 h2'
   generalize hA:(Y7 (gB (gOp dEq (gOp dIx (gVar 0) (gC (.int 0))) (gC (.str "some")))) (gSet 1 (gOp dAddS (gCall z1a (gCons (gOp dIx (gVar 0) (gC (.int 1))) gNil)) (gC (.str "of")))) J8)=A
   have hhead:A [some d.toD,some (.str d.tag),none,none,none]=.ok (.nx [some d.toD,some (.str d.word),none,none,none]):=by
    rw [<- hA]
    cases d with
    | sun=>exact absurd rfl h1
    | eats x=>exact absurd rfl (h2' x)
    | any ps=>simp [Nd.tag,Nd.word]
    | all ps=>simp [Nd.tag,Nd.word]
    | some k ps =>
     rw [Nd.ok] at hk
     obtain ⟨q1,q2⟩:=z70 k (by simp_all) (by lia)
     have q3:=q9M k q2
     have q4:(toString k:Str).length+s!"of".length<=16777216:=by rw [q1,show s!"of".length=2 by decide +kernel];simp
     have q5:(Nd.some k ps).word=(toString k:Str)++s!"of":=rfl
     rw [q5]
     generalize (toString k:Str)=W at *
     simp [Nd.tag,q3,q4]
   let P:Nat->Str:=λ m=>d.word++s!"("++Str.join s!" " ((d.parts.take m).map Nd.txt)
   have hPl:∀ m,(P m).length<=5000:=λ m=>by
    have hj:=q0Q s!" " ((d.parts.take m).map Nd.txt)
    have hs:=q49 (l:=d.parts.take m) (b:=1000) (λ e q=>hb e (List.mem_of_mem_take q)) (by rw [N16];lia)
    show (d.word++s!"("++Str.join s!" " ((d.parts.take m).map Nd.txt)).length<=5000
    rw [z5,z5,show s!"(".length=1 by decide +kernel]
    rw [N01,N16,show s!" ".length=1 by decide +kernel] at hj
    lia
   generalize hE:(W1 (Y7 (gB (gOp dGt (gVar 4) (gC (.int 0)))) (gSet 2 (gOp dAddS (gVar 2) (gC (.str " ")))) J8)
    (gSet 2 (gOp dAdd (gVar 2) (gCall FT (gCons (gOp dIx (gVar 3) (gVar 4)) gNil)))))=E
   have hloop:v4 4 [4] E (rangeD 0 d.parts.length) [some d.toD,some (.str d.word),some (.str (d.word++s!"(")),some (.tup (d.parts.map Nd.toD)),none]=.ok (.nx [some d.toD,some (.str d.word),some (.str (P d.parts.length)),some (.tup (d.parts.map Nd.toD)),none]):=by
    refine q3c (n:=d.parts.length) (λ m=>[some d.toD,some (.str d.word),some (.str (P m)),some (.tup (d.parts.map Nd.toD)),none]) ?_ λ m hm=>⟨[some d.toD,some (.str d.word),some (.str (P (m+1))),some (.tup (d.parts.map Nd.toD)),some (.int (0+(m:Int)))],.inl ?_,rfl⟩
    ·show [some d.toD,some (.str d.word),some (.str (d.word++s!"("++Str.empty)),some (.tup (d.parts.map Nd.toD)),none]=_
     rw [q0x]
    have ht:(d.parts.take (m+1)).map Nd.txt=(d.parts.take m).map Nd.txt++[d.parts[m].txt]:=by
     rw [List.take_succ,N08 hm,N14];rfl
    have he:dIx (.tup (d.parts.map Nd.toD)) (.int (m:Int))=.ok d.parts[m].toD:=by simp [q0N,hm]
    have hf:=ih d.parts[m] (N0z hm)
    have hl1:=hPl m
    have hl2:=hb d.parts[m] (N0z hm)
    have hsp:s!" ".length=1:=by decide +kernel
    have hd1:∀ z:Str,z.length<=6000->dAdd (.str z) (.str d.parts[m].txt)=.ok (.str (z++d.parts[m].txt)):=λ z hz=>w9 (by rw [line_val];lia)
    rw [<- hE]
    by_cases c:m=0
    ·subst c
     have e1:P 1=P 0++d.parts[0].txt:=by
      show d.word++s!"("++Str.join s!" " ((d.parts.take (0+1)).map Nd.txt)=d.word++s!"("++Str.join s!" " ((d.parts.take 0).map Nd.txt)++d.parts[0].txt
      rw [ht]
      show d.word++s!"("++d.parts[0].txt=d.word++s!"("++Str.empty++d.parts[0].txt
      rw [q0x]
     rw [show (0+1:Nat)=1 from rfl,e1]
     have hq:=hd1 (P 0) (by omega)
     generalize P 0=P0 at *
     have he:dIx (.tup (d.parts.map Nd.toD)) (.int 0)=.ok d.parts[0].toD:=he
     simp [he,hf,hq]
    ·have e1:P (m+1)=P m++s!" "++d.parts[m].txt:=by
      show d.word++s!"("++Str.join s!" " ((d.parts.take (m+1)).map Nd.txt)=d.word++s!"("++Str.join s!" " ((d.parts.take m).map Nd.txt)++s!" "++d.parts[m].txt
      rw [ht,q0R _ _ _ (by
       intro q
       have:=congrArg List.length q
       rw [N01,N16,List.length_nil] at this
       simp_all)]
      simp only [Q4]
     rw [e1]
     have hq:=hd1 (P m++s!" ") (by rw [z5];lia)
     have hg:(P m).length+s!" ".length<=16777216:=by lia
     generalize P m=PM at *
     simp [show 0<m by lia,hg,he,hf,hq]
   have hfin:P d.parts.length++s!")" = d.txt:=by
    rw [hx]
    show d.word++s!"("++Str.join s!" " ((d.parts.take d.parts.length).map Nd.txt)++s!")" = _
    rw [List.take_length,q0x]
    simp only [Q4]
   have hg1:d.word.length+s!"(".length<=16777216:=by rw [show s!"(".length=1 by decide +kernel];lia
   have hg2:(P d.parts.length).length+s!")".length<=16777216:=by
    have:=hPl d.parts.length
    rw [show s!")".length=1 by decide +kernel]
    lia
   rw [<- hfin]
   generalize P d.parts.length=PN at *
   have hb1:(d.tag=="sun")=false:=N18.2 hne1
   have hb2:(d.tag=="eats")=false:=N18.2 hne2
   have hpl:d.parts.length<4611686018427387904:=by lia
   clear hE hA hx hfin
   simp [startD,hi,hb1,hb2,hhead,hg1,hp,hpl,hloop,hg2]
theorem z0C {ss:List Str}{sm:Bool}(hs:∀ x∈ss,Nm x):∀ (n:Nat) (d:Nd),d.ok ss sm->d.depth<=n->d.depth<=5->F__law_text n [d.toD]=.ok (.str d.txt)
 | 0,d,_,h,_=>by have:=J0 d;simp_all
 | n+1,d,hk,h,h5=>q6z n d hk (λ e m=>by
  have:=V3 hs 4 e (Y3 (J7 hk).2 m) (by have:=J9 (n:=4) h5 m;omega)
  have hb:bdN 4=701:=rfl
  omega) λ e m=>z0C hs n e (Y3 (J7 hk).2 m) (J9 h m) (by have:=J9 (n:=4) h5 m;omega)
noncomputable def kbN:Nat->Nat
 | 0=>0
 | 1=>1
 | n+2=>4 * kbN (n+1)+1
theorem z3G {l:List Nd}{b:Nat}(h:∀ e∈l,e.knots<=b) (h4:l.length<=4):q0u l<=4 * b:=by
 rw [q19]
 have:=q2A b (l.map Nd.knots) λ x m=>by
  obtain ⟨e,me,rfl⟩:=List.mem_map.1 m
  exact h e me
 rw [N01] at this
 exact N0v this (Nat.mul_le_mul_right b h4)
theorem q62 {ss:List Str}{sm:Bool}:∀ (n:Nat) (d:Nd),d.ok ss sm->d.depth<=n->d.knots<=kbN n
 | 0,d,_,h=>by have:=J0 d;simp_all
 | 1,d,hk,h=>by
  have:d.parts=[]:=by
   cases q:d.parts with
   | nil=>rfl
   | cons e r =>
    have h1:=J9 (n:=0) h (by rw [q];exact N00 ..)
    have:=J0 e
    simp_all
  rw [q3k,this,q0u]
  exact N07 _
 | n+2,d,hk,h=>by
  rw [q3k,kbN]
  have:=z3G (λ e m=>q62 (n+1) e (Y3 (J7 hk).2 m) (J9 h m)) (J7 hk).1
  simp_all
noncomputable def q6L (g:GS) (h:HS):Prop:=∀ δ o,g δ=.ok o->h δ=none
theorem q6L.or {g:GS}{h1 h2:HS}(a:q6L g h1) (b:q6L g h2):q6L g (hOr h1 h2):=λ δ o e=>by
 unfold hOr
 rw [a δ o e]
 exact b δ o e
theorem q6L.seq {a b:GS}{h:HS}(q:q6L b h):q6L (W1 a b) (q0q a h):=λ δ o e=>by
 unfold W1 at e
 unfold q0q
 cases z:a δ with
 | er c s=>rfl
 | un=>rfl
 | ok r =>
  rw [z] at e
  cases r with
  | nx δ'=>exact q δ' o e
  | bk δ'=>rfl
  | ct δ'=>rfl
  | rt d δ'=>rfl
theorem q6L.ifT {t:GT}{b:GS}{h:HS}:q6L (W1 (Y7 t Y8 J8) b) (hIf t true h):=λ δ o e=>by
 unfold hIf
 unfold W1 Y7 at e
 cases z:t δ with
 | er c s=>rfl
 | un=>rfl
 | ok v =>
  rw [z] at e
  cases v with
  | false=>rfl
  | true=>cases e
theorem X5 {α β:Type}{r:Rz α}{f:α->Rz β}{b:β}(h:r.bind f=.ok b):∃ a,r=.ok a/\f a=.ok b:=by
 cases r with
 | ok a=>exact ⟨a,rfl,h⟩
 | er c s=>cases h
 | un=>cases h
theorem q2F {cap:DS}{F:PF}{E:PX}{gs:GA}(x:∀ ds d,F ds=.ok d->E ds=none):∀ {l ys:List D},compL cap q1n (gCall F gs) l=.ok ys->hCompL cap (gCall F gs) (hCall E gs) l=none
 | [],_,_=>by rw [hCompL]
 | d::r,ys,e=>by
  rw [compL] at e
  obtain ⟨b,e1,e⟩:=X5 e
  cases e1
  rw [N0j rfl] at e
  obtain ⟨y,e2,e⟩:=X5 e
  obtain ⟨zs,e3,e⟩:=X5 e
  obtain ⟨ds,e4,e5⟩:=X5 (show (gs (some d::cap)).bind F=.ok y from e2)
  have h1:hCall E gs (some d::cap)=none:=by unfold hCall;rw [e4];exact x ds y e5
  rw [hCompL,h1,e2]
  exact q2F x e3
theorem q6L.comp {i:Nat}{gi:GI}{cap:List Nat}{F:PF}{E:PX}{gs:GA}{b:GS}(x:∀ ds d,F ds=.ok d->E ds=none):q6L (W1 (gSet i (q0o gi cap q1n (gCall F gs))) b) (q2w gi cap (gCall F gs) (hCall E gs)):=λ δ o e=>by
 obtain ⟨_,e1,_⟩:=X5 e
 obtain ⟨d,e2,_⟩:=X5 e1
 obtain ⟨xs,e3,e4⟩:=X5 (show (gi δ).bind _=.ok d from e2)
 obtain ⟨ys,e5,_⟩:=X5 e4
 unfold q2w
 rw [e3]
 show (if xs.length<=sizeLine then (hCompL _ _ _ xs).map _ else none)=none
 rw [q2F x e5]
 split<;>rfl
theorem q23:∀ (n:Nat) (ds:List D) (d:D),F_read_need n ds=.ok d->E_read_need n ds=none
 | 0,_,_,e=>by cases e
 | n+1,ds,d,e=>by
  have x:=q23 n
  have q:q6L (y6 F_is_name F_parts_asked (F_read_need n) F_split_parts) (K5 F_is_name F_parts_asked (F_read_need n) F_split_parts (E_read_need n)):=by
   unfold y6 K5
   exact .or .ifT (.seq (.seq (.seq (.seq (.or .ifT (.seq (.seq (.or .ifT (.seq (.or (.comp x) (.seq (.seq .ifT))))))))))))
  show q1P 6 _ ds=none
  obtain ⟨o,e1,_⟩:=X5 (show ((y6 F_is_name F_parts_asked (F_read_need n) F_split_parts) (startD 6 ds)).bind _=.ok d from e)
  unfold q1P
  rw [q _ o e1]
  rfl
theorem q1a {L p0 p1 p2:Str}{W:D}(h1:dPart (.str L) (.str s!": ")=.ok (.tup [.str p0,.str p1,.str p2])) (h2:E_read_need 8 [.str p2,.int 1]=some 6):E_read_line [.str L,W]=some 6:=by
 show q1P 5 (Y4 (F_knots_of 8) (F_read_need 8) E_add (E_read_need 8)) _=_
 unfold q1P Y4
 generalize E_read_need 8=ER at *
 generalize F_read_need 8=FR at *
 generalize F_knots_of 8=FK at *
 generalize E_add=EA at *
 generalize dPart=DP at *
 simp [startD,q0q,hOr,hOf,hCall,h1,h2]
theorem q24 {L p0 p1 p2:Str}{ks:List Str}{vs:List Nd}{d:D}{m:Int}(h1:dPart (.str L) (.str s!": ")=.ok (.tup [.str p0,.str p1,.str p2])) (h2:F_read_need 8 [.str p2,.int 1]=.ok d) (h3:F_knots_of 8 [d]=.ok (.int m)) (ok:q3W L) :
 E_read_line [.str L,webD ks vs]=if 24<m then some 6 else match E_add [webD ks vs,.str p0,d] with
  | some c=>if c∈[0,1,2] then some 6 else none
  | none=>none:=by
 have h4:=q23 8 _ _ h2
 have hi:isObj 0 s!"add" (webD ks vs)=true:=by simp
 show q1P 5 (Y4 (F_knots_of 8) (F_read_need 8) E_add (E_read_need 8)) _=_
 unfold q1P Y4
 generalize E_read_need 8=ER at *
 generalize F_read_need 8=FR at *
 generalize F_knots_of 8=FK at *
 generalize E_add=EA at *
 generalize dPart=DP at *
 generalize webD ks vs=W at *
 by_cases c:24<m
 ·simp [startD,q0q,hOr,hOf,hCall,hIf,q04,h1,h2,h3,h4,c]
 ·have c':m<=24:=by simp_all
  cases e:EA [W,.str p0,d] with
  | none=>simp [startD,q0q,hOr,hOf,hCall,hIf,q04,q6t,hMeth,h1,h2,h3,h4,c,c',hi,e]
  | some x =>
   by_cases q:x∈[0,1,2]
   ·simp [startD,q0q,hOr,hOf,hCall,hIf,q04,q6t,hMeth,hRaiseN,h1,h2,h3,h4,c,c',hi,e,q,ok]
   ·simp [startD,q0q,hOr,hOf,hCall,hIf,q04,q6t,hMeth,hRaiseN,h1,h2,h3,h4,c,c',hi,e,q,ok]
theorem z71 (ks:List Str) (vs:List Nd) (x:Str) (b:Bool) (d:D) (hb:F_is_name [.str x]=.ok (.bl b)) (hm:q3W x):E_add [webD ks vs,.str x,d]=if b=false then some 0 else if x∈ks then some 1 else if 16<=ks.length then some 2 else none:=by
 have hin:=q45 ks (vs.map Nd.toD) x
 unfold E_add q1P z1J
 generalize F_is_name=FN at *
 cases b with
 | false=>simp [startD,hOr,hIf,hb,hRaiseN,hm]
 | true =>
  by_cases h:x∈ks
  ·simp [startD,hOr,q0q,hIf,hb,dIn,hin,h,hRaiseN,hm]
  ·by_cases c:16<=ks.length
   ·have c':(16:Int)<=(ks.length:Int):=by lia
    simp [startD,hOr,q0q,hIf,hb,dIn,hin,h,c,c',q04]
   ·have c':¬ (16:Int)<=(ks.length:Int):=by lia
    have c'':(ks.length:Int)<16:=by simp_all
    simp [startD,hOr,q0q,hIf,hb,dIn,hin,h,c,c',c'',q04]
noncomputable def Asc (x:Str):Prop:=x.length<=100000/\∀ c∈x.cps.toList,c<128
theorem Asc.ok {x:Str}(h:Asc x):q3W x:=⟨h.1,λ c m=>by have:=h.2 c m;omega⟩
theorem Asc.app {x y:Str}(h:Asc x) (k:Asc y) (hl:x.length+y.length<=100000):Asc (x++y):=⟨by rw [z5];exact hl,λ c m=>by
 rw [Q5,N0a] at m
 rcases m with m | m
 ·exact h.2 c m
 ·exact k.2 c m⟩
theorem q8J {x:Str}(h:Nm x):Asc x:=⟨by have:=h.2.1;omega,λ c m=>by have:=(h.2.2.1 c m).2;lia⟩
theorem q3l {x t:Str}(hx:Nm x) (hl:t.length<=90000):dPart (.str (x++s!": "++t)) (.str s!": ")=.ok (.tup [.str x,.str s!": ",.str t]):=by
 have hlen:(x++s!": "++t).length<=16777216:=by
  rw [z5,z5,show s!": ".length=2 by decide +kernel]
  have:=hx.2.1
  lia
 show Rz.guard _ (Rz.ok (D.tup [.str (Txt.partition (x++s!": "++t) _).1,.str (Txt.partition (x++s!": "++t) _).2.1,.str (Txt.partition (x++s!": "++t) _).2.2]))=_
 rw [w9 ⟨by decide +kernel,by rw [sizeLine_eq];exact hlen⟩]
 rw [X6 (y:=s!": ") (c:=58) (y':=[32]) (by decide +kernel) (q0e hx (by simp))]
theorem q53 {ss:List Str}{sm:Bool}(hs:∀ x∈ss,Nm x){d:Nd}(hk:d.ok ss sm) (hd:d.depth<=5):Asc d.txt:=by
 have h1:=V3 hs 5 d hk hd
 have hb5:bdN 5=2813:=rfl
 exact ⟨by omega,q8D hs 5 d hk hd⟩
theorem z1V {ss:List Str}{sm:Bool}(hs:∀ x∈ss,Nm x){x:Str}{d:Nd}(hx:Nm x) (hk:d.ok ss sm) (hd:d.depth<=5):Asc (rowT x d):=by
 have h1:=V3 hs 5 d hk hd
 have hb5:bdN 5=2813:=rfl
 have h2:=hx.2.1
 have e:s!": ".length=2:=by decide +kernel
 unfold rowT
 refine ((q8J hx).app ⟨by decide,by decide +kernel⟩ (by lia)).app (q53 hs hk hd) (by rw [z5];lia)
theorem q1b {ss:List Str}{sm:Bool}(hs:∀ x∈ss,Nm x){ks:List Str}{vs:List Nd}{x:Str}{d:Nd}(hx:Nm x) (hk:d.ok ss sm) (hd:d.depth<=5) (h24:d.knots<=24) :
 E_read_line [.str (rowT x d),webD ks vs]=if x∈ks then some 6 else if 16<=ks.length then some 6 else none:=by
 have hbd:=V3 hs 5 d hk hd
 have hb5:bdN 5=2813:=rfl
 have h1:=q3l (t:=d.txt) hx (by omega)
 have h2:=Y9 hs 8 d 1 hk (by omega) hd (by lia)
 have h3:=q0S 8 d hk (by omega)
 have h:=q24 (L:=rowT x d) (ks:=ks) (vs:=vs) h1 h2 h3 (z1V hs hx hk hd).ok
 rw [h,N0l (by lia),z71 ks vs x true d.toD (q17 x hx) (q8J hx).ok,N0l (by simp)]
 by_cases c1:x∈ks
 ·rw [N0j c1,N0j c1];rfl
 ·rw [N0l c1,N0l c1]
  by_cases c2:16<=ks.length
  ·rw [N0j c2,N0j c2];rfl
  ·rw [N0l c2,N0l c2]
theorem q1c {ss:List Str}{sm:Bool}(hs:∀ x∈ss,Nm x){T LS:D}{B:GS}{HB:HS}(hB:B=gDropX (gCallI F_read_line [1] (gCons (gVar 3) gNil))) (hH:HB=hOf (hCall E_read_line (gCons (gVar 3) (gCons (gVar 1) gNil)))) (rest:List D) :
 ∀ (ps:List (Str×Nd)) (ks:List Str) (vs:List Nd),(ks++ps.map (·.1)).Nodup->ks.length+ps.length<=16->(∀ p∈ps,Nm p.1/\p.2.ok ss sm/\p.2.depth<=5/\p.2.knots<=24) ->
  hLoop 3 [3] B HB (ps.map (λ p=>D.str (rowT p.1 p.2))++rest) [some T,some (webD ks vs),some LS,none]=hLoop 3 [3] B HB rest [some T,some (webD (ks++ps.map (·.1)) (vs++ps.map (·.2))),some LS,none]
 | [],ks,vs,_,_,_=>by simp
 | p::ps,ks,vs,hn,hl,hp=>by
  obtain ⟨q1,q2,q3,q4⟩:=hp p (N00 ..)
  have hnot:p.1∉ks:=λ z=>by
   rw [N09,List.nodup_append] at hn
   exact hn.2.2 _ z _ (N00 ..) rfl
  have hl':ks.length+(ps.length+1)<=16:=hl
  have e1:=q1b (ks:=ks) (vs:=vs) hs q1 q2 q3 q4
  rw [N0l hnot,N0l (by lia)] at e1
  have e2:=q1k (ks:=ks) (vs:=vs) hs q1 hnot (by lia) q2 q3 q4
  have ih:=q1c hs (T:=T) (LS:=LS) hB hH rest ps (ks++[p.1]) (vs++[p.2]) (by rw [List.append_assoc];exact hn) (by rw [N06,N11];lia) λ r m=>hp r (N02 _ m)
  rw [List.append_assoc,List.append_assoc] at ih
  rw [N09,List.cons_append,hLoop]
  have f1:HB ([some T,some (webD ks vs),some LS,none].set 3 (some (.str (rowT p.1 p.2))))=none:=by
   rw [hH]
   generalize E_read_line=EL at *
   simp [hOf,hCall,e1]
  have f2:B ([some T,some (webD ks vs),some LS,none].set 3 (some (.str (rowT p.1 p.2))))=.ok (.nx [some T,some (webD (ks++[p.1]) (vs++[p.2])),some LS,some (.str (rowT p.1 p.2))]):=by
   rw [hB]
   generalize F_read_line=FL at *
   simp [e2]
  rw [f1,f2]
  exact ih
theorem q2G {T:Str}{ls:List Str}(hsp:Txt.split T (one 10)=ls) (hne:T≠s!"") (hl:T.length<=1000000) :
 E_read [.str T]=(hLoop 3 [3] (gDropX (gCallI F_read_line [1] (gCons (gVar 3) gNil))) (hOf (hCall E_read_line (gCons (gVar 3) (gCons (gVar 1) gNil)))) (ls.map D.str) [some (.str T),some (webD [] []),some (.lst (ls.map D.str)),none]).map (·.1):=by
 have hdne:dNe (.str T) (.str s!"")=.ok (.bl true):=by
  rw [z0t,w9 (q14 _ _),u8,N0e hne];rfl
 have hds:dSplt (.str T) (.str (Str.ofString "\n"))=.ok (.lst (ls.map D.str)):=by
  show Rz.guard _ (Rz.ok (D.lst ((Txt.split _ _).map D.str)))=_
  rw [w9 ⟨by decide +kernel,by rw [sizeLine_eq];lia⟩,q8z,hsp]
 have w0:D.obj 0 s!"need_by_name" (.dct [] [])=webD [] []:=rfl
 unfold E_read q1P q8a
 generalize (gDropX (gCallI F_read_line [1] (gCons (gVar 3) gNil)))=B at *
 generalize (hOf (hCall E_read_line (gCons (gVar 3) (gCons (gVar 1) gNil))))=HB at *
 generalize dNe=NE at *
 generalize dSplt=DS1 at *
 generalize ls.map D.str=LS at *
 simp [startD,q0q,z41,rzO,forget,w0,hdne,hds]
theorem q4e {ss:List Str}{sm:Bool}(hs:∀ x∈ss,Nm x){T:Str}{ps:List (Str×Nd)}{bad:Str}{rest:List Str}(hsp:Txt.split T (one 10)=ps.map (λ p=>rowT p.1 p.2)++bad::rest) (hne:T≠s!"") (hl:T.length<=1000000)
 (hn:(ps.map (·.1)).Nodup) (h16:ps.length<=16) (hp:∀ p∈ps,Nm p.1/\p.2.ok ss sm/\p.2.depth<=5/\p.2.knots<=24) (hb:E_read_line [.str bad,webD (ps.map (·.1)) (ps.map (·.2))]=some 6):E_read [.str T]=some 6:=by
 rw [q2G hsp hne hl]
 generalize (D.lst ((ps.map (λ p=>rowT p.1 p.2)++bad::rest).map D.str))=LS
 rw [N14,N1q,N09]
 have h:=q1c hs (T:=.str T) (LS:=LS) rfl rfl (.str bad::rest.map D.str) ps [] [] hn (by simpa using h16) hp
 rw [show (ps.map (D.str ∘ λ p=>rowT p.1 p.2))=ps.map (λ p=>D.str (rowT p.1 p.2)) from rfl,h,List.nil_append,List.nil_append,hLoop]
 have f:(hOf (hCall E_read_line (gCons (gVar 3) (gCons (gVar 1) gNil)))) ([some (.str T),some (webD (ps.map (·.1)) (ps.map (·.2))),some LS,none].set 3 (some (.str bad)))=some (6,[some (.str T),some (webD (ps.map (·.1)) (ps.map (·.2))),some LS,some (.str bad)]):=by
  generalize E_read_line=EL at *
  simp [hOf,hCall,hb]
 rw [f]
 rfl
theorem q9N {ss:List Str}{sm:Bool}(hs:∀ x∈ss,Nm x){T:Str}{ps:List (Str×Nd)}(hsp:Txt.split T (one 10)=ps.map (λ p=>rowT p.1 p.2)) (hne:T≠s!"") (hl:T.length<=1000000)
 (hn:(ps.map (·.1)).Nodup) (h16:ps.length<=16) (hp:∀ p∈ps,Nm p.1/\p.2.ok ss sm/\p.2.depth<=5/\p.2.knots<=24):E_read [.str T]=none:=by
 rw [q2G hsp hne hl]
 generalize (D.lst ((ps.map (λ p=>rowT p.1 p.2)).map D.str))=LS
 have h:=q1c hs (T:=.str T) (LS:=LS) rfl rfl [] ps [] [] hn (by simpa using h16) hp
 rw [N10] at h
 rw [N1q,show (ps.map (D.str ∘ λ p=>rowT p.1 p.2))=ps.map (λ p=>D.str (rowT p.1 p.2)) from rfl,h,hLoop]
 rfl
theorem q6A {T:Str}(h:E_read [.str T]=some 6):F__law_tried [.str T]=.ok (.str s!"note"):=by
 unfold F__law_tried y3 V6
 generalize E_read=ER at *
 generalize F_read=FR at *
 simp [startD,z27,hOf,hCall,h,kdW,CS,kindW]
theorem q6B {T:Str}{w:D}(h:E_read [.str T]=none) (h2:F_read [.str T]=.ok w):F__law_tried [.str T]=.ok (.str s!"read"):=by
 unfold F__law_tried y3 V6
 generalize E_read=ER at *
 generalize F_read=FR at *
 simp [startD,z27,hOf,hCall,h,h2]
noncomputable def BadL (L:Str):Prop:=10∉L.cps.toList/\L.length<=5000/\∀ ks vs,E_read_line [.str L,webD ks vs]=some 6
theorem q8K {L p0 p1 p2:Str}(h:Txt.partition L s!": " = (p0,p1,p2)) (hl:L.length<=100000):dPart (.str L) (.str s!": ")=.ok (.tup [.str p0,.str p1,.str p2]):=by
 show Rz.guard _ (Rz.ok (D.tup [.str (Txt.partition L _).1,.str (Txt.partition L _).2.1,.str (Txt.partition L _).2.2]))=_
 rw [w9 ⟨by decide +kernel,by rw [sizeLine_eq];omega⟩,h]
theorem q8L:E_read_need 8 [.str s!"",.int 1]=some 6:=by decide +kernel
theorem q63 {L p0 p1:Str}(h:Txt.partition L s!": " = (p0,p1,s!"")) (hl:L.length<=5000) (hn:10∉L.cps.toList):BadL L:=⟨hn,hl,λ ks vs=>q1a (q8K h (by omega)) q8L⟩
theorem q9O:∀ L∈([s!"",s!" ",s!":",s!"sun",s!"a"]:List Str),BadL L:=by
 have key:∀ L∈([s!"",s!" ",s!":",s!"sun",s!"a"]:List Str),(Txt.partition L s!": ").2.2=s!""/\L.length<=5000/\10∉L.cps.toList:=by decide +kernel
 intro L m
 obtain ⟨k1,k2,k3⟩:=key L m
 exact q63 (p0:=(Txt.partition L s!": ").1) (p1:=(Txt.partition L s!": ").2.1) (by rw [<- k1]) k2 k3
end Fw
namespace Fw
open PySem Dl PySem.Builtin.Str
theorem z3H:Str.empty=s!"":=by decide +kernel
theorem str_ext {a b:Str}(h:a.cps.toList=b.cps.toList):a=b:=by
 cases a;cases b
 congr 1
 exact Array.toList_inj.1 h
theorem q8M (x y:Str) (i:Nat):subAt x y i=true↔((x.cps.toList.drop i).take y.length=y.cps.toList):=by
 unfold subAt
 rw [beq_iff_eq,<- Array.toList_inj,Array.toList_extract,N1g,show i+y.length - i=y.length by simp]
theorem q4f {x y:Str}(h:∀ i,¬ ((x.cps.toList.drop i).take y.length=y.cps.toList)):Txt.partition x y=(x,Str.empty,Str.empty):=by
 unfold Txt.partition
 rcases StrLaws.occ_head x y 1 (N07 _) with ⟨q,_⟩ | ⟨i,l,q1,q2,q3⟩
 ·rw [q]
 ·exact absurd ((q8M x y i).1 q2.2) (h i)
theorem q6C {x:Str}{c:Nat}(h:c∉x.cps.toList):Txt.partition x (one c)=(x,Str.empty,Str.empty):=q4f λ i z=>by
 have q:(((x.cps.toList.drop i).take (one c).length))[0]? = some c:=by rw [z];rfl
 rw [List.getElem?_take_of_lt (by show 0<1;simp),List.getElem?_drop] at q
 exact h (N0u q)
theorem q6D {t r:Str}(ht:58∉t.cps.toList) (hr:∀ j,j<r.cps.toList.length->r.cps.toList[j]? = some 58->r.cps.toList[j+1]? ≠ some 32):Txt.partition (t++r) s!": " = (t++r,Str.empty,Str.empty):=q4f λ i z=>by
 have ey:s!": ".cps.toList=[58,32]:=by decide +kernel
 have el:s!": ".length=2:=by decide +kernel
 rw [ey,el] at z
 have q0:(((t++r).cps.toList.drop i).take 2)[0]? = some 58:=by rw [z];rfl
 have q1:(((t++r).cps.toList.drop i).take 2)[1]? = some 32:=by rw [z];rfl
 rw [List.getElem?_take_of_lt (by simp),List.getElem?_drop,Q5] at q0 q1
 rw [Nat.add_zero] at q0
 by_cases c:i<t.cps.toList.length
 ·rw [N0x c] at q0
  exact ht (N0u q0)
 ·rw [N19 (by lia)] at q0 q1
  have hj:i - t.cps.toList.length<r.cps.toList.length:=(N04.1 q0).1
  rw [show i+1 - t.cps.toList.length=i - t.cps.toList.length+1 by lia] at q1
  exact hr _ hj q0 q1
theorem q9P (x:Str) (c:Nat):Txt.endswith x (one c)=true↔x.cps.toList.getLast? = some c:=by
 have lx:x.cps.toList.length=x.length:=by rw [N0g];rfl
 unfold Txt.endswith
 rw [N0q,N1p,q8M,show (one c).length=1 from rfl,show (one c).cps.toList=[c] from rfl]
 constructor
 ·rintro ⟨h1,h2⟩
  have q:((x.cps.toList.drop (x.length - 1)).take 1)[0]? = some c:=by rw [h2];rfl
  rw [List.getElem?_take_of_lt (by simp),List.getElem?_drop,Nat.add_zero] at q
  rw [List.getLast?_eq_getElem?,lx]
  exact q
 ·intro h
  rw [List.getLast?_eq_getElem?,lx] at h
  have hl:=(N04.1 h).1
  rw [lx] at hl
  refine ⟨by lia,?_⟩
  have e:(x.cps.toList.drop (x.length - 1)).length=1:=by rw [N1n,lx];lia
  obtain ⟨a,ha⟩:=List.length_eq_one_iff.1 e
  rw [ha]
  have q:(x.cps.toList.drop (x.length - 1))[0]? = some c:=by rw [List.getElem?_drop,Nat.add_zero];exact h
  rw [ha] at q
  cases q
  rfl
theorem q9Q {t:Str}{c e:Nat}(h:t.cps.toList.getLast? ≠ some e):Txt.endswith (Txt.partition t (one c)).2.2 (one e)=false:=by
 cases q:Txt.endswith (Txt.partition t (one c)).2.2 (one e) with
 | false=>rfl
 | true =>
  exfalso
  rw [q9P] at q
  unfold Txt.partition at q
  rcases StrLaws.occ_head t (one c) 1 (N07 _) with ⟨z,_⟩ | ⟨i,l,z,z2,_⟩
  ·rw [z] at q
   cases q
  ·rw [z] at q
   have q:(strSub t (i+(one c).length) t.length).cps.toList.getLast? = some e:=q
   have lx:t.cps.toList.length=t.length:=by rw [N0g];rfl
   unfold strSub at q
   rw [Array.toList_extract,N1g,N1l (by rw [N1n];simp_all),List.getLast?_drop] at q
   split at q
   ·cases q
   ·exact h q
noncomputable def z72 (x:Str):Prop:=x.length=0\/8<x.length\/x∈wKEPT_WORDS\/∃ c∈x.cps.toList,¬ (97<=c/\c<=122)
theorem le_a (c:Nat):dLe (.str "a") (.str ⟨#[c]⟩)=.ok (.bl (decide (97<=c))):=by
 have ea:s!"a".cps.toList=[97]:=by decide +kernel
 show Rz.ok (D.bl (!decide ([c]<s!"a".cps.toList)))=_
 rw [ea]
 by_cases h:97<=c
 ·rw [N0o h,N0e (by intro q;cases q with | rel q=>lia | cons q=>cases q)];rfl
 ·have q:[c]<[97]:=List.Lex.rel (by simp_all)
  rw [N0e h,N0o q];rfl
theorem le_z (c:Nat):dLe (.str ⟨#[c]⟩) (.str "z")=.ok (.bl (decide (c<=122))):=by
 have ez:s!"z".cps.toList=[122]:=by decide +kernel
 show Rz.ok (D.bl (!decide (s!"z".cps.toList<[c])))=_
 rw [ez]
 by_cases h:c<=122
 ·rw [N0o h,N0e (by intro q;cases q with | rel q=>lia | cons q=>cases q)];rfl
 ·have q:[122]<[c]:=List.Lex.rel (by simp_all)
  rw [N0e h,N0o q];rfl
theorem q9R {α:Type}(f:α->Bool) (l:List α):blsD (l.map λ x=>D.bl (f x))=some (l.map f):=by
 induction l with
 | nil=>rfl
 | cons x r ih=>rw [N09,blsD,ih];rfl
theorem q0A {x:Str}(ha':Asc x) (h:z72 x):F_is_name [.str x]=.ok (.bl false):=by
 unfold F_is_name y3 q09
 have ht:=ha'.2
 have hz:x.length<=16777216:=by have:=ha'.1;omega
 by_cases h1:(x.length:Int)<1
 ·simp [startD,hz,h1]
 by_cases h2:(8:Int)<(x.length:Int)
 ·simp [startD,hz,h1,h2]
 by_cases h3:x∈wKEPT_WORDS
 ·simp [startD,hz,h1,h2,h3]
 have h4:∃ c∈x.cps.toList,¬ (97<=c/\c<=122):=by
  rcases h with h | h | h | h
  ·simp_all
  ·omega
  ·exact absurd h h3
  ·exact h
 have hc:compL [] q1n (gChain dLe dLe (gC (.str "a")) (gVar 0) (gC (.str "z"))) (signsD x)=.ok (x.cps.toList.map λ c=>D.bl (decide (97<=c)&&decide (c<=122))):=by
  unfold signsD
  refine U6 λ c m=>?_
  have l1:=le_a c
  have l2:=le_z c
  by_cases q:97<=c
  ·rw [N0o q] at l1 ⊢
   simp [l1,l2]
  ·rw [N0e q] at l1 ⊢
   simp [l1]
 have hb:=q9R (λ c:Nat=>decide (97<=c)&&decide (c<=122)) x.cps.toList
 have ha:∀ (i:Nat) (_:i<x.cps.size),x.cps[i]<128:=λ i h=>by
  have:=ht x.cps[i] (by rw [Array.mem_toList_iff];exact Array.getElem_mem h)
  omega
 have hll:(x.cps.toList.map λ c=>D.bl (decide (97<=c)&&decide (c<=122))).length<=16777216:=by
  rw [N01,N0g];exact hz
 have hf:(x.cps.toList.map λ c:Nat=>decide (97<=c)&&decide (c<=122)).all id=false:=by
  obtain ⟨c,m,q⟩:=h4
  rw [List.all_eq_false]
  refine ⟨false,List.mem_map.2 ⟨c,m,?_⟩,by simp⟩
  by_cases q1:97<=c
  ·rw [N0e (λ q2=>q ⟨q1,q2⟩)];simp
  ·rw [N0e q1];simp
 generalize (x.cps.toList.map λ c=>D.bl (decide (97<=c)&&decide (c<=122)))=BS at *
 generalize (x.cps.toList.map λ c:Nat=>decide (97<=c)&&decide (c<=122))=B2 at *
 simp [startD,hz,h1,h2,h3]
 rw [N0j ha]
 simp [capD,hc,hll,hb,hf]
theorem q4g {t:Str}{c:Nat}(n k:Nat) (hc:c∈t.cps.toList) (hb:¬ (97<=c/\c<=122)) (ha:Asc t) (he:Txt.endswith (Txt.partition t (one 40)).2.2 (one 41)=false) (hk:k<=5):E_read_need (n+1) [.str t,.int (k:Int)]=some 6:=by
 have hk5:¬ (5:Int)<(k:Int):=by lia
 have hi:=q0A ha (.inr (.inr (.inr ⟨c,hc,hb⟩)))
 have e:dEq (.str t) (.str s!"sun")=.ok (.bl false):=by
  rw [q5J,w9 (q14 _ _),u8,N0e]
  intro z
  rw [z] at hc
  have:∀ c∈s!"sun".cps.toList,97<=c/\c<=122:=by decide +kernel
  exact hb (this c hc)
 have hp:dPart (.str t) (.str s!"(")=.ok (.tup [.str (Txt.partition t (one 40)).1,.str (Txt.partition t (one 40)).2.1,.str (Txt.partition t (one 40)).2.2]):=by
  show Rz.guard _ (Rz.ok (D.tup [.str (Txt.partition t _).1,.str (Txt.partition t _).2.1,.str (Txt.partition t _).2.2]))=_
  rw [w9 ⟨by decide +kernel,by rw [sizeLine_eq];have:=ha.1;omega⟩,q2D]
 have hnk:dNotK tBEGINNINGS (.str (Txt.partition t (one 40)).1)=.ok (.bl (!(tBEGINNINGS.lookup (Txt.partition t (one 40)).1).isSome)):=rfl
 have hen:dEnds (.str (Txt.partition t (one 40)).2.2) (.str s!")")=.ok (.bl false):=by
  show Rz.ok (D.bl (Txt.endswith _ _))=_
  rw [q2E,he]
 have okm:=ha.ok
 show q1P 6 (K5 F_is_name F_parts_asked (F_read_need n) F_split_parts (E_read_need n)) _=_
 unfold q1P K5
 generalize (Txt.partition t (one 40)).1=P0 at *
 generalize (Txt.partition t (one 40)).2.1=P1 at *
 generalize (Txt.partition t (one 40)).2.2=P2 at *
 generalize dPart=DP at *
 generalize dNotK=NK at *
 generalize dEnds=DE1 at *
 generalize dEq=Q at *
 generalize F_is_name=FI at *
 cases hv:(tBEGINNINGS.lookup P0).isSome with
 | true =>
  rw [hv] at hnk
  simp [startD,q0q,hOr,hIf,hk5,e,hi,hp,hnk,hen,hRaiseN,okm]
 | false =>
  rw [hv] at hnk
  simp [startD,q0q,hOr,hIf,hk5,e,hi,hp,hnk,hRaiseN,okm]
theorem q0T (s t:Str):∀ P:List Str,sufT s (P++[t])=P++[t++s]
 | []=>rfl
 | [a]=>rfl
 | a::b::r=>by
  show a::sufT s ((b::r)++[t])=_
  rw [q0T s t (b::r)]
  rfl
theorem q54 {α:Type}{P:List α}(h:P≠[]):∃ Q t,P=Q++[t]:=⟨P.dropLast,P.getLast h,(List.dropLast_concat_getLast h).symm⟩
theorem q9S (s:Str) (Q:List Str) (t:Str) (h:0<(Q.foldl stepS ([],0)).2->(Q.foldl stepS ([],0)).1≠[]):((Q++[t++s]).foldl stepS ([],0)).1=sufT s ((Q++[t]).foldl stepS ([],0)).1:=by
 rw [List.foldl_append,List.foldl_append,List.foldl_cons,List.foldl_cons,List.foldl_nil,List.foldl_nil]
 generalize Q.foldl stepS ([],0)=p at *
 unfold stepS
 by_cases c:0<p.2
 ·rw [N0j c,N0j c]
  obtain ⟨R,a,e⟩:=q54 (h c)
  rw [e]
  have l:(R++[a]).length - 1=R.length:=by simp
  have g:((R++[a])[R.length]?).getD "" = a:=by simp
  have st:∀ v:Str,(R++[a]).set R.length v=R++[v]:=λ v=>by simp
  rw [l,g,st,st,q0T]
  show R++[a++s!" "++(t++s)]=_
  rw [<- Q4]
 ·rw [N0l c,N0l c]
  show p.1++[t++s]=sufT s (p.1++[t])
  rw [q0T]
theorem q64 {s:Str}{c:Nat}(hs:c∉s.cps.toList):∀ {ts:List Str},(∀ t∈ts,c∉t.cps.toList)->∀ t∈sufT s ts,c∉t.cps.toList
 | [],_,t,m=>absurd m (by simp [sufT])
 | [a],h,t,m=>by
  have:t=a++s:=by simpa [sufT] using m
  rw [this,Q5,N0a]
  rintro (q | q)
  ·exact h a (N00 ..) q
  ·exact hs q
 | a::b::r,h,t,m=>by
  rcases N0c.1 (show t∈a::sufT s (b::r) from m) with q | q
  ·rw [q];exact h a (N00 ..)
  ·exact q64 hs (λ t m=>h t (N02 _ m)) t q
theorem q6E {ss:List Str}{sm:Bool}(hs:∀ x∈ss,Nm x){l:List Nd}(hk:okL ss sm l) (hn:l≠[]){s:Str}(h32:32∉s.cps.toList) (hs1:s.length<=10) (hb:(Str.join s!" " (l.map Nd.txt)).length<=90000):F_split_parts [.str (Str.join s!" " (l.map Nd.txt)++s)]=.ok (strsL (sufT s (l.map Nd.txt))):=by
 have k:=q2C hs l hk hn
 have hne:=z0y s k.ne
 have hj:=q3i s s!" " k.ne
 have hz:=q52 hne
 have hl:=q8E (sufT s (toksL l))
 have hsp:Txt.split (Str.join s!" " (l.map Nd.txt)++s) (one 32)=sufT s (toksL l):=by
  rw [<- k.join,<- hj,q8y]
  exact U0 (by simp) hne (q64 h32 k.sp)
 have hjl:(Str.join s!" " (sufT s (toksL l))).length<=90010:=by
  rw [hj,k.join,z5]
  lia
 have hxl:(Str.join s!" " (l.map Nd.txt)++s).length<=100000:=by rw [z5];lia
 rw [q0t hsp hxl (by lia) (by lia)]
 obtain ⟨Q,t,e⟩:=q54 k.ne
 have inv:=(q22 (toksL l) Q.length (by rw [e];simp)).2.2
 rw [show (toksL l).take Q.length=Q by rw [e];simp] at inv
 rw [e,q0T,q9S s Q t inv,<- e,q3j hs l [] hk]
 rfl
theorem q2H {cap:DS}{ge:GE}{he:HE}{c:Nat}:∀ {A:List D}{z:D},(∀ d∈A,he (some d::cap)=none/\∃ y,ge (some d::cap)=.ok y)->he (some z::cap)=some c->hCompL cap ge he (A++[z])=some c
 | [],z,_,h=>by rw [List.nil_append,hCompL,h]
 | a::A,z,hA,h=>by
  obtain ⟨h1,y,h2⟩:=hA a (N00 ..)
  rw [List.cons_append,hCompL,h1,h2]
  exact q2H (λ d m=>hA d (N02 _ m)) h
theorem q2c {ss:List Str}{sm:Bool}(hs:∀ x∈ss,Nm x) (n:Nat) (d:Nd) (k:Nat) (hk:d.ok ss sm) (hd:d.depth<=5) (h5:k<=5) (ihF:∀ e∈d.parts,F_read_need n [.str e.txt,.int ((k:Int)+1)]=.ok e.toD) (ihE:∀ e∈d.parts,E_read_need n [.str (e.txt++one 41),.int ((k:Int)+1)]=some 6) :
 E_read_need (n+1) [.str (d.txt++one 41),.int (k:Int)]=some 6:=by
 have hbd:=V3 hs 5 d hk hd
 have hb5:bdN 5=2813:=rfl
 have hasc:Asc (d.txt++one 41):=(q53 hs hk hd).app ⟨by show 1<=100000;simp,by decide +kernel⟩ (by show d.txt.length+1<=_;lia)
 have h41:41∈(d.txt++one 41).cps.toList:=by rw [Q5,N0a];exact .inr (N00 ..)
 by_cases h0:40∉d.txt.cps.toList
 ·refine q4g n k h41 (by decide) hasc ?_ h5
  rw [q6C (by rw [Q5,N0a];rintro (q | q);exact h0 q;exact absurd q (by decide +kernel))]
  show Txt.endswith Str.empty (one 41)=false
  decide +kernel
 have h1:d≠.sun:=λ z=>h0 (by rw [z,Nd.txt];decide +kernel)
 have h2:∀ x,d≠.eats x:=λ x z=>h0 (by
  rw [z,Nd.txt]
  rw [z,Nd.ok] at hk
  exact q0e (hs x hk) (by simp))
 have hk5:¬ (5:Int)<(k:Int):=by lia
 obtain ⟨b1,b2,b3,b4,b5,b6⟩:=z0A hk h1 h2
 obtain ⟨p4,pok⟩:=J7 hk
 have pne:d.parts≠[]:=λ z=>by
  cases d with
  | sun=>exact h1 rfl
  | eats x=>exact h2 x rfl
  | any ps=>rw [Nd.ok] at hk;have z:ps=[]:=z;rw [z] at hk;exact absurd hk.1 (by simp)
  | all ps=>rw [Nd.ok] at hk;have z:ps=[]:=z;rw [z] at hk;exact absurd hk.2.1 (by simp)
  | some m ps=>rw [Nd.ok] at hk;have z:ps=[]:=z;rw [z] at hk;have a:=hk.2.1;have b:=hk.2.2.1;simp at b;lia
 have e0:∀ a:Str,a++Str.empty=a:=λ a=>by cases a;show Str.mk _=_;congr 1
 have htx:d.txt++one 41=d.word++one 40++(Str.join s!" " (d.parts.map Nd.txt)++one 41++one 41):=by
  rw [q2z d h1 h2,e0,q2D,q2E]
  simp only [Q4]
 have hin:(Str.join s!" " (d.parts.map Nd.txt)).length<=2813:=by
  have l:=congrArg Str.length htx
  rw [z5,z5,z5,z5,z5] at l
  lia
 have heq:dEq (.str (d.txt++one 41)) (.str s!"sun")=.ok (.bl false):=by
  rw [q5J,w9 (q14 _ _),u8,N0e]
  intro z
  rw [z] at h41
  exact absurd h41 (by decide +kernel)
 have hi:=q0A hasc (.inr (.inr (.inr ⟨41,h41,by decide⟩)))
 have hp:dPart (.str (d.txt++one 41)) (.str s!"(")=.ok (.tup [.str d.word,.str (one 40),.str (Str.join s!" " (d.parts.map Nd.txt)++one 41++one 41)]):=by
  show Rz.guard _ (Rz.ok (D.tup [.str (Txt.partition (d.txt++one 41) _).1,.str (Txt.partition (d.txt++one 41) _).2.1,.str (Txt.partition (d.txt++one 41) _).2.2]))=_
  rw [w9 ⟨by decide +kernel,by rw [sizeLine_eq];have:=hasc.1;omega⟩,q2D,htx,X6 (y:=one 40) (y':=[]) rfl b2]
 have hnk:dNotK tBEGINNINGS (.str d.word)=.ok (.bl false):=by
  show Rz.ok (D.bl (!(tBEGINNINGS.lookup d.word).isSome))=_
  rw [b1];rfl
 have hen:dEnds (.str (Str.join s!" " (d.parts.map Nd.txt)++one 41++one 41)) (.str s!")")=.ok (.bl true):=by
  show Rz.ok (D.bl (Txt.endswith _ _))=_
  rw [q2E,q5W]
 have hcut:=q5Z (Str.join s!" " (d.parts.map Nd.txt)++one 41) 41 (by rw [z5];show _+1<=_;lia)
 have hsp:=q6E hs pok pne (s:=one 41) (by decide +kernel) (by show 1<=10;simp) (by omega)
 obtain ⟨Q,z,eq⟩:=q54 pne
 have hsl:sufT (one 41) (d.parts.map Nd.txt)=Q.map Nd.txt++[z.txt++one 41]:=by rw [eq,N14,N09,List.map_nil,q0T]
 have hql:Q.length+1<=4:=by have:=p4;rw [eq,N06,N11] at this;exact this
 rw [hsl] at hsp
 have hln:pLen [strsL (Q.map Nd.txt++[z.txt++one 41])]=.ok (.int ((Q.length+1:Nat):Int)):=by rw [q0d,N06,N01,N11]
 have hp4:¬ (4:Int)<(Q.length:Int)+1:=by lia
 have hit:itD (strsL (Q.map Nd.txt++[z.txt++one 41]))=.ok ((Q.map Nd.txt).map D.str++[.str (z.txt++one 41)]):=by
  show Rz.ok ((Q.map Nd.txt++[z.txt++one 41]).map D.str)=_
  rw [N14]
  rfl
 have hcl:((Q.map Nd.txt).map D.str++[D.str (z.txt++one 41)]).length<=16777216:=by rw [N06,N01,N01,N11];omega
 have hcomp:hCompL [some (.int (k:Int))] (gCall (F_read_need n) (gCons (gVar 0) (gCons (gOp dAddS (gVar 1) (gC (.int 1))) gNil))) (hCall (E_read_need n) (gCons (gVar 0) (gCons (gOp dAddS (gVar 1) (gC (.int 1))) gNil))) ((Q.map Nd.txt).map D.str++[.str (z.txt++one 41)])=some 6:=by
  refine q2H (λ a m=>?_) ?_
  ·rw [N1q] at m
   obtain ⟨e,me,rfl⟩:=List.mem_map.1 m
   have q:=ihF e (by rw [eq];exact N0w _ me)
   have q2:=q23 n _ _ q
   generalize F_read_need n=FR at *
   generalize E_read_need n=ER at *
   refine ⟨?_,e.toD,?_⟩
   ·simp [hCall,q2]
   ·simp [q]
  ·have q:=ihE z (by rw [eq];exact N05 _ (N0f.2 rfl))
   generalize F_read_need n=FR at *
   generalize E_read_need n=ER at *
   simp [hCall,q]
 have okm:=hasc.ok
 show q1P 6 (K5 F_is_name F_parts_asked (F_read_need n) F_split_parts (E_read_need n)) _=_
 unfold q1P K5
 clear htx b1 b2 b3 b4 b5 b6 hsl
 generalize (Str.join s!" " (d.parts.map Nd.txt)++one 41)=INN at *
 generalize d.txt++one 41=TX at *
 generalize strsL (Q.map Nd.txt++[z.txt++one 41])=SP at *
 generalize ((Q.map Nd.txt).map D.str++[D.str (z.txt++one 41)])=MP at *
 generalize dEq=Q1 at *
 generalize dPart=DP at *
 generalize dNotK=NK at *
 generalize dEnds=DE1 at *
 generalize F_is_name=FI at *
 generalize F_split_parts=FSP at *
 generalize (gCall (F_read_need n) (gCons (gVar 0) (gCons (gOp dAddS (gVar 1) (gC (.int 1))) gNil)))=GR at *
 generalize (hCall (E_read_need n) (gCons (gVar 0) (gCons (gOp dAddS (gVar 1) (gC (.int 1))) gNil)))=HR at *
 simp [-q3b,startD,q0q,hOr,hIf,q04,hRaiseN,q2w,hk5,heq,hi,hp,hnk,hen,hcut,hsp,hln,hp4,hit,hcl,capD,hcomp]
theorem q4h {ss:List Str}{sm:Bool}(hs:∀ x∈ss,Nm x):∀ (n:Nat) (d:Nd) (k:Nat),d.ok ss sm->d.depth<=n->d.depth<=5->k+d.depth<=6->E_read_need n [.str (d.txt++one 41),.int (k:Int)]=some 6
 | 0,d,k,_,h,_,_=>by have:=J0 d;simp_all
 | n+1,d,k,hk,h,h5,h6=>by
  have hdp:∀ e∈d.parts,e.depth+1<=d.depth:=λ e m=>by
   have:=J0 d
   have:=J9 (n:=d.depth - 1) (d:=d) (e:=e) (by simp_all) m
   lia
  refine q2c hs n d k hk h5 (by have:=J0 d;lia) (λ e m=>?_) λ e m=>?_
  ·have hd:=hdp e m
   have:=Y9 hs n e (k+1) (Y3 (J7 hk).2 m) (by lia) (by lia) (by lia)
   rwa [show ((k+1:Nat):Int)=(k:Int)+1 by rfl] at this
  ·have hd:=hdp e m
   have:=q4h hs n e (k+1) (Y3 (J7 hk).2 m) (by lia) (by lia) (by lia)
   rwa [show ((k+1:Nat):Int)=(k:Int)+1 by rfl] at this
noncomputable def BL:List Str:=[
 s!"",s!"any()",s!"any(",
 s!"any(a",s!"any a)",s!"any(a  b)",
 s!"any( a)",s!"any(a )",s!"any(a,b)",
 s!"(a)",s!"a b",s!"all(a b c d e)",
 s!"0of(a)",s!"5of(a b c d)",s!"2of(a)",
 s!"of(a)",s!"22of(a b)",s!"1of()",
 s!"one(a)",s!"1of",s!"any",
 s!"all",s!"of",s!"Sun",
 s!"a1",s!"a-b",s!"abcdefghi",
 s!"any(a))",s!"any(any(a)",s!"sun sun",
 s!"any(any(any(any(any(a)))))",s!"any(sun) ",s!" sun",
 Str.ofString "sun\t",Str.ofString "any(a\tb)",s!"1 of(a)",
 s!"3of(a b)",s!"all(any(a b c d) any(a b c d) any(a b c d) any(a b c d)) x",s!"ANY(a)",
 s!"any(a|b)",s!"all(any(a b any(c d)) any(a b any(c d)) any(a b any(c d)) any(a b any(c d)))",s!"all(a b c any(a b c any(a b c any(a b c any(d)))))",
 s!"any(all(a b c d any(e)) all(a b c d any(e)) all(a b c d any(e)) all(a b c d any(e)))",s!"any(any(a)b)",s!"2ofx(a b)",
 s!"any(all(a b)any(c))",s!"all(sun any(a)b)",s!"2of(a b c d e)",
 s!"01of(a)",s!"002of(a b)",s!"sun: a"]
theorem z3I (c:Int):V1 [some (.int c),none,none]=(q1O (gOp dIx (gVar 1) (gOp dMod (gVar 0) (gCall pLen (gCons (gVar 1) gNil))))) [some (.int c),some (.lst (BL.map D.str)),some (.str s!"all(a b c any(a b c any(a b c any(a b c d))))")]:=by kernel_rfl
noncomputable def z73 (b:Str):Bool:=decide (10∉b.cps.toList)&&decide (b.length<=1000)&&decide (∀ c∈b.cps.toList,c<128)&&(decide (E_read_need 8 [.str b,.int 1]=some 6) || (match F_read_need 8 [.str b,.int 1] with
 | .ok d=>(match F_knots_of 8 [d] with | .ok (.int k)=>decide (24<k) | _=>false)
 | _=>false))
theorem z3J:∀ b∈BL,z73 b=true:=by decide +kernel
theorem z1W (l:List Str) (k:Int) (h0:0<=k) (h1:k<(l.length:Int)):∃ s∈l,dIx (.lst (l.map D.str)) (.int k)=.ok (.str s):=by
 obtain ⟨n,rfl⟩:=Int.eq_ofNat_of_zero_le h0
 have hn:n<l.length:=by simp_all
 exact ⟨l[n],N0z hn,by simp [q0N,hn]⟩
theorem q0U (l:List Str) (c:Int){m:Int}(hm:(l.length:Int)=m) (h:0<m):∃ s∈l,dIx (.lst (l.map D.str)) (.int (c % m))=.ok (.str s) :=
 z1W l _ (N0s _ (by omega)) (by rw [hm];exact N0t _ h)
theorem z1X (c:Int):∃ b∈BL,F__law_bad_need [.int c]=.ok (.str b):=by
 have hl:BL.length=51:=by decide +kernel
 obtain ⟨b,mb,e⟩:=q0U BL c (m:=51) (by rfl) (by simp)
 refine ⟨b,mb,?_⟩
 have hp:pLen [.lst (BL.map D.str)]=.ok (.int 51):=by rw [q5K,N01,hl];rfl
 have hm:dMod (.int c) (.int 51)=.ok (.int (c % 51)):=by simp
 unfold F__law_bad_need y3
 rw [show startD 3 [D.int c]=[some (.int c),none,none] from rfl,z3I]
 generalize BL.map D.str=BD at *
 generalize dMod=DM at *
 generalize dIx=DI1 at *
 simp [q1O,hp,hm,e]
set_option tactic.hygienic true in
theorem z74 {x b:Str}(hx:Nm x) (hb:b∈BL):BadL (x++s!": "++b):=by
 have h:=z3J b hb
 unfold z73 at h
 rw [N0q,N0q,N0q,N1p,N1p,N1p,Bool.or_eq_true,N1p] at h
 obtain ⟨⟨⟨h1,h2⟩,h3⟩,h4⟩:=h
 have hl:s!": ".length=2:=by decide +kernel
 have hx8:=hx.2.1
 have hp:=q3l (t:=b) hx (by omega)
 refine ⟨?_,by rw [z5,z5];lia,λ ks vs=>?_⟩
 ·rw [Q5,Q5,N0a,N0a]
  rintro ((m | m) | m)
  ·exact q0e hx (by simp) m
  ·exact absurd m (by decide +kernel)
  ·exact h1 m
 ·rcases h4 with h4 | h4
  ·exact q1a hp h4
  ·cases e1:F_read_need 8 [.str b,.int 1] with
   | er c s=>rw [e1] at h4;cases h4
   | un=>rw [e1] at h4;cases h4
   | ok d =>
    rw [e1] at h4
    have h4:(match F_knots_of 8 [d] with | .ok (.int k)=>decide (24<k) | _=>false)=true:=h4
    cases e2:F_knots_of 8 [d] with
    | er c s=>rw [e2] at h4;cases h4
    | un=>rw [e2] at h4;cases h4
    | ok v =>
     rw [e2] at h4
     cases v<;>first | cases h4 | skip
     rename_i k
     have h4:24<k:=of_decide_eq_true h4
     have ha:Asc (x++s!": "++b):=((q8J hx).app ⟨by decide,by decide +kernel⟩ (by lia)).app ⟨by omega,h3⟩ (by rw [z5];lia)
     rw [q24 hp e1 e2 ha.ok,N0j h4]
theorem z0D:Nd.ok [] false .sun:=by rw [Nd.ok];trivial
theorem z4y {y:Str}(h58:58∉y.cps.toList) (h10:10∉y.cps.toList) (hl:y.length<=100) (ha:Asc y) (hb:z72 y):BadL (y++s!": sun"):=by
 have e:s!": sun" = s!": "++s!"sun":=by decide +kernel
 have hl2:s!": ".length=2:=by decide +kernel
 have hl3:s!"sun".length=3:=by decide +kernel
 rw [e,<- Q4]
 have hp:dPart (.str (y++s!": "++s!"sun")) (.str s!": ")=.ok (.tup [.str y,.str s!": ",.str s!"sun"]) :=
  q8K (X6 (y:=s!": ") (c:=58) (y':=[32]) (by decide +kernel) h58) (by rw [z5,z5];lia)
 have h2:=Y9 (ss:=[]) (sm:=false) (λ x m=>absurd m (by simp)) 8 .sun 1 z0D (by decide) (by decide) (by decide)
 rw [Nd.txt] at h2
 have h3:=q0S (ss:=[]) (sm:=false) 8 .sun z0D (by decide)
 rw [Nd.knots] at h3
 refine ⟨?_,by rw [z5,z5];lia,λ ks vs=>?_⟩
 ·rw [Q5,Q5,N0a,N0a]
  rintro ((m | m) | m)
  ·exact h10 m
  ·exact absurd m (by decide +kernel)
  ·exact absurd m (by decide +kernel)
 ·have hasc:Asc (y++s!": "++s!"sun"):=(ha.app ⟨by decide,by decide +kernel⟩ (by lia)).app ⟨by decide,by decide +kernel⟩ (by rw [z5];lia)
  rw [q24 hp h2 h3 hasc.ok,N0l (by decide),z71 ks vs y false _ (q0A ha hb) ha.ok,N0j rfl]
  rfl
theorem bad2 {x r:Str}(hx:Nm x) (hr:∀ j,j<r.cps.toList.length->r.cps.toList[j]? = some 58->r.cps.toList[j+1]? ≠ some 32) (h10:10∉r.cps.toList) (hl:r.length<=100):BadL (x++r):=by
 have hx8:=hx.2.1
 refine q63 (p0:=x++r) (p1:=Str.empty) (by rw [q6D (q0e hx (by simp)) hr,z3H]) (by rw [z5];lia) ?_
 rw [Q5,N0a]
 rintro (m | m)
 ·exact q0e hx (by simp) m
 ·exact h10 m
theorem z6n:∀ r∈([s!" sun",s!":sun",s!"",s!":",s!"; sun"]:List Str),(∀ j,j<r.cps.toList.length->r.cps.toList[j]? = some 58->r.cps.toList[j+1]? ≠ some 32)/\10∉r.cps.toList/\r.length<=100:=by decide +kernel
theorem bad3 {ss:List Str}{sm:Bool}(hs:∀ x∈ss,Nm x){x:Str}{d:Nd}(hx:Nm x) (hk:d.ok ss sm) (hd:d.depth<=5){s:Str}(hm:s∈([s!" ",s!")",Str.ofString "\t",s!" x",s!"("]:List Str)):BadL (rowT x d++s):=by
 have hbd:=V3 hs 5 d hk hd
 have hb5:bdN 5=2813:=rfl
 have hx8:=hx.2.1
 have hl2:s!": ".length=2:=by decide +kernel
 have key:∀ s∈([s!" ",s!")",Str.ofString "\t",s!" x",s!"("]:List Str),s.length<=2/\s.cps.toList≠[]/\(∀ c∈s.cps.toList,c<128)/\10∉s.cps.toList/\(s=one 41\/(s.cps.toList.getLast? ≠ some 41/\∃ c∈s.cps.toList,¬ (97<=c/\c<=122))):=by decide +kernel
 obtain ⟨k1,k2,k3,k4,k5⟩:=key s hm
 have e:rowT x d++s=x++s!": "++(d.txt++s):=by unfold rowT;rw [Q4]
 have hp:=q3l (t:=d.txt++s) hx (by rw [z5];lia)
 have hasc:Asc (d.txt++s):=(q53 hs hk hd).app ⟨by omega,k3⟩ (by lia)
 have hne:E_read_need 8 [.str (d.txt++s),.int 1]=some 6:=by
  rcases k5 with q | ⟨q1,c,q2,q3⟩
  ·rw [q]
   exact q4h hs 8 d 1 hk (by omega) hd (by lia)
  ·refine q4g 7 1 (c:=c) (by rw [Q5,N0a];exact .inr q2) q3 hasc (q9Q ?_) (by simp)
   rw [Q5,List.getLast?_append]
   cases q:s.cps.toList.getLast? with
   | none=>exact absurd (List.getLast?_eq_none_iff.1 q) k2
   | some v=>rw [q] at q1;simpa using q1
 refine ⟨?_,by rw [e,z5,z5,z5];lia,λ ks vs=>by rw [e];exact q1a hp hne⟩
 rw [Q5,N0a]
 rintro (m | m)
 ·exact q8I hs hx hk hd m
 ·exact k4 m
theorem z1Y:s!":" = one 58:=by decide +kernel
theorem q9T {x:Str}{d:Nd}(hx:Nm x) (hl:d.txt.length<=90000):dPart (.str (rowT x d)) (.str s!":")=.ok (.tup [.str x,.str (one 58),.str (one 32++d.txt)]):=by
 have e:rowT x d=x++one 58++(one 32++d.txt):=by
  unfold rowT
  rw [show s!": " = one 58++one 32 by decide +kernel]
  simp only [Q4]
 have hx8:=hx.2.1
 show Rz.guard _ (Rz.ok (D.tup [.str (Txt.partition (rowT x d) _).1,.str (Txt.partition (rowT x d) _).2.1,.str (Txt.partition (rowT x d) _).2.2]))=_
 rw [w9 ⟨by decide +kernel,by rw [sizeLine_eq,e,z5,z5,z5];show x.length+1+(1+_)<=_;lia⟩,z1Y,e,X6 (y:=one 58) (y':=[]) rfl (q0e hx (by simp))]
noncomputable def L1 (x:Str):List Str:=[s!"",s!"any",s!"all",s!"of",s!"sun",s!"A"++x,x++s!"1",s!" "++x,x++s!" "]
noncomputable def L2 (x:Str):List Str:=[x++s!" sun",x++s!":sun",x++s!":  sun",x,x++s!":",x++s!"; sun",s!": sun"]
noncomputable def L3:List Str:=[s!" ",s!")",Str.ofString "\t",s!" x",s!"("]
theorem z3K {x:Str}(hx:Nm x):∀ y∈L1 x,BadL (y++s!": sun")/\y.length<=9:=by
 have hx8:=hx.2.1
 have conc:∀ y∈([s!"",s!"any",s!"all",s!"of",s!"sun"]:List Str),58∉y.cps.toList/\10∉y.cps.toList/\y.length<=9/\(∀ c∈y.cps.toList,c<128)/\(y.length=0\/y∈wKEPT_WORDS):=by decide +kernel
 have cc:∀ y∈([s!"",s!"any",s!"all",s!"of",s!"sun"]:List Str),BadL (y++s!": sun")/\y.length<=9:=λ y m=>by
  obtain ⟨c1,c2,c3,c4,c5⟩:=conc y m
  refine ⟨z4y c1 c2 (by omega) ⟨by omega,c4⟩ ?_,c3⟩
  rcases c5 with c5 | c5
  ·exact .inl c5
  ·exact .inr (.inr (.inl c5))
 have mk:∀ (y:Str) (c:Nat),c∈y.cps.toList->¬ (97<=c/\c<=122)->(∀ d∈y.cps.toList,d=c\/(97<=d/\d<=122))->c≠58->c≠10->c<128->y.length<=9->BadL (y++s!": sun")/\y.length<=9:=λ y c h1 h2 h3 h4 h5 h6 h7 =>
  ⟨z4y (λ m=>by rcases h3 _ m with q | q<;>simp_all) (λ m=>by rcases h3 _ m with q | q<;>simp_all) (by omega) ⟨by omega,λ d m=>by rcases h3 _ m with q | q<;>lia⟩ (.inr (.inr (.inr ⟨c,h1,h2⟩))),h7⟩
 have pre:∀ s:Str,∀ c,s.cps.toList=[c]->s.length=1->¬ (97<=c/\c<=122)->c≠58->c≠10->c<128->(BadL (s++x++s!": sun")/\(s++x).length<=9)/\(BadL (x++s++s!": sun")/\(x++s).length<=9):=λ s c e l h2 h4 h5 h6=>by
  constructor
  ·refine mk (s++x) c (by rw [Q5,e];exact N0w _ (N00 ..)) h2 (λ d m=>?_) h4 h5 h6 (by rw [z5];lia)
   rw [Q5,e,N0a] at m
   rcases m with m | m
   ·exact .inl (N0f.1 m)
   ·exact .inr (hx.2.2.1 d m)
  ·refine mk (x++s) c (by rw [Q5,e];exact N05 _ (N00 ..)) h2 (λ d m=>?_) h4 h5 h6 (by rw [z5];simp_all)
   rw [Q5,e,N0a] at m
   rcases m with m | m
   ·exact .inr (hx.2.2.1 d m)
   ·exact .inl (N0f.1 m)
 intro y m
 unfold L1 at m
 simp only [N0c,N1d,or_false] at m
 rcases m with m | m | m | m | m | m | m | m | m
 ·subst m;exact cc _ (by simp)
 ·subst m;exact cc _ (by simp)
 ·subst m;exact cc _ (by simp)
 ·subst m;exact cc _ (by simp)
 ·subst m;exact cc _ (by simp)
 ·subst m;exact (pre s!"A" 65 (by decide +kernel) (by decide +kernel) (by decide) (by decide) (by decide) (by simp)).1
 ·subst m;exact (pre s!"1" 49 (by decide +kernel) (by decide +kernel) (by decide) (by decide) (by decide) (by simp)).2
 ·subst m;exact (pre s!" " 32 (by decide +kernel) (by decide +kernel) (by decide) (by decide) (by decide) (by simp)).1
 ·subst m;exact (pre s!" " 32 (by decide +kernel) (by decide +kernel) (by decide) (by decide) (by decide) (by simp)).2
theorem z3L {x:Str}(hx:Nm x):∀ y∈L2 x,BadL y:=by
 have e0:∀ a:Str,a++s!"" = a:=λ a=>str_ext (by rw [Q5,show s!"".cps.toList=[] by decide +kernel,N10])
 have b2:∀ r∈([s!" sun",s!":sun",s!"",s!":",s!"; sun"]:List Str),BadL (x++r):=λ r m=>by
  obtain ⟨h1,h2,h3⟩:=z6n r m
  exact bad2 hx h1 h2 h3
 intro y m
 unfold L2 at m
 simp only [N0c,N1d,or_false] at m
 rcases m with m | m | m | m | m | m | m
 ·subst m;exact b2 _ (by simp)
 ·subst m;exact b2 _ (by simp)
 ·subst m
  have e:s!":  sun" = s!": "++s!" sun":=by decide +kernel
  have hb:s!" sun"∈BL:=by decide +kernel
  have:=z74 hx hb
  rw [e,<- Q4]
  exact this
 ·subst m
  have:=b2 s!"" (by simp)
  rwa [e0] at this
 ·subst m;exact b2 _ (by simp)
 ·subst m;exact b2 _ (by simp)
 ·subst m
  have:=z4y (y:=s!"") (by decide +kernel) (by decide +kernel) (by decide +kernel) ⟨by decide +kernel,by decide +kernel⟩ (.inl (by decide +kernel))
  have e:s!""++s!": sun" = s!": sun":=by decide +kernel
  rwa [e] at this
theorem bad4:BadL s!"abcdefghi: sun":=by
 have:=z4y (y:=s!"abcdefghi") (by decide +kernel) (by decide +kernel) (by decide +kernel) ⟨by decide +kernel,by decide +kernel⟩ (.inr (.inl (by decide +kernel)))
 have e:s!"abcdefghi"++s!": sun" = s!"abcdefghi: sun":=by decide +kernel
 rwa [e] at this
theorem q9U (a b:Str) (h:a.length+b.length<=16777216):dAddS (.str a) (.str b)=.ok (.str (a++b)):=by
 simp [h]
theorem z3M:∀ b∈BL,b.length<=1000:=by decide +kernel
theorem z3N {x:Str}(hx:Nm x):∀ y∈L2 x,0<y.length:=by
 have h:=hx.1
 intro y m
 unfold L2 at m
 simp only [N0c,N1d,or_false] at m
 rcases m with m | m | m | m | m | m | m
 ·subst m;rw [z5];lia
 ·subst m;rw [z5];lia
 ·subst m;rw [z5];lia
 ·subst m;lia
 ·subst m;rw [z5];lia
 ·subst m;rw [z5];lia
 ·subst m;decide +kernel
theorem q55 {ss:List Str}{sm:Bool}(hs:∀ x∈ss,Nm x){x:Str}{d:Nd}(hx:Nm x) (hk:d.ok ss sm) (hd:d.depth<=5) (w c:Int) (h0:0<=w) (h5:w<5):∃ L,F__law_bad_line [.str (rowT x d),.int w,.int c]=.ok (.str L)/\BadL L/\0<L.length:=by
 have hbd:=V3 hs 5 d hk hd
 have hb5:bdN 5=2813:=rfl
 have hx8:=hx.2.1
 have hp:=q9T (d:=d) hx (by lia)
 have hrl:(rowT x d).length<=3000:=by
  unfold rowT
  rw [z5,z5,show s!": ".length=2 by decide +kernel]
  lia
 have len:∀ s∈([s!": ",s!"A",s!"1",s!" ",s!": sun",s!" sun",s!":sun",s!":  sun",s!":",s!"; sun"]:List Str),s.length<=10:=by decide +kernel
 have ad:∀ s∈([s!": ",s!"A",s!"1",s!" ",s!": sun",s!" sun",s!":sun",s!":  sun",s!":",s!"; sun"]:List Str),dAddS (.str x) (.str s)=.ok (.str (x++s))/\dAddS (.str s) (.str x)=.ok (.str (s++x)):=λ s m=>by
  have:=len s m
  exact ⟨q9U x s (by lia),q9U s x (by lia)⟩
 unfold F__law_bad_line y3 V2
 have cs:w=0\/w=1\/w=2\/w=3\/w=4:=by lia
 rcases cs with rfl | rfl | rfl | rfl | rfl
 ·obtain ⟨b,mb,eb⟩:=z1X c
  have hbl:=z3M b mb
  refine ⟨_,?_,z74 hx mb,by rw [z5,z5];have:=hx.1;lia⟩
  have a1:=(ad s!": " (by simp)).1
  have a2:=q9U (x++s!": ") b (by rw [z5];have:=len s!": " (by simp);lia)
  generalize rowT x d=RW at *
  generalize F__law_bad_need=FB at *
  generalize dPart=DP at *
  generalize dAddS=DA at *
  simp [startD,hp,eb,a1,a2]
 ·obtain ⟨y,my,ey⟩:=q0U (L1 x) c (m:=9) rfl (by lia)
  obtain ⟨by1,by2⟩:=z3K hx y my
  refine ⟨_,?_,by1,by rw [z5,show s!": sun".length=5 by decide +kernel];lia⟩
  have a1:=(ad s!"A" (by simp)).2
  have a2:=(ad s!"1" (by simp)).1
  have a3:=(ad s!" " (by simp)).2
  have a4:=(ad s!" " (by simp)).1
  have a5:=q9U y s!": sun" (by have:=len s!": sun" (by simp);lia)
  have ey:dIx (.lst [.str s!"",.str s!"any",.str s!"all",.str s!"of",.str s!"sun",.str (s!"A"++x),.str (x++s!"1"),.str (s!" "++x),.str (x++s!" ")]) (.int (c % 9))=.ok (.str y):=ey
  have ix0:dIx (.tup [.str x,.str (one 58),.str (one 32++d.txt)]) (.int 0)=.ok (.str x):=by simp
  generalize rowT x d=RW at *
  generalize dPart=DP at *
  generalize dAddS=DA at *
  generalize dIx=DI1 at *
  simp [startD,hp,ix0,a1,a2,a3,a4,ey,a5]
 ·obtain ⟨y,my,ey⟩:=q0U (L2 x) c (m:=7) rfl (by lia)
  refine ⟨_,?_,z3L hx y my,z3N hx y my⟩
  have a1:=(ad s!" sun" (by simp)).1
  have a2:=(ad s!":sun" (by simp)).1
  have a3:=(ad s!":  sun" (by simp)).1
  have a4:=(ad s!":" (by simp)).1
  have a5:=(ad s!"; sun" (by simp)).1
  have ey:dIx (.lst [.str (x++s!" sun"),.str (x++s!":sun"),.str (x++s!":  sun"),.str x,.str (x++s!":"),.str (x++s!"; sun"),.str s!": sun"]) (.int (c % 7))=.ok (.str y):=ey
  have ix0:dIx (.tup [.str x,.str (one 58),.str (one 32++d.txt)]) (.int 0)=.ok (.str x):=by simp
  generalize rowT x d=RW at *
  generalize dPart=DP at *
  generalize dAddS=DA at *
  generalize dIx=DI1 at *
  simp [startD,q1O,hp,ix0,a1,a2,a3,a4,a5,ey]
 ·obtain ⟨y,my,ey⟩:=q0U L3 c (m:=5) rfl (by lia)
  refine ⟨_,?_,bad3 hs hx hk hd my,by unfold rowT;rw [z5,z5,z5];have:=hx.1;lia⟩
  have hy:y.length<=2:=(by decide +kernel:∀ y∈L3,y.length<=2) y my
  have a1:dAdd (.str (rowT x d)) (.str y)=.ok (.str (rowT x d++y)):=w9 (by rw [line_val];lia)
  have ey:dIx (.lst [.str s!" ",.str s!")",.str (Str.ofString "\t"),.str s!" x",.str s!"("]) (.int (c % 5))=.ok (.str y):=ey
  have ix0:dIx (.tup [.str x,.str (one 58),.str (one 32++d.txt)]) (.int 0)=.ok (.str x):=by simp
  generalize rowT x d=RW at *
  generalize dPart=DP at *
  generalize dAdd=DA at *
  generalize dIx=DI1 at *
  have him:(D.str (RW++y)).imI=true:=rfl
  simp [startD,hp,ix0,ey,a1,him]
 ·refine ⟨_,?_,bad4,by decide +kernel⟩
  have ix0:dIx (.tup [.str x,.str (one 58),.str (one 32++d.txt)]) (.int 0)=.ok (.str x):=by simp
  generalize rowT x d=RW at *
  generalize dPart=DP at *
  simp [startD,hp]
theorem Q6 {a b:GS}{δ δ':DS}{β:Type}{k:Out->Rz β}{r:Rz β}(h:a δ=.ok (.nx δ')) (g:(b δ').bind k=r):(W1 a b δ).bind k=r:=by
 unfold W1
 rw [h]
 exact g
theorem q3m (ls:List Str) (h:∀ t∈ls,t.length<=5000) (hn:ls.length<=40):dJoin (.str (Str.ofString "\n")) (strsL ls)=.ok (.str (Str.join (Str.ofString "\n") ls)):=by
 unfold strsL
 rw [q9v,show ls.map D.str=ls.map (λ x=>D.str (id x)) from rfl,q5M,q7v,q2R]
 have q:=q2A 5000 (ls.map (·.length)) λ x mx=>by
  obtain ⟨y,hy,rfl⟩:=List.mem_map.1 mx
  exact h y hy
 rw [N01] at q
 have:ls.length * 5000<=40 * 5000:=Nat.mul_le_mul_right _ hn
 rw [w9]
 ·rw [List.map_id]
 ·rw [line_val,List.map_id,show (Str.ofString "\n").length=1 by decide +kernel]
  lia
theorem q56 (ls:List Str) (h:∀ t∈ls,t.length<=5000) (hn:ls.length<=40):(Str.join (Str.ofString "\n") ls).length<=300000:=by
 have q:=q2A 5000 (ls.map (·.length)) λ x mx=>by
  obtain ⟨y,hy,rfl⟩:=List.mem_map.1 mx
  exact h y hy
 rw [N01] at q
 have:ls.length * 5000<=40 * 5000:=Nat.mul_le_mul_right _ hn
 have l:=q0Q (Str.ofString "\n") ls
 rw [show (Str.ofString "\n").length=1 by decide +kernel] at l
 lia
theorem q3n {ls:List Str}(hne:ls≠[]) (h10:∀ t∈ls,10∉t.cps.toList):Txt.split (Str.join (Str.ofString "\n") ls) (one 10)=ls:=by
 rw [q8z]
 exact U0 (by simp) hne h10
theorem q8N {ls:List Str}{t:Str}(hne:ls≠[]) (h10:∀ t∈ls,10∉t.cps.toList) (hm:t∈ls) (ht:0<t.length):Str.join (Str.ofString "\n") ls≠s!"":=λ z=>by
 have e:=q3n hne h10
 rw [z,q2B (by simp) (by decide +kernel)] at e
 rw [<- e] at hm
 rw [N0f.1 hm] at ht
 exact absurd ht (by decide +kernel)
structure RowsOk (ss:List Str) (sm:Bool) (ps:List (Str×Nd)):Prop where
 nm:∀ x∈ss,Nm x
 nd:(ps.map (·.1)).Nodup
 le:ps.length<=16
 ok:∀ p∈ps,Nm p.1/\p.2.ok ss sm/\p.2.depth<=5/\p.2.knots<=24
noncomputable def rws (ps:List (Str×Nd)):List Str:=ps.map λ p=>rowT p.1 p.2
section
variable {ss:List Str}{sm:Bool}{ps:List (Str×Nd)}(w:RowsOk ss sm ps)
include w
theorem RowsOk.row:∀ t∈rws ps,10∉t.cps.toList/\t.length<=3000/\0<t.length:=λ t m=>by
 obtain ⟨p,mp,rfl⟩:=List.mem_map.1 m
 obtain ⟨q1,q2,q3,q4⟩:=w.ok p mp
 have hbd:=V3 w.nm 5 p.2 q2 q3
 have hb5:bdN 5=2813:=rfl
 have a:=q1.1
 have b:=q1.2.1
 refine ⟨q8I w.nm q1 q2 q3,?_,?_⟩
 ·unfold rowT
  rw [z5,z5,show s!": ".length=2 by decide +kernel]
  lia
 ·unfold rowT
  rw [z5,z5]
  lia
theorem RowsOk.take (k:Nat):RowsOk ss sm (ps.take k):=⟨w.nm,by rw [List.map_take];exact w.nd.sublist (List.take_sublist _ _),by rw [N16];have:=w.le;lia,λ p m=>w.ok p (List.mem_of_mem_take m)⟩
theorem RowsOk.note {bad:Str}{rest:List Str}(hb:E_read_line [.str bad,webD (ps.map (·.1)) (ps.map (·.2))]=some 6) (h10:10∉bad.cps.toList) (hl:bad.length<=5000) (hr:∀ t∈rest,10∉t.cps.toList/\t.length<=5000) (hn:rest.length<=20) (hx:∃ t∈rws ps++bad::rest,0<t.length) :
 E_read [.str (Str.join (Str.ofString "\n") (rws ps++bad::rest))]=some 6:=by
 have hw:=w.row
 have hle:=w.le
 have hall:∀ t∈rws ps++bad::rest,10∉t.cps.toList/\t.length<=5000:=λ t m=>by
  rcases N0a.1 m with m | m
  ·obtain ⟨a,b,_⟩:=hw t m;exact ⟨a,by omega⟩
  ·rcases N0c.1 m with m | m
   ·rw [m];exact ⟨h10,hl⟩
   ·exact hr t m
 have hlen:(rws ps++bad::rest).length<=40:=by rw [N06,N0h];unfold rws;rw [N01];lia
 obtain ⟨t,mt,ht⟩:=hx
 exact q4e w.nm (ps:=ps) (bad:=bad) (rest:=rest) (q3n (by simp) λ t m=>(hall t m).1) (q8N (by simp) (λ t m=>(hall t m).1) mt ht) (by have:=q56 _ (λ t m=>(hall t m).2) hlen;omega) w.nd w.le w.ok hb
theorem RowsOk.fine (hne:ps≠[]):E_read [.str (Str.join (Str.ofString "\n") (rws ps))]=none:=by
 have hw:=w.row
 have hle:=w.le
 obtain ⟨p,r,rfl⟩:∃ p r,ps=p::r:=by
  cases ps with
  | nil=>exact absurd rfl hne
  | cons p r=>exact ⟨p,r,rfl⟩
 exact q9N w.nm (ps:=p::r) (q3n (by unfold rws;simp) λ t m=>(hw t m).1) (q8N (t:=rowT p.1 p.2) (by unfold rws;simp) (λ t m=>(hw t m).1) (N00 ..) (hw _ (N00 ..)).2.2) (by have:=q56 _ (λ t m=>by obtain ⟨_,b,_⟩:=hw t m;omega) (show (rws (p::r)).length<=40 by unfold rws;rw [N01];omega);omega) w.nd w.le w.ok
end
theorem eq_str (a b:Str):dEq (.str a) (.str b)=.ok (.bl (decide (a=b))):=by rw [q5J,w9 (q14 _ _),u8]
theorem q02 {w m:Int}{X:GS}{δ:DS}(h:δ[6]? = some (some (.int w))) (hw:w≠m):(Y7 (gB (gOp dEq (gVar 6) (gC (.int m)))) X J8) δ=.ok (.nx δ):=by
 simp [h,hw]
theorem q4i {w m:Int}{X:GS}{δ:DS}(h:δ[6]? = some (some (.int w))) (hw:w=m):(Y7 (gB (gOp dEq (gVar 6) (gC (.int m)))) X J8) δ=X δ:=by
 subst hw
 simp [h]
theorem q1d {T B:Str}{δ:DS}(h5:δ[5]? = some (some (.str T))) (h9:δ[9]? = some (some (.str B))) (hB:E_read [.str B]=some 6) (hT:F__law_tried [.str T]=.ok (.str s!"read")) :
 (q1O (z25 (gOp dEq (gCall F__law_tried (gCons (gVar 9) gNil)) (gC (.str "note"))) (z25 (gOp dEq (gCall F__law_tried (gCons (gVar 9) gNil)) (gC (.str "note"))) (gOp dEq (gCall F__law_tried (gCons (gVar 5) gNil)) (gC (.str "read")))))) δ=.ok (.rt (.bl true) δ):=by
 have hb:=q6A hB
 have q1:=eq_str s!"note" s!"note"
 have q2:=eq_str s!"read" s!"read"
 rw [N0o rfl] at q1 q2
 generalize F__law_tried=FT at *
 generalize dEq=EQ at *
 simp [q1O,h5,h9,hb,hT,q1,q2]
theorem z1Z (ns:List Int):F_law [intsL ns]=.ok (.bl true):=by
 have c14:=q8o ns 14 (by decide)
 have c15:=q8o ns 15 (by decide)
 rw [show Int.toNat 14=14 from rfl] at c14
 rw [show Int.toNat 15=15 from rfl] at c15
 have hd:F__law_drawn [intsL ns,.bl false]=.ok (.tup [strsL ((pool ns).take (cnt ns)),.lst ((drawN ns false).map Nd.toD),strsL ((pool ns).drop (cnt ns))]):=q9C ns false
 have w0:=q9D ns false
 have hcl:=q8r ns
 have hc1:=q47 ns
 have hnm:=q1i ns (cnt ns)
 have hdok:∀ v∈drawN ns false,v.ok (pool ns) false/\v.depth<=3/\v.knots<=21:=λ v m=>by
  obtain ⟨a,b⟩:=q4W ns false v m
  exact ⟨a,b,q62 3 v a b⟩
 have hpn:=q8p ns
 generalize (pool ns).take (cnt ns)=ks at *
 generalize drawN ns false=vs at *
 generalize (pool ns).drop (cnt ns)=S0 at *
 generalize pool ns=PL at *
 have hlen:=w0.len
 have hle:=w0.le
 have hks:0<ks.length:=by lia
 have hkne:ks≠[]:=λ q=>by rw [q] at hks;exact absurd hks (by simp)
 have hf:(ks.zip vs).map (·.1)=ks:=List.map_fst_zip (by simp_all)
 have hg:(ks.zip vs).map (·.2)=vs:=List.map_snd_zip (by simp_all)
 have hzl:(ks.zip vs).length=ks.length:=by rw [List.length_zip];simp_all
 have W:RowsOk PL false (ks.zip vs):=⟨hpn,by rw [hf];exact w0.nd,by simp_all,λ p mp=>by
  obtain ⟨z1,z2,_⟩:=q5T w0.nd mp
  obtain ⟨a,b,c⟩:=hdok _ z2
  exact ⟨hnm _ z1,a,by omega,by omega⟩⟩
 have w20:Rd20 ks vs:=⟨hlen,hle,w0.nd,hnm,⟨PL,false,hpn,λ v mv=>(hdok v mv).1⟩,λ v mv=>by have:=(hdok v mv).2.1;omega,λ v mv=>by have:=(hdok v mv).2.2;omega⟩
 have hpne:ks.zip vs≠[]:=λ q=>by rw [q] at hzl;simp at hzl;simp_all
 have hR:rowsT ks vs=rws (ks.zip vs):=rfl
 have hread:=z1U w20 hkne
 rw [hR] at hread
 have hT:=q6B (W.fine hpne) hread
 have hrow:=W.row
 have hrl:(rws (ks.zip vs)).length=ks.length:=by unfold rws;rw [N01];exact hzl
 have hrne:rws (ks.zip vs)≠[]:=λ q=>by rw [q] at hrl;simp at hrl;simp_all
 have hr5:∀ t∈rws (ks.zip vs),t.length<=5000:=λ t m=>by obtain ⟨_,b,_⟩:=hrow t m;omega
 have hj:=q3m (rws (ks.zip vs)) hr5 (by lia)
 have hjl:=q56 (rws (ks.zip vs)) hr5 (by lia)
 have hrows:compL [some (strsL ks),some (.lst (vs.map Nd.toD))] q1n (gOp dAddS (gOp dAddS (gOp dIx (gVar 1) (gVar 0)) (gC (.str ": "))) (gCall (F__law_text 8) (gCons (gOp dIx (gVar 2) (gVar 0)) gNil))) (rangeD 0 ks.length)=.ok ((rws (ks.zip vs)).map D.str):=by
  have er:(rws (ks.zip vs)).map D.str=(List.range ks.length).map λ k=>D.str (((rws (ks.zip vs))[k]?).getD Str.empty):=by
   refine List.ext_getElem? λ k=>?_
   rw [N0i,N0i]
   by_cases hk:k<ks.length
   ·rw [N1k hk,N08 (show k<(rws (ks.zip vs)).length by simp_all)];show some (D.str (rws (ks.zip vs))[k])=some (D.str (((rws (ks.zip vs))[k]?).getD Str.empty));rw [N08 (show k<(rws (ks.zip vs)).length by simp_all)];rfl
   ·rw [List.getElem?_eq_none (show (rws (ks.zip vs)).length<=k by simp_all),List.getElem?_eq_none (by rw [N17];simp_all)];rfl
  rw [er]
  refine q5L λ k hk=>?_
  have hv:k<vs.length:=by simp_all
  have ek:=q4X ks k hk
  have ev:dIx (.lst (vs.map Nd.toD)) (.int (k:Int))=.ok vs[k].toD:=by simp [q0N,hv]
  have mv:vs[k]∈vs:=N0z hv
  obtain ⟨d1,d2,d3⟩:=hdok _ mv
  have ht:=z0C hpn 8 vs[k] d1 (by omega) (by omega)
  have htl:=V3 hpn 5 vs[k] d1 (by omega)
  have hb5:bdN 5=2813:=rfl
  have hkl:=(hnm ks[k] (N0z hk)).2.1
  have e:((rws (ks.zip vs))[k]?).getD Str.empty=ks[k]++s!": "++vs[k].txt:=by
   unfold rws
   rw [N0i,(List.getElem?_zip_eq_some (z:=(ks[k],vs[k]))).2 ⟨N08 hk,N08 hv⟩]
   rfl
  rw [e]
  have g1:ks[k].length+s!": ".length<=16777216:=by rw [show s!": ".length=2 by decide +kernel];lia
  have g2:(ks[k]++s!": ").length+vs[k].txt.length<=16777216:=by rw [z5,show s!": ".length=2 by decide +kernel];lia
  generalize F__law_text 8=FT at *
  generalize vs[k].txt=VT at *
  generalize ks[k]=KK at *
  simp [ek,ev,g1,ht]
  exact g2
 have hlk:pLen [strsL ks]=.ok (.int (ks.length:Int)):=q0d ks
 have hzk:ks.length<4611686018427387904:=by lia
 have hzr:((rws (ks.zip vs)).map D.str).length<=16777216:=by rw [N01,hrl];omega
 obtain ⟨w,hw⟩:∃ w:Int,w=cellD ns 14 % 10:=⟨_,rfl⟩
 obtain ⟨c,hc⟩:∃ c:Int,c=cellD ns 15 % 1000003:=⟨_,rfl⟩
 have hw0:0<=w/\w<10:=by rw [hw];lia
 have hc0:0<=c:=by rw [hc];lia
 unfold F_law y3 z1K
 refine Q6 (δ':=[some (intsL ns),some (strsL ks),some (.lst (vs.map Nd.toD)),some (strsL S0),none,none,none,none,none,none]) ?_ ?_
 ·generalize F__law_drawn=FD at *
  simp [startD,hd,setT]
 refine Q6 (δ':=[some (intsL ns),some (strsL ks),some (.lst (vs.map Nd.toD)),some (strsL S0),some (strsL (rws (ks.zip vs))),none,none,none,none,none]) ?_ ?_
 ·generalize (gOp dAddS (gOp dAddS (gOp dIx (gVar 1) (gVar 0)) (gC (.str ": "))) (gCall (F__law_text 8) (gCons (gOp dIx (gVar 2) (gVar 0)) gNil)))=GRW at *
  unfold strsL at hlk hrows ⊢
  generalize (rws (ks.zip vs)).map D.str=RS at *
  generalize ks.map D.str=SK at *
  simp [hlk,hzk,capD,hrows,hzr]
 refine Q6 (δ':=[some (intsL ns),some (strsL ks),some (.lst (vs.map Nd.toD)),some (strsL S0),some (strsL (rws (ks.zip vs))),some (.str (Str.join (Str.ofString "\n") (rws (ks.zip vs)))),none,none,none,none]) ?_ ?_
 ·exact q20 (q2b rfl rfl hj)
 refine Q6 (δ':=[some (intsL ns),some (strsL ks),some (.lst (vs.map Nd.toD)),some (strsL S0),some (strsL (rws (ks.zip vs))),some (.str (Str.join (Str.ofString "\n") (rws (ks.zip vs)))),some (.int w),none,none,none]) ?_ ?_
 ·generalize F__law_cell_at=FC at *
  simp [c14,<- hw]
 refine Q6 (δ':=[some (intsL ns),some (strsL ks),some (.lst (vs.map Nd.toD)),some (strsL S0),some (strsL (rws (ks.zip vs))),some (.str (Str.join (Str.ofString "\n") (rws (ks.zip vs)))),some (.int w),some (.int c),none,none]) ?_ ?_
 ·generalize F__law_cell_at=FC at *
  simp [c15,<- hc]
 clear hd hrows hlk c14 c15 hw hc hj
 have hjT:=q3m (rws (ks.zip vs)) hr5 (by lia)
 generalize hTT:Str.join (Str.ofString "\n") (rws (ks.zip vs))=T at *
 generalize intsL ns=D0 at *
 generalize hSK:strsL ks=SK at *
 generalize D.lst (vs.map Nd.toD)=LV at *
 generalize strsL S0=SS at *
 clear hf hg
 generalize ks.zip vs=Z at *
 by_cases h5:w<5
 ·
  obtain ⟨k,hk,ek⟩:=q4Y (c / 47) ks.length hks
  have hkz:k<Z.length:=by simp_all
  have hkr:k<(rws Z).length:=by simp_all
  have eR:(rws Z)[k]=rowT Z[k].1 Z[k].2:=by simp [rws]
  obtain ⟨q1,q2,q3,q4⟩:=W.ok Z[k] (N0z hkz)
  obtain ⟨L,hL,bL,lL⟩:=q55 hpn q1 q2 q3 w c hw0.1 h5
  have eS:(rws Z).set k L=rws (Z.take k)++L::(rws Z).drop (k+1):=by
   rw [List.set_eq_take_append_cons_drop,N0j hkr]
   unfold rws
   rw [List.map_take]
  have hS5:∀ t∈(rws Z).set k L,t.length<=5000:=λ t m=>by
   rcases List.mem_or_eq_of_mem_set m with q | q
   ·exact hr5 t q
   ·rw [q];exact bL.2.1
  have hjS:=q3m ((rws Z).set k L) hS5 (by rw [N1h];lia)
  have note:E_read [.str (Str.join (Str.ofString "\n") ((rws Z).set k L))]=some 6:=by
   rw [eS]
   exact (W.take k).note (bL.2.2 _ _) bL.1 bL.2.1 (λ t m=>by obtain ⟨a,b,_⟩:=hrow t (List.mem_of_mem_drop m);exact ⟨a,by omega⟩) (by rw [N1n];lia) ⟨L,N05 _ (N00 ..),lL⟩
  refine Q6 (δ':=[some D0,some SK,some LV,some SS,some (strsL ((rws Z).set k L)),some (.str T),some (.int w),some (.int c),some (.int (k:Int)),none]) ?_ ?_
  ·have hat:=q4X (rws Z) k hkr
   rw [eR] at hat
   have hpl:pLen [strsL (rws Z)]=.ok (.int (ks.length:Int)):=by rw [q0d,hrl]
   have hput:dPut (strsL (rws Z)) (.int (k:Int)) (.str L)=.ok (strsL ((rws Z).set k L)):=by
    unfold strsL
    rw [q87 _ _ _ (by simp) (by rw [N01];simp_all),List.map_set]
    rfl
   have hkp:(0:Int)<(ks.length:Int):=by simp_all
   generalize rowT Z[k].1 Z[k].2=RW at *
   generalize strsL ((rws Z).set k L)=RS2 at *
   generalize strsL (rws Z)=RS at *
   generalize F__law_bad_line=FB at *
   simp [h5,hpl,hks,ek,hat,hL,hput]
  refine Q6 (δ':=[some D0,some SK,some LV,some SS,some (strsL ((rws Z).set k L)),some (.str T),some (.int w),some (.int c),some (.int (k:Int)),some (.str (Str.join (Str.ofString "\n") ((rws Z).set k L)))]) ?_ ?_
  ·exact q20 (q2b rfl rfl hjS)
  refine Q6 (q02 rfl (by lia)) (Q6 (q02 rfl (by lia)) (Q6 (q02 rfl (by lia)) (Q6 (q02 rfl (by lia)) (Q6 (q02 rfl (by lia)) ?_))))
  rw [q1d rfl rfl note hT]
  rfl
 refine Q6 (δ':=[some D0,some SK,some LV,some SS,some (strsL (rws Z)),some (.str T),some (.int w),some (.int c),none,none]) (by simp [h5]) ?_
 refine Q6 (δ':=[some D0,some SK,some LV,some SS,some (strsL (rws Z)),some (.str T),some (.int w),some (.int c),none,some (.str T)]) ?_ ?_
 ·exact q20 (q2b rfl rfl hjT)
 have hnl:(Str.ofString "\n").length=1:=by decide +kernel
 have hnd:=w0.nd
 by_cases c5:w=5
 ·
  obtain ⟨k,hk,ek⟩:=q4Y c ks.length hks
  have hkz:k<Z.length:=by simp_all
  have hkr:k<(rws Z).length:=by simp_all
  have eR:(rws Z)[k]=rowT Z[k].1 Z[k].2:=by simp [rws]
  obtain ⟨q1,q2,q3,q4⟩:=W.ok Z[k] (N0z hkz)
  obtain ⟨r1,r2,r3⟩:=hrow _ (N0z hkr)
  have mk:Z[k].1∈Z.map (·.1):=List.mem_map_of_mem (f:=λ p:Str×Nd=>p.1) (N0z hkz)
  have eb:=q1b (ks:=Z.map (·.1)) (vs:=Z.map (·.2)) hpn q1 q2 q3 q4
  rw [N0j mk,<- eR] at eb
  have note:=W.note (rest:=[]) eb r1 (by omega) (λ t m=>absurd m (by simp)) (by simp) ⟨_,N05 _ (N00 ..),r3⟩
  rw [q0R _ _ _ hrne,hTT] at note
  refine Q6 (δ':=[some D0,some SK,some LV,some SS,some (strsL (rws Z)),some (.str T),some (.int w),some (.int c),none,some (.str (T++Str.ofString "\n"++(rws Z)[k]))]) ?_ ?_
  ·have hat:=q4X (rws Z) k hkr
   have hpl:pLen [strsL (rws Z)]=.ok (.int (ks.length:Int)):=by rw [q0d,hrl]
   have a1:=q9U T (Str.ofString "\n") (by lia)
   have a2:=q9U (T++Str.ofString "\n") (rws Z)[k] (by rw [z5];lia)
   have hm:dMod (.int c) (.int (ks.length:Int))=.ok (.int (k:Int)):=by simp [hks,ek]
   rw [q4i rfl c5]
   exact q20 (q2b (q2b rfl rfl a1) (q2b rfl (q2b rfl hpl hm) hat) a2)
  refine Q6 (q02 rfl (by simp_all)) (Q6 (q02 rfl (by simp_all)) (Q6 (q02 rfl (by simp_all)) (Q6 (q02 rfl (by simp_all)) ?_)))
  rw [q1d rfl rfl note hT]
  rfl
 refine Q6 (q02 rfl c5) ?_
 by_cases c6:w=6
 ·
  obtain ⟨j,hj4,ej⟩:=q4Y (c / 30) 4 (by simp)
  have ej:c / 30 % 4=(j:Int):=ej
  have hnames:=q5R c (17+j) (by lia)
  let Q:List (Str×Nd):=(List.range (17+j)).map λ i=>(nameOf c i,Nd.sun)
  have hQl:Q.length=17+j:=by simp [Q]
  have hQf:Q.map (·.1)=(List.range (17+j)).map (nameOf c):=by simp [Q,Function.comp_def]
  have hQnd:(Q.map (·.1)).Nodup:=by
   rw [hQf]
   exact List.pairwise_map.2 (List.nodup_range.imp_of_mem λ ma mb hne e=>hne (q5S c (by have:=List.mem_range.1 ma;lia) (by have:=List.mem_range.1 mb;lia) e))
  have hQok:∀ p∈Q,Nm p.1/\p.2.ok PL false/\p.2.depth<=5/\p.2.knots<=24:=λ p mp=>by
   obtain ⟨i,_,rfl⟩:=List.mem_map.1 mp
   refine ⟨q4V c i,?_,?_,?_⟩
   ·show Nd.ok PL false .sun
    rw [Nd.ok];trivial
   ·show Nd.depth .sun<=5
    rw [Nd.depth];simp
   ·show Nd.knots .sun<=24
    rw [Nd.knots];simp
  have hQw:RowsOk PL false (Q.take 16):=⟨hpn,by rw [List.map_take];exact hQnd.sublist (List.take_sublist _ _),by rw [N16];lia,λ p m=>hQok p (List.mem_of_mem_take m)⟩
  have hQr:∀ t∈rws Q,10∉t.cps.toList/\t.length<=3000/\0<t.length:=λ t m=>by
   obtain ⟨p,mp,rfl⟩:=List.mem_map.1 m
   have w1:RowsOk PL false [p]:=⟨hpn,by simp,by simp,λ q mq=>by rw [N0f.1 mq];exact hQok p mp⟩
   exact w1.row _ (N00 ..)
  have h16:16<Q.length:=by lia
  have eQ:rws Q=rws (Q.take 16)++rowT Q[16].1 Q[16].2::rws (Q.drop 17):=by
   have e:Q=Q.take 16++Q[16]::Q.drop 17:=by rw [List.getElem_cons_drop h16,List.take_append_drop]
   conv=>lhs;rw [e]
   unfold rws
   rw [N14,N09]
  obtain ⟨q1,q2,q3,q4⟩:=hQok Q[16] (N0z h16)
  have hnot:Q[16].1∉(Q.take 16).map (·.1):=λ m=>by
   have e:Q.map (·.1)=(Q.take 16).map (·.1)++Q[16].1::(Q.drop 17).map (·.1):=by
    rw [<- N09 (f:=λ p:Str×Nd=>p.1),<- N14,List.getElem_cons_drop h16,List.take_append_drop]
   rw [e,List.nodup_append] at hQnd
   exact hQnd.2.2 _ m _ (N00 ..) rfl
  have eb:=q1b (ks:=(Q.take 16).map (·.1)) (vs:=(Q.take 16).map (·.2)) hpn q1 q2 q3 q4
  rw [N0l hnot,N0j (by rw [N01,N16];lia)] at eb
  have mrow:rowT Q[16].1 Q[16].2∈rws Q:=List.mem_map_of_mem (f:=λ p:Str×Nd=>rowT p.1 p.2) (N0z h16)
  obtain ⟨r1,r2,r3⟩:=hQr _ mrow
  have note:=hQw.note (rest:=rws (Q.drop 17)) eb r1 (by omega) (λ t m=>by
   obtain ⟨p,mp,rfl⟩:=List.mem_map.1 m
   obtain ⟨a,b,_⟩:=hQr _ (List.mem_map_of_mem (f:=λ p:Str×Nd=>rowT p.1 p.2) (List.mem_of_mem_drop mp))
   exact ⟨a,by omega⟩) (by unfold rws;rw [N01,N1n];lia) ⟨_,N05 _ (N00 ..),r3⟩
  rw [<- eQ] at note
  refine Q6 (δ':=[some D0,some SK,some LV,some SS,some (strsL (rws Z)),some (.str T),some (.int w),some (.int c),none,some (.str (Str.join (Str.ofString "\n") (rws Q)))]) ?_ ?_
  ·have hjQ:=q3m (rws Q) (λ t m=>by obtain ⟨_,b,_⟩:=hQr t m;omega) (by unfold rws;rw [N01];lia)
   have hcQ:compL [] q1n (gOp dAddS (gVar 0) (gC (.str s!": sun"))) (((List.range (17+j)).map (nameOf c)).map D.str)=.ok ((rws Q).map D.str):=by
    have e:(rws Q).map D.str=(List.range (17+j)).map λ i=>D.str (rowT (nameOf c i) .sun):=by simp [rws,Q,Function.comp_def]
    rw [e,N1q]
    refine U6 λ i o_=>?_
    have hn8:=(q4V c i).2.1
    have a:=q9U (nameOf c i) s!": sun" (by rw [show s!": sun".length=5 by decide +kernel];lia)
    have e2:rowT (nameOf c i) .sun=nameOf c i++s!": sun":=by
     unfold rowT
     rw [Nd.txt,Q4]
     congr 1
    rw [e2]
    show gOp dAddS (gVar 0) (gC (.str s!": sun")) [some (.str (nameOf c i))]=_
    generalize nameOf c i=NN at *
    generalize dAddS=DA at *
    simp [a]
   have e17:(17:Int)+(j:Int)=((17+j:Nat):Int):=by omega
   have hzq:((rws Q).map D.str).length<=16777216:=by unfold rws;rw [N01,N01];omega
   rw [q4i rfl c6]
   unfold strsL at hnames hjQ
   generalize (rws Q).map D.str=RQ at *
   generalize ((List.range (17+j)).map (nameOf c)).map D.str=NQ at *
   generalize strsL (rws Z)=RS at *
   generalize F__law_names=FN at *
   generalize dJoin=DJ at *
   generalize (gOp dAddS (gVar 0) (gC (.str s!": sun")))=GA at *
   generalize 17+j=jj at *
   simp [ej,e17,hnames,capD,hcQ,hzq,hjQ]
  refine Q6 (q02 rfl (by omega)) (Q6 (q02 rfl (by omega)) (Q6 (q02 rfl (by omega)) ?_))
  rw [q1d rfl rfl note hT]
  rfl
 refine Q6 (q02 rfl c6) ?_
 have bs:=q9O
 have hemp:=bs s!"" (by simp)
 obtain ⟨p0,pr,ep⟩:∃ p r,Z=p::r:=by
  cases q:Z with
  | nil=>exact absurd q hpne
  | cons p r=>exact ⟨p,r,rfl⟩
 have hfirst:∃ t∈rws Z,0<t.length:=by
  rw [ep]
  exact ⟨_,N00 ..,(hrow _ (by rw [ep];exact N00 ..)).2.2⟩
 by_cases c7:w=7
 ·
  obtain ⟨t,mt,ht⟩:=hfirst
  have note:=W.note (rest:=[]) (hemp.2.2 _ _) hemp.1 hemp.2.1 (λ t m=>absurd m (by simp)) (by simp) ⟨t,N0w _ mt,ht⟩
  rw [q0R _ _ _ hrne,hTT] at note
  have e0:T++Str.ofString "\n"++s!"" = T++Str.ofString "\n":=str_ext (by rw [Q5,show s!"".cps.toList=[] by decide +kernel,N10])
  rw [e0] at note
  refine Q6 (δ':=[some D0,some SK,some LV,some SS,some (strsL (rws Z)),some (.str T),some (.int w),some (.int c),none,some (.str (T++Str.ofString "\n"))]) ?_ ?_
  ·have a1:=q9U T (Str.ofString "\n") (by omega)
   rw [q4i rfl c7]
   exact q20 (q2b rfl rfl a1)
  refine Q6 (q02 rfl (by omega)) (Q6 (q02 rfl (by omega)) ?_)
  rw [q1d rfl rfl note hT]
  rfl
 refine Q6 (q02 rfl c7) ?_
 have w00:RowsOk PL false []:=⟨hpn,by simp,by simp,λ p m=>absurd m (by simp)⟩
 by_cases c8:w=8
 ·
  obtain ⟨t,mt,ht⟩:=hfirst
  have note:=w00.note (rest:=rws Z) (hemp.2.2 _ _) hemp.1 hemp.2.1 (λ t m=>by obtain ⟨a,b,_⟩:=hrow t m;exact ⟨a,by omega⟩) (by omega) ⟨t,N05 _ (N02 _ mt),ht⟩
  have ej:Str.join (Str.ofString "\n") (rws []++s!""::rws Z)=Str.ofString "\n"++T:=by
   rw [<- hTT,ep]
   show s!""++Str.ofString "\n"++Str.join (Str.ofString "\n") (rws (p0::pr))=_
   congr 1
  rw [ej] at note
  refine Q6 (δ':=[some D0,some SK,some LV,some SS,some (strsL (rws Z)),some (.str T),some (.int w),some (.int c),none,some (.str (Str.ofString "\n"++T))]) ?_ ?_
  ·have a1:=q9U (Str.ofString "\n") T (by omega)
   rw [q4i rfl c8]
   exact q20 (q2b rfl rfl a1)
  refine Q6 (q02 rfl (by omega)) ?_
  rw [q1d rfl rfl note hT]
  rfl
 refine Q6 (q02 rfl c8) ?_
 have c9:w=9:=by omega
 obtain ⟨y,my,ey⟩:=q0U [s!" ",Str.ofString "\n",s!":",s!"sun",s!"a"] c (m:=5) rfl (by omega)
 have note:E_read [.str y]=some 6:=by
  have one':∀ b:Str,BadL b->0<b.length->E_read [.str b]=some 6:=λ b hb hl=>by
   have:=w00.note (rest:=[]) (hb.2.2 _ _) hb.1 hb.2.1 (λ t m=>absurd m (by simp)) (by simp) ⟨b,N05 _ (N00 ..),hl⟩
   exact this
  simp only [N0c,N1d,or_false] at my
  rcases my with m | m | m | m | m
  ·subst m;exact one' _ (bs _ (by simp)) (by decide +kernel)
  ·subst m
   have hsp:Txt.split (Str.ofString "\n") (one 10)=[s!"",s!""]:=by decide +kernel
   exact q4e (sm:=false) hpn (ps:=[]) (bad:=s!"") (rest:=[s!""]) hsp (by decide +kernel) (by decide +kernel) (by simp) (by simp) (λ p m=>absurd m (by simp)) (hemp.2.2 _ _)
  ·subst m;exact one' _ (bs _ (by simp)) (by decide +kernel)
  ·subst m;exact one' _ (bs _ (by simp)) (by decide +kernel)
  ·subst m;exact one' _ (bs _ (by simp)) (by decide +kernel)
 refine Q6 (δ':=[some D0,some SK,some LV,some SS,some (strsL (rws Z)),some (.str T),some (.int w),some (.int c),none,some (.str y)]) ?_ ?_
 ·have ey:dIx (.lst [.str s!" ",.str (Str.ofString "\n"),.str s!":",.str s!"sun",.str s!"a"]) (.int (c % 5))=.ok (.str y):=ey
  rw [q4i rfl c9]
  exact q20 (q2b rfl rfl ey)
 rw [q1d rfl rfl note hT]
 rfl
end Fw
namespace Fw
open PySem Dl PyProof.Rows
open L2 hiding gNil gCons gTup
def top (i:Nat):Stmt:=PySem.Challenge.pw_feedweb_k21_unread.main.body.getD i (.Pass ⟨0,0,0,0⟩)
noncomputable abbrev s_parts_of:Stmt:=top 11
noncomputable abbrev s_parts_asked:Stmt:=top 12
noncomputable abbrev s_is_name:Stmt:=top 17
noncomputable abbrev s___init__:Stmt:=q7c (top 18) 0
noncomputable abbrev s_add:Stmt:=q7c (top 18) 1
noncomputable abbrev s_read:Stmt:=top 24
noncomputable abbrev s_read_line:Stmt:=top 25
noncomputable abbrev s_read_need:Stmt:=top 26
noncomputable abbrev s_split_parts:Stmt:=top 27
noncomputable abbrev s_knots_of:Stmt:=top 28
noncomputable abbrev s__law_cell_at:Stmt:=top 30
noncomputable abbrev s__law_next:Stmt:=top 31
noncomputable abbrev s__law_names:Stmt:=top 32
noncomputable abbrev s__law_need:Stmt:=top 33
noncomputable abbrev s__law_parts:Stmt:=top 34
noncomputable abbrev s__law_drawn:Stmt:=top 35
noncomputable abbrev s__law_text:Stmt:=top 36
noncomputable abbrev s__law_kind:Stmt:=top 37
noncomputable abbrev s__law_tried:Stmt:=top 38
noncomputable abbrev J1:Stmt:=top 39
noncomputable abbrev J2:Stmt:=top 40
noncomputable abbrev s_law:Stmt:=top 41
section
variable {P:Program}{w:World}{K:PySem.W.Frag}{mg:Str->Option Value}{base:Heap}{cl ce:Nat->Addr}
theorem q0f:FnScope ["e","kinds"] ["e"] (defScope s__law_kind):=⟨rfl,rfl,rfl,by decide +kernel,rfl,by decide +kernel,by decide +kernel⟩
theorem q57 {f__law_kind:Addr}{e__law_kind:FuncData}(D__law_kind:Df K mg "_law_kind" s__law_kind ["e"] f__law_kind e__law_kind){FE:Addr}{c:Nat}(ko:KindOk K ce FE c) (e_NoName:mg "NoName" = some (.ref (ce 0))) (e_Twice:mg "Twice" = some (.ref (ce 1))) (e_Full:mg "Full" = some (.ref (ce 2))) (e_NoKind:mg "NoKind" = some (.ref (ce 3))) (e_TooLarge:mg "TooLarge" = some (.ref (ce 4))) (e_NotPlain:mg "NotPlain" = some (.ref (ce 5))) (e_NoNote:mg "NoNote" = some (.ref (ce 6))) (m_isinstance:mg "isinstance" = none) (m_ValueError:mg "ValueError" = none) :
 FnM P w K mg base 1 f__law_kind e__law_kind "e" (ce c) ((kindW[c]?).getD "") :=
 fn_M (N:=["e","kinds"]) D__law_kind.F q0f λ cdv A outer s H ea oe hcl hr=>⟨_,
  q0h (q3v (i:=1) q0f.nd rfl (N0k rfl) (q5l (W3 (V5 (i:=0) (N0f.mpr rfl) hcl ko.xc ko.k0 rfl m_isinstance rfl (N0k e_NoName) rfl (N0k rfl)) (W3 (V5 (i:=0) (N0f.mpr rfl) hcl ko.xc ko.k1 rfl m_isinstance rfl (N0k e_Twice) rfl (N0k rfl)) (W3 (V5 (i:=0) (N0f.mpr rfl) hcl ko.xc ko.k2 rfl m_isinstance rfl (N0k e_Full) rfl (N0k rfl)) (W3 (V5 (i:=0) (N0f.mpr rfl) hcl ko.xc ko.k3 rfl m_isinstance rfl (N0k e_NoKind) rfl (N0k rfl)) q0B))))))
  (q0h (q3v (i:=1) q0f.nd rfl (N0k rfl) (q8Z q7F (pv 1) (q5l (W3 (V5 (i:=0) (N0f.mpr rfl) hcl ko.xc ko.k4 rfl m_isinstance rfl (N0k e_TooLarge) rfl (N0k rfl)) (W3 (V5 (i:=0) (N0f.mpr rfl) hcl ko.xc ko.k5 rfl m_isinstance rfl (N0k e_NotPlain) rfl (N0k rfl)) (W3 (V5 (i:=0) (N0f.mpr rfl) hcl ko.xc ko.k6 rfl m_isinstance rfl (N0k e_NoNote) rfl (N0k rfl)) q0B))))))
  (q0h (z0I (PW.pt (z2l (z00 (z2k (V5 (i:=0) (N0f.mpr rfl) hcl ko.xc ko.kv rfl m_isinstance rfl (N0r ⟨m_ValueError,q1o⟩) rfl (N0k rfl)))) (q9Z (z2j (z2i (q7p (pv 1) ⟨rfl,rfl,rfl,rfl⟩) q9Y))))) (q0W (q2f q0p)) q6Q)
  (by
   refine q0W ?_;refine q2f ?_;refine z2y q72 ?_ ?_ ?_
   ·exact q5l (W3 q0p (W3 q0p (W3 q0p (W3 q0p (W3 q0p (W3 q0p (W3 q0p q0B)))))))
   ·exact q7q (pv 1) ⟨rfl,rfl,rfl,rfl⟩
   ·exact (λ o_ o_=>rfl)))),λ Q hq=>q7Z (K:=K) (ea:=ea) (c:=c) ko.lt hq⟩
theorem q6F:FnScope ["text"] ["text"] (defScope s_is_name):=⟨rfl,rfl,rfl,by decide +kernel,rfl,by decide +kernel,by decide +kernel⟩
theorem q8O {r:Nat}{f_is_name:Addr}{e_is_name:FuncData}(D_is_name:Df K mg "is_name" s_is_name ["text"] f_is_name e_is_name){tk_MOST_LETTERS:Tok}(c_MOST_LETTERS:mg "MOST_LETTERS" = some (.int 8 tk_MOST_LETTERS)){ad_KEPT_WORDS:Addr}{ob_KEPT_WORDS:Obj}{its_KEPT_WORDS:Array Value}{n_KEPT_WORDS:Nat}(w_KEPT_WORDS:mg "KEPT_WORDS" = some (.ref ad_KEPT_WORDS)) (k_KEPT_WORDS:K.lookup ad_KEPT_WORDS=some ob_KEPT_WORDS) (c_KEPT_WORDS:ob_KEPT_WORDS.cls=.type "tuple") (d_KEPT_WORDS:ob_KEPT_WORDS.data=.seq its_KEPT_WORDS n_KEPT_WORDS) (z_KEPT_WORDS:its_KEPT_WORDS.size<=sizeLine) (v_KEPT_WORDS:Vals (wKEPT_WORDS.map V.str) its_KEPT_WORDS.toList) (m_all:mg "all" = none) (m_len:mg "len" = none) :
 FnOk P w K mg base CX0 (r+1) f_is_name e_is_name ["text"] (spD K cl 1 (y3 1 (q09))) :=
 q3s (κ:=[.b]) (κ':=[.b]) D_is_name.F q6F rfl (by decide) λ cdv A outer s H E hr=>have hu:=hr.units;
 (j4 (W2 (DW.dt (q3Y (Q7 q68 q2t q2u (Z7 Z5 Z4 W6 rfl m_len PySem.boot_len (z3 (z4 0 rfl rfl) j0)) z9 (Q8 _)) (q3Y (Q7 q0w v6 v7 (Z7 Z5 Z4 W6 rfl m_len PySem.boot_len (z3 (z4 0 rfl rfl) j0)) (X0 rfl c_MOST_LETTERS) (Q8 _)) (q1Q (z35 rfl w_KEPT_WORDS k_KEPT_WORDS c_KEPT_WORDS d_KEPT_WORDS z_KEPT_WORDS v_KEPT_WORDS (z4 0 rfl rfl)))))) (j8 (W0 z2T (λ o_ h=>nomatch h))) Z3)
  (j8 (W0 (Z7 (q2N rfl) q7P z1m rfl m_all q7T (z3 (q0y (kx:=.v) [] rfl rfl (q0E (z4 0 rfl rfl)) (λ o_=>Y6) (λ o_=>(q9r z0f z0f z0e z0e z0i z0i z7 (z4 0 rfl rfl) z7))) j0)) (λ o_ h=>nomatch h))))
theorem z0E:FnScope ["self","name","need"] ["self","name","need"] (defScope s_add):=⟨rfl,rfl,rfl,by decide +kernel,rfl,by decide +kernel,by decide +kernel⟩
theorem z6o {r:Nat}{f_add:Addr}{e_add:FuncData}(R_add:Fun K "add" "Web.add" s_add f_add e_add){f_is_name:Addr}{e_is_name:FuncData}{F_is_name:PF}(D_is_name:Df K mg "is_name" s_is_name ["text"] f_is_name e_is_name) (G_is_name:FnOk P w K mg base CX0 r f_is_name e_is_name ["text"] (spD K cl 1 F_is_name)) (ClW:Cls K (cl 0)) (NaW:X1 K (cl 0) "need_by_name"){tk_MOST_KINDS:Tok}(c_MOST_KINDS:mg "MOST_KINDS" = some (.int 16 tk_MOST_KINDS)) (m_len:mg "len" = none) :
 FnOk P w K mg base CX0 (r+1) f_add e_add ["self","name","need"] (spI K cl 3 1 (z40 3 1 (z1I F_is_name))) :=
 fn_I (io:=[0]) (κ:=[.i,.b,.b]) (κ':=[.i,.b,.b]) R_add z0E rfl (by decide) rfl (by decide) rfl λ cdv A outer s H E iv l hr=>have hu:=hr.units;
 (j4 (W2 (q2p (q0D (Q3 D_is_name G_is_name hr rfl (z6 j6) (z3 (z4 1 rfl rfl) j0)))) (j8 K1) Z3)
  (j4 (W2 (Q7 (q5z hu) q5B q5C (z4 1 rfl rfl) (q42 (c:=0) ClW NaW (z4 0 rfl rfl)) rfl) (j8 K1) Z3)
  (j4 (W2 (Q7 z0h z0g z0j (Z7 Z5 Z4 W6 rfl m_len PySem.boot_len (z3 (q42 (c:=0) ClW NaW (z4 0 rfl rfl)) j0)) (X0 rfl c_MOST_KINDS) (Q8 _)) (j8 K1) Z3)
  (j8 (z1s (c:=0) 0 ClW NaW (N0r rfl) rfl hu (z4 1 rfl rfl) (q2S 2))))))
theorem q58:FnScope ["need"] ["need"] (defScope s_parts_of):=⟨rfl,rfl,rfl,by decide +kernel,rfl,by decide +kernel,by decide +kernel⟩
theorem q6G {r:Nat}{f_parts_of:Addr}{e_parts_of:FuncData}(D_parts_of:Df K mg "parts_of" s_parts_of ["need"] f_parts_of e_parts_of) :
 FnOk P w K mg base CX0 (r+1) f_parts_of e_parts_of ["need"] (spD K cl 1 (y3 1 (q15))) :=
 q3s (κ:=[.b]) (κ':=[.b]) D_parts_of.F q58 rfl (by decide) λ cdv A outer s H E hr=>have hu:=hr.units;
 (j8 (W0 (z1f (Q7 (q5z hu) q5B q5C (Q2 hu (z4 0 rfl rfl) z9 (λ o_ o_=>rfl) (λ o_ o_=>rfl)) (X2 (z3 z7 (z3 z7 (z3 z7 j0)))) rfl) (q4K (Q2 hu (z4 0 rfl rfl) (q7B q3y q1X q1W z9) (λ o_ o_=>rfl) (λ o_ o_=>rfl))) (X2 j0)) (λ o_ h=>nomatch h)))
theorem q2d:FnScope ["need"] ["need"] (defScope s_parts_asked):=⟨rfl,rfl,rfl,by decide +kernel,rfl,by decide +kernel,by decide +kernel⟩
theorem q3o {r:Nat}{f_parts_asked:Addr}{e_parts_asked:FuncData}(D_parts_asked:Df K mg "parts_asked" s_parts_asked ["need"] f_parts_asked e_parts_asked){f_parts_of:Addr}{e_parts_of:FuncData}{F_parts_of:PF}(D_parts_of:Df K mg "parts_of" s_parts_of ["need"] f_parts_of e_parts_of) (G_parts_of:FnOk P w K mg base CX0 r f_parts_of e_parts_of ["need"] (spD K cl 1 F_parts_of)) (m_len:mg "len" = none) :
 FnOk P w K mg base CX0 (r+1) f_parts_asked e_parts_asked ["need"] (spD K cl 1 (y3 1 (U7 F_parts_of))) :=
 q3s (κ:=[.b]) (κ':=[.b]) D_parts_asked.F q2d rfl (by decide) λ cdv A outer s H E hr=>have hu:=hr.units;
 (j4 (W2 (Q7 (K2 hu) K3 K4 (Q2 hu (z4 0 rfl rfl) z9 (λ o_ o_=>rfl) (λ o_ o_=>rfl)) z7 (Q8 _)) (j8 (W0 z9 (λ o_ h=>nomatch h))) Z3)
  (j4 (W2 (Q7 (K2 hu) K3 K4 (Q2 hu (z4 0 rfl rfl) z9 (λ o_ o_=>rfl) (λ o_ o_=>rfl)) z7 (Q8 _)) (j8 (W0 (Z7 Z5 Z4 W6 rfl m_len PySem.boot_len (z3 (Q3 D_parts_of G_parts_of hr rfl (z6 j6) (z3 (z4 0 rfl rfl) j0)) j0)) (λ o_ h=>nomatch h))) Z3)
  (j8 (W0 (q4K (Q2 hu (z4 0 rfl rfl) z9 (λ o_ o_=>rfl) (λ o_ o_=>rfl))) (λ o_ h=>nomatch h)))))
theorem q59:FnScope ["need"] ["need"] (defScope s_knots_of):=⟨rfl,rfl,rfl,by decide +kernel,rfl,by decide +kernel,by decide +kernel⟩
theorem q6H {r:Nat}{f_knots_of:Addr}{e_knots_of:FuncData}(D_knots_of:Df K mg "knots_of" s_knots_of ["need"] f_knots_of e_knots_of){F_knots_of:PF}(G_knots_of:FnOk P w K mg base CX0 r f_knots_of e_knots_of ["need"] (spD K cl 1 F_knots_of)){f_parts_of:Addr}{e_parts_of:FuncData}{F_parts_of:PF}(D_parts_of:Df K mg "parts_of" s_parts_of ["need"] f_parts_of e_parts_of) (G_parts_of:FnOk P w K mg base CX0 r f_parts_of e_parts_of ["need"] (spD K cl 1 F_parts_of)) (m_sum:mg "sum" = none) :
 FnOk P w K mg base CX0 (r+1) f_knots_of e_knots_of ["need"] (spD K cl 1 (y3 1 (q0n F_knots_of F_parts_of))) :=
 q3s (κ:=[.b]) (κ':=[.b]) D_knots_of.F q59 rfl (by decide) λ cdv A outer s H E hr=>have hu:=hr.units;
 (j8 (W0 (z8 w6 j9 j5 z9 (Z7 (q2O rfl) q7Q z1n rfl m_sum q7U (z3 (q0y (kx:=.v) [] rfl rfl (q0E (Q3 D_parts_of G_parts_of hr rfl (z6 j6) (z3 (z4 0 rfl rfl) j0))) (λ o_=>Y6) (λ o_=>(Q3 D_knots_of G_knots_of hr rfl (z6 j6) (z3 (z4 0 rfl rfl) j0)))) j0))) (λ o_ h=>nomatch h)))
theorem y0:FnScope ["text","parts","unclosed","piece"] ["text"] (defScope s_split_parts):=⟨rfl,rfl,rfl,by decide +kernel,rfl,by decide +kernel,by decide +kernel⟩
theorem q3p {r:Nat}{f_split_parts:Addr}{e_split_parts:FuncData}(D_split_parts:Df K mg "split_parts" s_split_parts ["text"] f_split_parts e_split_parts) :
 FnOk P w K mg base CX0 (r+1) f_split_parts e_split_parts ["text"] (spD K cl 1 (y3 4 (U9))) :=
 q3s (κ:=[.b,.o,.s,.s]) (κ':=[.b,.o,.s,.s]) D_split_parts.F y0 rfl (by decide) λ cdv A outer s H E hr=>have hu:=hr.units;
 (j4 (q1T (i:=1) (by decide) y0.nd rfl (N0k rfl) (y8 j0))
  (j4 (Q9 (i:=2) (k:=.s) (N0r rfl) (by decide) y0.nd rfl (N0k rfl) z9)
  (j4 (q40 (i:=3) (k:=.b) (fg:=[3]) (N0k rfl) (by decide) y0.nd rfl (N0k rfl) PassesOwn.never rfl (q0E (K6 PySem.F.slot_str_split PySem.F.type_str_split q4N q39 q4P (z4 0 rfl rfl) z7)) (j4 (W2 (Q7 q0w v6 v7 (z4 2 rfl rfl) z9 (Q8 _)) (j8 (q7I 1 (N0k rfl) rfl hu (q7B q3y q1X q1W z9) (z8 w6 j9 j5 (z8 w6 j9 j5 (Q2 hu (z4 1 rfl rfl) (q7B q3y q1X q1W z9) (λ o_ o_=>rfl) (λ o_ o_=>rfl)) z7) (z4 3 rfl rfl)))) (j8 (q7G 1 (N0k rfl) rfl (q2S 3))))
  (j8 (Q9 (i:=2) (k:=.s) (N0r rfl) (by decide) y0.nd rfl (N0k rfl) (z8 q6V q4I q4J (q0r u5 u4 (z4 2 rfl rfl) (K6 PySem.F.slot_str_count PySem.F.type_str_count z0o q82 z0p (z4 3 rfl rfl) z7)) (K6 PySem.F.slot_str_count PySem.F.type_str_count z0o q82 z0p (z4 3 rfl rfl) z7))))) rfl)
  (j8 (q7D 1 rfl (λ o_ h=>nomatch h))))))
theorem J3:FnScope ["text","depth","pieces","texts","parts","need"] ["text","depth"] (defScope s_read_need):=⟨rfl,rfl,rfl,by decide +kernel,rfl,by decide +kernel,by decide +kernel⟩
theorem q5a {r:Nat}{f_read_need:Addr}{e_read_need:FuncData}(D_read_need:Df K mg "read_need" s_read_need ["text","depth"] f_read_need e_read_need){f_is_name:Addr}{e_is_name:FuncData}{F_is_name:PF}(D_is_name:Df K mg "is_name" s_is_name ["text"] f_is_name e_is_name) (G_is_name:FnOk P w K mg base CX0 r f_is_name e_is_name ["text"] (spD K cl 1 F_is_name)){f_parts_asked:Addr}{e_parts_asked:FuncData}{F_parts_asked:PF}(D_parts_asked:Df K mg "parts_asked" s_parts_asked ["need"] f_parts_asked e_parts_asked) (G_parts_asked:FnOk P w K mg base CX0 r f_parts_asked e_parts_asked ["need"] (spD K cl 1 F_parts_asked)){F_read_need:PF}(G_read_need:FnOk P w K mg base CX0 r f_read_need e_read_need ["text","depth"] (spD K cl 2 F_read_need)){f_split_parts:Addr}{e_split_parts:FuncData}{F_split_parts:PF}(D_split_parts:Df K mg "split_parts" s_split_parts ["text"] f_split_parts e_split_parts) (G_split_parts:FnOk P w K mg base CX0 r f_split_parts e_split_parts ["text"] (spD K cl 1 F_split_parts)){tk_MOST_DEPTH:Tok}(c_MOST_DEPTH:mg "MOST_DEPTH" = some (.int 5 tk_MOST_DEPTH)){tk_MOST_PARTS:Tok}(c_MOST_PARTS:mg "MOST_PARTS" = some (.int 4 tk_MOST_PARTS)){ad_BEGINNINGS:Addr}(w_BEGINNINGS:mg "BEGINNINGS" = some (.ref ad_BEGINNINGS)) (t_BEGINNINGS:KDict P w K ad_BEGINNINGS tBEGINNINGS) (m_len:mg "len" = none) (m_tuple:mg "tuple" = none) :
 FnOk P w K mg base CX0 (r+1) f_read_need e_read_need ["text","depth"] (spD K cl 2 (y3 6 (y6 F_is_name F_parts_asked F_read_need F_split_parts))) :=
 q3s (κ:=[.b,.b,.s,.s,.s,.s]) (κ':=[.b,.b,.s,.s,.s,.s]) D_read_need.F J3 rfl (by decide) λ cdv A outer s H E hr=>have hu:=hr.units;
 (j4 (W2 (Q7 q0w v6 v7 (z4 1 rfl rfl) (X0 rfl c_MOST_DEPTH) (Q8 _)) (j8 K1) Z3)
  (j4 (W2 (Q7 (K2 hu) K3 K4 (z4 0 rfl rfl) z7 (Q8 _)) (j8 (W0 (X2 (z3 z7 j0)) (λ o_ h=>nomatch h))) Z3)
  (j4 (W2 (q0D (Q3 D_is_name G_is_name hr rfl (z6 j6) (z3 (z4 0 rfl rfl) j0))) (j8 (W0 (X2 (z3 z7 (z3 (q2S 0) j0))) (λ o_ h=>nomatch h))) Z3)
  (j4 (Q9 (i:=2) (k:=.s) (N0r rfl) (by decide) J3.nd rfl (N0k rfl) (K6 PySem.F.slot_str_partition PySem.F.type_str_partition q1Y q0M q1Z (z4 0 rfl rfl) z7))
  (j4 (W2 (DW.dt (q3Y (q4R t_BEGINNINGS rfl w_BEGINNINGS (Q2 hu (z4 2 rfl rfl) z9 (λ o_ o_=>rfl) (λ o_ o_=>rfl))) (q1Q (q2p (q0D (K6 PySem.F.slot_str_endswith PySem.F.type_str_endswith q4O q3a q4Q (Q2 hu (z4 2 rfl rfl) z9 (λ o_ o_=>rfl) (λ o_ o_=>rfl)) z7)))))) (j8 K1) Z3)
  (j4 (Q9 (i:=3) (k:=.s) (N0r rfl) (by decide) J3.nd rfl (N0k rfl) (Q3 D_split_parts G_split_parts hr rfl (z6 j6) (z3 (q0l (Q2 hu (z4 2 rfl rfl) z9 (λ o_ o_=>rfl) (λ o_ o_=>rfl)) q0Y (q0Z (q7B q3y q1X q1W z9))) j0)))
  (j4 (W2 (Q7 q0w v6 v7 (Z7 Z5 Z4 W6 rfl m_len PySem.boot_len (z3 (z4 3 rfl rfl) j0)) (X0 rfl c_MOST_PARTS) (Q8 _)) (j8 K1) Z3)
  (j4 (q7L (i:=4) (k:=.s) (kx:=.v) [("depth",1)] (N0r rfl) (by decide) J3.nd rfl (N0k rfl) rfl rfl (q0E (z4 3 rfl rfl)) (λ o_=>Y6) (λ o_=>(Q3 D_read_need G_read_need hr rfl (z6 (z6 j6)) (z3 (z4 0 rfl rfl) (z3 (z8 w6 j9 j5 (z4 1 rfl rfl) z9) j0)))))
  (j4 (Q9 (i:=5) (k:=.s) (N0r rfl) (by decide) J3.nd rfl (N0k rfl) (z0r t_BEGINNINGS rfl w_BEGINNINGS (Q2 hu (z4 2 rfl rfl) z9 (λ o_ o_=>rfl) (λ o_ o_=>rfl)) (X2 (z3 (q0I y7 v8 rfl m_tuple v9 (z3 (z4 4 rfl rfl) j0)) j0))))
  (j4 (W2 (Q7 q0w v6 v7 (Q3 D_parts_asked G_parts_asked hr rfl (z6 j6) (z3 (z4 5 rfl rfl) j0)) (Z7 Z5 Z4 W6 rfl m_len PySem.boot_len (z3 (z4 4 rfl rfl) j0)) (Q8 _)) (j8 K1) Z3)
  (j8 (q2U (z4 5 rfl rfl) (λ o_ h=>nomatch h)))))))))))))
theorem W8:FnScope ["line","web","pieces","need","refusal"] ["line","web"] (defScope s_read_line):=⟨rfl,rfl,rfl,by decide +kernel,rfl,by decide +kernel,by decide +kernel⟩
theorem q5b {r:Nat}{f_read_line:Addr}{e_read_line:FuncData}(D_read_line:Df K mg "read_line" s_read_line ["line","web"] f_read_line e_read_line){f_knots_of:Addr}{e_knots_of:FuncData}{F_knots_of:PF}(D_knots_of:Df K mg "knots_of" s_knots_of ["need"] f_knots_of e_knots_of) (G_knots_of:FnOk P w K mg base CX0 r f_knots_of e_knots_of ["need"] (spD K cl 1 F_knots_of)){f_read_need:Addr}{e_read_need:FuncData}{F_read_need:PF}(D_read_need:Df K mg "read_need" s_read_need ["text","depth"] f_read_need e_read_need) (G_read_need:FnOk P w K mg base CX0 r f_read_need e_read_need ["text","depth"] (spD K cl 2 F_read_need)){f_add:Addr}{e_add:FuncData}{F_add:PFI}(M_add:Meth K (cl 0) "add" f_add) (B_add:X9 K e_add ["self","name","need"] []) (G_add:FnOk P w K mg base CX0 r f_add e_add ["self","name","need"] (spI K cl 3 1 F_add)) (ClW:Cls K (cl 0)) (NaW:X1 K (cl 0) "need_by_name"){tk_MOST_KNOTS:Tok}(c_MOST_KNOTS:mg "MOST_KNOTS" = some (.int 24 tk_MOST_KNOTS)) :
 FnOk P w K mg base CX0 (r+1) f_read_line e_read_line ["line","web"] (spJ K cl (z3a 5 (U8 F_knots_of F_read_need F_add))) :=
 fn_J (κ:=[.b,.i,.s,.s,.s]) (κ':=[.b,.i,.s,.s,.s]) D_read_line.F W8 rfl rfl rfl rfl λ cdv A outer s H E iv l hr=>have hu:=hr.units;
 (j4 (Q9 (i:=2) (k:=.s) (N0r rfl) (by decide) W8.nd rfl (N0k rfl) (K6 PySem.F.slot_str_partition PySem.F.type_str_partition q1Y q0M q1Z (z4 0 rfl rfl) z7))
  (j4 (Q9 (i:=3) (k:=.s) (N0r rfl) (by decide) W8.nd rfl (N0k rfl) (Q3 D_read_need G_read_need hr rfl (z6 (z6 j6)) (z3 (Q2 hu (z4 2 rfl rfl) z9 (λ o_ o_=>rfl) (λ o_ o_=>rfl)) (z3 z9 j0))))
  (j4 (W2 (Q7 q0w v6 v7 (Q3 D_knots_of G_knots_of hr rfl (z6 j6) (z3 (z4 3 rfl rfl) j0)) (X0 rfl c_MOST_KNOTS) (Q8 _)) (j8 K1) Z3)
  (j8 (z1x (λ pn xe=>(j8 (q37 (z1q (c:=0) 1 ClW M_add rfl G_add hr B_add (λ δ ds h=>congrArg (1 + ·) ((z6 (z6 j6)) δ ds h)) (z3 (Q2 hu (z4 2 rfl rfl) z9 (λ o_ o_=>rfl) (λ o_ o_=>rfl)) (z3 (z4 3 rfl rfl) j0)))))))))))
theorem q0g:FnScope ["text","web","lines","line"] ["text"] (defScope s_read):=⟨rfl,rfl,rfl,by decide +kernel,rfl,by decide +kernel,by decide +kernel⟩
theorem z3O {r:Nat}{f_read:Addr}{e_read:FuncData}(D_read:Df K mg "read" s_read ["text"] f_read e_read){f_read_line:Addr}{e_read_line:FuncData}{F_read_line:PFI}(D_read_line:Df K mg "read_line" s_read_line ["line","web"] f_read_line e_read_line) (G_read_line:FnOk P w K mg base CX0 r f_read_line e_read_line ["line","web"] (spJ K cl F_read_line)) (ClW:Cls K (cl 0)) (NaW:X1 K (cl 0) "need_by_name"){f_init:Addr}{e_init:FuncData}(MkW:Mk K (cl 0) f_init) (G_init:FnOk P w K mg base CX0 1 f_init e_init ["self"] (spInit (cl 0) "need_by_name")) (b_init:X9 K e_init ["self"] []) (m_Web:mg "Web" = some (.ref (cl 0))) :
 FnOk P w K mg base CX0 (r+2+1) f_read e_read ["text"] (spD K cl 1 (y3 4 (q89 F_read_line))) :=
 q3s (κ:=[.b,.o,.s,.s]) (κ':=[.b,.o,.s,.s]) D_read.F q0g rfl (by decide) λ cdv A outer s H E hr=>have hu:=hr.units;have hrr:=hr;have hr:Room r _:=hrr.mono (by simp);have hr2:Room 2 _:=hrr.mono (by simp);
 (j4 (q1T (i:=1) (by decide) q0g.nd rfl (N0k rfl) (q7V MkW G_init hr2 rfl m_Web b_init))
  (j4 (Q9 (i:=2) (k:=.s) (N0r rfl) (by decide) q0g.nd rfl (N0k rfl) (z1f (Q7 (z0l hu) z0m z0n (z4 0 rfl rfl) z7 (Q8 _)) (K6 PySem.F.slot_str_split PySem.F.type_str_split q4N q39 q4P (z4 0 rfl rfl) z7) (y8 j0)))
  (j4 (q40 (i:=3) (k:=.b) (fg:=[3]) (N0k rfl) (by decide) q0g.nd rfl (N0k rfl) PassesOwn.never rfl (q0E (z4 2 rfl rfl)) (j8 (q37 (q5I 1 D_read_line rfl G_read_line hr rfl (z4 3 rfl rfl)))) rfl)
  (j8 (q7D 1 rfl (λ o_ h=>nomatch h))))))
theorem q25:FnScope ["script","k"] ["script","k"] (defScope s__law_cell_at):=⟨rfl,rfl,rfl,by decide +kernel,rfl,by decide +kernel,by decide +kernel⟩
theorem q2e {r:Nat}{f__law_cell_at:Addr}{e__law_cell_at:FuncData}(D__law_cell_at:Df K mg "_law_cell_at" s__law_cell_at ["script","k"] f__law_cell_at e__law_cell_at) (m_len:mg "len" = none) :
 FnOk P w K mg base CX0 (r+1) f__law_cell_at e__law_cell_at ["script","k"] (spD K cl 2 (y3 2 (u6))) :=
 q3s (κ:=[.b,.b]) (κ':=[.b,.b]) D__law_cell_at.F q25 rfl (by decide) λ cdv A outer s H E hr=>have hu:=hr.units;
 (j4 (W2 (Q7 q68 q2t q2u (z4 1 rfl rfl) (Z7 Z5 Z4 W6 rfl m_len PySem.boot_len (z3 (z4 0 rfl rfl) j0)) (Q8 _)) (j8 (W0 (q4K (Q2 hu (z4 0 rfl rfl) (z4 1 rfl rfl) (λ o_ o_=>rfl) (λ o_ o_=>rfl))) (λ o_ h=>nomatch h))) Z3)
  (j8 (W0 z9 (λ o_ h=>nomatch h))))
theorem q1l:FnScope ["seed"] ["seed"] (defScope s__law_next):=⟨rfl,rfl,rfl,by decide +kernel,rfl,by decide +kernel,by decide +kernel⟩
theorem q5c {r:Nat}{f__law_next:Addr}{e__law_next:FuncData}(D__law_next:Df K mg "_law_next" s__law_next ["seed"] f__law_next e__law_next) :
 FnOk P w K mg base CX0 (r+1) f__law_next e__law_next ["seed"] (spD K cl 1 (y3 1 (q0z))) :=
 q3s (κ:=[.b]) (κ':=[.b]) D__law_next.F q1l rfl (by decide) λ cdv A outer s H E hr=>have hu:=hr.units;
 (j4 (Q9 (i:=0) (k:=.b) (N0k rfl) (by decide) q1l.nd rfl (N0k rfl) (z8 W5 Z8 Z9 (z8 w6 j9 j5 (z4 0 rfl rfl) z9) z9))
  (j8 (W0 (z8 W5 Z8 Z9 (z8 w6 j9 j5 (z8 w6 j9 j5 (z8 q5k q2Y q2Z (z4 0 rfl rfl) (z4 0 rfl rfl)) (z8 q5k q2Y q2Z z9 (z4 0 rfl rfl))) z9) z9) (λ o_ h=>nomatch h))))
theorem q03:FnScope ["cell","many","stub","at"] ["cell","many"] (defScope s__law_names):=⟨rfl,rfl,rfl,by decide +kernel,rfl,by decide +kernel,by decide +kernel⟩
theorem q4j {r:Nat}{f__law_names:Addr}{e__law_names:FuncData}(D__law_names:Df K mg "_law_names" s__law_names ["cell","many"] f__law_names e__law_names) (m_len:mg "len" = none) (m_range:mg "range" = none) :
 FnOk P w K mg base CX0 (r+1) f__law_names e__law_names ["cell","many"] (spD K cl 2 (y3 4 (q0a))) :=
 q3s (κ:=[.b,.b,.s,.s]) (κ':=[.b,.b,.s,.s]) D__law_names.F q03 rfl (by decide) λ cdv A outer s H E hr=>have hu:=hr.units;
 (j4 (Q9 (i:=2) (k:=.s) (N0r rfl) (by decide) q03.nd rfl (N0r rfl) (Q2 hu (y8 (z3 z7 (z3 z7 (z3 z7 (z3 z7 (z3 z7 (z3 z7 (z3 z7 (z3 z7 j0))))))))) (z8 W5 Z8 Z9 (z4 0 rfl rfl) z9) (λ o_ o_=>rfl) (λ o_ o_=>rfl)))
  (j4 (Q9 (i:=3) (k:=.s) (N0r rfl) (by decide) q03.nd rfl (N0r rfl) (z8 W5 Z8 Z9 (z8 y9 Y1 Y2 (z4 0 rfl rfl) z9) (z8 w6 j9 j5 (Z7 Z5 Z4 W6 rfl m_len PySem.boot_len (z3 (z4 2 rfl rfl) j0)) z9)))
  (j8 (W0 (q0y (kx:=.v) [("stub",2),("at",3),("cell",0)] rfl rfl (q08 rfl m_range (z4 1 rfl rfl)) (λ o_=>Y6) (λ o_=>(z8 w6 j9 j5 (z8 w6 j9 j5 (q0l (z4 1 rfl rfl) q0Y (q0Z (z4 2 rfl rfl))) (Q2 hu z7 (z8 W5 Z8 Z9 (z8 w6 j9 j5 (z4 0 rfl rfl) (z8 y9 Y1 Y2 (z4 3 rfl rfl) z9)) z9) (λ o_ o_=>rfl) (λ o_ o_=>rfl))) (q0l (z4 1 rfl rfl) (q0Z (z4 2 rfl rfl)) q0Y)))) (λ o_ h=>nomatch h)))))
theorem V8:FnScope ["seed","deep","pool","simple","way","parts","k"] ["seed","deep","pool","simple"] (defScope s__law_need):=⟨rfl,rfl,rfl,by decide +kernel,rfl,by decide +kernel,by decide +kernel⟩
theorem q5d {r:Nat}{f__law_need:Addr}{e__law_need:FuncData}(D__law_need:Df K mg "_law_need" s__law_need ["seed","deep","pool","simple"] f__law_need e__law_need){F__law_need:PF}(G__law_need:FnOk P w K mg base CX0 r f__law_need e__law_need ["seed","deep","pool","simple"] (spD K cl 4 F__law_need)){f__law_next:Addr}{e__law_next:FuncData}{F__law_next:PF}(D__law_next:Df K mg "_law_next" s__law_next ["seed"] f__law_next e__law_next) (G__law_next:FnOk P w K mg base CX0 r f__law_next e__law_next ["seed"] (spD K cl 1 F__law_next)) (m_len:mg "len" = none) (m_range:mg "range" = none) (m_tuple:mg "tuple" = none) :
 FnOk P w K mg base CX0 (r+1) f__law_need e__law_need ["seed","deep","pool","simple"] (spD K cl 4 (y3 7 (V0 F__law_need F__law_next))) :=
 q3s (κ:=[.b,.b,.b,.b,.s,.o,.s]) (κ':=[.b,.b,.b,.b,.s,.o,.s]) D__law_need.F V8 rfl (by decide) λ cdv A outer s H E hr=>have hu:=hr.units;
 (j4 (Q9 (i:=4) (k:=.s) (N0r rfl) (by decide) V8.nd rfl (N0k rfl) (z8 W5 Z8 Z9 (z4 0 rfl rfl) z9))
  (j4 (W2 (DW.dt (q3Y (Q7 (K2 hu) K3 K4 (z4 1 rfl rfl) z9 (Q8 _)) (q1Q (Q7 q68 q2t q2u (z4 4 rfl rfl) z9 (Q8 _))))) (j4 (W2 (Q7 (K2 hu) K3 K4 (z8 W5 Z8 Z9 (z8 y9 Y1 Y2 (z4 0 rfl rfl) z9) z9) z9 (Q8 _)) (j8 (W0 (X2 (z3 z7 j0)) (λ o_ h=>nomatch h))) Z3)
  (j8 (W0 (X2 (z3 z7 (z3 (q4K (Q2 hu (z4 2 rfl rfl) (z8 W5 Z8 Z9 (z8 y9 Y1 Y2 (z4 0 rfl rfl) z9) (Z7 Z5 Z4 W6 rfl m_len PySem.boot_len (z3 (z4 2 rfl rfl) j0))) (λ o_ o_=>rfl) (λ o_ o_=>rfl))) j0))) (λ o_ h=>nomatch h)))) Z3)
  (j4 (q1T (i:=5) (by decide) V8.nd rfl (N0k rfl) (y8 j0))
  (j4 (q40 (i:=6) (k:=.b) (fg:=[6]) (N0k rfl) (by decide) V8.nd rfl (N0k rfl) PassesOwn.never rfl (q08 rfl m_range (z8 w6 j9 j5 z9 (z8 W5 Z8 Z9 (z8 y9 Y1 Y2 (z4 0 rfl rfl) z9) z9))) (j8 (q7G 5 (N0k rfl) rfl (Q3 D__law_need G__law_need hr rfl (z6 (z6 (z6 (z6 j6)))) (z3 (Q3 D__law_next G__law_next hr rfl (z6 j6) (z3 (z8 w6 j9 j5 (z8 w6 j9 j5 (z4 0 rfl rfl) (z8 q5k q2Y q2Z z9 (z4 6 rfl rfl))) z9) j0)) (z3 (z8 q6V q4I q4J (z4 1 rfl rfl) z9) (z3 (z4 2 rfl rfl) (z3 (z4 3 rfl rfl) j0))))))) rfl)
  (j4 (W2 (DW.dt (q3Y (Q7 q68 q2t q2u (z4 4 rfl rfl) z9 (Q8 _)) (q1Q (q0D (z4 3 rfl rfl))))) (j8 (W0 (X2 (z3 z7 (z3 (q0I y7 v8 rfl m_tuple v9 (z3 (z4 5 rfl rfl) j0)) j0))) (λ o_ h=>nomatch h))) Z3)
  (j4 (W2 (Q7 q68 q2t q2u (z4 4 rfl rfl) z9 (Q8 _)) (j8 (W0 (X2 (z3 z7 (z3 (q0I y7 v8 rfl m_tuple v9 (z3 (z4 5 rfl rfl) j0)) j0))) (λ o_ h=>nomatch h))) Z3)
  (j8 (W0 (X2 (z3 z7 (z3 (z8 w6 j9 j5 z9 (z8 W5 Z8 Z9 (z8 y9 Y1 Y2 (z4 0 rfl rfl) z9) (Z7 Z5 Z4 W6 rfl m_len PySem.boot_len (z3 (z4 5 rfl rfl) j0)))) (z3 (q0I y7 v8 rfl m_tuple v9 (z3 (z4 5 rfl rfl) j0)) j0)))) (λ o_ h=>nomatch h)))))))))
theorem q3q:FnScope ["need"] ["need"] (defScope s__law_parts):=⟨rfl,rfl,rfl,by decide +kernel,rfl,by decide +kernel,by decide +kernel⟩
theorem q4k {r:Nat}{f__law_parts:Addr}{e__law_parts:FuncData}(D__law_parts:Df K mg "_law_parts" s__law_parts ["need"] f__law_parts e__law_parts) (m_len:mg "len" = none) :
 FnOk P w K mg base CX0 (r+1) f__law_parts e__law_parts ["need"] (spD K cl 1 (y3 1 (q0b))) :=
 q3s (κ:=[.b]) (κ':=[.b]) D__law_parts.F q3q rfl (by decide) λ cdv A outer s H E hr=>have hu:=hr.units;
 (j4 (W2 (DW.dt (q3Y (Q7 (K2 hu) K3 K4 (Q2 hu (z4 0 rfl rfl) z9 (λ o_ o_=>rfl) (λ o_ o_=>rfl)) z7 (Q8 _)) (q1Q (Q7 (K2 hu) K3 K4 (Q2 hu (z4 0 rfl rfl) z9 (λ o_ o_=>rfl) (λ o_ o_=>rfl)) z7 (Q8 _))))) (j8 (W0 (X2 j0) (λ o_ h=>nomatch h))) Z3)
  (j8 (W0 (q4K (Q2 hu (z4 0 rfl rfl) (z8 q6V q4I q4J (Z7 Z5 Z4 W6 rfl m_len PySem.boot_len (z3 (z4 0 rfl rfl) j0)) z9) (λ o_ o_=>rfl) (λ o_ o_=>rfl))) (λ o_ h=>nomatch h))))
theorem K0:FnScope ["script","simple","many","pool","needs","k","seed"] ["script","simple"] (defScope s__law_drawn):=⟨rfl,rfl,rfl,by decide +kernel,rfl,by decide +kernel,by decide +kernel⟩
theorem q4l {r:Nat}{f__law_drawn:Addr}{e__law_drawn:FuncData}(D__law_drawn:Df K mg "_law_drawn" s__law_drawn ["script","simple"] f__law_drawn e__law_drawn){f__law_cell_at:Addr}{e__law_cell_at:FuncData}{F__law_cell_at:PF}(D__law_cell_at:Df K mg "_law_cell_at" s__law_cell_at ["script","k"] f__law_cell_at e__law_cell_at) (G__law_cell_at:FnOk P w K mg base CX0 r f__law_cell_at e__law_cell_at ["script","k"] (spD K cl 2 F__law_cell_at)){f__law_names:Addr}{e__law_names:FuncData}{F__law_names:PF}(D__law_names:Df K mg "_law_names" s__law_names ["cell","many"] f__law_names e__law_names) (G__law_names:FnOk P w K mg base CX0 r f__law_names e__law_names ["cell","many"] (spD K cl 2 F__law_names)){f__law_need:Addr}{e__law_need:FuncData}{F__law_need:PF}(D__law_need:Df K mg "_law_need" s__law_need ["seed","deep","pool","simple"] f__law_need e__law_need) (G__law_need:FnOk P w K mg base CX0 r f__law_need e__law_need ["seed","deep","pool","simple"] (spD K cl 4 F__law_need)){f__law_next:Addr}{e__law_next:FuncData}{F__law_next:PF}(D__law_next:Df K mg "_law_next" s__law_next ["seed"] f__law_next e__law_next) (G__law_next:FnOk P w K mg base CX0 r f__law_next e__law_next ["seed"] (spD K cl 1 F__law_next)) (m_range:mg "range" = none) :
 FnOk P w K mg base CX0 (r+1) f__law_drawn e__law_drawn ["script","simple"] (spD K cl 2 (y3 7 (q0c F__law_cell_at F__law_names F__law_need F__law_next))) :=
 q3s (κ:=[.b,.b,.s,.s,.o,.s,.s]) (κ':=[.b,.b,.s,.s,.o,.s,.s]) D__law_drawn.F K0 rfl (by decide) λ cdv A outer s H E hr=>have hu:=hr.units;
 (j4 (Q9 (i:=2) (k:=.s) (N0r rfl) (by decide) K0.nd rfl (N0k rfl) (z8 w6 j9 j5 z9 (z8 W5 Z8 Z9 (Q3 D__law_cell_at G__law_cell_at hr rfl (z6 (z6 j6)) (z3 (z4 0 rfl rfl) (z3 z9 j0))) z9)))
  (j4 (W2 (Q7 (K2 hu) K3 K4 (z8 W5 Z8 Z9 (z8 y9 Y1 Y2 (Q3 D__law_cell_at G__law_cell_at hr rfl (z6 (z6 j6)) (z3 (z4 0 rfl rfl) (z3 z9 j0))) z9) z9) z9 (Q8 _)) (j8 (Q9 (i:=2) (k:=.s) (N0r rfl) (by decide) K0.nd rfl (N0k rfl) (z8 w6 j9 j5 z9 (z8 W5 Z8 Z9 (z8 y9 Y1 Y2 (Q3 D__law_cell_at G__law_cell_at hr rfl (z6 (z6 j6)) (z3 (z4 0 rfl rfl) (z3 z9 j0))) z9) z9)))) Z3)
  (j4 (Q9 (i:=3) (k:=.s) (N0r rfl) (by decide) K0.nd rfl (N0k rfl) (Q3 D__law_names G__law_names hr rfl (z6 (z6 j6)) (z3 (Q3 D__law_cell_at G__law_cell_at hr rfl (z6 (z6 j6)) (z3 (z4 0 rfl rfl) (z3 z9 j0))) (z3 (z8 w6 j9 j5 (z4 2 rfl rfl) z9) j0))))
  (j4 (q1T (i:=4) (by decide) K0.nd rfl (N0k rfl) (y8 j0))
  (j4 (q40 (i:=5) (k:=.b) (fg:=[5,6]) (N0k rfl) (by decide) K0.nd rfl (N0k rfl) PassesOwn.never rfl (q08 rfl m_range (z4 2 rfl rfl)) (j4 (Q9 (i:=6) (k:=.s) (N0r rfl) (by decide) K0.nd rfl (N0k rfl) (Q3 D__law_next G__law_next hr rfl (z6 j6) (z3 (z8 w6 j9 j5 (Q3 D__law_cell_at G__law_cell_at hr rfl (z6 (z6 j6)) (z3 (z4 0 rfl rfl) (z3 (z8 w6 j9 j5 z9 (z8 W5 Z8 Z9 (z4 5 rfl rfl) z9)) j0))) (z8 q5k q2Y q2Z z9 (z4 5 rfl rfl))) j0)))
  (j8 (q7G 4 (N0k rfl) rfl (Q3 D__law_need G__law_need hr rfl (z6 (z6 (z6 (z6 j6)))) (z3 (z4 6 rfl rfl) (z3 (z8 w6 j9 j5 z9 (z8 W5 Z8 Z9 (z8 y9 Y1 Y2 (z4 6 rfl rfl) z9) z9)) (z3 (z4 3 rfl rfl) (z3 (z4 1 rfl rfl) j0)))))))) rfl)
  (j4 (W2 (Q7 q0w v6 v7 (z8 W5 Z8 Z9 (z8 y9 Y1 Y2 (Q3 D__law_cell_at G__law_cell_at hr rfl (z6 (z6 j6)) (z3 (z4 0 rfl rfl) (z3 z9 j0))) z9) z9) z9 (Q8 _)) (j8 (q7I 4 (N0k rfl) rfl hu (z8 W5 Z8 Z9 (z8 y9 Y1 Y2 (Q3 D__law_cell_at G__law_cell_at hr rfl (z6 (z6 j6)) (z3 (z4 0 rfl rfl) (z3 z9 j0))) z9) (z4 2 rfl rfl)) (X2 (z3 z7 j0)))) Z3)
  (j8 (W0 (X2 (z3 (q0l (z4 3 rfl rfl) q0Y (q0Z (z4 2 rfl rfl))) (z3 (z4 4 rfl rfl) (z3 (q0l (z4 3 rfl rfl) (q0Z (z4 2 rfl rfl)) q0Y) j0)))) (λ o_ h=>nomatch h)))))))))
theorem W9:FnScope ["need","head","found","parts","k"] ["need"] (defScope s__law_text):=⟨rfl,rfl,rfl,by decide +kernel,rfl,by decide +kernel,by decide +kernel⟩
theorem q5e {r:Nat}{f__law_text:Addr}{e__law_text:FuncData}(D__law_text:Df K mg "_law_text" s__law_text ["need"] f__law_text e__law_text){f__law_parts:Addr}{e__law_parts:FuncData}{F__law_parts:PF}(D__law_parts:Df K mg "_law_parts" s__law_parts ["need"] f__law_parts e__law_parts) (G__law_parts:FnOk P w K mg base CX0 r f__law_parts e__law_parts ["need"] (spD K cl 1 F__law_parts)){F__law_text:PF}(G__law_text:FnOk P w K mg base CX0 r f__law_text e__law_text ["need"] (spD K cl 1 F__law_text)) (m_len:mg "len" = none) (m_range:mg "range" = none) (m_str:mg "str" = none) :
 FnOk P w K mg base CX0 (r+1) f__law_text e__law_text ["need"] (spD K cl 1 (y3 5 (q00 F__law_parts F__law_text))) :=
 q3s (κ:=[.b,.s,.s,.s,.s]) (κ':=[.b,.s,.s,.s,.s]) D__law_text.F W9 rfl (by decide) λ cdv A outer s H E hr=>have hu:=hr.units;
 (j4 (W2 (Q7 (K2 hu) K3 K4 (Q2 hu (z4 0 rfl rfl) z9 (λ o_ o_=>rfl) (λ o_ o_=>rfl)) z7 (Q8 _)) (j8 (W0 z7 (λ o_ h=>nomatch h))) Z3)
  (j4 (W2 (Q7 (K2 hu) K3 K4 (Q2 hu (z4 0 rfl rfl) z9 (λ o_ o_=>rfl) (λ o_ o_=>rfl)) z7 (Q8 _)) (j8 (W0 (q4K (Q2 hu (z4 0 rfl rfl) z9 (λ o_ o_=>rfl) (λ o_ o_=>rfl))) (λ o_ h=>nomatch h))) Z3)
  (j4 (Q9 (i:=1) (k:=.s) (N0r rfl) (by decide) W9.nd rfl (N0k rfl) (q4K (Q2 hu (z4 0 rfl rfl) z9 (λ o_ o_=>rfl) (λ o_ o_=>rfl))))
  (j4 (W2 (Q7 (K2 hu) K3 K4 (Q2 hu (z4 0 rfl rfl) z9 (λ o_ o_=>rfl) (λ o_ o_=>rfl)) z7 (Q8 _)) (j8 (Q9 (i:=1) (k:=.s) (N0r rfl) (by decide) W9.nd rfl (N0k rfl) (z8 w6 j9 j5 (q7M q3z q7R z1o rfl m_str q7S (z3 (Q2 hu (z4 0 rfl rfl) z9 (λ o_ o_=>rfl) (λ o_ o_=>rfl)) j0)) z7))) Z3)
  (j4 (Q9 (i:=2) (k:=.s) (N0r rfl) (by decide) W9.nd rfl (N0k rfl) (z8 w6 j9 j5 (z4 1 rfl rfl) z7))
  (j4 (Q9 (i:=3) (k:=.s) (N0r rfl) (by decide) W9.nd rfl (N0k rfl) (Q3 D__law_parts G__law_parts hr rfl (z6 j6) (z3 (z4 0 rfl rfl) j0)))
  (j4 (q40 (i:=4) (k:=.b) (fg:=[4]) (N0k rfl) (by decide) W9.nd rfl (N0k rfl) PassesOwn.never rfl (q08 rfl m_range (Z7 Z5 Z4 W6 rfl m_len PySem.boot_len (z3 (z4 3 rfl rfl) j0))) (j4 (W2 (Q7 q0w v6 v7 (z4 4 rfl rfl) z9 (Q8 _)) (j8 (Q9 (i:=2) (k:=.s) (N0r rfl) (by decide) W9.nd rfl (N0k rfl) (z8 w6 j9 j5 (z4 2 rfl rfl) z7))) Z3)
  (j8 (Q9 (i:=2) (k:=.s) (N0r rfl) (by decide) W9.nd rfl (N0k rfl) (q0r u5 u4 (z4 2 rfl rfl) (Q3 D__law_text G__law_text hr rfl (z6 j6) (z3 (Q2 hu (z4 3 rfl rfl) (z4 4 rfl rfl) (λ o_ o_=>rfl) (λ o_ o_=>rfl)) j0)))))) rfl)
  (j8 (W0 (z8 w6 j9 j5 (z4 2 rfl rfl) z7) (λ o_ h=>nomatch h))))))))))
theorem q0V:FnScope ["text","e"] ["text"] (defScope s__law_tried):=⟨rfl,rfl,rfl,by decide +kernel,rfl,by decide +kernel,by decide +kernel⟩
theorem q4m {r:Nat}{f__law_tried:Addr}{e__law_tried:FuncData}(D__law_tried:Df K mg "_law_tried" s__law_tried ["text"] f__law_tried e__law_tried){f_read:Addr}{e_read:FuncData}{F_read:PF}(D_read:Df K mg "read" s_read ["text"] f_read e_read) (G_read:FnOk P w K mg base CX0 r f_read e_read ["text"] (spD K cl 1 F_read)){E_read:PX}(X_read:FnOk P w K mg base (CXF P w) r f_read e_read ["text"] (spE K cl ce 1 E_read)){FE:Addr}(e_FeedError:mg "FeedError" = some (.ref FE)) (xm:∀ c∈CS,PySem.W.exmOne K (.ref (ce c)) (.ref FE)=some true){f__law_kind:Addr}{e__law_kind:FuncData}(D__law_kind:Df K mg "_law_kind" s__law_kind ["e"] f__law_kind e__law_kind) (MK:∀ c∈CS,FnM P w K mg base 1 f__law_kind e__law_kind "e" (ce c) ((kindW[c]?).getD "")) :
 FnOk P w K mg base CX0 (r+1+1) f__law_tried e__law_tried ["text"] (spD K cl 1 (y3 2 (V6 F_read E_read))) :=
 q3s (κ:=[.b,.s]) (κ':=[.b,.s]) D__law_tried.F q0V rfl (by decide) λ cdv A outer s H E hr=>have hu:=hr.units;have hrr:=hr;have hr:Room r _:=hrr.mono (by simp);have hr1:Room 1 _:=hrr.mono (by simp);
 (j4 (z39 (i:=1) (kd:=kdW CS) rfl rfl q0V.nd rfl rfl rfl e_FeedError (λ pn xe=>(j8 (z1h (Q3 D_read G_read hr rfl (z6 j6) (z3 (z4 0 rfl rfl) j0))))) (λ pn xe E' hp=>(K8 (q80 (q1w hp D_read X_read hr rfl (z6 j6) (z3 (z4 0 rfl rfl) j0)) (λ o_ h=>nomatch h)))) (z5d xm MK hr1 rfl D__law_kind.m D__law_kind.F.kp D__law_kind.b (N0k rfl)) z1v)
  (j8 (W0 z7 (λ o_ h=>nomatch h))))
theorem Z1:FnScope ["cell","some","wide"] ["cell"] (defScope J1):=⟨rfl,rfl,rfl,by decide +kernel,rfl,by decide +kernel,by decide +kernel⟩
theorem q26 {r:Nat}{f__law_bad_need:Addr}{e__law_bad_need:FuncData}(D__law_bad_need:Df K mg "_law_bad_need" J1 ["cell"] f__law_bad_need e__law_bad_need) (m_len:mg "len" = none) (m_range:mg "range" = none) :
 FnOk P w K mg base CX0 (r+1) f__law_bad_need e__law_bad_need ["cell"] (spD K cl 1 (y3 3 (V1))) :=
 q3s (κ:=[.b,.s,.s]) (κ':=[.b,.s,.s]) D__law_bad_need.F Z1 rfl (by decide) λ cdv A outer s H E hr=>have hu:=hr.units;
 (j4 (Q9 (i:=1) (k:=.s) (N0r rfl) (by decide) Z1.nd rfl (N0k rfl) (y8 (z3 z7 (z3 z7 (z3 z7 (z3 z7 (z3 z7 (z3 z7 (z3 z7 (z3 z7 (z3 z7 (z3 z7 (z3 z7 j0)))))))))))))
  (j4 (Q9 (i:=1) (k:=.s) (N0r rfl) (by decide) Z1.nd rfl (N0k rfl) (q0r u5 u4 (z4 1 rfl rfl) (y8 (z3 z7 (z3 z7 (z3 z7 (z3 z7 (z3 z7 (z3 z7 (z3 z7 (z3 z7 j0)))))))))))
  (j4 (Q9 (i:=1) (k:=.s) (N0r rfl) (by decide) Z1.nd rfl (N0k rfl) (q0r u5 u4 (z4 1 rfl rfl) (y8 (z3 z7 (z3 z7 (z3 z7 (z3 z7 (z3 z7 (z3 z7 (z3 z7 (z3 z7 (z3 z7 (z3 z7 (z3 z7 j0))))))))))))))
  (j4 (Q9 (i:=1) (k:=.s) (N0r rfl) (by decide) Z1.nd rfl (N0k rfl) (q0r u5 u4 (z4 1 rfl rfl) (y8 (z3 z7 (z3 z7 (z3 z7 (z3 z7 (z3 z7 (z3 z7 (z3 z7 j0))))))))))
  (j4 (Q9 (i:=1) (k:=.s) (N0r rfl) (by decide) Z1.nd rfl (N0k rfl) (q0r u5 u4 (z4 1 rfl rfl) (y8 (z3 (z8 w6 j9 j5 (z8 w6 j9 j5 z7 (q0m z7 (q0y (kx:=.v) [] rfl rfl (q08 rfl m_range z9) (λ o_=>Y6) (λ o_=>z7)) ⟨rfl,rfl,rfl,rfl⟩)) z7) (z3 z7 (z3 z7 j0))))))
  (j4 (Q9 (i:=2) (k:=.s) (N0r rfl) (by decide) Z1.nd rfl (N0k rfl) z7)
  (j4 (Q9 (i:=1) (k:=.s) (N0r rfl) (by decide) Z1.nd rfl (N0k rfl) (q0r u5 u4 (z4 1 rfl rfl) (y8 (z1B (z8 w6 j9 j5 (z8 w6 j9 j5 z7 (q0m z7 (q0y (kx:=.v) [] rfl rfl (q08 rfl m_range z9) (λ o_=>Y6) (λ o_=>z7)) ⟨rfl,rfl,rfl,rfl⟩)) z7) (Fr.binop (Fr.binop Fr.const)) (z4 2 rfl rfl)))))
  (j4 (Q9 (i:=1) (k:=.s) (N0r rfl) (by decide) Z1.nd rfl (N0k rfl) (q0r u5 u4 (z4 1 rfl rfl) (y8 (z3 (z8 w6 j9 j5 (z8 w6 j9 j5 z7 (q0m z7 (q0y (kx:=.v) [] rfl rfl (q08 rfl m_range z9) (λ o_=>Y6) (λ o_=>z7)) ⟨rfl,rfl,rfl,rfl⟩)) z7) (z3 z7 (z3 z7 j0))))))
  (j4 (Q9 (i:=1) (k:=.s) (N0r rfl) (by decide) Z1.nd rfl (N0k rfl) (q0r u5 u4 (z4 1 rfl rfl) (y8 (z3 z7 (z3 z7 (z3 z7 (z3 z7 (z3 z7 (z3 z7 j0)))))))))
  (j8 (q2U (Q2 hu (z4 1 rfl rfl) (z8 W5 Z8 Z9 (z4 0 rfl rfl) (Z7 Z5 Z4 W6 rfl m_len PySem.boot_len (z3 (z4 1 rfl rfl) j0))) (λ o_ o_=>rfl) (λ o_ o_=>rfl)) (λ o_ h=>nomatch h))))))))))))
theorem q05:FnScope ["row","way","cell","name"] ["row","way","cell"] (defScope J2):=⟨rfl,rfl,rfl,by decide +kernel,rfl,by decide +kernel,by decide +kernel⟩
theorem q27 {r:Nat}{f__law_bad_line:Addr}{e__law_bad_line:FuncData}(D__law_bad_line:Df K mg "_law_bad_line" J2 ["row","way","cell"] f__law_bad_line e__law_bad_line){f__law_bad_need:Addr}{e__law_bad_need:FuncData}{F__law_bad_need:PF}(D__law_bad_need:Df K mg "_law_bad_need" J1 ["cell"] f__law_bad_need e__law_bad_need) (G__law_bad_need:FnOk P w K mg base CX0 r f__law_bad_need e__law_bad_need ["cell"] (spD K cl 1 F__law_bad_need)) :
 FnOk P w K mg base CX0 (r+1) f__law_bad_line e__law_bad_line ["row","way","cell"] (spD K cl 3 (y3 4 (V2 F__law_bad_need))) :=
 q3s (κ:=[.b,.b,.b,.s]) (κ':=[.b,.b,.b,.s]) D__law_bad_line.F q05 rfl (by decide) λ cdv A outer s H E hr=>have hu:=hr.units;
 (j4 (Q9 (i:=3) (k:=.s) (N0r rfl) (by decide) q05.nd rfl (N0k rfl) (Q2 hu (K6 PySem.F.slot_str_partition PySem.F.type_str_partition q1Y q0M q1Z (z4 0 rfl rfl) z7) z9 (λ o_ o_=>rfl) (λ o_ o_=>rfl)))
  (j4 (W2 (Q7 (K2 hu) K3 K4 (z4 1 rfl rfl) z9 (Q8 _)) (j8 (W0 (z8 w6 j9 j5 (z8 w6 j9 j5 (z4 3 rfl rfl) z7) (Q3 D__law_bad_need G__law_bad_need hr rfl (z6 j6) (z3 (z4 2 rfl rfl) j0))) (λ o_ h=>nomatch h))) Z3)
  (j4 (W2 (Q7 (K2 hu) K3 K4 (z4 1 rfl rfl) z9 (Q8 _)) (j8 (W0 (z8 w6 j9 j5 (Q2 hu (y8 (z3 z7 (z3 z7 (z3 z7 (z3 z7 (z3 z7 (z3 (z8 w6 j9 j5 z7 (z4 3 rfl rfl)) (z3 (z8 w6 j9 j5 (z4 3 rfl rfl) z7) (z3 (z8 w6 j9 j5 z7 (z4 3 rfl rfl)) (z3 (z8 w6 j9 j5 (z4 3 rfl rfl) z7) j0)))))))))) (z8 W5 Z8 Z9 (z4 2 rfl rfl) z9) (λ o_ o_=>rfl) (λ o_ o_=>rfl)) z7) (λ o_ h=>nomatch h))) Z3)
  (j4 (W2 (Q7 (K2 hu) K3 K4 (z4 1 rfl rfl) z9 (Q8 _)) (j8 (q2U (Q2 hu (y8 (z3 (z8 w6 j9 j5 (z4 3 rfl rfl) z7) (z3 (z8 w6 j9 j5 (z4 3 rfl rfl) z7) (z3 (z8 w6 j9 j5 (z4 3 rfl rfl) z7) (z3 (z4 3 rfl rfl) (z3 (z8 w6 j9 j5 (z4 3 rfl rfl) z7) (z3 (z8 w6 j9 j5 (z4 3 rfl rfl) z7) (z3 z7 j0)))))))) (z8 W5 Z8 Z9 (z4 2 rfl rfl) z9) (λ o_ o_=>rfl) (λ o_ o_=>rfl)) (λ o_ h=>nomatch h))) Z3)
  (j4 (W2 (Q7 (K2 hu) K3 K4 (z4 1 rfl rfl) z9 (Q8 _)) (j8 (W0 (z31 (q0r u5 u4 (z4 0 rfl rfl) (Q2 hu (y8 (z3 z7 (z3 z7 (z3 z7 (z3 z7 (z3 z7 j0)))))) (z8 W5 Z8 Z9 (z4 2 rfl rfl) z9) (λ o_ o_=>rfl) (λ o_ o_=>rfl)))) (λ o_ h=>nomatch h))) Z3)
  (j8 (W0 z7 (λ o_ h=>nomatch h))))))))
theorem V4:FnScope ["script","kinds","needs","strange","rows","text","way","cell","at","bad"] ["script"] (defScope s_law):=⟨rfl,rfl,rfl,by decide +kernel,rfl,by decide +kernel,by decide +kernel⟩
theorem z6p {r:Nat}{f_law:Addr}{e_law:FuncData}(D_law:Df K mg "law" s_law ["script"] f_law e_law){f__law_bad_line:Addr}{e__law_bad_line:FuncData}{F__law_bad_line:PF}(D__law_bad_line:Df K mg "_law_bad_line" J2 ["row","way","cell"] f__law_bad_line e__law_bad_line) (G__law_bad_line:FnOk P w K mg base CX0 r f__law_bad_line e__law_bad_line ["row","way","cell"] (spD K cl 3 F__law_bad_line)){f__law_cell_at:Addr}{e__law_cell_at:FuncData}{F__law_cell_at:PF}(D__law_cell_at:Df K mg "_law_cell_at" s__law_cell_at ["script","k"] f__law_cell_at e__law_cell_at) (G__law_cell_at:FnOk P w K mg base CX0 r f__law_cell_at e__law_cell_at ["script","k"] (spD K cl 2 F__law_cell_at)){f__law_drawn:Addr}{e__law_drawn:FuncData}{F__law_drawn:PF}(D__law_drawn:Df K mg "_law_drawn" s__law_drawn ["script","simple"] f__law_drawn e__law_drawn) (G__law_drawn:FnOk P w K mg base CX0 r f__law_drawn e__law_drawn ["script","simple"] (spD K cl 2 F__law_drawn)){f__law_names:Addr}{e__law_names:FuncData}{F__law_names:PF}(D__law_names:Df K mg "_law_names" s__law_names ["cell","many"] f__law_names e__law_names) (G__law_names:FnOk P w K mg base CX0 r f__law_names e__law_names ["cell","many"] (spD K cl 2 F__law_names)){f__law_text:Addr}{e__law_text:FuncData}{F__law_text:PF}(D__law_text:Df K mg "_law_text" s__law_text ["need"] f__law_text e__law_text) (G__law_text:FnOk P w K mg base CX0 r f__law_text e__law_text ["need"] (spD K cl 1 F__law_text)){f__law_tried:Addr}{e__law_tried:FuncData}{F__law_tried:PF}(D__law_tried:Df K mg "_law_tried" s__law_tried ["text"] f__law_tried e__law_tried) (G__law_tried:FnOk P w K mg base CX0 r f__law_tried e__law_tried ["text"] (spD K cl 1 F__law_tried)) (m_len:mg "len" = none) (m_range:mg "range" = none) :
 FnOk P w K mg base CX0 (r+1) f_law e_law ["script"] (spD K cl 1 (y3 10 (z1K F__law_bad_line F__law_cell_at F__law_drawn F__law_names F__law_text F__law_tried))) :=
 q3s (κ:=[.b,.s,.s,.s,.o,.s,.s,.s,.s,.s]) (κ':=[.b,.s,.s,.s,.o,.s,.s,.s,.s,.s]) D_law.F V4 rfl (by decide) λ cdv A outer s H E hr=>have hu:=hr.units;
 (j4 (z36 (is:=[1,2,3]) (List.forall_mem_cons.2 ⟨⟨by decide,rfl⟩,(List.forall_mem_cons.2 ⟨⟨by decide,rfl⟩,(List.forall_mem_cons.2 ⟨⟨by decide,rfl⟩,(List.forall_mem_nil _)⟩)⟩)⟩) rfl (q2K (q07 (i:=1) V4.nd rfl (N0r rfl)) (q2K (q07 (i:=2) V4.nd rfl (N0r rfl)) (q2K (q07 (i:=3) V4.nd rfl (N0k rfl)) z0J))) rfl (Q3 D__law_drawn G__law_drawn hr rfl (z6 (z6 j6)) (z3 (z4 0 rfl rfl) (z3 z2T j0))))
  (j4 (q9q (i:=4) (kx:=.v) [("kinds",1),("needs",2)] (by decide) V4.nd rfl (N0k rfl) rfl rfl (q08 rfl m_range (Z7 Z5 Z4 W6 rfl m_len PySem.boot_len (z3 (z4 1 rfl rfl) j0))) (λ o_=>Y6) (λ o_=>(z8 w6 j9 j5 (z8 w6 j9 j5 (Q2 hu (z4 1 rfl rfl) (z4 0 rfl rfl) (λ o_ o_=>rfl) (λ o_ o_=>rfl)) z7) (Q3 D__law_text G__law_text hr rfl (z6 j6) (z3 (Q2 hu (z4 2 rfl rfl) (z4 0 rfl rfl) (λ o_ o_=>rfl) (λ o_ o_=>rfl)) j0)))))
  (j4 (Q9 (i:=5) (k:=.s) (N0r rfl) (by decide) V4.nd rfl (N0k rfl) (q0m z7 (z4 4 rfl rfl) ⟨rfl,rfl,rfl,rfl⟩))
  (j4 (Q9 (i:=6) (k:=.s) (N0r rfl) (by decide) V4.nd rfl (N0k rfl) (z8 W5 Z8 Z9 (Q3 D__law_cell_at G__law_cell_at hr rfl (z6 (z6 j6)) (z3 (z4 0 rfl rfl) (z3 z9 j0))) z9))
  (j4 (Q9 (i:=7) (k:=.s) (N0r rfl) (by decide) V4.nd rfl (N0k rfl) (z8 W5 Z8 Z9 (Q3 D__law_cell_at G__law_cell_at hr rfl (z6 (z6 j6)) (z3 (z4 0 rfl rfl) (z3 z9 j0))) z9))
  (j4 (W2 (Q7 q68 q2t q2u (z4 6 rfl rfl) z9 (Q8 _)) (j4 (Q9 (i:=8) (k:=.s) (N0r rfl) (by decide) V4.nd rfl (N0k rfl) (z8 W5 Z8 Z9 (z8 y9 Y1 Y2 (z4 7 rfl rfl) z9) (Z7 Z5 Z4 W6 rfl m_len PySem.boot_len (z3 (z4 4 rfl rfl) j0))))
  (j8 (q7I 4 (N0k rfl) rfl hu (z4 8 rfl rfl) (Q3 D__law_bad_line G__law_bad_line hr rfl (z6 (z6 (z6 j6))) (z3 (Q2 hu (z4 4 rfl rfl) (z4 8 rfl rfl) (λ o_ o_=>rfl) (λ o_ o_=>rfl)) (z3 (z4 6 rfl rfl) (z3 (z4 7 rfl rfl) j0))))))) Z3)
  (j4 (Q9 (i:=9) (k:=.s) (N0r rfl) (by decide) V4.nd rfl (N0k rfl) (q0m z7 (z4 4 rfl rfl) ⟨rfl,rfl,rfl,rfl⟩))
  (j4 (W2 (Q7 (K2 hu) K3 K4 (z4 6 rfl rfl) z9 (Q8 _)) (j8 (Q9 (i:=9) (k:=.s) (N0r rfl) (by decide) V4.nd rfl (N0k rfl) (z8 w6 j9 j5 (z8 w6 j9 j5 (z4 5 rfl rfl) z7) (Q2 hu (z4 4 rfl rfl) (z8 W5 Z8 Z9 (z4 7 rfl rfl) (Z7 Z5 Z4 W6 rfl m_len PySem.boot_len (z3 (z4 4 rfl rfl) j0))) (λ o_ o_=>rfl) (λ o_ o_=>rfl))))) Z3)
  (j4 (W2 (Q7 (K2 hu) K3 K4 (z4 6 rfl rfl) z9 (Q8 _)) (j8 (Q9 (i:=9) (k:=.s) (N0r rfl) (by decide) V4.nd rfl (N0k rfl) (q0m z7 (q0y (kx:=.v) [] rfl rfl (q0E (Q3 D__law_names G__law_names hr rfl (z6 (z6 j6)) (z3 (z4 7 rfl rfl) (z3 (z8 w6 j9 j5 z9 (z8 W5 Z8 Z9 (z8 y9 Y1 Y2 (z4 7 rfl rfl) z9) z9)) j0)))) (λ o_=>Y6) (λ o_=>(z8 w6 j9 j5 (z4 0 rfl rfl) z7))) ⟨rfl,rfl,rfl,rfl⟩))) Z3)
  (j4 (W2 (Q7 (K2 hu) K3 K4 (z4 6 rfl rfl) z9 (Q8 _)) (j8 (Q9 (i:=9) (k:=.s) (N0r rfl) (by decide) V4.nd rfl (N0k rfl) (z8 w6 j9 j5 (z4 5 rfl rfl) z7))) Z3)
  (j4 (W2 (Q7 (K2 hu) K3 K4 (z4 6 rfl rfl) z9 (Q8 _)) (j8 (Q9 (i:=9) (k:=.s) (N0r rfl) (by decide) V4.nd rfl (N0k rfl) (z8 w6 j9 j5 z7 (z4 5 rfl rfl)))) Z3)
  (j4 (W2 (Q7 (K2 hu) K3 K4 (z4 6 rfl rfl) z9 (Q8 _)) (j8 (Q9 (i:=9) (k:=.s) (N0r rfl) (by decide) V4.nd rfl (N0k rfl) (Q2 hu (y8 (z3 z7 (z3 z7 (z3 z7 (z3 z7 (z3 z7 j0)))))) (z8 W5 Z8 Z9 (z4 7 rfl rfl) z9) (λ o_ o_=>rfl) (λ o_ o_=>rfl)))) Z3)
  (j8 (q2U (z0d (q7A (K2 hu) K3 K4 (Q3 D__law_tried G__law_tried hr rfl (z6 j6) (z3 (z4 9 rfl rfl) j0)) z7 (Q8 _)) (z0d (q7A (K2 hu) K3 K4 (Q3 D__law_tried G__law_tried hr rfl (z6 j6) (z3 (z4 9 rfl rfl) j0)) z7 (Q8 _)) (z2V (DE.nf (q7A (K2 hu) K3 K4 (Q3 D__law_tried G__law_tried hr rfl (z6 j6) (z3 (z4 5 rfl rfl) j0)) z7 (Q8 _)))))) (λ o_ h=>nomatch h)))))))))))))))
theorem z6q {r:Nat}{f_add:Addr}{e_add:FuncData}(R_add:Fun K "add" "Web.add" s_add f_add e_add){f_is_name:Addr}{e_is_name:FuncData}(D_is_name:Df K mg "is_name" s_is_name ["text"] f_is_name e_is_name){F_is_name:PF}(G_is_name:FnOk P w K mg base CX0 r f_is_name e_is_name ["text"] (spD K cl 1 F_is_name)) (ClW:Cls K (cl 0)) (NaW:X1 K (cl 0) "need_by_name") (e_Full:mg "Full" = some (.ref (ce 2))) (q_Full:q28 K (ce 2)) (e_NoName:mg "NoName" = some (.ref (ce 0))) (q_NoName:q28 K (ce 0)) (e_Twice:mg "Twice" = some (.ref (ce 1))) (q_Twice:q28 K (ce 1)){tk_MOST_KINDS:Tok}(c_MOST_KINDS:mg "MOST_KINDS" = some (.int 16 tk_MOST_KINDS)) (m_len:mg "len" = none) :
 FnOk P w K mg base (CXG true P w) (r+1) f_add e_add ["self","name","need"] (spE K cl ce 3 (q1P 3 (z1J F_is_name))) :=
 z6D (ctx:=true) (κ:=[.b,.b,.b]) R_add z0E rfl (by decide) λ cdv A outer s H E hr hx hp=>have hu:=hr.units;
 (q43 (K8 (q1h (q2p (q0D (Q3 D_is_name G_is_name hr rfl (z6 j6) (z3 (z4 1 rfl rfl) j0)))) (K8 (q0K (c:=0) (i:=1) hx rfl rfl e_NoName q_NoName (λ o_ h=>nomatch h) (by decide +kernel) (N0r rfl) rfl)))) (K9 (L:=([],[])) (W2 (q2p (q0D (Q3 D_is_name G_is_name hr rfl (z6 j6) (z3 (z4 1 rfl rfl) j0)))) (j8 K1) Z3)
  (q43 (K8 (q1h (Q7 (q5z hu) q5B q5C (z4 1 rfl rfl) (q42 (c:=0) ClW NaW (z4 0 rfl rfl)) rfl) (K8 (q0K (c:=1) (i:=1) hx rfl rfl e_Twice q_Twice (λ o_ h=>nomatch h) (by decide +kernel) (N0k rfl) rfl)))) (K9 (L:=([],[])) (W2 (Q7 (q5z hu) q5B q5C (z4 1 rfl rfl) (q42 (c:=0) ClW NaW (z4 0 rfl rfl)) rfl) (j8 K1) Z3)
  (K8 (q1h (Q7 z0h z0g z0j (Z7 Z5 Z4 W6 rfl m_len PySem.boot_len (z3 (q42 (c:=0) ClW NaW (z4 0 rfl rfl)) j0)) (X0 rfl c_MOST_KINDS) (Q8 _)) (K8 (q1v (c:=2) hx rfl rfl e_Full q_Full (λ o_ h=>nomatch h)))))))))
theorem q5f {r:Nat}{f_read_need:Addr}{e_read_need:FuncData}(D_read_need:Df K mg "read_need" s_read_need ["text","depth"] f_read_need e_read_need){f_is_name:Addr}{e_is_name:FuncData}(D_is_name:Df K mg "is_name" s_is_name ["text"] f_is_name e_is_name){F_is_name:PF}(G_is_name:FnOk P w K mg base CX0 r f_is_name e_is_name ["text"] (spD K cl 1 F_is_name)){f_parts_asked:Addr}{e_parts_asked:FuncData}(D_parts_asked:Df K mg "parts_asked" s_parts_asked ["need"] f_parts_asked e_parts_asked){F_parts_asked:PF}(G_parts_asked:FnOk P w K mg base CX0 r f_parts_asked e_parts_asked ["need"] (spD K cl 1 F_parts_asked)){F_read_need:PF}(G_read_need:FnOk P w K mg base CX0 r f_read_need e_read_need ["text","depth"] (spD K cl 2 F_read_need)){E_read_need:PX}(X_read_need:FnOk P w K mg base (CXF P w) r f_read_need e_read_need ["text","depth"] (spE K cl ce 2 E_read_need)){f_split_parts:Addr}{e_split_parts:FuncData}(D_split_parts:Df K mg "split_parts" s_split_parts ["text"] f_split_parts e_split_parts){F_split_parts:PF}(G_split_parts:FnOk P w K mg base CX0 r f_split_parts e_split_parts ["text"] (spD K cl 1 F_split_parts)) (e_NoNote:mg "NoNote" = some (.ref (ce 6))) (q_NoNote:q28 K (ce 6)){tk_MOST_DEPTH:Tok}(c_MOST_DEPTH:mg "MOST_DEPTH" = some (.int 5 tk_MOST_DEPTH)){tk_MOST_PARTS:Tok}(c_MOST_PARTS:mg "MOST_PARTS" = some (.int 4 tk_MOST_PARTS)){ad_BEGINNINGS:Addr}(w_BEGINNINGS:mg "BEGINNINGS" = some (.ref ad_BEGINNINGS)) (t_BEGINNINGS:KDict P w K ad_BEGINNINGS tBEGINNINGS) (m_len:mg "len" = none) (m_tuple:mg "tuple" = none) :
 FnOk P w K mg base (CXF P w) (r+1) f_read_need e_read_need ["text","depth"] (spE K cl ce 2 (q1P 6 (K5 F_is_name F_parts_asked F_read_need F_split_parts E_read_need))) :=
 z1C (κ:=[.b,.b,.s,.s,.s,.s]) D_read_need.F J3 rfl (by decide) λ cdv A outer s H E hr hx hp hxt=>have hu:=hr.units;
 (q43 (K8 (q1h (Q7 q0w v6 v7 (z4 1 rfl rfl) (X0 rfl c_MOST_DEPTH) (Q8 _)) (K8 (q1v (c:=6) hx rfl rfl e_NoNote q_NoNote (λ o_ h=>nomatch h))))) (K9 (L:=([],[])) (W2 (Q7 q0w v6 v7 (z4 1 rfl rfl) (X0 rfl c_MOST_DEPTH) (Q8 _)) (j8 K1) Z3)
  (K9 (L:=([],[])) (W2 (Q7 (K2 hu) K3 K4 (z4 0 rfl rfl) z7 (Q8 _)) (j8 (W0 (X2 (z3 z7 j0)) (λ o_ h=>nomatch h))) Z3)
  (K9 (L:=([],[])) (W2 (q0D (Q3 D_is_name G_is_name hr rfl (z6 j6) (z3 (z4 0 rfl rfl) j0))) (j8 (W0 (X2 (z3 z7 (z3 (q2S 0) j0))) (λ o_ h=>nomatch h))) Z3)
  (K9 (L:=([],[])) (Q9 (i:=2) (k:=.s) (N0r rfl) (by decide) J3.nd rfl (N0k rfl) (K6 PySem.F.slot_str_partition PySem.F.type_str_partition q1Y q0M q1Z (z4 0 rfl rfl) z7))
  (q43 (K8 (q1h (DW.dt (q3Y (q4R t_BEGINNINGS rfl w_BEGINNINGS (Q2 hu (z4 2 rfl rfl) z9 (λ o_ o_=>rfl) (λ o_ o_=>rfl))) (q1Q (q2p (q0D (K6 PySem.F.slot_str_endswith PySem.F.type_str_endswith q4O q3a q4Q (Q2 hu (z4 2 rfl rfl) z9 (λ o_ o_=>rfl) (λ o_ o_=>rfl)) z7)))))) (K8 (q0K (c:=6) (i:=0) hx rfl rfl e_NoNote q_NoNote (λ o_ h=>nomatch h) (by decide +kernel) (N0r rfl) rfl)))) (K9 (L:=([],[])) (W2 (DW.dt (q3Y (q4R t_BEGINNINGS rfl w_BEGINNINGS (Q2 hu (z4 2 rfl rfl) z9 (λ o_ o_=>rfl) (λ o_ o_=>rfl))) (q1Q (q2p (q0D (K6 PySem.F.slot_str_endswith PySem.F.type_str_endswith q4O q3a q4Q (Q2 hu (z4 2 rfl rfl) z9 (λ o_ o_=>rfl) (λ o_ o_=>rfl)) z7)))))) (j8 K1) Z3)
  (K9 (L:=([],[])) (Q9 (i:=3) (k:=.s) (N0r rfl) (by decide) J3.nd rfl (N0k rfl) (Q3 D_split_parts G_split_parts hr rfl (z6 j6) (z3 (q0l (Q2 hu (z4 2 rfl rfl) z9 (λ o_ o_=>rfl) (λ o_ o_=>rfl)) q0Y (q0Z (q7B q3y q1X q1W z9))) j0)))
  (q43 (K8 (q1h (Q7 q0w v6 v7 (Z7 Z5 Z4 W6 rfl m_len PySem.boot_len (z3 (z4 3 rfl rfl) j0)) (X0 rfl c_MOST_PARTS) (Q8 _)) (K8 (q1v (c:=6) hx rfl rfl e_NoNote q_NoNote (λ o_ h=>nomatch h))))) (K9 (L:=([],[])) (W2 (Q7 q0w v6 v7 (Z7 Z5 Z4 W6 rfl m_len PySem.boot_len (z3 (z4 3 rfl rfl) j0)) (X0 rfl c_MOST_PARTS) (Q8 _)) (j8 K1) Z3)
  (q43 (K8 (q9t (i:=4) (m:=.v) (kx:=.v) [("depth",1)] rfl rfl hxt J3.nd rfl (N0k rfl) rfl rfl (q0E (z4 3 rfl rfl)) (λ o_=>(Q3 D_read_need G_read_need hr rfl (z6 (z6 j6)) (z3 (z4 0 rfl rfl) (z3 (z8 w6 j9 j5 (z4 1 rfl rfl) z9) j0)))) (λ o_ hp=>(q1w hp D_read_need X_read_need hr rfl (z6 (z6 j6)) (z3 (z4 0 rfl rfl) (z3 (z8 w6 j9 j5 (z4 1 rfl rfl) z9) j0)))) (λ o_ h=>nomatch h))) (K9 (L:=([],[])) (q7L (i:=4) (k:=.s) (kx:=.v) [("depth",1)] (N0r rfl) (by decide) J3.nd rfl (N0k rfl) rfl rfl (q0E (z4 3 rfl rfl)) (λ o_=>Y6) (λ o_=>(Q3 D_read_need G_read_need hr rfl (z6 (z6 j6)) (z3 (z4 0 rfl rfl) (z3 (z8 w6 j9 j5 (z4 1 rfl rfl) z9) j0)))))
  (K9 (L:=([],[])) (Q9 (i:=5) (k:=.s) (N0r rfl) (by decide) J3.nd rfl (N0k rfl) (z0r t_BEGINNINGS rfl w_BEGINNINGS (Q2 hu (z4 2 rfl rfl) z9 (λ o_ o_=>rfl) (λ o_ o_=>rfl)) (X2 (z3 (q0I y7 v8 rfl m_tuple v9 (z3 (z4 4 rfl rfl) j0)) j0))))
  (K8 (q1h (Q7 q0w v6 v7 (Q3 D_parts_asked G_parts_asked hr rfl (z6 j6) (z3 (z4 5 rfl rfl) j0)) (Z7 Z5 Z4 W6 rfl m_len PySem.boot_len (z3 (z4 4 rfl rfl) j0)) (Q8 _)) (K8 (q0K (c:=6) (i:=0) hx rfl rfl e_NoNote q_NoNote (λ o_ h=>nomatch h) (by decide +kernel) (N0r rfl) rfl)))))))))))))))))
theorem q5g {r:Nat}{f_read_line:Addr}{e_read_line:FuncData}(D_read_line:Df K mg "read_line" s_read_line ["line","web"] f_read_line e_read_line){f_knots_of:Addr}{e_knots_of:FuncData}(D_knots_of:Df K mg "knots_of" s_knots_of ["need"] f_knots_of e_knots_of){F_knots_of:PF}(G_knots_of:FnOk P w K mg base CX0 r f_knots_of e_knots_of ["need"] (spD K cl 1 F_knots_of)){f_read_need:Addr}{e_read_need:FuncData}(D_read_need:Df K mg "read_need" s_read_need ["text","depth"] f_read_need e_read_need){F_read_need:PF}(G_read_need:FnOk P w K mg base CX0 r f_read_need e_read_need ["text","depth"] (spD K cl 2 F_read_need)){E_read_need:PX}(X_read_need:FnOk P w K mg base (CXF P w) r f_read_need e_read_need ["text","depth"] (spE K cl ce 2 E_read_need)){f_add:Addr}{e_add:FuncData}(M_add:Meth K (cl 0) "add" f_add) (B_add:X9 K e_add ["self","name","need"] []){E_add:PX}(X_add:FnOk P w K mg base (CXG true P w) r f_add e_add ["self","name","need"] (spE K cl ce 3 E_add)) (ClW:Cls K (cl 0)) (NaW:X1 K (cl 0) "need_by_name") (e_NoNote:mg "NoNote" = some (.ref (ce 6))) (q_NoNote:q28 K (ce 6)){FE:Addr}(e_FeedError:mg "FeedError" = some (.ref FE)) (hxm:∀ c∈[0,1,2],PySem.W.exmOne K (.ref (ce c)) (.ref FE)=some true/\q28 K (ce c)){tk_MOST_KNOTS:Tok}(c_MOST_KNOTS:mg "MOST_KNOTS" = some (.int 24 tk_MOST_KNOTS)) :
 FnOk P w K mg base (CXF P w) (r+1) f_read_line e_read_line ["line","web"] (spE K cl ce 2 (q1P 5 (Y4 F_knots_of F_read_need E_add E_read_need))) :=
 z1C (κ:=[.b,.b,.s,.s,.s]) D_read_line.F W8 rfl (by decide) λ cdv A outer s H E hr hx hp hxt=>have hu:=hr.units;
 (K9 (L:=([],[])) (Q9 (i:=2) (k:=.s) (N0r rfl) (by decide) W8.nd rfl (N0k rfl) (K6 PySem.F.slot_str_partition PySem.F.type_str_partition q1Y q0M q1Z (z4 0 rfl rfl) z7))
  (q43 (K8 (z38 (i:=3) W8.nd rfl (N0k rfl) (q1w hp D_read_need X_read_need hr rfl (z6 (z6 j6)) (z3 (Q2 hu (z4 2 rfl rfl) z9 (λ o_ o_=>rfl) (λ o_ o_=>rfl)) (z3 z9 j0))) (λ o_ h=>nomatch h))) (K9 (L:=([],[])) (Q9 (i:=3) (k:=.s) (N0r rfl) (by decide) W8.nd rfl (N0k rfl) (Q3 D_read_need G_read_need hr rfl (z6 (z6 j6)) (z3 (Q2 hu (z4 2 rfl rfl) z9 (λ o_ o_=>rfl) (λ o_ o_=>rfl)) (z3 z9 j0))))
  (q43 (K8 (q1h (Q7 q0w v6 v7 (Q3 D_knots_of G_knots_of hr rfl (z6 j6) (z3 (z4 3 rfl rfl) j0)) (X0 rfl c_MOST_KNOTS) (Q8 _)) (K8 (q1v (c:=6) hx rfl rfl e_NoNote q_NoNote (λ o_ h=>nomatch h))))) (K9 (L:=([],[])) (W2 (Q7 q0w v6 v7 (Q3 D_knots_of G_knots_of hr rfl (z6 j6) (z3 (z4 3 rfl rfl) j0)) (X0 rfl c_MOST_KNOTS) (Q8 _)) (j8 K1) Z3)
  (K8 (z1A (c:=0) (i:=4) (il:=0) (c6:=6) (cs:=[0,1,2]) rfl rfl rfl hxt ClW M_add X_add hr B_add (λ δ ds h=>congrArg (· + 1) ((z6 (z6 j6)) δ ds h)) (λ pn xe=>(z4 1 rfl rfl)) (λ pn xe=>(z3 (Q2 hu (z4 2 rfl rfl) z9 (λ o_ o_=>rfl) (λ o_ o_=>rfl)) (z3 (z4 3 rfl rfl) j0))) hxm W8.nd rfl rfl (by decide) rfl (N0k rfl) rfl e_FeedError rfl e_NoNote q_NoNote (λ o_ h=>nomatch h) (by decide +kernel) (N0r rfl))))))))
theorem z3P {r:Nat}{f_read:Addr}{e_read:FuncData}(D_read:Df K mg "read" s_read ["text"] f_read e_read){f_read_line:Addr}{e_read_line:FuncData}(D_read_line:Df K mg "read_line" s_read_line ["line","web"] f_read_line e_read_line){F_read_line:PFI}(G_read_line:FnOk P w K mg base CX0 r f_read_line e_read_line ["line","web"] (spJ K cl F_read_line)){E_read_line:PX}(X_read_line:FnOk P w K mg base (CXF P w) r f_read_line e_read_line ["line","web"] (spE K cl ce 2 E_read_line)) (ClW:Cls K (cl 0)) (NaW:X1 K (cl 0) "need_by_name"){f_init:Addr}{e_init:FuncData}(MkW:Mk K (cl 0) f_init) (G_init:FnOk P w K mg base CX0 1 f_init e_init ["self"] (spInit (cl 0) "need_by_name")) (b_init:X9 K e_init ["self"] []) (m_Web:mg "Web" = some (.ref (cl 0))) :
 FnOk P w K mg base (CXF P w) (r+2+1) f_read e_read ["text"] (spE K cl ce 1 (q1P 4 (q8a F_read_line E_read_line))) :=
 z1C (κ:=[.b,.o,.s,.s]) D_read.F q0g rfl (by decide) λ cdv A outer s H E hr hx hp hxt=>have hu:=hr.units;have hrr:=hr;have hr:Room r _:=hrr.mono (by simp);have hr2:Room 2 _:=hrr.mono (by simp);
 (K9 (L:=([],[])) (q1T (i:=1) (by decide) q0g.nd rfl (N0k rfl) (q7V MkW G_init hr2 rfl m_Web b_init))
  (K9 (L:=([],[])) (Q9 (i:=2) (k:=.s) (N0r rfl) (by decide) q0g.nd rfl (N0k rfl) (z1f (Q7 (z0l hu) z0m z0n (z4 0 rfl rfl) z7 (Q8 _)) (K6 PySem.F.slot_str_split PySem.F.type_str_split q4N q39 q4P (z4 0 rfl rfl) z7) (y8 j0)))
  (K8 (z3c (i:=3) (k:=.b) (fg:=[3]) (N0k rfl) (by decide) q0g.nd rfl (N0k rfl) PassesOwn.leaving rfl (q0E (z4 2 rfl rfl)) (j8 (q37 (q5I 1 D_read_line rfl G_read_line hr rfl (z4 3 rfl rfl)))) (K8 (q80 (q1w hp D_read_line X_read_line hr rfl (z6 (z6 j6)) (z3 (z4 3 rfl rfl) (z3 (z4 1 rfl rfl) j0))) (λ o_ h=>nomatch h))) rfl))))
end
noncomputable def noL (K:PySem.W.Frag):Bool:=K.all λ p=>match p.2.cls with | .type t=>!(t=="list") | _=>true
theorem z3Q {K:PySem.W.Frag}(h:noL K=true){a:Addr}{o:Obj}(e:K.lookup a=some o) (c:o.cls=.type "list"):False:=by
 unfold noL at h
 rw [List.all_eq_true] at h
 have m:(a,o)∈K:=by
  clear h
  induction K with
  | nil=>cases e
  | cons p r ih =>
   obtain ⟨b,u⟩:=p
   rw [N15] at e
   by_cases q:a=b
   ·subst q
    rw [beq_self_eq_true] at e
    cases e
    exact N00 ..
   ·rw [N18.mpr q] at e
    exact N02 _ (ih e)
 have:=h _ m
 dsimp only at this
 rw [c] at this
 simp at this
theorem q6I {K:PySem.W.Frag}{cl:Nat->Addr}{H:Hp}{a:Addr}{ns:List Int}(hk:noL K=true) (h:SqL K H a (ns.map V.int)):Ats K cl H (λ o_=>True) [.ref a] [intsL ns]:=by
 have hi:∀ l:List Int,Ats K cl H (λ o_=>True) (l.map V.int) (l.map D.int):=λ l=>by
  induction l with
  | nil=>exact Ats.nil
  | cons i r ih=>exact ⟨by rw [At],ih⟩
 rcases h with h | ⟨o,its,n,e,c,_⟩
 ·refine ⟨?_,Ats.nil⟩
  unfold intsL
  rw [At]
  exact ⟨a,_,rfl,trivial,h,hi ns⟩
 ·exact (z3Q hk e c).elim
theorem z3R {P:Program}{w:World}{K:PySem.W.Frag}{mg:Str->Option Value}{base:Heap}{cl ce:Nat->Addr}{CX:CXT}{k n:Nat}{f:Addr}{fd:FuncData}{ps:List Str}:FnOk P w K mg base CX k f fd ps (spE K cl ce n λ o_=>none) :=
 ⟨λ vs H Q E h=>(by obtain ⟨ds,d,_,_,e,_⟩:=h;cases e),λ A outer s H args us vs Q E o_ o_ o_ o_ h=>(by obtain ⟨ds,d,_,_,e,_⟩:=h;cases e)⟩
theorem q9V {P:Program}{w:World}{K:PySem.W.Frag}{mg:Str->Option Value}{base:Heap}{cl:Nat->Addr}{k n:Nat}{f:Addr}{fd:FuncData}{ps:List Str}:FnOk P w K mg base CX0 k f fd ps (spD K cl n λ o_=>.un) :=
 ⟨λ vs H Q E h=>(by obtain ⟨ds,d,_,_,e,_⟩:=h;cases e),λ A outer s H args us vs Q E o_ o_ o_ o_ h=>(by obtain ⟨ds,d,_,_,e,_⟩:=h;cases e)⟩
theorem q5h:FnScope ["self"] ["self"] (defScope s___init__):=⟨rfl,rfl,rfl,by decide +kernel,rfl,by decide +kernel,by decide +kernel⟩
theorem z20 {P:Program}{w:World}{K:PySem.W.Frag}{mg:Str->Option Value}{base:Heap}{f C:Addr}{fd:FuncData}(F:Fun K "__init__" "Web.__init__" s___init__ f fd) (cl:Cls K C) (na:X1 K C "need_by_name"):FnOk P w K mg base CX0 1 f fd ["self"] (spInit C "need_by_name"):=by
 refine F.ok q5h (λ vs H Q E h=>?_) (λ cdv A outer s H vs Q E hr h=>?_)
 ·obtain ⟨q,dx,rfl,_⟩:=h
  rfl
 ·obtain ⟨q,dx,rfl,hq,k⟩:=h
  refine ⟨_,q0W (z2u (X7 (i:=0) rfl (N0k rfl) (by decide) (by decide)) q9b rfl),?_⟩
  intro d hd
  have nqd:q≠d:=J4 hq hd
  refine ⟨_,rfl,q,C,dx,[],rfl,(by rw [Z2 nqd];exact hq),cl,na,(by show 0<1000;decide),?_⟩
  exact k d hd
theorem z3S {P:Program}{w:World}{K:PySem.W.Frag}{mg:Str->Option Value}{base:Heap}{cl:Nat->Addr}(ClW:Cls K (cl 0)) (NaW:X1 K (cl 0) "need_by_name"){f_init:Addr}{e_init:FuncData}(R_init:Fun K "__init__" "Web.__init__" s___init__ f_init e_init) (MkW:Mk K (cl 0) f_init) (b_init:X9 K e_init ["self"] []) (m_Web:mg "Web" = some (.ref (cl 0))){f_add:Addr}{e_add:FuncData}(R_add:Fun K "add" "Web.add" s_add f_add e_add) (M_add:Meth K (cl 0) "add" f_add) (B_add:X9 K e_add ["self","name","need"] []){f_is_name:Addr}{e_is_name:FuncData}(D_is_name:Df K mg "is_name" s_is_name ["text"] f_is_name e_is_name){f_parts_of:Addr}{e_parts_of:FuncData}(D_parts_of:Df K mg "parts_of" s_parts_of ["need"] f_parts_of e_parts_of){f_parts_asked:Addr}{e_parts_asked:FuncData}(D_parts_asked:Df K mg "parts_asked" s_parts_asked ["need"] f_parts_asked e_parts_asked){f_knots_of:Addr}{e_knots_of:FuncData}(D_knots_of:Df K mg "knots_of" s_knots_of ["need"] f_knots_of e_knots_of){f_split_parts:Addr}{e_split_parts:FuncData}(D_split_parts:Df K mg "split_parts" s_split_parts ["text"] f_split_parts e_split_parts){f_read_need:Addr}{e_read_need:FuncData}(D_read_need:Df K mg "read_need" s_read_need ["text","depth"] f_read_need e_read_need){f_read_line:Addr}{e_read_line:FuncData}(D_read_line:Df K mg "read_line" s_read_line ["line","web"] f_read_line e_read_line){f_read:Addr}{e_read:FuncData}(D_read:Df K mg "read" s_read ["text"] f_read e_read){f__law_cell_at:Addr}{e__law_cell_at:FuncData}(D__law_cell_at:Df K mg "_law_cell_at" s__law_cell_at ["script","k"] f__law_cell_at e__law_cell_at){f__law_next:Addr}{e__law_next:FuncData}(D__law_next:Df K mg "_law_next" s__law_next ["seed"] f__law_next e__law_next){f__law_names:Addr}{e__law_names:FuncData}(D__law_names:Df K mg "_law_names" s__law_names ["cell","many"] f__law_names e__law_names){f__law_need:Addr}{e__law_need:FuncData}(D__law_need:Df K mg "_law_need" s__law_need ["seed","deep","pool","simple"] f__law_need e__law_need){f__law_parts:Addr}{e__law_parts:FuncData}(D__law_parts:Df K mg "_law_parts" s__law_parts ["need"] f__law_parts e__law_parts){f__law_drawn:Addr}{e__law_drawn:FuncData}(D__law_drawn:Df K mg "_law_drawn" s__law_drawn ["script","simple"] f__law_drawn e__law_drawn){f__law_text:Addr}{e__law_text:FuncData}(D__law_text:Df K mg "_law_text" s__law_text ["need"] f__law_text e__law_text){f__law_tried:Addr}{e__law_tried:FuncData}(D__law_tried:Df K mg "_law_tried" s__law_tried ["text"] f__law_tried e__law_tried){f__law_bad_need:Addr}{e__law_bad_need:FuncData}(D__law_bad_need:Df K mg "_law_bad_need" J1 ["cell"] f__law_bad_need e__law_bad_need){f__law_bad_line:Addr}{e__law_bad_line:FuncData}(D__law_bad_line:Df K mg "_law_bad_line" J2 ["row","way","cell"] f__law_bad_line e__law_bad_line){f_law:Addr}{e_law:FuncData}(D_law:Df K mg "law" s_law ["script"] f_law e_law){tk_MOST_DEPTH:Tok}(c_MOST_DEPTH:mg "MOST_DEPTH" = some (.int 5 tk_MOST_DEPTH)){tk_MOST_KINDS:Tok}(c_MOST_KINDS:mg "MOST_KINDS" = some (.int 16 tk_MOST_KINDS)){tk_MOST_KNOTS:Tok}(c_MOST_KNOTS:mg "MOST_KNOTS" = some (.int 24 tk_MOST_KNOTS)){tk_MOST_LETTERS:Tok}(c_MOST_LETTERS:mg "MOST_LETTERS" = some (.int 8 tk_MOST_LETTERS)){tk_MOST_PARTS:Tok}(c_MOST_PARTS:mg "MOST_PARTS" = some (.int 4 tk_MOST_PARTS)){ad_BEGINNINGS:Addr}(w_BEGINNINGS:mg "BEGINNINGS" = some (.ref ad_BEGINNINGS)) (t_BEGINNINGS:KDict P w K ad_BEGINNINGS tBEGINNINGS){ad_KEPT_WORDS:Addr}{ob_KEPT_WORDS:Obj}{its_KEPT_WORDS:Array Value}{n_KEPT_WORDS:Nat}(w_KEPT_WORDS:mg "KEPT_WORDS" = some (.ref ad_KEPT_WORDS)) (k_KEPT_WORDS:K.lookup ad_KEPT_WORDS=some ob_KEPT_WORDS) (c_KEPT_WORDS:ob_KEPT_WORDS.cls=.type "tuple") (d_KEPT_WORDS:ob_KEPT_WORDS.data=.seq its_KEPT_WORDS n_KEPT_WORDS) (z_KEPT_WORDS:its_KEPT_WORDS.size<=sizeLine) (v_KEPT_WORDS:Vals (wKEPT_WORDS.map V.str) its_KEPT_WORDS.toList){ce:Nat->Addr}{FE:Addr}(e_FeedError:mg "FeedError" = some (.ref FE)) (ko:∀ c∈CS,KindOk K ce FE c) (hxm:∀ c∈[0,1,2],PySem.W.exmOne K (.ref (ce c)) (.ref FE)=some true/\q28 K (ce c)) (e_NoName:mg "NoName" = some (.ref (ce 0))) (e_Twice:mg "Twice" = some (.ref (ce 1))) (e_Full:mg "Full" = some (.ref (ce 2))) (e_NoKind:mg "NoKind" = some (.ref (ce 3))) (e_TooLarge:mg "TooLarge" = some (.ref (ce 4))) (e_NotPlain:mg "NotPlain" = some (.ref (ce 5))) (e_NoNote:mg "NoNote" = some (.ref (ce 6))) (q_Full:q28 K (ce 2)) (q_NoName:q28 K (ce 0)) (q_NoNote:q28 K (ce 6)) (q_Twice:q28 K (ce 1)){f__law_kind:Addr}{e__law_kind:FuncData}(D__law_kind:Df K mg "_law_kind" s__law_kind ["e"] f__law_kind e__law_kind) (m_ValueError:mg "ValueError" = none) (m_all:mg "all" = none) (m_isinstance:mg "isinstance" = none) (m_len:mg "len" = none) (m_range:mg "range" = none) (m_str:mg "str" = none) (m_sum:mg "sum" = none) (m_tuple:mg "tuple" = none) :
 FnOk P w K mg base CX0 17 f_law e_law ["script"] (spD K cl 1 F_law):=by
 have G_init:FnOk P w K mg base CX0 1 f_init e_init ["self"] (spInit (cl 0) "need_by_name"):=z20 R_init ClW NaW
 have MK:∀ c∈CS,FnM P w K mg base 1 f__law_kind e__law_kind "e" (ce c) ((kindW[c]?).getD ""):=λ c hc=>q57 D__law_kind (ko c hc) e_NoName e_Twice e_Full e_NoKind e_TooLarge e_NotPlain e_NoNote m_isinstance m_ValueError
 have G_is_name:FnOk P w K mg base CX0 1 f_is_name e_is_name ["text"] (spD K cl 1 F_is_name):=q8O (r:=0) (D_is_name:=D_is_name) (c_MOST_LETTERS:=c_MOST_LETTERS) (w_KEPT_WORDS:=w_KEPT_WORDS) (k_KEPT_WORDS:=k_KEPT_WORDS) (c_KEPT_WORDS:=c_KEPT_WORDS) (d_KEPT_WORDS:=d_KEPT_WORDS) (z_KEPT_WORDS:=z_KEPT_WORDS) (v_KEPT_WORDS:=v_KEPT_WORDS) (m_all:=m_all) (m_len:=m_len)
 have G_add:FnOk P w K mg base CX0 2 f_add e_add ["self","name","need"] (spI K cl 3 1 F_add):=z6o (r:=1) (R_add:=R_add) (D_is_name:=D_is_name) (G_is_name:=G_is_name.mono (by simp)) (ClW:=ClW) (NaW:=NaW) (c_MOST_KINDS:=c_MOST_KINDS) (m_len:=m_len)
 have G_parts_of:FnOk P w K mg base CX0 1 f_parts_of e_parts_of ["need"] (spD K cl 1 F_parts_of):=q6G (r:=0) (D_parts_of:=D_parts_of)
 have G_parts_asked:FnOk P w K mg base CX0 2 f_parts_asked e_parts_asked ["need"] (spD K cl 1 F_parts_asked):=q3o (r:=1) (D_parts_asked:=D_parts_asked) (D_parts_of:=D_parts_of) (G_parts_of:=G_parts_of.mono (by simp)) (m_len:=m_len)
 have G'_knots_of:∀ n,FnOk P w K mg base CX0 (1+n) f_knots_of e_knots_of ["need"] (spD K cl 1 (F_knots_of n)):=λ n=>by
  induction n with
  | zero=>exact q9V
  | succ n ih=>exact q6H (r:=1+n) (D_knots_of:=D_knots_of) (G_knots_of:=ih) (D_parts_of:=D_parts_of) (G_parts_of:=G_parts_of.mono (by simp)) (m_sum:=m_sum)
 have G_knots_of:FnOk P w K mg base CX0 9 f_knots_of e_knots_of ["need"] (spD K cl 1 (F_knots_of 8)):=G'_knots_of 8
 have G_split_parts:FnOk P w K mg base CX0 1 f_split_parts e_split_parts ["text"] (spD K cl 1 F_split_parts):=q3p (r:=0) (D_split_parts:=D_split_parts)
 have G'_read_need:∀ n,FnOk P w K mg base CX0 (2+n) f_read_need e_read_need ["text","depth"] (spD K cl 2 (F_read_need n)):=λ n=>by
  induction n with
  | zero=>exact q9V
  | succ n ih=>exact q5a (r:=2+n) (D_read_need:=D_read_need) (G_read_need:=ih) (D_is_name:=D_is_name) (G_is_name:=G_is_name.mono (by lia)) (D_parts_asked:=D_parts_asked) (G_parts_asked:=G_parts_asked.mono (by simp)) (D_split_parts:=D_split_parts) (G_split_parts:=G_split_parts.mono (by lia)) (c_MOST_DEPTH:=c_MOST_DEPTH) (c_MOST_PARTS:=c_MOST_PARTS) (w_BEGINNINGS:=w_BEGINNINGS) (t_BEGINNINGS:=t_BEGINNINGS) (m_len:=m_len) (m_tuple:=m_tuple)
 have G_read_need:FnOk P w K mg base CX0 10 f_read_need e_read_need ["text","depth"] (spD K cl 2 (F_read_need 8)):=G'_read_need 8
 have G_read_line:FnOk P w K mg base CX0 11 f_read_line e_read_line ["line","web"] (spJ K cl F_read_line):=q5b (r:=10) (D_read_line:=D_read_line) (M_add:=M_add) (B_add:=B_add) (G_add:=G_add.mono (by simp)) (D_knots_of:=D_knots_of) (G_knots_of:=G_knots_of.mono (by simp)) (D_read_need:=D_read_need) (G_read_need:=G_read_need.mono (by simp)) (ClW:=ClW) (NaW:=NaW) (c_MOST_KNOTS:=c_MOST_KNOTS)
 have G_read:FnOk P w K mg base CX0 14 f_read e_read ["text"] (spD K cl 1 F_read):=z3O (r:=11) (D_read:=D_read) (D_read_line:=D_read_line) (G_read_line:=G_read_line.mono (by simp)) (ClW:=ClW) (NaW:=NaW) (MkW:=MkW) (G_init:=G_init) (b_init:=b_init) (m_Web:=m_Web)
 have G__law_cell_at:FnOk P w K mg base CX0 1 f__law_cell_at e__law_cell_at ["script","k"] (spD K cl 2 F__law_cell_at):=q2e (r:=0) (D__law_cell_at:=D__law_cell_at) (m_len:=m_len)
 have G__law_next:FnOk P w K mg base CX0 1 f__law_next e__law_next ["seed"] (spD K cl 1 F__law_next):=q5c (r:=0) (D__law_next:=D__law_next)
 have G__law_names:FnOk P w K mg base CX0 1 f__law_names e__law_names ["cell","many"] (spD K cl 2 F__law_names):=q4j (r:=0) (D__law_names:=D__law_names) (m_len:=m_len) (m_range:=m_range)
 have G'__law_need:∀ n,FnOk P w K mg base CX0 (1+n) f__law_need e__law_need ["seed","deep","pool","simple"] (spD K cl 4 (F__law_need n)):=λ n=>by
  induction n with
  | zero=>exact q9V
  | succ n ih=>exact q5d (r:=1+n) (D__law_need:=D__law_need) (G__law_need:=ih) (D__law_next:=D__law_next) (G__law_next:=G__law_next.mono (by simp)) (m_len:=m_len) (m_range:=m_range) (m_tuple:=m_tuple)
 have G__law_need:FnOk P w K mg base CX0 9 f__law_need e__law_need ["seed","deep","pool","simple"] (spD K cl 4 (F__law_need 8)):=G'__law_need 8
 have G__law_parts:FnOk P w K mg base CX0 1 f__law_parts e__law_parts ["need"] (spD K cl 1 F__law_parts):=q4k (r:=0) (D__law_parts:=D__law_parts) (m_len:=m_len)
 have G__law_drawn:FnOk P w K mg base CX0 10 f__law_drawn e__law_drawn ["script","simple"] (spD K cl 2 F__law_drawn):=q4l (r:=9) (D__law_drawn:=D__law_drawn) (D__law_cell_at:=D__law_cell_at) (G__law_cell_at:=G__law_cell_at.mono (by simp)) (D__law_names:=D__law_names) (G__law_names:=G__law_names.mono (by simp)) (D__law_need:=D__law_need) (G__law_need:=G__law_need.mono (by simp)) (D__law_next:=D__law_next) (G__law_next:=G__law_next.mono (by simp)) (m_range:=m_range)
 have G'__law_text:∀ n,FnOk P w K mg base CX0 (1+n) f__law_text e__law_text ["need"] (spD K cl 1 (F__law_text n)):=λ n=>by
  induction n with
  | zero=>exact q9V
  | succ n ih=>exact q5e (r:=1+n) (D__law_text:=D__law_text) (G__law_text:=ih) (D__law_parts:=D__law_parts) (G__law_parts:=G__law_parts.mono (by simp)) (m_len:=m_len) (m_range:=m_range) (m_str:=m_str)
 have G__law_text:FnOk P w K mg base CX0 9 f__law_text e__law_text ["need"] (spD K cl 1 (F__law_text 8)):=G'__law_text 8
 have X_add:FnOk P w K mg base (CXG true P w) 2 f_add e_add ["self","name","need"] (spE K cl ce 3 E_add):=z6q (r:=1) (R_add:=R_add) (D_is_name:=D_is_name) (G_is_name:=G_is_name.mono (by simp)) (ClW:=ClW) (NaW:=NaW) (c_MOST_KINDS:=c_MOST_KINDS) (m_len:=m_len) (e_Full:=e_Full) (q_Full:=q_Full) (e_NoName:=e_NoName) (q_NoName:=q_NoName) (e_Twice:=e_Twice) (q_Twice:=q_Twice)
 have X'_read_need:∀ n,FnOk P w K mg base (CXF P w) (2+n) f_read_need e_read_need ["text","depth"] (spE K cl ce 2 (E_read_need n)):=λ n=>by
  induction n with
  | zero=>exact z3R
  | succ n ih=>exact q5f (r:=2+n) (D_read_need:=D_read_need) (G_read_need:=(G'_read_need n).mono (by simp)) (X_read_need:=ih) (D_is_name:=D_is_name) (G_is_name:=G_is_name.mono (by lia)) (D_parts_asked:=D_parts_asked) (G_parts_asked:=G_parts_asked.mono (by simp)) (D_split_parts:=D_split_parts) (G_split_parts:=G_split_parts.mono (by lia)) (c_MOST_DEPTH:=c_MOST_DEPTH) (c_MOST_PARTS:=c_MOST_PARTS) (w_BEGINNINGS:=w_BEGINNINGS) (t_BEGINNINGS:=t_BEGINNINGS) (m_len:=m_len) (m_tuple:=m_tuple) (e_NoNote:=e_NoNote) (q_NoNote:=q_NoNote)
 have X_read_need:FnOk P w K mg base (CXF P w) 10 f_read_need e_read_need ["text","depth"] (spE K cl ce 2 (E_read_need 8)):=X'_read_need 8
 have X_read_line:FnOk P w K mg base (CXF P w) 11 f_read_line e_read_line ["line","web"] (spE K cl ce 2 E_read_line):=q5g (r:=10) (D_read_line:=D_read_line) (M_add:=M_add) (B_add:=B_add) (X_add:=X_add.mono (by simp)) (D_knots_of:=D_knots_of) (G_knots_of:=G_knots_of.mono (by simp)) (D_read_need:=D_read_need) (G_read_need:=G_read_need.mono (by simp)) (X_read_need:=X_read_need.mono (by simp)) (ClW:=ClW) (NaW:=NaW) (c_MOST_KNOTS:=c_MOST_KNOTS) (e_NoNote:=e_NoNote) (q_NoNote:=q_NoNote) (e_FeedError:=e_FeedError) (hxm:=hxm)
 have X_read:FnOk P w K mg base (CXF P w) 14 f_read e_read ["text"] (spE K cl ce 1 E_read):=z3P (r:=11) (D_read:=D_read) (D_read_line:=D_read_line) (G_read_line:=G_read_line.mono (by simp)) (X_read_line:=X_read_line.mono (by simp)) (ClW:=ClW) (NaW:=NaW) (MkW:=MkW) (G_init:=G_init) (b_init:=b_init) (m_Web:=m_Web)
 have G__law_tried:FnOk P w K mg base CX0 16 f__law_tried e__law_tried ["text"] (spD K cl 1 F__law_tried):=q4m (r:=14) (D__law_tried:=D__law_tried) (D_read:=D_read) (G_read:=G_read.mono (by simp)) (X_read:=X_read.mono (by simp)) (e_FeedError:=e_FeedError) (xm:=λ c hc=>(ko c hc).xm) (D__law_kind:=D__law_kind) (MK:=MK)
 have G__law_bad_need:FnOk P w K mg base CX0 1 f__law_bad_need e__law_bad_need ["cell"] (spD K cl 1 F__law_bad_need):=q26 (r:=0) (D__law_bad_need:=D__law_bad_need) (m_len:=m_len) (m_range:=m_range)
 have G__law_bad_line:FnOk P w K mg base CX0 2 f__law_bad_line e__law_bad_line ["row","way","cell"] (spD K cl 3 F__law_bad_line):=q27 (r:=1) (D__law_bad_line:=D__law_bad_line) (D__law_bad_need:=D__law_bad_need) (G__law_bad_need:=G__law_bad_need.mono (by simp))
 have G_law:FnOk P w K mg base CX0 17 f_law e_law ["script"] (spD K cl 1 F_law):=z6p (r:=16) (D_law:=D_law) (D__law_bad_line:=D__law_bad_line) (G__law_bad_line:=G__law_bad_line.mono (by simp)) (D__law_cell_at:=D__law_cell_at) (G__law_cell_at:=G__law_cell_at.mono (by simp)) (D__law_drawn:=D__law_drawn) (G__law_drawn:=G__law_drawn.mono (by simp)) (D__law_names:=D__law_names) (G__law_names:=G__law_names.mono (by simp)) (D__law_text:=D__law_text) (G__law_text:=G__law_text.mono (by simp)) (D__law_tried:=D__law_tried) (G__law_tried:=G__law_tried.mono (by simp)) (m_len:=m_len) (m_range:=m_range)
 exact G_law
noncomputable def q9W (K:PySem.W.Frag):Sp:=λ vs H Q o_=>∃ (a:Addr) (ns:List Int),vs=[.ref a]/\SqL K H a (ns.map V.int)/\ns.length<=63/\∀ H',Q (.bl true) H'
theorem z21 {K:PySem.W.Frag}{cl:Nat->Addr}{vs:List V}{H:Hp}{Q:VK}{E:XK}(hk:noL K=true) (h:q9W K vs H Q E):spD K cl 1 F_law vs H Q E:=by
 obtain ⟨a,ns,rfl,hs,hl,z⟩:=h
 refine ⟨[intsL ns],.bl true,rfl,q6I hk hs,z1Z ns,λ v H' o_ hv o_=>?_⟩
 rw [At] at hv
 rw [hv]
 exact z H'
theorem ar0 {P:List Value->Prop}(h:P []):∀ us:List Value,us.length=0->P us:=by
 intro us e;rw [List.eq_nil_of_length_eq_zero e];exact h
theorem arS {P:List Value->Prop}{n:Nat}(h:∀ v (us:List Value),us.length=n->P (v::us)):∀ us:List Value,us.length=n+1->P us:=by
 intro us e
 cases us with
 | nil=>cases e
 | cons v us=>exact h v us (Nat.succ.inj e)
theorem V9 {P:List Value->Prop}(h:∀ v0,P [v0]):∀ us:List Value,us.length=1->P us :=
 arS (P:=λ us=>P (us)) λ v0=>ar0 (P:=λ us=>P (v0::us)) (h v0)
theorem q4n {P:List Value->Prop}(h:∀ v0 v1,P [v0,v1]):∀ us:List Value,us.length=2->P us :=
 arS (P:=λ us=>P (us)) λ v0=>arS (P:=λ us=>P (v0::us)) λ v1=>ar0 (P:=λ us=>P (v0::v1::us)) (h v0 v1)
theorem z0F {P:List Value->Prop}(h:∀ v0 v1 v2,P [v0,v1,v2]):∀ us:List Value,us.length=3->P us :=
 arS (P:=λ us=>P (us)) λ v0=>arS (P:=λ us=>P (v0::us)) λ v1=>arS (P:=λ us=>P (v0::v1::us)) λ v2=>ar0 (P:=λ us=>P (v0::v1::v2::us)) (h v0 v1 v2)
theorem z3T {P:List Value->Prop}(h:∀ v0 v1 v2 v3,P [v0,v1,v2,v3]):∀ us:List Value,us.length=4->P us :=
 arS (P:=λ us=>P (us)) λ v0=>arS (P:=λ us=>P (v0::us)) λ v1=>arS (P:=λ us=>P (v0::v1::us)) λ v2=>arS (P:=λ us=>P (v0::v1::v2::us)) λ v3=>ar0 (P:=λ us=>P (v0::v1::v2::v3::us)) (h v0 v1 v2 v3)
set_option maxHeartbeats 0 in
theorem all_mk {l:PySem.W.OpenLaw}{w:World}{K:PySem.W.Frag}{h:Heap}{mg:Str->Option Value}{fa CW f1 f2 f3 f4 f5 f6 f7 f8 f9 f10 f11 f12 f13 f14 f15 f16 f17 f18 f19 f20 f21 f22:Addr}(X:K.In h) (G:h.Ns mainGlobals mg) (hfa:mg "law" = some (.ref fa)) (hkl:noL K=true)
 {od1 an1 od2 an2 od3 an3 od4 an4 od5 an5 od6 an6 od7 an7 od8 an8 od9 an9 od10 an10 od11 an11 od12 an12 od13 an13 od14 an14 od15 an15 od16 an16 od17 an17 od18 an18 od19 an19 od20 an20 od21 an21 od22 an22:Option Addr}{sl1 sl2 sl3 sl4 sl5 sl6 sl7 sl8 sl9 sl10 sl11 sl12 sl13 sl14 sl15 sl16 sl17 sl18 sl19 sl20 sl21 sl22:Array (Option Value)}{oc1 kV1 dc1 pm1 cd1 ct1 oc2 kV2 dc2 pm2 cd2 ct2 oc3 kV3 dc3 pm3 cd3 ct3 oc4 kV4 dc4 pm4 cd4 ct4 oc5 kV5 dc5 pm5 cd5 ct5 oc6 kV6 dc6 pm6 cd6 ct6 oc7 kV7 dc7 pm7 cd7 ct7 oc8 kV8 dc8 pm8 cd8 ct8 oc9 kV9 dc9 pm9 cd9 ct9 oc10 kV10 dc10 pm10 cd10 ct10 oc11 kV11 dc11 pm11 cd11 ct11 oc12 kV12 dc12 pm12 cd12 ct12 oc13 kV13 dc13 pm13 cd13 ct13 oc14 kV14 dc14 pm14 cd14 ct14 oc15 kV15 dc15 pm15 cd15 ct15 oc16 kV16 dc16 pm16 cd16 ct16 oc17 kV17 dc17 pm17 cd17 ct17 oc18 kV18 dc18 pm18 cd18 ct18 oc19 kV19 dc19 pm19 cd19 ct19 oc20 kV20 dc20 pm20 cd20 ct20 oc21 kV21 dc21 pm21 cd21 ct21 oc22 kV22 dc22 pm22 cd22 ct22:Value}
 (aC:PySem.W.nsIn K mainGlobals "Web" = some (some (.ref CW)))
 (a1:PySem.W.findIn K (.ref CW) "__init__" = some (some (.ref f1))) (i1:PySem.W.isFn K (.ref f1)=true) (l1:K.lookup f1=some ⟨oc1,od1,.func (PySem.W.fnOf "__init__" "Web.__init__" (defArgs s___init__) (defBody s___init__) (defScope s___init__) .none kV1 dc1 pm1 an1 cd1 ct1),sl1⟩) (c1:PySem.W.codeIn K cd1 "Web.__init__" = true) (k1:PySem.W.keepIn K (.ref f1)=true)
 (a2:PySem.W.findIn K (.ref CW) "add" = some (some (.ref f2))) (i2:PySem.W.isFn K (.ref f2)=true) (l2:K.lookup f2=some ⟨oc2,od2,.func (PySem.W.fnOf "add" "Web.add" (defArgs s_add) (defBody s_add) (defScope s_add) .none kV2 dc2 pm2 an2 cd2 ct2),sl2⟩) (c2:PySem.W.codeIn K cd2 "Web.add" = true) (k2:PySem.W.keepIn K (.ref f2)=true)
 (a3:PySem.W.nsIn K mainGlobals "is_name" = some (some (.ref f3))) (l3:K.lookup f3=some ⟨oc3,od3,.func (PySem.W.fnOf "is_name" "is_name" (defArgs s_is_name) (defBody s_is_name) (defScope s_is_name) .none kV3 dc3 pm3 an3 cd3 ct3),sl3⟩) (c3:PySem.W.codeIn K cd3 "is_name" = true) (k3:PySem.W.keepIn K (.ref f3)=true)
 (a4:PySem.W.nsIn K mainGlobals "parts_of" = some (some (.ref f4))) (l4:K.lookup f4=some ⟨oc4,od4,.func (PySem.W.fnOf "parts_of" "parts_of" (defArgs s_parts_of) (defBody s_parts_of) (defScope s_parts_of) .none kV4 dc4 pm4 an4 cd4 ct4),sl4⟩) (c4:PySem.W.codeIn K cd4 "parts_of" = true) (k4:PySem.W.keepIn K (.ref f4)=true)
 (a5:PySem.W.nsIn K mainGlobals "parts_asked" = some (some (.ref f5))) (l5:K.lookup f5=some ⟨oc5,od5,.func (PySem.W.fnOf "parts_asked" "parts_asked" (defArgs s_parts_asked) (defBody s_parts_asked) (defScope s_parts_asked) .none kV5 dc5 pm5 an5 cd5 ct5),sl5⟩) (c5:PySem.W.codeIn K cd5 "parts_asked" = true) (k5:PySem.W.keepIn K (.ref f5)=true)
 (a6:PySem.W.nsIn K mainGlobals "knots_of" = some (some (.ref f6))) (l6:K.lookup f6=some ⟨oc6,od6,.func (PySem.W.fnOf "knots_of" "knots_of" (defArgs s_knots_of) (defBody s_knots_of) (defScope s_knots_of) .none kV6 dc6 pm6 an6 cd6 ct6),sl6⟩) (c6:PySem.W.codeIn K cd6 "knots_of" = true) (k6:PySem.W.keepIn K (.ref f6)=true)
 (a7:PySem.W.nsIn K mainGlobals "split_parts" = some (some (.ref f7))) (l7:K.lookup f7=some ⟨oc7,od7,.func (PySem.W.fnOf "split_parts" "split_parts" (defArgs s_split_parts) (defBody s_split_parts) (defScope s_split_parts) .none kV7 dc7 pm7 an7 cd7 ct7),sl7⟩) (c7:PySem.W.codeIn K cd7 "split_parts" = true) (k7:PySem.W.keepIn K (.ref f7)=true)
 (a8:PySem.W.nsIn K mainGlobals "read_need" = some (some (.ref f8))) (l8:K.lookup f8=some ⟨oc8,od8,.func (PySem.W.fnOf "read_need" "read_need" (defArgs s_read_need) (defBody s_read_need) (defScope s_read_need) .none kV8 dc8 pm8 an8 cd8 ct8),sl8⟩) (c8:PySem.W.codeIn K cd8 "read_need" = true) (k8:PySem.W.keepIn K (.ref f8)=true)
 (a9:PySem.W.nsIn K mainGlobals "read_line" = some (some (.ref f9))) (l9:K.lookup f9=some ⟨oc9,od9,.func (PySem.W.fnOf "read_line" "read_line" (defArgs s_read_line) (defBody s_read_line) (defScope s_read_line) .none kV9 dc9 pm9 an9 cd9 ct9),sl9⟩) (c9:PySem.W.codeIn K cd9 "read_line" = true) (k9:PySem.W.keepIn K (.ref f9)=true)
 (a10:PySem.W.nsIn K mainGlobals "read" = some (some (.ref f10))) (l10:K.lookup f10=some ⟨oc10,od10,.func (PySem.W.fnOf "read" "read" (defArgs s_read) (defBody s_read) (defScope s_read) .none kV10 dc10 pm10 an10 cd10 ct10),sl10⟩) (c10:PySem.W.codeIn K cd10 "read" = true) (k10:PySem.W.keepIn K (.ref f10)=true)
 (a11:PySem.W.nsIn K mainGlobals "_law_cell_at" = some (some (.ref f11))) (l11:K.lookup f11=some ⟨oc11,od11,.func (PySem.W.fnOf "_law_cell_at" "_law_cell_at" (defArgs s__law_cell_at) (defBody s__law_cell_at) (defScope s__law_cell_at) .none kV11 dc11 pm11 an11 cd11 ct11),sl11⟩) (c11:PySem.W.codeIn K cd11 "_law_cell_at" = true) (k11:PySem.W.keepIn K (.ref f11)=true)
 (a12:PySem.W.nsIn K mainGlobals "_law_next" = some (some (.ref f12))) (l12:K.lookup f12=some ⟨oc12,od12,.func (PySem.W.fnOf "_law_next" "_law_next" (defArgs s__law_next) (defBody s__law_next) (defScope s__law_next) .none kV12 dc12 pm12 an12 cd12 ct12),sl12⟩) (c12:PySem.W.codeIn K cd12 "_law_next" = true) (k12:PySem.W.keepIn K (.ref f12)=true)
 (a13:PySem.W.nsIn K mainGlobals "_law_names" = some (some (.ref f13))) (l13:K.lookup f13=some ⟨oc13,od13,.func (PySem.W.fnOf "_law_names" "_law_names" (defArgs s__law_names) (defBody s__law_names) (defScope s__law_names) .none kV13 dc13 pm13 an13 cd13 ct13),sl13⟩) (c13:PySem.W.codeIn K cd13 "_law_names" = true) (k13:PySem.W.keepIn K (.ref f13)=true)
 (a14:PySem.W.nsIn K mainGlobals "_law_need" = some (some (.ref f14))) (l14:K.lookup f14=some ⟨oc14,od14,.func (PySem.W.fnOf "_law_need" "_law_need" (defArgs s__law_need) (defBody s__law_need) (defScope s__law_need) .none kV14 dc14 pm14 an14 cd14 ct14),sl14⟩) (c14:PySem.W.codeIn K cd14 "_law_need" = true) (k14:PySem.W.keepIn K (.ref f14)=true)
 (a15:PySem.W.nsIn K mainGlobals "_law_parts" = some (some (.ref f15))) (l15:K.lookup f15=some ⟨oc15,od15,.func (PySem.W.fnOf "_law_parts" "_law_parts" (defArgs s__law_parts) (defBody s__law_parts) (defScope s__law_parts) .none kV15 dc15 pm15 an15 cd15 ct15),sl15⟩) (c15:PySem.W.codeIn K cd15 "_law_parts" = true) (k15:PySem.W.keepIn K (.ref f15)=true)
 (a16:PySem.W.nsIn K mainGlobals "_law_drawn" = some (some (.ref f16))) (l16:K.lookup f16=some ⟨oc16,od16,.func (PySem.W.fnOf "_law_drawn" "_law_drawn" (defArgs s__law_drawn) (defBody s__law_drawn) (defScope s__law_drawn) .none kV16 dc16 pm16 an16 cd16 ct16),sl16⟩) (c16:PySem.W.codeIn K cd16 "_law_drawn" = true) (k16:PySem.W.keepIn K (.ref f16)=true)
 (a17:PySem.W.nsIn K mainGlobals "_law_text" = some (some (.ref f17))) (l17:K.lookup f17=some ⟨oc17,od17,.func (PySem.W.fnOf "_law_text" "_law_text" (defArgs s__law_text) (defBody s__law_text) (defScope s__law_text) .none kV17 dc17 pm17 an17 cd17 ct17),sl17⟩) (c17:PySem.W.codeIn K cd17 "_law_text" = true) (k17:PySem.W.keepIn K (.ref f17)=true)
 (a18:PySem.W.nsIn K mainGlobals "_law_tried" = some (some (.ref f18))) (l18:K.lookup f18=some ⟨oc18,od18,.func (PySem.W.fnOf "_law_tried" "_law_tried" (defArgs s__law_tried) (defBody s__law_tried) (defScope s__law_tried) .none kV18 dc18 pm18 an18 cd18 ct18),sl18⟩) (c18:PySem.W.codeIn K cd18 "_law_tried" = true) (k18:PySem.W.keepIn K (.ref f18)=true)
 (a19:PySem.W.nsIn K mainGlobals "_law_bad_need" = some (some (.ref f19))) (l19:K.lookup f19=some ⟨oc19,od19,.func (PySem.W.fnOf "_law_bad_need" "_law_bad_need" (defArgs J1) (defBody J1) (defScope J1) .none kV19 dc19 pm19 an19 cd19 ct19),sl19⟩) (c19:PySem.W.codeIn K cd19 "_law_bad_need" = true) (k19:PySem.W.keepIn K (.ref f19)=true)
 (a20:PySem.W.nsIn K mainGlobals "_law_bad_line" = some (some (.ref f20))) (l20:K.lookup f20=some ⟨oc20,od20,.func (PySem.W.fnOf "_law_bad_line" "_law_bad_line" (defArgs J2) (defBody J2) (defScope J2) .none kV20 dc20 pm20 an20 cd20 ct20),sl20⟩) (c20:PySem.W.codeIn K cd20 "_law_bad_line" = true) (k20:PySem.W.keepIn K (.ref f20)=true)
 (a21:PySem.W.nsIn K mainGlobals "law" = some (some (.ref f21))) (l21:K.lookup f21=some ⟨oc21,od21,.func (PySem.W.fnOf "law" "law" (defArgs s_law) (defBody s_law) (defScope s_law) .none kV21 dc21 pm21 an21 cd21 ct21),sl21⟩) (c21:PySem.W.codeIn K cd21 "law" = true) (k21:PySem.W.keepIn K (.ref f21)=true)
 (a22:PySem.W.nsIn K mainGlobals "_law_kind" = some (some (.ref f22))) (l22:K.lookup f22=some ⟨oc22,od22,.func (PySem.W.fnOf "_law_kind" "_law_kind" (defArgs s__law_kind) (defBody s__law_kind) (defScope s__law_kind) .none kV22 dc22 pm22 an22 cd22 ct22),sl22⟩) (c22:PySem.W.codeIn K cd22 "_law_kind" = true) (k22:PySem.W.keepIn K (.ref f22)=true)
 (pg:PySem.W.plainGet K CW Str.empty=true) (hd:PySem.W.hasDictIn K CW=true) (po:PySem.W.plainOver K CW=true) (sa:PySem.W.findIn K (.ref CW) "__setattr__" = some (some (.builtin "object.__setattr__"))) (mk:PySem.W.makesIn K CW=true) (kc:PySem.W.keepIn K (.ref CW)=true) (nF:PySem.W.findIn K (.ref CW) "need_by_name" = some none)
 {C0 C1 C2 C3 C4 C5 C6 FE:Addr}(x0:PySem.W.nsIn K mainGlobals "NoName" = some (some (.ref C0))) (x1:PySem.W.nsIn K mainGlobals "Twice" = some (some (.ref C1))) (x2:PySem.W.nsIn K mainGlobals "Full" = some (some (.ref C2))) (x3:PySem.W.nsIn K mainGlobals "NoKind" = some (some (.ref C3))) (x4:PySem.W.nsIn K mainGlobals "TooLarge" = some (some (.ref C4))) (x5:PySem.W.nsIn K mainGlobals "NotPlain" = some (some (.ref C5))) (x6:PySem.W.nsIn K mainGlobals "NoNote" = some (some (.ref C6))) (xFE:PySem.W.nsIn K mainGlobals "FeedError" = some (some (.ref FE)))
 (q_Full:PySem.W.excIn K C2 z24 "ValueError.__new__" = true) (q_NoName:PySem.W.excIn K C0 z24 "ValueError.__new__" = true) (q_NoNote:PySem.W.excIn K C6 z24 "ValueError.__new__" = true) (q_Twice:PySem.W.excIn K C1 z24 "ValueError.__new__" = true) (ga_6:PySem.W.findIn K (.ref C6) "__getattribute__" = some (some (.builtin "BaseException.__getattribute__"))) (gt_6:PySem.W.findIn K (.ref C6) "__getattr__" = some none) (fc_6:PySem.W.findIn K (.ref C6) "__class__" = some (some (.builtin "object.__class__"))) (sg_6:PySem.W.specialIn K (.builtin "object.__class__") "__get__" = some (some (.builtin "getset_descriptor.__get__"))) (tk_6:PySem.W.takesIn K (.builtin "object.__class__")=some true) (mo_6:PySem.W.mroIn K C6 (.type "object")=some true) (mb_6:PySem.W.mroIn K C6 (.type "BaseException")=some true) (cl_6:(PySem.W.clsIn K C6).isSome=true) (k0_6:PySem.W.kitOne K (.ref C6) (.ref C0)=some false) (k1_6:PySem.W.kitOne K (.ref C6) (.ref C1)=some false) (k2_6:PySem.W.kitOne K (.ref C6) (.ref C2)=some false) (k3_6:PySem.W.kitOne K (.ref C6) (.ref C3)=some false) (k4_6:PySem.W.kitOne K (.ref C6) (.ref C4)=some false) (k5_6:PySem.W.kitOne K (.ref C6) (.ref C5)=some false) (k6_6:PySem.W.kitOne K (.ref C6) (.ref C6)=some true) (kv_6:PySem.W.kitOne K (.ref C6) (.type "ValueError")=some true) (xm_6:PySem.W.exmOne K (.ref C6) (.ref FE)=some true)
 (xr_0:PySem.W.exmOne K (.ref C0) (.ref FE)=some true)
 (xr_1:PySem.W.exmOne K (.ref C1) (.ref FE)=some true)
 (xr_2:PySem.W.exmOne K (.ref C2) (.ref FE)=some true)
 {tk_MOST_DEPTH:Tok}(y_MOST_DEPTH:PySem.W.nsIn K mainGlobals "MOST_DEPTH" = some (some (.int 5 tk_MOST_DEPTH)))
 {tk_MOST_KINDS:Tok}(y_MOST_KINDS:PySem.W.nsIn K mainGlobals "MOST_KINDS" = some (some (.int 16 tk_MOST_KINDS)))
 {tk_MOST_KNOTS:Tok}(y_MOST_KNOTS:PySem.W.nsIn K mainGlobals "MOST_KNOTS" = some (some (.int 24 tk_MOST_KNOTS)))
 {tk_MOST_LETTERS:Tok}(y_MOST_LETTERS:PySem.W.nsIn K mainGlobals "MOST_LETTERS" = some (some (.int 8 tk_MOST_LETTERS)))
 {tk_MOST_PARTS:Tok}(y_MOST_PARTS:PySem.W.nsIn K mainGlobals "MOST_PARTS" = some (some (.int 4 tk_MOST_PARTS)))
 {ad_BEGINNINGS:Addr}{es_BEGINNINGS:Array DictEntry}{ep_BEGINNINGS:Nat}{h_BEGINNINGS0:Int}{t_BEGINNINGS0:Tok}{b_BEGINNINGS0:Addr}{od_BEGINNINGS0:Option Addr}{sl_BEGINNINGS0:Array (Option Value)}{its_BEGINNINGS0:Array Value}{n_BEGINNINGS0:Nat}{h_BEGINNINGS1:Int}{t_BEGINNINGS1:Tok}{b_BEGINNINGS1:Addr}{od_BEGINNINGS1:Option Addr}{sl_BEGINNINGS1:Array (Option Value)}{its_BEGINNINGS1:Array Value}{n_BEGINNINGS1:Nat}{h_BEGINNINGS2:Int}{t_BEGINNINGS2:Tok}{b_BEGINNINGS2:Addr}{od_BEGINNINGS2:Option Addr}{sl_BEGINNINGS2:Array (Option Value)}{its_BEGINNINGS2:Array Value}{n_BEGINNINGS2:Nat}{h_BEGINNINGS3:Int}{t_BEGINNINGS3:Tok}{b_BEGINNINGS3:Addr}{od_BEGINNINGS3:Option Addr}{sl_BEGINNINGS3:Array (Option Value)}{its_BEGINNINGS3:Array Value}{n_BEGINNINGS3:Nat}{h_BEGINNINGS4:Int}{t_BEGINNINGS4:Tok}{b_BEGINNINGS4:Addr}{od_BEGINNINGS4:Option Addr}{sl_BEGINNINGS4:Array (Option Value)}{its_BEGINNINGS4:Array Value}{n_BEGINNINGS4:Nat}{h_BEGINNINGS5:Int}{t_BEGINNINGS5:Tok}{b_BEGINNINGS5:Addr}{od_BEGINNINGS5:Option Addr}{sl_BEGINNINGS5:Array (Option Value)}{its_BEGINNINGS5:Array Value}{n_BEGINNINGS5:Nat}(y_BEGINNINGS:PySem.W.nsIn K mainGlobals "BEGINNINGS" = some (some (.ref ad_BEGINNINGS))) (sy_BEGINNINGS:(ad_BEGINNINGS==sysModules)=false) (k_BEGINNINGS:K.lookup ad_BEGINNINGS=some ⟨.type "dict",none,.dict es_BEGINNINGS ep_BEGINNINGS,#[]⟩) (en_BEGINNINGS:es_BEGINNINGS.toList=[⟨h_BEGINNINGS0,.str "any" t_BEGINNINGS0,.ref b_BEGINNINGS0⟩,⟨h_BEGINNINGS1,.str "all" t_BEGINNINGS1,.ref b_BEGINNINGS1⟩,⟨h_BEGINNINGS2,.str "1of" t_BEGINNINGS2,.ref b_BEGINNINGS2⟩,⟨h_BEGINNINGS3,.str "2of" t_BEGINNINGS3,.ref b_BEGINNINGS3⟩,⟨h_BEGINNINGS4,.str "3of" t_BEGINNINGS4,.ref b_BEGINNINGS4⟩,⟨h_BEGINNINGS5,.str "4of" t_BEGINNINGS5,.ref b_BEGINNINGS5⟩])
 (hh_BEGINNINGS0:h_BEGINNINGS0=L2.q9X w (.inr "any")) (kb_BEGINNINGS0:K.lookup b_BEGINNINGS0=some ⟨.type "tuple",od_BEGINNINGS0,.seq its_BEGINNINGS0 n_BEGINNINGS0,sl_BEGINNINGS0⟩) (zz_BEGINNINGS0:its_BEGINNINGS0.size<=sizeLine) (vv_BEGINNINGS0:Vals ([D.str "any"].map scV) its_BEGINNINGS0.toList)
 (hh_BEGINNINGS1:h_BEGINNINGS1=L2.q9X w (.inr "all")) (kb_BEGINNINGS1:K.lookup b_BEGINNINGS1=some ⟨.type "tuple",od_BEGINNINGS1,.seq its_BEGINNINGS1 n_BEGINNINGS1,sl_BEGINNINGS1⟩) (zz_BEGINNINGS1:its_BEGINNINGS1.size<=sizeLine) (vv_BEGINNINGS1:Vals ([D.str "all"].map scV) its_BEGINNINGS1.toList)
 (hh_BEGINNINGS2:h_BEGINNINGS2=L2.q9X w (.inr "1of")) (kb_BEGINNINGS2:K.lookup b_BEGINNINGS2=some ⟨.type "tuple",od_BEGINNINGS2,.seq its_BEGINNINGS2 n_BEGINNINGS2,sl_BEGINNINGS2⟩) (zz_BEGINNINGS2:its_BEGINNINGS2.size<=sizeLine) (vv_BEGINNINGS2:Vals ([D.str "some",D.int 1].map scV) its_BEGINNINGS2.toList)
 (hh_BEGINNINGS3:h_BEGINNINGS3=L2.q9X w (.inr "2of")) (kb_BEGINNINGS3:K.lookup b_BEGINNINGS3=some ⟨.type "tuple",od_BEGINNINGS3,.seq its_BEGINNINGS3 n_BEGINNINGS3,sl_BEGINNINGS3⟩) (zz_BEGINNINGS3:its_BEGINNINGS3.size<=sizeLine) (vv_BEGINNINGS3:Vals ([D.str "some",D.int 2].map scV) its_BEGINNINGS3.toList)
 (hh_BEGINNINGS4:h_BEGINNINGS4=L2.q9X w (.inr "3of")) (kb_BEGINNINGS4:K.lookup b_BEGINNINGS4=some ⟨.type "tuple",od_BEGINNINGS4,.seq its_BEGINNINGS4 n_BEGINNINGS4,sl_BEGINNINGS4⟩) (zz_BEGINNINGS4:its_BEGINNINGS4.size<=sizeLine) (vv_BEGINNINGS4:Vals ([D.str "some",D.int 3].map scV) its_BEGINNINGS4.toList)
 (hh_BEGINNINGS5:h_BEGINNINGS5=L2.q9X w (.inr "4of")) (kb_BEGINNINGS5:K.lookup b_BEGINNINGS5=some ⟨.type "tuple",od_BEGINNINGS5,.seq its_BEGINNINGS5 n_BEGINNINGS5,sl_BEGINNINGS5⟩) (zz_BEGINNINGS5:its_BEGINNINGS5.size<=sizeLine) (vv_BEGINNINGS5:Vals ([D.str "some",D.int 4].map scV) its_BEGINNINGS5.toList)
 {ad_KEPT_WORDS:Addr}{od_KEPT_WORDS:Option Addr}{sl_KEPT_WORDS:Array (Option Value)}{its_KEPT_WORDS:Array Value}{n_KEPT_WORDS:Nat}(y_KEPT_WORDS:PySem.W.nsIn K mainGlobals "KEPT_WORDS" = some (some (.ref ad_KEPT_WORDS))) (k_KEPT_WORDS:K.lookup ad_KEPT_WORDS=some ⟨.type "tuple",od_KEPT_WORDS,.seq its_KEPT_WORDS n_KEPT_WORDS,sl_KEPT_WORDS⟩) (zz_KEPT_WORDS:its_KEPT_WORDS.size<=sizeLine) (vv_KEPT_WORDS:Vals (wKEPT_WORDS.map V.str) its_KEPT_WORDS.toList)
 (zValueError:PySem.W.nsIn K mainGlobals "ValueError" = some none) (zall:PySem.W.nsIn K mainGlobals "all" = some none) (zisinstance:PySem.W.nsIn K mainGlobals "isinstance" = some none) (zlen:PySem.W.nsIn K mainGlobals "len" = some none) (zrange:PySem.W.nsIn K mainGlobals "range" = some none) (zstr:PySem.W.nsIn K mainGlobals "str" = some none) (zsum:PySem.W.nsIn K mainGlobals "sum" = some none) (ztuple:PySem.W.nsIn K mainGlobals "tuple" = some none) :
 ∃ fd:FuncData,(∀ (s:Shared) (v:Value),BindsTo s fd ⟨[v],[]⟩ [("script",v)])/\∀ base:Heap,K.In base->base.Ns mainGlobals mg->FnOk l.prog w K mg base CX0 17 fa fd ["script"] (q9W K):=by
 have e:=hfa.symm.trans (PySem.W.mg_of X G a21)
 cases e
 have F1:=K7 (st:=s___init__) l1 c1 k1
 have b1:=F1.binds (ps:=["self"]) λ o_ o_ o_ o_ o_ o_=>V9 λ o_=>rfl
 have F2:=K7 (st:=s_add) l2 c2 k2
 have b2:=F2.binds (ps:=["self","name","need"]) λ o_ o_ o_ o_ o_ o_=>z0F λ o_ o_ o_=>rfl
 have F3:=K7 (st:=s_is_name) l3 c3 k3
 have b3:=F3.binds (ps:=["text"]) λ o_ o_ o_ o_ o_ o_=>V9 λ o_=>rfl
 have F4:=K7 (st:=s_parts_of) l4 c4 k4
 have b4:=F4.binds (ps:=["need"]) λ o_ o_ o_ o_ o_ o_=>V9 λ o_=>rfl
 have F5:=K7 (st:=s_parts_asked) l5 c5 k5
 have b5:=F5.binds (ps:=["need"]) λ o_ o_ o_ o_ o_ o_=>V9 λ o_=>rfl
 have F6:=K7 (st:=s_knots_of) l6 c6 k6
 have b6:=F6.binds (ps:=["need"]) λ o_ o_ o_ o_ o_ o_=>V9 λ o_=>rfl
 have F7:=K7 (st:=s_split_parts) l7 c7 k7
 have b7:=F7.binds (ps:=["text"]) λ o_ o_ o_ o_ o_ o_=>V9 λ o_=>rfl
 have F8:=K7 (st:=s_read_need) l8 c8 k8
 have b8:=F8.binds (ps:=["text","depth"]) λ o_ o_ o_ o_ o_ o_=>q4n λ o_ o_=>rfl
 have F9:=K7 (st:=s_read_line) l9 c9 k9
 have b9:=F9.binds (ps:=["line","web"]) λ o_ o_ o_ o_ o_ o_=>q4n λ o_ o_=>rfl
 have F10:=K7 (st:=s_read) l10 c10 k10
 have b10:=F10.binds (ps:=["text"]) λ o_ o_ o_ o_ o_ o_=>V9 λ o_=>rfl
 have F11:=K7 (st:=s__law_cell_at) l11 c11 k11
 have b11:=F11.binds (ps:=["script","k"]) λ o_ o_ o_ o_ o_ o_=>q4n λ o_ o_=>rfl
 have F12:=K7 (st:=s__law_next) l12 c12 k12
 have b12:=F12.binds (ps:=["seed"]) λ o_ o_ o_ o_ o_ o_=>V9 λ o_=>rfl
 have F13:=K7 (st:=s__law_names) l13 c13 k13
 have b13:=F13.binds (ps:=["cell","many"]) λ o_ o_ o_ o_ o_ o_=>q4n λ o_ o_=>rfl
 have F14:=K7 (st:=s__law_need) l14 c14 k14
 have b14:=F14.binds (ps:=["seed","deep","pool","simple"]) λ o_ o_ o_ o_ o_ o_=>z3T λ o_ o_ o_ o_=>rfl
 have F15:=K7 (st:=s__law_parts) l15 c15 k15
 have b15:=F15.binds (ps:=["need"]) λ o_ o_ o_ o_ o_ o_=>V9 λ o_=>rfl
 have F16:=K7 (st:=s__law_drawn) l16 c16 k16
 have b16:=F16.binds (ps:=["script","simple"]) λ o_ o_ o_ o_ o_ o_=>q4n λ o_ o_=>rfl
 have F17:=K7 (st:=s__law_text) l17 c17 k17
 have b17:=F17.binds (ps:=["need"]) λ o_ o_ o_ o_ o_ o_=>V9 λ o_=>rfl
 have F18:=K7 (st:=s__law_tried) l18 c18 k18
 have b18:=F18.binds (ps:=["text"]) λ o_ o_ o_ o_ o_ o_=>V9 λ o_=>rfl
 have F19:=K7 (st:=J1) l19 c19 k19
 have b19:=F19.binds (ps:=["cell"]) λ o_ o_ o_ o_ o_ o_=>V9 λ o_=>rfl
 have F20:=K7 (st:=J2) l20 c20 k20
 have b20:=F20.binds (ps:=["row","way","cell"]) λ o_ o_ o_ o_ o_ o_=>z0F λ o_ o_ o_=>rfl
 have F21:=K7 (st:=s_law) l21 c21 k21
 have b21:=F21.binds (ps:=["script"]) λ o_ o_ o_ o_ o_ o_=>V9 λ o_=>rfl
 have F22:=K7 (st:=s__law_kind) l22 c22 k22
 have b22:=F22.binds (ps:=["e"]) λ o_ o_ o_ o_ o_ o_=>V9 λ o_=>rfl
 exact ⟨PySem.W.fnOf "law" "law" (defArgs s_law) (defBody s_law) (defScope s_law) .none kV21 dc21 pm21 an21 cd21 ct21,λ s v=>.of_eq rfl,λ base o_ o_=>(z3S (cl:=λ o_=>CW) (R_init:=F1) (MkW:=⟨mk,a1,i1,kc⟩) (b_init:=b1) (m_Web:=PySem.W.mg_of X G aC) (ClW:=⟨pg,hd,po,sa⟩) (NaW:=nF) (R_add:=F2) (M_add:=⟨a2,i2,k2⟩) (B_add:=b2) (D_is_name:=⟨F3,b3,PySem.W.mg_of X G a3⟩) (D_parts_of:=⟨F4,b4,PySem.W.mg_of X G a4⟩) (D_parts_asked:=⟨F5,b5,PySem.W.mg_of X G a5⟩) (D_knots_of:=⟨F6,b6,PySem.W.mg_of X G a6⟩) (D_split_parts:=⟨F7,b7,PySem.W.mg_of X G a7⟩) (D_read_need:=⟨F8,b8,PySem.W.mg_of X G a8⟩) (D_read_line:=⟨F9,b9,PySem.W.mg_of X G a9⟩) (D_read:=⟨F10,b10,PySem.W.mg_of X G a10⟩) (D__law_cell_at:=⟨F11,b11,PySem.W.mg_of X G a11⟩) (D__law_next:=⟨F12,b12,PySem.W.mg_of X G a12⟩) (D__law_names:=⟨F13,b13,PySem.W.mg_of X G a13⟩) (D__law_need:=⟨F14,b14,PySem.W.mg_of X G a14⟩) (D__law_parts:=⟨F15,b15,PySem.W.mg_of X G a15⟩) (D__law_drawn:=⟨F16,b16,PySem.W.mg_of X G a16⟩) (D__law_text:=⟨F17,b17,PySem.W.mg_of X G a17⟩) (D__law_tried:=⟨F18,b18,PySem.W.mg_of X G a18⟩) (D__law_bad_need:=⟨F19,b19,PySem.W.mg_of X G a19⟩) (D__law_bad_line:=⟨F20,b20,PySem.W.mg_of X G a20⟩) (D_law:=⟨F21,b21,PySem.W.mg_of X G a21⟩) (D__law_kind:=⟨F22,b22,PySem.W.mg_of X G a22⟩) (c_MOST_DEPTH:=PySem.W.mg_of X G y_MOST_DEPTH) (c_MOST_KINDS:=PySem.W.mg_of X G y_MOST_KINDS) (c_MOST_KNOTS:=PySem.W.mg_of X G y_MOST_KNOTS) (c_MOST_LETTERS:=PySem.W.mg_of X G y_MOST_LETTERS) (c_MOST_PARTS:=PySem.W.mg_of X G y_MOST_PARTS) (ce:=ceOf [C0,C1,C2,C3,C4,C5,C6]) (FE:=FE) (e_FeedError:=PySem.W.mg_of X G xFE) (e_NoName:=PySem.W.mg_of X G x0) (e_Twice:=PySem.W.mg_of X G x1) (e_Full:=PySem.W.mg_of X G x2) (e_NoKind:=PySem.W.mg_of X G x3) (e_TooLarge:=PySem.W.mg_of X G x4) (e_NotPlain:=PySem.W.mg_of X G x5) (e_NoNote:=PySem.W.mg_of X G x6) (q_Full:=⟨_,x2,q_Full⟩) (q_NoName:=⟨_,x0,q_NoName⟩) (q_NoNote:=⟨_,x6,q_NoNote⟩) (q_Twice:=⟨_,x1,q_Twice⟩) (ko:=(List.forall_mem_cons.2 ⟨⟨by decide,⟨ga_6,gt_6,fc_6,sg_6,tk_6,mo_6,mb_6,cl_6⟩,k0_6,k1_6,k2_6,k3_6,k4_6,k5_6,k6_6,kv_6,xm_6⟩,(List.forall_mem_nil _)⟩)) (hxm:=(List.forall_mem_cons.2 ⟨⟨xr_0,⟨_,x0,q_NoName⟩⟩,(List.forall_mem_cons.2 ⟨⟨xr_1,⟨_,x1,q_Twice⟩⟩,(List.forall_mem_cons.2 ⟨⟨xr_2,⟨_,x2,q_Full⟩⟩,(List.forall_mem_nil _)⟩)⟩)⟩)) (w_BEGINNINGS:=PySem.W.mg_of X G y_BEGINNINGS) (t_BEGINNINGS:=KDict.of sy_BEGINNINGS k_BEGINNINGS (by rw [en_BEGINNINGS];exact (.cons ⟨t_BEGINNINGS0,b_BEGINNINGS0,_,its_BEGINNINGS0,n_BEGINNINGS0,by rw [hh_BEGINNINGS0],kb_BEGINNINGS0,rfl,rfl,zz_BEGINNINGS0,vv_BEGINNINGS0⟩ (.cons ⟨t_BEGINNINGS1,b_BEGINNINGS1,_,its_BEGINNINGS1,n_BEGINNINGS1,by rw [hh_BEGINNINGS1],kb_BEGINNINGS1,rfl,rfl,zz_BEGINNINGS1,vv_BEGINNINGS1⟩ (.cons ⟨t_BEGINNINGS2,b_BEGINNINGS2,_,its_BEGINNINGS2,n_BEGINNINGS2,by rw [hh_BEGINNINGS2],kb_BEGINNINGS2,rfl,rfl,zz_BEGINNINGS2,vv_BEGINNINGS2⟩ (.cons ⟨t_BEGINNINGS3,b_BEGINNINGS3,_,its_BEGINNINGS3,n_BEGINNINGS3,by rw [hh_BEGINNINGS3],kb_BEGINNINGS3,rfl,rfl,zz_BEGINNINGS3,vv_BEGINNINGS3⟩ (.cons ⟨t_BEGINNINGS4,b_BEGINNINGS4,_,its_BEGINNINGS4,n_BEGINNINGS4,by rw [hh_BEGINNINGS4],kb_BEGINNINGS4,rfl,rfl,zz_BEGINNINGS4,vv_BEGINNINGS4⟩ (.cons ⟨t_BEGINNINGS5,b_BEGINNINGS5,_,its_BEGINNINGS5,n_BEGINNINGS5,by rw [hh_BEGINNINGS5],kb_BEGINNINGS5,rfl,rfl,zz_BEGINNINGS5,vv_BEGINNINGS5⟩ .nil))))))) (by decide +kernel)) (w_KEPT_WORDS:=PySem.W.mg_of X G y_KEPT_WORDS) (k_KEPT_WORDS:=k_KEPT_WORDS) (c_KEPT_WORDS:=rfl) (d_KEPT_WORDS:=rfl) (z_KEPT_WORDS:=zz_KEPT_WORDS) (v_KEPT_WORDS:=vv_KEPT_WORDS) (m_ValueError:=PySem.W.mg_none_of X G zValueError) (m_all:=PySem.W.mg_none_of X G zall) (m_isinstance:=PySem.W.mg_none_of X G zisinstance) (m_len:=PySem.W.mg_none_of X G zlen) (m_range:=PySem.W.mg_none_of X G zrange) (m_str:=PySem.W.mg_none_of X G zstr) (m_sum:=PySem.W.mg_none_of X G zsum) (m_tuple:=PySem.W.mg_none_of X G ztuple)).imp λ o_ o_ o_ o_ h=>z21 hkl h⟩
theorem walk {l:PySem.W.OpenLaw}{q:Program}{loose:List Str}{XP:(Str->Option Value)->Heap->Prop}{YP:World->Heap->Prop}{d:DefRec}{K:Params->PySem.W.Frag}(hn:l.most=some 63) (hdf:d.params.defaults=[])
 (hY:∀ (w:World) (h:Heap),YP w h->(K w.params).In h)
 (F:∀ (w:World) (mg:Str->Option Value) (fa:Addr) (h:Heap),(K w.params).In h->h.Ns mainGlobals mg->mg d.name=some (.ref fa) ->
  ∃ fd:FuncData,(∀ (s:Shared) (u:Value),BindsTo s fd ⟨[u],[]⟩ [("script",u)])/\∀ base:Heap,(K w.params).In base->base.Ns mainGlobals mg->FnOk l.prog w (K w.params) mg base CX0 17 fa fd ["script"] (q9W (K w.params))) :
 PySem.W.WalkO q loose XP YP l.row.toRowW d [] (λ f vs=>PySem.call f vs) :=
 L2.z0Z (n:=63) (k:=17) (x:="script") (CX:=λ o_=>CX0) (sp:=λ w=>q9W (K w.params)) hn (by decide) hdf ⟨rfl,by decide,by decide⟩ hY F (λ o_ o_ a ns hl o_ hS=>⟨a,ns,rfl,hS,hl,λ o_=>rfl⟩) λ o_ o_ o_ o_ o_ z=>z
theorem walkZ {q:Program}{loose:List Str}{XP:(Str->Option Value)->Heap->Prop}{r:PySem.W.RowW}{d:DefRec}{kwd:List (Str×Expr)}{run:Value->List Value->Sem Value}{as:List Addr}{K:Params->PySem.W.Frag}{n t:Nat}
 (e:∀ P,as=(K P).map (·.1)) (W:PySem.W.WalkO q loose XP (PySem.W.InK K) r d kwd run):PySem.W.WalkX q loose XP (PySem.W.X.obsZ as) (PySem.W.X.valZ K n t) r d kwd run :=
 λ w s₀ s₁ mg mb G y a o pm cd doc dV kV h1 h2 h3 h4 h5 h6 args vals as' L h7 h8 h9 h10 h11=>W w s₀ s₁ mg mb G (PySem.W.InK.keeps w _ _ (PySem.W.X.z_facts e y).2.1 L.keeps) a o pm cd doc dV kV h1 h2 h3 h4 h5 h6 args vals as' h7 h8 h9 h10 h11
end Fw
namespace Fw
def T0:PySem.Stmt:=top 0
def T1:PySem.Stmt:=top 1
def T2:PySem.Stmt:=top 2
def T3:PySem.Stmt:=top 3
def T4:PySem.Stmt:=top 4
def T5:PySem.Stmt:=top 5
def T6:PySem.Stmt:=top 6
def T7:PySem.Stmt:=top 7
def T8:PySem.Stmt:=top 8
def T9:PySem.Stmt:=top 9
def T10:PySem.Stmt:=top 10
def T11:PySem.Stmt:=top 11
def T12:PySem.Stmt:=top 12
def T13:PySem.Stmt:=top 13
def T14:PySem.Stmt:=top 14
def T15:PySem.Stmt:=top 15
def T16:PySem.Stmt:=top 16
def T17:PySem.Stmt:=top 17
def T18:PySem.Stmt:=top 18
def T19:PySem.Stmt:=top 19
def T20:PySem.Stmt:=top 20
def T21:PySem.Stmt:=top 21
def T22:PySem.Stmt:=top 22
def T23:PySem.Stmt:=top 23
def T24:PySem.Stmt:=top 24
def T25:PySem.Stmt:=top 25
def T26:PySem.Stmt:=top 26
def T27:PySem.Stmt:=top 27
def T28:PySem.Stmt:=top 28
def T29:PySem.Stmt:=top 29
def T30:PySem.Stmt:=top 30
def T31:PySem.Stmt:=top 31
def T32:PySem.Stmt:=top 32
def T33:PySem.Stmt:=top 33
def T34:PySem.Stmt:=top 34
def T35:PySem.Stmt:=top 35
def T36:PySem.Stmt:=top 36
def T37:PySem.Stmt:=top 37
def T38:PySem.Stmt:=top 38
def T39:PySem.Stmt:=top 39
def T40:PySem.Stmt:=top 40
def T41:PySem.Stmt:=top 41
def pwq:PySem.Program:={ PySem.Challenge.pw_feedweb_k21_unread with main:={ PySem.Challenge.pw_feedweb_k21_unread.main with body:=[T0,T1,T2,T3,T4,T5,T6,T7,T8,T9,T10,T11,T12,T13,T14,T15,T16,T17,T18,T19,T20,T21,T22,T23,T24,T25,T26,T27,T28,T29,T30,T31,T32,T33,T34,T35,T36,T37,T38,T39,T40,T41] } }
def rwq:PySem.W.OpenLaw:={ PySem.Challenge.rw_feedweb_k21_unread with prog:=pwq }
end Fw
open PySem PySem.W PyProof.Rows
set_option maxRecDepth 100000 in
set_option maxHeartbeats 0 in
theorem Fw.holdsq:Fw.rwq.Holds:=by
 w_on;refine PySem.W.holds_law (by kernel_rfl) λ said=>?_;z_head;(case hw=>w_witness2)
 k_fill
 refine Fw.walkZ (λ o_=>rfl) (Fw.walk (l:=Fw.rwq) rfl rfl (λ w h Y=>Y) ?F)
 case F =>
  intro w mg fa h KX G hmg
  refine' Fw.all_mk KX G hmg ?nl ?aC ?a1 ?i1 ?l1 ?c1 ?k1 ?a2 ?i2 ?l2 ?c2 ?k2 ?a3 ?l3 ?c3 ?k3 ?a4 ?l4 ?c4 ?k4 ?a5 ?l5 ?c5 ?k5 ?a6 ?l6 ?c6 ?k6 ?a7 ?l7 ?c7 ?k7 ?a8 ?l8 ?c8 ?k8 ?a9 ?l9 ?c9 ?k9 ?a10 ?l10 ?c10 ?k10 ?a11 ?l11 ?c11 ?k11 ?a12 ?l12 ?c12 ?k12 ?a13 ?l13 ?c13 ?k13 ?a14 ?l14 ?c14 ?k14 ?a15 ?l15 ?c15 ?k15 ?a16 ?l16 ?c16 ?k16 ?a17 ?l17 ?c17 ?k17 ?a18 ?l18 ?c18 ?k18 ?a19 ?l19 ?c19 ?k19 ?a20 ?l20 ?c20 ?k20 ?a21 ?l21 ?c21 ?k21 ?a22 ?l22 ?c22 ?k22 ?pg ?hd ?po ?sa ?mk ?kc ?nF ?x0 ?x1 ?x2 ?x3 ?x4 ?x5 ?x6 ?xFE ?q_Full ?q_NoName ?q_NoNote ?q_Twice ?ga_6 ?gt_6 ?fc_6 ?sg_6 ?tk_6 ?mo_6 ?mb_6 ?cl_6 ?k0_6 ?k1_6 ?k2_6 ?k3_6 ?k4_6 ?k5_6 ?k6_6 ?kv_6 ?xm_6 ?xr_0 ?xr_1 ?xr_2 ?y_MOST_DEPTH ?y_MOST_KINDS ?y_MOST_KNOTS ?y_MOST_LETTERS ?y_MOST_PARTS ?y_BEGINNINGS ?sy_BEGINNINGS ?k_BEGINNINGS ?en_BEGINNINGS ?hh_BEGINNINGS0 ?kb_BEGINNINGS0 ?zz_BEGINNINGS0 ?vv_BEGINNINGS0 ?hh_BEGINNINGS1 ?kb_BEGINNINGS1 ?zz_BEGINNINGS1 ?vv_BEGINNINGS1 ?hh_BEGINNINGS2 ?kb_BEGINNINGS2 ?zz_BEGINNINGS2 ?vv_BEGINNINGS2 ?hh_BEGINNINGS3 ?kb_BEGINNINGS3 ?zz_BEGINNINGS3 ?vv_BEGINNINGS3 ?hh_BEGINNINGS4 ?kb_BEGINNINGS4 ?zz_BEGINNINGS4 ?vv_BEGINNINGS4 ?hh_BEGINNINGS5 ?kb_BEGINNINGS5 ?zz_BEGINNINGS5 ?vv_BEGINNINGS5 ?y_KEPT_WORDS ?k_KEPT_WORDS ?zz_KEPT_WORDS ?vv_KEPT_WORDS ?zValueError ?zall ?zisinstance ?zlen ?zrange ?zstr ?zsum ?ztuple
  (case nl=>first | k_is | rfl | decide +kernel)
  (case aC=>k_is)
  (case a1=>k_is)
  (case i1=>k_is)
  (case l1=>k_is)
  (case c1=>k_is)
  (case k1=>k_is)
  (case a2=>k_is)
  (case i2=>k_is)
  (case l2=>k_is)
  (case c2=>k_is)
  (case k2=>k_is)
  (case a3=>k_is)
  (case l3=>k_is)
  (case c3=>k_is)
  (case k3=>k_is)
  (case a4=>k_is)
  (case l4=>k_is)
  (case c4=>k_is)
  (case k4=>k_is)
  (case a5=>k_is)
  (case l5=>k_is)
  (case c5=>k_is)
  (case k5=>k_is)
  (case a6=>k_is)
  (case l6=>k_is)
  (case c6=>k_is)
  (case k6=>k_is)
  (case a7=>k_is)
  (case l7=>k_is)
  (case c7=>k_is)
  (case k7=>k_is)
  (case a8=>k_is)
  (case l8=>k_is)
  (case c8=>k_is)
  (case k8=>k_is)
  (case a9=>k_is)
  (case l9=>k_is)
  (case c9=>k_is)
  (case k9=>k_is)
  (case a10=>k_is)
  (case l10=>k_is)
  (case c10=>k_is)
  (case k10=>k_is)
  (case a11=>k_is)
  (case l11=>k_is)
  (case c11=>k_is)
  (case k11=>k_is)
  (case a12=>k_is)
  (case l12=>k_is)
  (case c12=>k_is)
  (case k12=>k_is)
  (case a13=>k_is)
  (case l13=>k_is)
  (case c13=>k_is)
  (case k13=>k_is)
  (case a14=>k_is)
  (case l14=>k_is)
  (case c14=>k_is)
  (case k14=>k_is)
  (case a15=>k_is)
  (case l15=>k_is)
  (case c15=>k_is)
  (case k15=>k_is)
  (case a16=>k_is)
  (case l16=>k_is)
  (case c16=>k_is)
  (case k16=>k_is)
  (case a17=>k_is)
  (case l17=>k_is)
  (case c17=>k_is)
  (case k17=>k_is)
  (case a18=>k_is)
  (case l18=>k_is)
  (case c18=>k_is)
  (case k18=>k_is)
  (case a19=>k_is)
  (case l19=>k_is)
  (case c19=>k_is)
  (case k19=>k_is)
  (case a20=>k_is)
  (case l20=>k_is)
  (case c20=>k_is)
  (case k20=>k_is)
  (case a21=>k_is)
  (case l21=>k_is)
  (case c21=>k_is)
  (case k21=>k_is)
  (case a22=>k_is)
  (case l22=>k_is)
  (case c22=>k_is)
  (case k22=>k_is)
  (case pg=>k_is)
  (case hd=>k_is)
  (case po=>k_is)
  (case sa=>k_is)
  (case mk=>k_is)
  (case kc=>k_is)
  (case nF=>k_is)
  (case x0=>k_is)
  (case x1=>k_is)
  (case x2=>k_is)
  (case x3=>k_is)
  (case x4=>k_is)
  (case x5=>k_is)
  (case x6=>k_is)
  (case xFE=>k_is)
  (case q_Full=>first | k_exc | kernel_rfl | rfl)
  (case q_NoName=>first | k_exc | kernel_rfl | rfl)
  (case q_NoNote=>first | k_exc | kernel_rfl | rfl)
  (case q_Twice=>first | k_exc | kernel_rfl | rfl)
  (case ga_6=>first | k_is | kernel_rfl | rfl)
  (case gt_6=>first | k_is | kernel_rfl | rfl)
  (case fc_6=>first | k_is | kernel_rfl | rfl)
  (case sg_6=>first | k_is | kernel_rfl | rfl)
  (case tk_6=>first | k_is | kernel_rfl | rfl)
  (case mo_6=>first | k_is | kernel_rfl | rfl)
  (case mb_6=>first | k_is | kernel_rfl | rfl)
  (case cl_6=>first | k_is | kernel_rfl | rfl)
  (case k0_6=>first | kernel_rfl | rfl)
  (case k1_6=>first | kernel_rfl | rfl)
  (case k2_6=>first | kernel_rfl | rfl)
  (case k3_6=>first | kernel_rfl | rfl)
  (case k4_6=>first | kernel_rfl | rfl)
  (case k5_6=>first | kernel_rfl | rfl)
  (case k6_6=>first | kernel_rfl | rfl)
  (case kv_6=>first | kernel_rfl | rfl)
  (case xm_6=>first | kernel_rfl | rfl)
  (case xr_0=>first | kernel_rfl | rfl)
  (case xr_1=>first | kernel_rfl | rfl)
  (case xr_2=>first | kernel_rfl | rfl)
  (case y_MOST_DEPTH=>k_is)
  (case y_MOST_KINDS=>k_is)
  (case y_MOST_KNOTS=>k_is)
  (case y_MOST_LETTERS=>k_is)
  (case y_MOST_PARTS=>k_is)
  (case y_BEGINNINGS=>k_is)
  (case sy_BEGINNINGS=>rfl)
  (case k_BEGINNINGS=>k_is)
  (case en_BEGINNINGS=>rfl)
  (case hh_BEGINNINGS0=>first | rfl | kernel_rfl)
  (case kb_BEGINNINGS0=>k_is)
  (case zz_BEGINNINGS0=>decide)
  (case vv_BEGINNINGS0=>exact (.cons ⟨_,rfl⟩ .nil))
  (case hh_BEGINNINGS1=>first | rfl | kernel_rfl)
  (case kb_BEGINNINGS1=>k_is)
  (case zz_BEGINNINGS1=>decide)
  (case vv_BEGINNINGS1=>exact (.cons ⟨_,rfl⟩ .nil))
  (case hh_BEGINNINGS2=>first | rfl | kernel_rfl)
  (case kb_BEGINNINGS2=>k_is)
  (case zz_BEGINNINGS2=>decide)
  (case vv_BEGINNINGS2=>exact (.cons ⟨_,rfl⟩ (.cons ⟨_,rfl⟩ .nil)))
  (case hh_BEGINNINGS3=>first | rfl | kernel_rfl)
  (case kb_BEGINNINGS3=>k_is)
  (case zz_BEGINNINGS3=>decide)
  (case vv_BEGINNINGS3=>exact (.cons ⟨_,rfl⟩ (.cons ⟨_,rfl⟩ .nil)))
  (case hh_BEGINNINGS4=>first | rfl | kernel_rfl)
  (case kb_BEGINNINGS4=>k_is)
  (case zz_BEGINNINGS4=>decide)
  (case vv_BEGINNINGS4=>exact (.cons ⟨_,rfl⟩ (.cons ⟨_,rfl⟩ .nil)))
  (case hh_BEGINNINGS5=>first | rfl | kernel_rfl)
  (case kb_BEGINNINGS5=>k_is)
  (case zz_BEGINNINGS5=>decide)
  (case vv_BEGINNINGS5=>exact (.cons ⟨_,rfl⟩ (.cons ⟨_,rfl⟩ .nil)))
  (case y_KEPT_WORDS=>k_is)
  (case k_KEPT_WORDS=>k_is)
  (case zz_KEPT_WORDS=>decide)
  (case vv_KEPT_WORDS=>exact (.cons ⟨_,rfl⟩ (.cons ⟨_,rfl⟩ (.cons ⟨_,rfl⟩ (.cons ⟨_,rfl⟩ .nil)))))
  (case zValueError=>k_is)
  (case zall=>k_is)
  (case zisinstance=>k_is)
  (case zlen=>k_is)
  (case zrange=>k_is)
  (case zstr=>k_is)
  (case zsum=>k_is)
  (case ztuple=>k_is)
theorem PySem.Challenge.cw_feedweb_k21_unread_holds : PySem.Challenge.rw_feedweb_k21_unread.Holds :=
 Fw.holdsq
