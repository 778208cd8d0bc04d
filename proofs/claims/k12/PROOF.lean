import PyProof.Rows.All
import Wide.All
import OpenK.AllK
import Wide.FinOn
import Lean
import PyProof.EqAt
import PyProof.EqKinds
import PyProof.TupleCall
import PySem.Challenge.RW_feedweb_k12_whole_cut
set_option tactic.hygienic false
set_option genInjectivity false
set_option Elab.async false
set_option linter.all false
set_option maxRecDepth 100000
section
open PySem PySem.Spec PyProof.Rows
noncomputable def N00:=@List.mem_cons_self
noncomputable def N01:=@List.length_map
noncomputable def N02:=@List.mem_cons_of_mem
noncomputable def N03:=@wpAny_bind
noncomputable def N04:=@List.getElem?_eq_some_iff
noncomputable def N05:=@List.mem_append_right
noncomputable def N06:=@List.length_append
noncomputable def N07:=@Nat.le_refl
noncomputable def N08:=@List.getElem?_eq_getElem
noncomputable def N09:=@List.map_cons
noncomputable def N0a:=@List.mem_append
noncomputable def N0b:=@Option.some.inj
noncomputable def N0c:=@List.mem_cons
noncomputable def N0d:=@Bool.false_ne_true
noncomputable def N0e:=@decide_eq_false
noncomputable def N0f:=@List.mem_singleton
noncomputable def N0g:=@Array.length_toList
noncomputable def N0h:=@List.length_cons
noncomputable def N0i:=@List.getElem?_map
noncomputable def N0j:=@if_pos
noncomputable def N0k:=@Or.inl
noncomputable def N0l:=@if_neg
noncomputable def N0m:=@List.size_toArray
noncomputable def N0n:=@Nat.lt_of_lt_of_le
noncomputable def N0o:=@decide_eq_true
noncomputable def N0p:=@wpAny_mono
noncomputable def N0q:=@Bool.and_eq_true
noncomputable def N0r:=@Or.inr
noncomputable def N0s:=@Int.emod_nonneg
noncomputable def N0t:=@Int.emod_lt_of_pos
noncomputable def N0u:=@List.mem_of_getElem?
noncomputable def N0v:=@Nat.le_trans
noncomputable def N0w:=@List.mem_append_left
noncomputable def N0x:=@List.getElem?_append_left
noncomputable def N0y:=@wpAny_pure
noncomputable def N0z:=@List.getElem_mem
noncomputable def N10:=@List.append_nil
noncomputable def N11:=@List.length_singleton
noncomputable def N12:=@Nat.ne_of_lt
noncomputable def N13:=@List.length_replicate
noncomputable def N14:=@List.map_append
noncomputable def N15:=@List.lookup_cons
noncomputable def N16:=@List.length_take
noncomputable def N17:=@List.length_range
noncomputable def N18:=@beq_eq_false_iff_ne
noncomputable def N19:=@List.getElem?_append_right
noncomputable def N1a:=@Nat.lt_irrefl
noncomputable def N1b:=@Nat.zero_le
noncomputable def N1c:=@List.drop_eq_nil_iff
noncomputable def N1d:=@List.not_mem_nil
noncomputable def N1e:=@List.filter_cons
noncomputable def N1f:=@Ne.symm
noncomputable def N1g:=@List.length_set
noncomputable def N1h:=@List.drop_length
noncomputable def N1i:=@List.any_cons
noncomputable def N1j:=@List.getElem?_range
noncomputable def N1k:=@List.length_drop
noncomputable def N1l:=@decide_eq_true_iff
noncomputable def N1m:=@List.map_map
noncomputable def N1n:=@Classical.byContradiction
noncomputable def N1o:=@Heap.get?_push_of_some
noncomputable def N1p:=@Heap.lt_size
noncomputable def N1q:=@Heap.get?_push_size
noncomputable def N1r:=@List.zip_cons_cons
noncomputable def N1s:=@List.nodup_cons
noncomputable def N1t:=@List.nodup_append
noncomputable def N1u:=@List.mem_filter
noncomputable def N1v:=@List.nil_append
noncomputable def N1w:=@List.append_assoc
noncomputable def N1x:=@Option.map_eq_some_iff
noncomputable def N1y:=@Bool.eq_iff_iff
noncomputable def N1z:=@List.mem_map
noncomputable def N20:=@List.take_length
noncomputable def N21:=@List.all_eq_true
noncomputable def N22:=@List.length_filter_le
noncomputable def N23:=@List.filter_sublist
noncomputable def N24:=@List.of_mem_zip
noncomputable def N25:=@List.map_congr_left
noncomputable def N26:=@Int.toNat_of_nonneg
noncomputable def N27:=@List.nodup_nil
noncomputable def N28:=@List.mem_of_mem_take
end
local macro_rules | `(tactic| nofun)=>`(tactic| first | exact Or.inl rfl | exact Or.inr rfl | exact Or.inr (Or.inl rfl) | exact Or.inr (Or.inr rfl) | exact ⟨rfl,rfl,rfl,by decide +kernel,rfl,by decide +kernel,by decide +kernel⟩ | assumption)
local macro_rules | `(s! $x)=>match x.raw[0].isInterpolatedStrLit? with | some v=>`(PySem.Str.ofString $(Lean.quote v)) | none=>Lean.Macro.throwUnsupported
local macro_rules | `(tactic| omega)=>`(tactic| first | exact N0v (by assumption) (by decide) | fail)
namespace L2
open PySem PySem.Spec PyProof.Rows
noncomputable abbrev Key:=Sum Int Str
noncomputable def keyIs:Key->Value->Bool
 | .inl k,v=>Value.isInt k v
 | .inr x,v=>Value.isStrOf x v
noncomputable def keyH (w:World):Key->Int
 | .inl k=>hashInt k
 | .inr x=>hashStr w x
theorem keyIs_shape:∀ {k:Key}{v:Value},keyIs k v=true->(∃ i t,k=Sum.inl i/\v=Value.int i t)\/(∃ x t,k=Sum.inr x/\v=Value.str x t)
 | .inl i,v,h=>by
  obtain ⟨t,e⟩:=Value.isInt_shape (k:=i) (v:=v) h
  exact .inl ⟨i,t,rfl,e⟩
 | .inr x,v,h=>by
  obtain ⟨t,e⟩:=Value.isStrOf_shape (x:=x) (v:=v) h
  exact .inr ⟨x,t,rfl,e⟩
theorem q8I (i:Int) (t:Tok):keyIs (.inl i) (.int i t)=true:=by simp [keyIs,Value.isInt]
theorem q8J (x:Str) (t:Tok):keyIs (.inr x) (.str x t)=true:=by simp [keyIs,Value.isStrOf]
theorem z4z (a b:Int):decide ((Sum.inl a:Key)=Sum.inl b)=(a==b):=by
 by_cases e:a=b
 ·subst e;simp
 ·have h:¬ (Sum.inl a:Key)=Sum.inl b:=λ q=>e (Sum.inl.inj q)
  rw [N0e h]
  exact (N18.mpr e).symm
theorem z4A (a b:Str):decide ((Sum.inr a:Key)=Sum.inr b)=decide (a=b):=by
 by_cases e:a=b
 ·subst e;simp
 ·have h:¬ (Sum.inr a:Key)=Sum.inr b:=λ q=>e (Sum.inr.inj q)
  rw [N0e h,N0e e]
theorem z4B (a:Int) (b:Str):decide ((Sum.inl a:Key)=Sum.inr b)=false:=N0e (λ q=>nomatch q)
theorem z4C (a:Str) (b:Int):decide ((Sum.inr a:Key)=Sum.inl b)=false:=N0e (λ q=>nomatch q)
noncomputable def K3 (prog:Program) (w:World):PySem.KeyKind prog w Key where
 is:=keyIs
 hash:=keyH w
 inj:=λ v a b ha hb=>by
  rcases keyIs_shape ha with ⟨i,t,rfl,rfl⟩ | ⟨x,t,rfl,rfl⟩
  ·rcases keyIs_shape hb with ⟨j,u,rfl,e⟩ | ⟨y,u,rfl,e⟩
   ·injection e with e1 _;rw [e1]
   ·exact nomatch e
  ·rcases keyIs_shape hb with ⟨j,u,rfl,e⟩ | ⟨y,u,rfl,e⟩
   ·exact nomatch e
   ·injection e with e1 _;rw [e1]
 byValue:=λ k v h=>by
  rcases keyIs_shape h with ⟨i,t,rfl,rfl⟩ | ⟨x,t,rfl,rfl⟩<;>rfl
 pyHash:=λ hv h=>by
  rcases keyIs_shape hv with ⟨i,t,rfl,rfl⟩ | ⟨x,t,rfl,rfl⟩
  ·exact wpAny_pyHash_int h
  ·exact wpAny_pyHash_str h
 eqBool:=λ hu hv h=>by
  rcases keyIs_shape hu with ⟨i,t,rfl,rfl⟩ | ⟨x,t,rfl,rfl⟩
  ·rcases keyIs_shape hv with ⟨j,u,rfl,rfl⟩ | ⟨y,u,rfl,rfl⟩
   ·rw [z4z] at h;exact wpAny_eqBool_int h
   ·rw [z4B] at h;exact SeqAt.EqAt.int_str i t y u _ _ _ _ h
  ·rcases keyIs_shape hv with ⟨j,u,rfl,rfl⟩ | ⟨y,u,rfl,rfl⟩
   ·rw [z4C] at h;exact SeqAt.EqAt.str_int x t j u _ _ _ _ h
   ·rw [z4A] at h;exact wpAny_eqBool_str h
 «strs»:=λ k x t v h=>by
  rcases keyIs_shape h with ⟨i,u,rfl,e⟩ | ⟨y,u,rfl,e⟩
  ·exact nomatch e
  ·injection e with e1 _
   subst e1
   cases v<;>rfl
theorem q65 (prog:Program) (w:World) (i:Int) (t:Tok):(K3 prog w).is (.inl i) (.int i t)=true:=q8I i t
theorem q66 (prog:Program) (w:World) (x:Str) (t:Tok):(K3 prog w).is (.inr x) (.str x t)=true:=q8J x t
set_option genInjectivity true in
inductive V where
 | non | bl (b:Bool) | int (i:Int) | str (x:Str) | byt (b:Array UInt8) | flt (b:UInt64) | ref (a:Addr) | ty (n:String)
 deriving DecidableEq
noncomputable def y3:V->Value->Prop
 | .non,u=>u=Value.none
 | .bl b,u=>u=Value.bool b
 | .int i,u=>∃ t,u=Value.int i t
 | .str x,u=>∃ t,u=Value.str x t
 | .byt b,u=>∃ t,u=Value.bytes b t
 | .flt b,u=>∃ t,u=Value.float b t
 | .ref a,u=>u=Value.ref a
 | .ty n,u=>u=Value.type n
noncomputable abbrev Vals:List V->List Value->Prop:=Paired y3
theorem Vals.length {xs:List V}{us:List Value}(r:Vals xs us):xs.length=us.length:=Paired.length r
theorem Vals.get:∀ {xs:List V}{us:List Value}{i:Nat}{x:V},Vals xs us->xs[i]? = some x->∃ u,us[i]? = some u/\y3 x u
 | _,_,_,_,.nil,e=>by simp at e
 | _,_,0,_,.cons r _,e=>by simp at e;subst e;exact ⟨_,rfl,r⟩
 | _,_,i+1,x,.cons _ t,e=>by
  obtain ⟨u,h1,h2⟩:=Vals.get (i:=i) (x:=x) t (by simpa using e)
  exact ⟨u,by simpa using h1,h2⟩
theorem Vals.set {x:V}{u:Value}(r:y3 x u):∀ {xs:List V}{us:List Value}(i:Nat),Vals xs us->Vals (xs.set i x) (us.set i u)
 | _,_,_,.nil=>.nil
 | _,_,0,.cons _ t=>.cons r t
 | _,_,i+1,.cons q t=>.cons q (Vals.set r i t)
theorem Vals.append:∀ {xs ys:List V}{us ws:List Value},Vals xs us->Vals ys ws->Vals (xs++ys) (us++ws)
 | _,_,_,_,.nil,s=>s
 | _,_,_,_,.cons r t,s=>.cons r (Vals.append t s)
theorem Vals.take:∀ {xs:List V}{us:List Value}(n:Nat),Vals xs us->Vals (xs.take n) (us.take n)
 | _,_,0,_=>.nil
 | _,_,_+1,.nil=>.nil
 | _,_,n+1,.cons r t=>.cons r (Vals.take n t)
theorem Vals.drop:∀ {xs:List V}{us:List Value}(n:Nat),Vals xs us->Vals (xs.drop n) (us.drop n)
 | _,_,0,r=>r
 | _,_,_+1,.nil=>.nil
 | _,_,n+1,.cons _ t=>Vals.drop n t
noncomputable def q4W:Option V->Option Value->Prop
 | some v,some u=>y3 v u
 | none,none=>True
 | _,_=>False
noncomputable def KV {κ:Type}:List (κ×V)->List (κ×Value)->Prop:=Paired λ (p:κ×V) (q:κ×Value)=>p.1=q.1/\y3 p.2 q.2
noncomputable def kV:Key->V
 | .inl i=>.int i
 | .inr x=>.str x
inductive HO where
 | lst (xs:List V)
 | tup (xs:List V)
 | dK (kvs:List (Key×V)) | dT (kvs:List (List Key×V))
 | set (S:Int->Bool) (n:Nat)
 | ins (C dx:Addr) (fs:List (Str×V))
 | own (x:Addr)
 | xd (fs:List (Str×V))
 | met (f x:Addr)
 | rng (lo hi:Int)
 | frz (o:Obj) (u:HO)
 | tbl (ps:Array Value)
 | ext (φ:Heap->Prop)
noncomputable abbrev Hp:=Addr->Option HO
noncomputable def upd (H:Hp) (a:Addr) (o:HO):Hp:=λ b=>if b=a then some o else H b
theorem j0 {H:Hp}{a:Addr}{o:HO}:upd H a o a=some o:=by unfold upd;rw [N0j rfl]
theorem upd_ne {H:Hp}{a b:Addr}{o:HO}(h:b≠a):upd H a o b=H b:=by unfold upd;rw [N0l h]
theorem q8K {H:Hp}{a:Addr}{o u:HO}:upd (upd H a o) a u=upd H a u:=by
 funext b;unfold upd;split<;>rfl
theorem ne_of {H:Hp}{a b:Addr}{o u:HO}(h:H a=some o) (h':H b=some u) (d:o≠u):a≠b:=by
 intro e;subst e;rw [h] at h';exact d (N0b h')
theorem J4 {H:Hp}{a b:Addr}{o:HO}(h:H a=some o) (h':H b=none):a≠b:=by
 intro e;subst e;rw [h] at h';cases h'
section
variable (P:Program) (w:World)
noncomputable def K6 (H:Hp) (h:Heap) (a:Addr):HO->Prop
 | .lst xs=>xs.length<=sizeLine/\∃ (its:List Value) (n:Nat),Vals xs its/\h.get? a=some { cls:=.type "list",data:=.seq its.toArray n }
 | .tup xs=>xs.length<=sizeLine/\∃ its:List Value,Vals xs its/\IsTup h a its.toArray
 | .dK kvs=>kvs.length<=sizeLine/\(a==sysModules)=false/\∃ vs,KV kvs vs/\h.DictOf (K3 P w) a vs
 | .dT kvs=>kvs.length<=sizeLine/\(a==sysModules)=false/\∃ xs:List (List Key×Addr×Value),
  Paired (λ (p:List Key×V) (q:List Key×Addr×Value)=>p.1=q.1/\H q.2.1=some (.tup (p.1.map kV))/\y3 p.2 q.2.2) kvs xs /\
  ∃ o es ep,h.get? a=some o/\o.ExactDict/\o.data=.dict es ep/\es.toList=xs.map (entryOfKey (tupleKind (K3 P w)))/\(xs.map (·.1)).Nodup
 | .set S n=>h.SetOf (intKind P w) a S n
 | .ins C dx fs=>H dx=some (.own a)/\fs.length<=1000/\dx≠a/\h.get? a=some (W.instObj C dx) /\
  ∃ mA,h.Ns1 dx mA/\(∀ f,q4W (fs.lookup f) (mA f))/\Within mA (fs.map (·.1))
 | .own _=>∃ o,h.get? a=some o
 | .xd fs=>∃ mA,h.Ns1 a mA/\∀ f,q4W (fs.lookup f) (mA f)
 | .rng lo hi=>∃ t u v,h.get? a=some { cls:=.type "range",data:=.fields #[.int lo t,.int hi u,.int 1 v] }
 | .frz o u=>h.get? a=some o/\K6 H h a u
 | .tbl ps=>h.get? a=some { cls:=.none,data:=.fields ps }
 | .met f x=>h.get? a=some (W.methodObj (.ref f) (.ref x))
 | .ext φ=>φ h/\(∃ o,h.get? a=some o)/\∀ h1 h2:Heap,φ h1->(∀ o,h1.get? a=some o->h2.get? a=some o)->φ h2
noncomputable def HOk (H:Hp) (h:Heap):Prop:=∀ a o,H a=some o->K6 P w H h a o
end
section
variable {P:Program}{w:World}{H H':Hp}{h h':Heap}{a:Addr}{o:HO}
theorem K6.lt (x:K6 P w H h a o):a<h.objs.size:=by
 cases o with
 | lst xs=>obtain ⟨_,_,_,_,e⟩:=x;exact N1p e
 | tup xs=>obtain ⟨_,_,_,p⟩:=x;exact p.lt
 | dK kvs=>obtain ⟨_,_,_,_,o,_,_,e,_⟩:=x;exact N1p e
 | dT kvs=>obtain ⟨_,_,_,_,o,_,_,e,_⟩:=x;exact N1p e
 | set S n=>obtain ⟨o,_,_,_,e,_⟩:=x;exact N1p e
 | ins C dx fs=>obtain ⟨_,_,_,e,_⟩:=x;exact N1p e
 | own y=>obtain ⟨_,e⟩:=x;exact N1p e
 | xd fs=>obtain ⟨_,⟨_,_,_,e,_⟩,_⟩:=x;exact N1p e
 | rng lo hi=>obtain ⟨_,_,_,e⟩:=x;exact N1p e
 | frz ob u=>obtain ⟨e,_⟩:=x;exact N1p e
 | tbl ps=>exact N1p (show h.get? a=some _ from x)
 | met f y=>exact N1p (show h.get? a=some _ from x)
 | ext φ=>obtain ⟨_,⟨_,e⟩,_⟩:=x;exact N1p e
theorem Paired.mapP {α β:Type}{F G:α->β->Prop}:∀ {l₁:List α}{l₂:List β},Paired F l₁ l₂->(∀ a b,F a b->G a b)->Paired G l₁ l₂
 | _,_,.nil,_=>.nil
 | _,_,.cons r t,f=>.cons (f _ _ r) (Paired.mapP t f)
theorem K6.stay (x:K6 P w H h a o) (k:∀ b u,(b=a\/H b=some (.own a))->h.get? b=some u->h'.get? b=some u)
 (ho:∀ b,H b=some (.own a)->H' b=some (.own a)) (ht:∀ b xs,H b=some (.tup xs)->H' b=some (.tup xs)):K6 P w H' h' a o:=by
 induction o with
 | lst xs=>obtain ⟨z,its,n,r,e⟩:=x;exact ⟨z,its,n,r,k _ _ (.inl rfl) e⟩
 | tup xs=>obtain ⟨z,its,r,ob,e,c⟩:=x;exact ⟨z,its,r,ob,k _ _ (.inl rfl) e,c⟩
 | dK kvs=>obtain ⟨z,y,vs,r,ob,es,ep,e,c⟩:=x;exact ⟨z,y,vs,r,ob,es,ep,k _ _ (.inl rfl) e,c⟩
 | dT kvs =>
  obtain ⟨z,y,xs,r,ob,es,ep,e,c⟩:=x
  exact ⟨z,y,xs,Paired.mapP r λ p q z=>⟨z.1,ht _ _ z.2.1,z.2.2⟩,ob,es,ep,k _ _ (.inl rfl) e,c⟩
 | set S n=>obtain ⟨ob,es,ep,t,e,c⟩:=x;exact ⟨ob,es,ep,t,k _ _ (.inl rfl) e,c⟩
 | ins C dx fs =>
  obtain ⟨d,z,ne,e,mA,⟨od,es,ep,e2,c⟩,r⟩:=x
  exact ⟨ho _ d,z,ne,k _ _ (.inl rfl) e,mA,⟨od,es,ep,k _ _ (.inr d) e2,c⟩,r⟩
 | own y=>obtain ⟨ob,e⟩:=x;exact ⟨ob,k _ _ (.inl rfl) e⟩
 | xd fs=>obtain ⟨mA,⟨od,es,ep,e,c⟩,r⟩:=x;exact ⟨mA,⟨od,es,ep,k _ _ (.inl rfl) e,c⟩,r⟩
 | rng lo hi=>obtain ⟨t,u,v,e⟩:=x;exact ⟨t,u,v,k _ _ (.inl rfl) e⟩
 | frz ob u ih=>obtain ⟨e,q⟩:=x;exact ⟨k _ _ (.inl rfl) e,ih q⟩
 | tbl ps =>
  have e:h.get? a=some { cls:=.none,data:=.fields ps }:=x
  show h'.get? a=some { cls:=.none,data:=.fields ps }
  exact k a _ (.inl rfl) e
 | met f y =>
  have e:h.get? a=some (W.methodObj (.ref f) (.ref y)):=x
  show h'.get? a=some (W.methodObj (.ref f) (.ref y))
  exact k a _ (.inl rfl) e
 | ext φ=>obtain ⟨p,⟨o,e⟩,st⟩:=x;exact ⟨st _ _ p λ o q=>k _ _ (.inl rfl) q,⟨o,k _ _ (.inl rfl) e⟩,st⟩
theorem HOk.lt (x:HOk P w H h) (e:H a=some o):a<h.objs.size:=(x a o e).lt
theorem HOk.fresh (x:HOk P w H h) (e:h.objs.size<=a):H a=none:=by
 cases q:H a with
 | none=>rfl
 | some u=>exact absurd (N0n (x.lt q) e) (N1a _)
theorem HOk.kept (x:HOk P w H h) (k:∀ b u,h.get? b=some u->h'.get? b=some u):HOk P w H h':=λ a o e =>
 (x a o e).stay (λ b u o_ q=>k b u q) (λ o_ q=>q) λ o_ o_ q=>q
theorem HOk.laid (x:HOk P w H h) (k:∀ b u,h.get? b=some u->h'.get? b=some u) (hp:h.objs.size<=a) (new:K6 P w (upd H a o) h' a o):HOk P w (upd H a o) h':=λ b u e=>by
 have hn:=x.fresh hp
 by_cases hb:b=a
 ·subst hb;rw [j0] at e;cases e;exact new
 ·rw [upd_ne hb] at e
  exact (x b u e).stay (λ c v o_ q=>k c v q) (λ c q=>by rw [upd_ne (J4 q hn)];exact q) λ c xs q=>by rw [upd_ne (J4 q hn)];exact q
end
noncomputable def Rd (H:Hp) (a:Addr) (u:HO):Prop:=H a=some u\/∃ o,H a=some (.frz o u)
theorem Rd.ok {P:Program}{w:World}{H:Hp}{h:Heap}{a:Addr}{u:HO}(r:Rd H a u) (x:HOk P w H h):K6 P w H h a u:=by
 rcases r with r | ⟨o,r⟩
 ·exact x a u r
 ·obtain ⟨_,q⟩:=x a _ r
  exact q
noncomputable def Mut:Option HO->Prop
 | some (.lst _)=>True
 | some (.dK _)=>True
 | some (.dT _)=>True
 | some (.set _ _)=>True
 | some (.ins _ _ _)=>True
 | some (.ext _)=>True
 | _=>False
section
variable {P:Program}{w:World}{H:Hp}{h h':Heap}{x e:Addr}{o':HO}
theorem HOk.write (ok:HOk P w H h) (mu:Mut (H x)) (he:e=x\/H e=some (.own x)) (k:∀ b u,b≠e->h.get? b=some u->h'.get? b=some u) (heo:∃ u,h'.get? e=some u)
 (new:K6 P w (upd H x o') h' x o'):HOk P w (upd H x o') h':=λ b u q=>by
 have nown:∀ c y,H c=some (.own y)->c≠x:=λ c y r z=>by subst z;rw [r] at mu;exact mu
 have ntup:∀ c xs,H c=some (.tup xs)->c≠x:=λ c xs r z=>by subst z;rw [r] at mu;exact mu
 by_cases hb:b=x
 ·subst hb;rw [j0] at q;cases q;exact new
 ·rw [upd_ne hb] at q
  by_cases hbe:b=e
  ·have q':H b=some (.own x):=by
    rcases he with z | z
    ·exact absurd (hbe.trans z) hb
    ·rw [hbe];exact z
   rw [q] at q';cases q'
   obtain ⟨v,hv⟩:=heo
   exact ⟨v,by rw [hbe];exact hv⟩
  ·refine (ok b u q).stay (λ c v hc r=>k c v ?_ r) (λ c r=>by rw [upd_ne (nown c b r)];exact r) λ c xs r=>by rw [upd_ne (ntup c xs r)];exact r
   rcases hc with rfl | hc
   ·exact hbe
   ·rintro rfl
    rcases he with z | z
    ·exact nown c b hc z
    ·rw [hc] at z;cases z;exact hb rfl
end
structure Un (fs ex:List Addr) (H H':Hp) (h h':Heap):Prop where
 keep:∀ b o,h.get? b=some o->H b=none->b∉fs->b∉ex->h'.get? b=some o
 slot:∀ b o,h.get? b=some o->H b=none->b∈fs->b∉ex->∃ sl,h'.get? b=some { o with slots:=sl }
 free:∀ b o,h.get? b=some o->H b=none->b∉ex->H' b=none
 there:∀ b o,h.get? b=some o->b∉ex->∃ o',h'.get? b=some o'
 tups:∀ b xs,H b=some (.tup xs)->H' b=some (.tup xs)
 frzs:∀ b o u,H b=some (.frz o u)->H' b=some (.frz o u)
 tbls:∀ b ps,H b=some (.tbl ps)->∃ more,H' b=some (.tbl (ps++more))
 tupx:∀ b xs o,H b=some (.tup xs)->h.get? b=some o->h'.get? b=some o
section
variable {fs fs' ex ex':List Addr}{H H1 H2:Hp}{h h1 h2 h':Heap}{a x e:Addr}{o:HO}
theorem Un.any (u:Un fs ex H H1 h h1){b:Addr}{ob:Obj}(q:h.get? b=some ob) (n:H b=none) (hx:b∉ex):∃ sl,h1.get? b=some { ob with slots:=sl }:=by
 by_cases hb:b∈fs
 ·exact u.slot b ob q n hb hx
 ·exact ⟨ob.slots,u.keep b ob q n hb hx⟩
theorem Un.kept (k:∀ b u,h.get? b=some u->h'.get? b=some u):Un fs ex H H h h' :=
 ⟨λ b ob q o_ o_ o_=>k b ob q,λ b ob q o_ o_ o_=>⟨ob.slots,k b ob q⟩,λ o_ o_ o_ n o_=>n,λ b ob q o_=>⟨ob,k b ob q⟩,λ o_ o_ q=>q,λ o_ o_ o_ q=>q,λ o_ ps q=>⟨#[],by rw [q];simp⟩,λ b o_ o o_ e=>k b o e⟩
theorem Un.refl:Un fs ex H H h h:=Un.kept λ o_ o_ q=>q
theorem Un.laid (k:∀ b u,h.get? b=some u->h'.get? b=some u) (hp:h.objs.size<=a) (hn:H a=none):Un fs ex H (upd H a o) h h' where
 keep:=λ b u q o_ o_ o_=>k b u q
 slot:=λ b u q o_ o_ o_=>⟨u.slots,k b u q⟩
 free:=λ b u q n o_=>by rw [upd_ne (N12 (N0n (N1p q) hp))];exact n
 there:=λ b u q o_=>⟨u,k b u q⟩
 tups:=λ b xs q=>by rw [upd_ne (J4 q hn)];exact q
 frzs:=λ b u xs q=>by rw [upd_ne (J4 q hn)];exact q
 tbls:=λ b ps q=>⟨#[],by rw [upd_ne (J4 q hn),q];simp⟩
 tupx:=λ b o_ u o_ e=>k b u e
theorem Un.write (mu:Mut (H x)) (he:e=x\/H e=some (.own x)) (k:∀ b u,b≠e->h.get? b=some u->h'.get? b=some u) (heo:∃ u,h'.get? e=some u):Un fs ex H (upd H x o) h h':=by
 have hx:∀ b,H b=none->b≠x:=λ b n z=>by subst z;rw [n] at mu;exact mu
 have hb:∀ b,H b=none->b≠e:=λ b n z=>by
  subst z
  rcases he with r | r
  ·exact hx b n r
  ·rw [n] at r;cases r
 have hm:∀ b u,H b=some u->¬ Mut (some u)->b≠x:=λ b u q nm z=>by subst z;rw [q] at mu;exact nm mu
 refine ⟨λ b u q n o_ o_=>k b u (hb b n) q,λ b u q n o_ o_=>⟨u.slots,k b u (hb b n) q⟩,λ b u q n o_=>by rw [upd_ne (hx b n)];exact n,λ b u q o_=>?_,
  λ b xs q=>by rw [upd_ne (hm b _ q λ z=>z)];exact q,λ b u xs q=>by rw [upd_ne (hm b _ q λ z=>z)];exact q,λ b ps q=>⟨#[],by rw [upd_ne (hm b _ q λ z=>z),q];simp⟩,λ b xs u q e'=>k b u (λ z=>he.elim (λ r=>hm b _ q (λ z=>z) (z.trans r)) λ r=>by rw [z] at q;rw [q] at r;cases r) e'⟩
 by_cases hbe:b=e
 ·subst hbe;exact heo
 ·exact ⟨u,k b u hbe q⟩
end
noncomputable def trk (h:Heap) (H:Hp):List Addr:=(List.range h.objs.size).filter λ a=>(H a).isSome
noncomputable def hidT (h:Heap) (H:Hp):Heap:=W.hideAll h (trk h H)
theorem q8L (h:Heap) (H:Hp):(hidT h H).objs.size=h.objs.size:=W.hideAll_size _ _
theorem z0Z {h:Heap}{H:Hp}{b:Addr}{o:Obj}(e:h.get? b=some o) (n:H b=none):(hidT h H).get? b=some o :=
 W.hideAll_get _ e λ hm=>by
  have q:(H b).isSome=true:=(N1u.mp hm).2
  rw [n] at q;simp at q
theorem z2G {h:Heap}{H:Hp}{b:Addr}{o:Obj}(e:(hidT h H).get? b=some o):h.get? b=some o/\H b=none:=by
 have e':h.get? b=some o:=W.of_hideAll (trk h H) e
 refine ⟨e',?_⟩
 cases q:H b with
 | none=>rfl
 | some x =>
  have hm:b∈trk h H:=N1u.mpr ⟨List.mem_range.mpr (N1p e'),by simp [q]⟩
  have z:(hidT h H).get? b=none:=W.hideAll_none (trk h H) hm
  rw [z] at e;cases e
noncomputable def z2H (g h:Heap) (L:Addr):List (Addr×Obj):=(List.range h.objs.size).filterMap λ a=>if a=L\/(g.get? a).isSome=true then none else (h.get? a).map λ o=>(a,o)
noncomputable def rest (g h:Heap) (L d:Addr):List (Addr×Obj):=(z2H g h L).filter λ p=>decide (p.1≠d)
structure Mod (K:W.Frag) (mg:Str->Option Value) (base:Heap):Prop where
 kin:K.In base
 glob:base.Ns mainGlobals mg
 blt:∃ mb,base.Ns builtinsNs mb/\∀ x:Str,x≠"__name__"->mb x=bootBuiltins x
 nolimit:base.NoLimit
structure Cx where
 prog:Program
 w:World
 K:W.Frag
 mg:Str->Option Value
 base:Heap
 A:Around
 N:List Str
 s₀:Shared
 H₀:Hp
 env:Env
 outer:List Env
 stack:List Env
 ex:List Addr
 fn:Str->Bool
 calm:Bool
 pn:List (Addr×Obj)
 xe:Value->Shared->Prop
noncomputable def frs (l:List Env):List Addr:=l.filterMap (·.frame)
noncomputable abbrev Cx.fs (X:Cx):List Addr:=frs X.outer
noncomputable def Vis (sc:Scope) (x:Str):Prop:=sc.names.lookup x=some .local\/sc.names.lookup x=some .cell\/sc.names.lookup x=some .free
noncomputable def Loc (sc:Scope) (x:Str):Prop:=sc.names.lookup x=some .local\/sc.names.lookup x=some .cell
noncomputable def Look (env:Env) (h:Heap) (m:Str->Option Value) (x:Str) (u:Value):Prop :=
 (env.kindOf x=some .local/\m x=some u)\/((env.kindOf x=some .cell\/env.kindOf x=some .free)/\∃ c,env.cells.lookup x=some c/\h.IsCell c (some u))
noncomputable def Bt (H:Hp) (b:Addr):Prop:=H b=none\/∃ xs,H b=some (.tup xs)
structure Cx.Ok (X:Cx):Prop where
 mod:Mod X.K X.mg X.base
 kind:X.env.scope.kind=.function
 glob:X.env.globals=mainGlobals
 blt:X.env.builtins=builtinsNs
 above:X.s₀.heap.objs.size<=X.env.locals
 inj:∀ x y c,X.env.cells.lookup x=some c->X.env.cells.lookup y=some c->x=y
 has:∀ x,(X.env.kindOf x=some .cell\/X.env.kindOf x=some .free)->∃ c,X.env.cells.lookup x=some c
 cab:∀ x c,X.fn x=true->X.env.cells.lookup x=some c->X.s₀.heap.objs.size<=c
 hd:X.calm=true->X.A.handled=none
 frames:X.A.frames=some X.stack
 stk:X.stack=X.outer\/(X.stack=X.env::X.outer/\X.env.frame=some X.env.locals)
 exf:∀ b∈X.ex,b≠X.env.locals/\∀ x c,X.env.cells.lookup x=some c->c≠b
 bs:∀ b o,X.base.get? b=some o->X.s₀.heap.get? b=some o/\Bt X.H₀ b
 bsz:X.base.objs.size<=X.s₀.heap.objs.size
 noex:∀ b o,X.base.get? b=some o->b∉X.ex
 exfs:∀ b∈X.ex,b∉X.fs
 funs:X.s₀.heap.FunFrames X.base X.outer
 frf:∀ b∈X.fs,X.H₀ b=none
structure Inv (X:Cx) (pins:List (Addr×Obj)) (σ:List (Option V)) (H:Hp) (s:Shared):Prop where
 ok:X.Ok
 os:s.os=X.s₀.os
 bare:AllBare s.gens
 base:Un X.fs X.ex X.H₀ H X.s₀.heap s.heap
 loc:∃ m,s.heap.Ns X.env.locals m/\∀ (i:Nat) (x:Str) (v:V),X.N[i]? = some x->σ[i]? = some (some v)->Vis X.env.scope x->∃ u,y3 v u/\Look X.env s.heap m x u
 cell:∀ x c,X.env.cells.lookup x=some c->∃ v,s.heap.IsCell c v
 free:H X.env.locals=none
 freeC:∀ x c,X.env.cells.lookup x=some c->H c=none
 pin:∀ p∈X.pn++pins,s.heap.get? p.1=some p.2/\H p.1=none/\p.1≠X.env.locals/\p.1∉X.fs/\∀ v,p.2.data≠.cell v
 hok:HOk X.prog X.w H s.heap
 len:σ.length=X.N.length
section
variable {X:Cx}{pins:List (Addr×Obj)}{σ:List (Option V)}{H H':Hp}{s:Shared}{h':Heap}
theorem Cx.Ok.nofr (ok:X.Ok){b:Addr}{o:Obj}(e:X.base.get? b=some o):b∉X.fs:=λ hb=>by
 have:=(ok.funs.mem hb).1
 rw [e] at this;cases this
theorem Inv.bs (I:Inv X pins σ H s):∀ b o,X.base.get? b=some o->s.heap.get? b=some o/\Bt H b:=λ b o e =>
 (I.ok.bs b o e).2.elim (λ n=>⟨I.base.keep b o (I.ok.bs b o e).1 n (I.ok.nofr e) (I.ok.noex b o e),.inl (I.base.free b o (I.ok.bs b o e).1 n (I.ok.noex b o e))⟩)
  λ ⟨xs,n⟩=>⟨I.base.tupx b xs o n (I.ok.bs b o e).1,.inr ⟨xs,I.base.tups b xs n⟩⟩
theorem Inv.bk (I:Inv X pins σ H s):∀ b o,X.base.get? b=some o->s.heap.get? b=some o:=λ b o e=>(I.bs b o e).1
theorem Inv.mod (I:Inv X pins σ H s):Mod X.K X.mg X.base:=I.ok.mod
theorem Inv.kIn (I:Inv X pins σ H s):X.K.In s.heap:=I.ok.mod.kin.keeps I.bk
theorem Inv.lt (I:Inv X pins σ H s):X.env.locals<s.heap.objs.size:=let ⟨_,hn,_⟩:=I.loc;hn.lt
theorem Inv.sz (I:Inv X pins σ H s):X.s₀.heap.objs.size<=s.heap.objs.size:=N0v I.ok.above (Nat.le_of_lt I.lt)
theorem Inv.nofs (I:Inv X pins σ H s){a:Addr}(h:s.heap.objs.size<=a):a∉X.fs:=λ hb=>by
 obtain ⟨_,o,ho,_⟩:=I.ok.funs.mem hb
 exact absurd (N0n (N1p ho) (N0v I.sz h)) (N1a _)
theorem Inv.cne (I:Inv X pins σ H s):∀ x c,X.env.cells.lookup x=some c->c≠X.env.locals:=λ x c e z=>by
 obtain ⟨v,o,ho,hd⟩:=I.cell x c e
 obtain ⟨m,⟨o',es,ep,ho',hd',_⟩,_⟩:=I.loc
 rw [z,ho'] at ho;cases ho;rw [hd'] at hd;cases hd
theorem Inv.funs (I:Inv X pins σ H s):s.heap.FunFrames X.base X.outer:=by
 have all:∀ (l:List Env),(∀ b∈frs l,b∈X.fs)->X.s₀.heap.FunFrames X.base l->s.heap.FunFrames X.base l:=by
  intro l
  induction l with
  | nil=>intro _ _;trivial
  | cons env r ih =>
   intro hs hl
   obtain ⟨hk,⟨L,o,hf,hn,ho,hd⟩,hr⟩:=hl
   have hL:L∈X.fs:=hs L (by unfold frs;rw [List.filterMap_cons,hf];exact N00)
   obtain ⟨sl,e⟩:=I.base.slot L o ho (I.ok.frf L hL) hL λ z=>I.ok.exfs L z hL
   exact ⟨hk,⟨L,_,hf,hn,e,hd⟩,ih (λ b hb=>hs b (by unfold frs;rw [List.filterMap_cons,hf];exact N02 _ hb)) hr⟩
 exact all X.outer (λ o_ hb=>hb) I.ok.funs
theorem Inv.stack (I:Inv X pins σ H s):s.heap.FunFrames X.base X.stack:=by
 rcases I.ok.stk with e | ⟨e,hf⟩
 ·rw [e];exact I.funs
 ·rw [e]
  obtain ⟨m,hn,_⟩:=I.loc
  refine .cons (by rw [I.ok.kind];decide) hf hn ?_ I.funs
  exact Heap.get?_none_of_le (N0v I.ok.bsz I.ok.above)
theorem Inv.stkSub (I:Inv X pins σ H s):∀ b∈frs X.stack,b∈X.env.locals::X.fs:=λ b hb=>by
 rcases I.ok.stk with e | ⟨e,hf⟩
 ·rw [e] at hb;exact N02 _ hb
 ·rw [e] at hb
  unfold frs at hb
  rw [List.filterMap_cons,hf] at hb
  exact hb
theorem Inv.stkFree (I:Inv X pins σ H s):∀ b∈frs X.stack,H b=none:=λ b hb=>by
 rcases N0c.mp (I.stkSub b hb) with e | hb
 ·rw [e];exact I.free
 ·obtain ⟨_,o,ho,_⟩:=I.ok.funs.mem hb
  exact I.base.free b o ho (I.ok.frf b hb) λ z=>I.ok.exfs b z hb
theorem Inv.step {g':Array GenState}{t':Nat}{d':Drawn}{ch:List Addr}(I:Inv X pins σ H s)
 (hch:∀ b∈ch,(b∈X.ex\/X.s₀.heap.objs.size<=b)/\b≠X.env.locals/\(∀ x c,X.env.cells.lookup x=some c->c≠b)/\∀ p∈X.pn++pins,p.1≠b)
 (keep:∀ b o,b≠X.env.locals->b∉X.fs->b∉ch->s.heap.get? b=some o->H b=none->h'.get? b=some o)
 (slot:∀ b o,b≠X.env.locals->b∈X.fs->b∉ch->s.heap.get? b=some o->H b=none->∃ sl,h'.get? b=some { o with slots:=sl }) (free:∀ b o,b∉ch->s.heap.get? b=some o->H b=none->H' b=none)
 (there:∀ b o,b∉ch->s.heap.get? b=some o->∃ o',h'.get? b=some o')
 (tups:∀ b xs,H b=some (.tup xs)->H' b=some (.tup xs)) (frzs:∀ b o u,H b=some (.frz o u)->H' b=some (.frz o u)) (tbls:∀ b ps,H b=some (.tbl ps)->∃ more,H' b=some (.tbl (ps++more))) (tupx:∀ b xs o,H b=some (.tup xs)->s.heap.get? b=some o->h'.get? b=some o)
 (ns:∀ m,s.heap.Ns X.env.locals m->h'.Ns X.env.locals m) (hok:HOk X.prog X.w H' h') (hg:AllBare g') :
 Inv X pins σ H' { s with heap:=h',gens:=g',drawn:=d',toks:=t' }:=by
 have neL:∀ b o,X.s₀.heap.get? b=some o->b≠X.env.locals:=λ b o e=>N12 (N0n (N1p e) I.ok.above)
 have neC:∀ b o,X.s₀.heap.get? b=some o->b∉X.ex->b∉ch:=λ b o e hx hb=>by
  rcases (hch b hb).1 with z | z
  ·exact hx z
  ·exact absurd (N0n (N1p e) z) (N1a _)
 have cellK:∀ x c,X.env.cells.lookup x=some c->∀ v,s.heap.IsCell c v->h'.IsCell c v:=λ x c e v ⟨o,ho,hd⟩=>by
  have nch:c∉ch:=λ z=>(hch c z).2.2.1 x c e rfl
  by_cases hc:c∈X.fs
  ·obtain ⟨sl,q⟩:=slot c o (I.cne x c e) hc nch ho (I.freeC x c e)
   exact ⟨_,q,hd⟩
  ·exact ⟨o,keep c o (I.cne x c e) hc nch ho (I.freeC x c e),hd⟩
 refine ⟨I.ok,I.os,hg,⟨λ b o e n hb hx=>?_,λ b o e n hb hx=>?_,λ b o e n hx=>?_,λ b o e hx=>?_,λ b xs e=>tups b xs (I.base.tups b xs e),λ b o xs e=>frzs b o xs (I.base.frzs b o xs e),λ b ps e=>?_,λ b xs o q e=>tupx b xs o (I.base.tups b xs q) (I.base.tupx b xs o q e)⟩,?_,λ x c e=>?_,?_,λ x c e=>?_,λ p hp=>?_,hok,I.len⟩
 ·exact keep b o (neL b o e) hb (neC b o e hx) (I.base.keep b o e n hb hx) (I.base.free b o e n hx)
 ·obtain ⟨sl,e1⟩:=I.base.slot b o e n hb hx
  obtain ⟨sl',e2⟩:=slot b _ (neL b o e) hb (neC b o e hx) e1 (I.base.free b o e n hx)
  exact ⟨sl',e2⟩
 ·obtain ⟨o',e1⟩:=I.base.there b o e hx
  exact free b o' (neC b o e hx) e1 (I.base.free b o e n hx)
 ·obtain ⟨o',e1⟩:=I.base.there b o e hx
  exact there b o' (neC b o e hx) e1
 ·obtain ⟨m1,e1⟩:=I.base.tbls b ps e
  obtain ⟨m2,e2⟩:=tbls b _ e1
  exact ⟨m1++m2,by rw [e2,Array.append_assoc]⟩
 ·obtain ⟨m,hn,hl⟩:=I.loc
  refine ⟨m,ns m hn,λ i x v e1 e2 e3=>?_⟩
  obtain ⟨u,r,l⟩:=hl i x v e1 e2 e3
  refine ⟨u,r,?_⟩
  rcases l with l | ⟨k,c,e,z⟩
  ·exact .inl l
  ·exact .inr ⟨k,c,e,cellK x c e _ z⟩
 ·obtain ⟨v,z⟩:=I.cell x c e
  exact ⟨v,cellK x c e v z⟩
 ·obtain ⟨m,⟨o,_,_,ho,_⟩,_⟩:=I.loc
  exact free _ o (λ z=>(hch _ z).2.1 rfl) ho I.free
 ·obtain ⟨v,o,ho,hd⟩:=I.cell x c e
  exact free c o (λ z=>(hch c z).2.2.1 x c e rfl) ho (I.freeC x c e)
 ·obtain ⟨e,n,ne,nf,d⟩:=I.pin p hp
  have nch:p.1∉ch:=λ z=>(hch p.1 z).2.2.2 p hp rfl
  exact ⟨keep p.1 p.2 ne nf nch e n,free p.1 p.2 nch e n,ne,nf,d⟩
theorem Inv.un {t':Nat}(I:Inv X pins σ H s) (u:Un X.fs [] H H' s.heap h') (hok:HOk X.prog X.w H' h'):Inv X pins σ H' { s with heap:=h',toks:=t' }:=by
 obtain ⟨m,⟨o,es,ep,ho,r⟩,_⟩:=id I.loc
 obtain ⟨sl,hL⟩:=u.any ho I.free (by simp)
 exact I.step (g':=s.gens) (d':=s.drawn) (ch:=[]) (λ o_ z=>nomatch z) (λ b o o_ hb o_ e n=>u.keep b o e n hb (by simp)) (λ b o o_ hb o_ e n=>u.slot b o e n hb (by simp)) (λ b o o_ e n=>u.free b o e n (by simp)) (λ b o o_ e=>u.there b o e (by simp)) u.tups u.frzs u.tbls u.tupx (λ m' hm=>by
  obtain ⟨o',es',ep',ho',r'⟩:=hm
  rw [ho] at ho';cases ho'
  exact ⟨_,es',ep',hL,r'⟩) hok I.bare
theorem Inv.call {g':Array GenState}{t':Nat}{d':Drawn}{ch:List Addr}(I:Inv X pins σ H s) (u:Un (frs X.stack) ch H H' s.heap h') (hok:HOk X.prog X.w H' h') (hg:AllBare g')
 (hch:∀ b∈ch,(b∈X.ex\/X.s₀.heap.objs.size<=b)/\b≠X.env.locals/\(∀ x c,X.env.cells.lookup x=some c->c≠b)/\∀ p∈X.pn++pins,p.1≠b) :
 Inv X pins σ H' { s with heap:=h',gens:=g',drawn:=d',toks:=t' }:=by
 obtain ⟨m,⟨o,es,ep,ho,r⟩,_⟩:=id I.loc
 obtain ⟨sl,hL⟩:=u.any ho I.free λ z=>(hch _ z).2.1 rfl
 exact I.step (ch:=ch) hch (λ b o hL hb hc e n=>u.keep b o e n (λ z=>(N0c.mp (I.stkSub b z)).elim hL hb) hc) (λ b o o_ o_ hc e n=>u.any e n hc) (λ b o hc e n=>u.free b o e n hc) (λ b o hc e=>u.there b o e hc) u.tups u.frzs u.tbls u.tupx (λ m' hm=>by
  obtain ⟨o',es',ep',ho',r'⟩:=hm
  rw [ho] at ho';cases ho'
  exact ⟨_,es',ep',hL,r'⟩) hok hg
theorem Inv.turned {t':Nat}{it:Addr}(I:Inv X pins σ H s) (k:∀ b o,b≠it->s.heap.get? b=some o->h'.get? b=some o) (hn:H it=none) (hL:it≠X.env.locals)
 (h1:it∈X.ex\/X.s₀.heap.objs.size<=it) (h2:∀ x c,X.env.cells.lookup x=some c->c≠it) (h3:∀ p∈X.pn++pins,p.1≠it):Inv X pins σ H { s with heap:=h',toks:=t' }:=by
 have nit:∀ b u,H b=some u->b≠it:=λ b u e z=>by rw [z,hn] at e;cases e
 refine I.step (g':=s.gens) (d':=s.drawn) (ch:=[it]) (λ b hb=>?_) (λ b o o_ o_ hc e o_=>k b o (λ z=>hc (by simp [z])) e) (λ b o o_ o_ hc e o_=>⟨o.slots,k b o (λ z=>hc (by simp [z])) e⟩) (λ o_ o_ o_ o_ n=>n)
  (λ b o hc e=>⟨o,k b o (λ z=>hc (by simp [z])) e⟩) (λ o_ o_ e=>e) (λ o_ o_ o_ e=>e) (λ b ps e=>⟨#[],by rw [e];simp⟩) (λ b xs o q e=>k b o (nit b _ q) e) (λ m hm=>?_) (λ b u e=>?_) I.bare
 ·have e:b=it:=by simpa using hb
  subst e
  exact ⟨h1,hL,h2,h3⟩
 ·obtain ⟨o,es,ep,ho,r⟩:=hm
  exact ⟨o,es,ep,k _ o (N1f hL) ho,r⟩
 ·refine (I.hok b u e).stay (λ c v hc q=>k c v ?_ q) (λ o_ q=>q) λ o_ o_ q=>q
  rcases hc with z | z
  ·rw [z];exact nit b u e
  ·exact nit c _ z
theorem Inv.tok (I:Inv X pins σ H s) (t:Nat):Inv X pins σ H { s with toks:=t }:=I.un (h':=s.heap) (t':=t) Un.refl I.hok
theorem Inv.kept {t':Nat}(I:Inv X pins σ H s) (k:∀ b u,s.heap.get? b=some u->h'.get? b=some u):Inv X pins σ H { s with heap:=h',toks:=t' }:=I.un (Un.kept k) (I.hok.kept k)
theorem Inv.laid {a:Addr}{o:HO}{t':Nat}(I:Inv X pins σ H s) (k:∀ b u,s.heap.get? b=some u->h'.get? b=some u) (hp:s.heap.objs.size<=a) (new:K6 X.prog X.w (upd H a o) h' a o) :
 Inv X pins σ (upd H a o) { s with heap:=h',toks:=t' }:=I.un (Un.laid k hp (I.hok.fresh hp)) (I.hok.laid k hp new)
theorem Inv.write {x e:Addr}{o:HO}{t':Nat}(I:Inv X pins σ H s) (mu:Mut (H x)) (he:e=x\/H e=some (.own x)) (k:∀ b u,b≠e->s.heap.get? b=some u->h'.get? b=some u) (heo:∃ u,h'.get? e=some u)
 (new:K6 X.prog X.w (upd H x o) h' x o):Inv X pins σ (upd H x o) { s with heap:=h',toks:=t' }:=I.un (Un.write mu he k heo) (I.hok.write mu he k heo new)
theorem Inv.pins_of {pins':List (Addr×Obj)}(I:Inv X pins σ H s) (h:∀ p∈pins',s.heap.get? p.1=some p.2/\H p.1=none/\p.1≠X.env.locals/\p.1∉X.fs/\∀ v,p.2.data≠.cell v):Inv X pins' σ H s :=
 ⟨I.ok,I.os,I.bare,I.base,I.loc,I.cell,I.free,I.freeC,λ p hp=>(N0a.mp hp).elim (λ z=>I.pin p (N0w _ z)) (h p),I.hok,I.len⟩
theorem q6U {N:List Str}(hN:N.Nodup){i j:Nat}{x:Str}(a:N[i]? = some x) (b:N[j]? = some x):i=j:=by
 obtain ⟨h1,e1⟩:=N04.mp a
 obtain ⟨h2,e2⟩:=N04.mp b
 exact (List.getElem_inj hN).mp (e1.trans e2.symm)
theorem q8M {M:Model}{A:Around}{E:Value->Shared->Prop}{i:Nat}{x:Str}{v:V}{u:Value}{Q:Unit->Shared->Prop}(I:Inv X pins σ H s) (hN:X.N.Nodup) (hi:X.N[i]? = some x) (hx:Loc X.env.scope x) (r:y3 v u)
 (h:∀ s',Inv X pins (σ.set i (some v)) H s'->(∃ a,Heap.SameBut a s.heap s'.heap/\(a=X.env.locals\/X.env.cells.lookup x=some a))->Q () s') (hf:X.fn x=true\/X.env.scope.names.lookup x=some .local:=by nofun):wpAny M A (storeName X.env x u) Q E s:=by
 obtain ⟨m,hn,hl⟩:=id I.loc
 have hcls:(X.env.scope.kind == .class || (X.env.scope.kind == .module&&X.env.locals != X.env.globals))=false:=by rw [I.ok.kind];rfl
 have hiσ:i<σ.length:=by rw [I.len];exact (N04.mp hi).1
 have cne:=I.cne
 have tracked:∀ {a:Addr}{h':Heap},(∃ o,s.heap.get? a=some o/\H a=none)->Heap.SameBut a s.heap h'->HOk X.prog X.w H h':=λ {a h'} ha hs b ob e=>by
  obtain ⟨_,_,hfree⟩:=ha
  refine (I.hok b ob e).stay (λ c w' hc q=>(hs.2 c ?_).trans q) (λ o_ q=>q) λ o_ o_ q=>q
  rintro rfl
  rcases hc with rfl | hc
  ·rw [hfree] at e;cases e
  ·rw [hfree] at hc;cases hc
 rcases hx with hk | hk
 ·refine wpAny_storeName_local hk hn (λ h' hn' hs=>?_) hcls
  obtain ⟨oL,_,_,hoL,_⟩:=id hn
  refine h _ ⟨I.ok,I.os,I.bare,⟨λ b o e n hb hx=>?_,λ b o e n hb hx=>?_,I.base.free,λ b o e hx=>?_,I.base.tups,I.base.frzs,I.base.tbls,λ b xs o q e=>(hs.2 b (N12 (N0n (N1p e) I.ok.above))).trans (I.base.tupx b xs o q e)⟩,⟨_,hn',λ j y v' e1 e2 e3=>?_⟩,λ y c e=>?_,I.free,I.freeC,λ p hp=>?_,tracked ⟨oL,hoL,I.free⟩ hs,by simpa using I.len⟩ ⟨_,hs,.inl rfl⟩
  ·exact (hs.2 b (N12 (N0n (N1p e) I.ok.above))).trans (I.base.keep b o e n hb hx)
  ·obtain ⟨sl,e1⟩:=I.base.slot b o e n hb hx
   exact ⟨sl,(hs.2 b (N12 (N0n (N1p e) I.ok.above))).trans e1⟩
  ·obtain ⟨o',e1⟩:=I.base.there b o e hx
   exact ⟨o',(hs.2 b (N12 (N0n (N1p e) I.ok.above))).trans e1⟩
  ·by_cases hj:j=i
   ·subst hj
    rw [hi] at e1;cases e1
    rw [List.getElem?_set_self hiσ] at e2
    cases e2
    exact ⟨u,r,.inl ⟨hk,by simp⟩⟩
   ·rw [List.getElem?_set_ne (N1f hj)] at e2
    obtain ⟨u',r',q⟩:=hl j y v' e1 e2 e3
    refine ⟨u',r',?_⟩
    rcases q with ⟨k,e⟩ | ⟨k,c,e,z⟩
    ·refine .inl ⟨k,?_⟩
     have:y≠x:=λ e=>hj (q6U hN e1 (e▸hi))
     simp [this,e]
    ·exact .inr ⟨k,c,e,z.sameBut hs (cne y c e)⟩
  ·obtain ⟨w',z⟩:=I.cell y c e
   exact ⟨w',z.sameBut hs (cne y c e)⟩
  ·obtain ⟨e,n,ne,nf,d⟩:=I.pin p hp
   exact ⟨(hs.2 p.1 ne).trans e,n,ne,nf,d⟩
 ·have hfn:X.fn x=true:=by
   rcases hf with z | z
   ·exact z
   ·rw [z] at hk;cases hk
  obtain ⟨c,hc⟩:=I.ok.has x (.inl hk)
  obtain ⟨w',z⟩:=I.cell x c hc
  refine wpAny_storeName_cell I.ok.kind hk hc z (λ h' hc' hs=>?_)
  obtain ⟨oc,hoc,hocd⟩:=id z
  refine h { s with heap:=h' } ⟨I.ok,I.os,I.bare,⟨λ b o e n hb hx=>?_,λ b o e n hb hx=>?_,I.base.free,λ b o e hx=>?_,I.base.tups,I.base.frzs,I.base.tbls,λ b xs o q e=>(hs.2 b (N12 (N0n (N1p e) (I.ok.cab x c hfn hc)))).trans (I.base.tupx b xs o q e)⟩,⟨m,hn.sameBut hs (N1f (cne x c hc)),λ j y v' e1 e2 e3=>?_⟩,λ y c' e=>?_,I.free,I.freeC,λ p hp=>?_,tracked ⟨oc,hoc,I.freeC x c hc⟩ hs,by simpa using I.len⟩ ⟨c,hs,.inr hc⟩
  ·exact (hs.2 b (N12 (N0n (N1p e) (I.ok.cab x c hfn hc)))).trans (I.base.keep b o e n hb hx)
  ·obtain ⟨sl,e1⟩:=I.base.slot b o e n hb hx
   exact ⟨sl,(hs.2 b (N12 (N0n (N1p e) (I.ok.cab x c hfn hc)))).trans e1⟩
  ·obtain ⟨o',e1⟩:=I.base.there b o e hx
   exact ⟨o',(hs.2 b (N12 (N0n (N1p e) (I.ok.cab x c hfn hc)))).trans e1⟩
  ·by_cases hj:j=i
   ·subst hj
    rw [hi] at e1;cases e1
    rw [List.getElem?_set_self hiσ] at e2
    cases e2
    exact ⟨u,r,.inr ⟨.inl hk,c,hc,hc'⟩⟩
   ·rw [List.getElem?_set_ne (N1f hj)] at e2
    obtain ⟨u',r',q⟩:=hl j y v' e1 e2 e3
    refine ⟨u',r',?_⟩
    rcases q with q | ⟨k,c',e,z'⟩
    ·exact .inl q
    ·refine .inr ⟨k,c',e,z'.sameBut hs ?_⟩
     rintro rfl
     exact hj (q6U hN e1 (I.ok.inj _ _ _ e hc▸hi))
  ·by_cases hcc:c'=c
   ·subst hcc;exact ⟨_,hc'⟩
   ·obtain ⟨w2,z2⟩:=I.cell y c' e
    exact ⟨w2,z2.sameBut hs hcc⟩
  ·obtain ⟨e,n,ne,nf,d⟩:=I.pin p hp
   refine ⟨(hs.2 p.1 ?_).trans e,n,ne,nf,d⟩
   intro q
   rw [q,hoc] at e
   have q':oc=p.2:=N0b e
   exact d w' (by rw [<- q'];exact hocd)
theorem q6V {M:Model}{A:Around}{E:Value->Shared->Prop}{i:Nat}{x:Str}{v:V}{u:Value}{Q:Unit->Shared->Prop}(I:Inv X pins σ H s) (hN:X.N.Nodup) (hi:X.N[i]? = some x) (hx:Loc X.env.scope x) (r:y3 v u)
 (h:∀ s',Inv X pins (σ.set i (some v)) H s'->Q () s') (hf:X.fn x=true\/X.env.scope.names.lookup x=some .local:=by nofun):wpAny M A (storeName X.env x u) Q E s :=
 q8M I hN hi hx r (λ s' I' o_=>h s' I') hf
theorem Inv.call' {s':Shared}{ch:List Addr}(I:Inv X pins σ H s) (ho:s'.os=s.os) (u:Un (frs X.stack) ch H H' s.heap s'.heap) (hok:HOk X.prog X.w H' s'.heap) (hg:AllBare s'.gens)
 (hch:∀ b∈ch,(b∈X.ex\/X.s₀.heap.objs.size<=b)/\b≠X.env.locals/\(∀ x c,X.env.cells.lookup x=some c->c≠b)/\∀ p∈X.pn++pins,p.1≠b):Inv X pins σ H' s':=by
 obtain ⟨h',g',d',t',o'⟩:=s'
 have e:o'=s.os:=ho
 subst e
 exact I.call (g':=g') (t':=t') (d':=d') u hok hg hch
end
noncomputable abbrev XK:=Value->Option Addr->Hp->Prop
noncomputable abbrev St:=List (Option V)
noncomputable abbrev VK:=V->Hp->Prop
noncomputable abbrev TE:=St->Hp->VK->Prop
noncomputable abbrev TT:=St->Hp->(Bool->Hp->Prop)->Prop
noncomputable abbrev TA:=St->Hp->(List V->Hp->Prop)->Prop
structure Ends where
 nx:St->Hp->Prop
 rt:VK
 bk:St->Hp->Prop:=λ o_ o_=>False
 ct:St->Hp->Prop:=λ o_ o_=>False
noncomputable abbrev TS:=Ends->St->Hp->Prop
noncomputable def EP (X:Cx) (pins:List (Addr×Obj)) (σ:St) (Q:VK) (u:Value) (s':Shared):Prop:=∃ v H',Inv X pins σ H' s'/\y3 v u/\Q v H'
noncomputable def TP (X:Cx) (pins:List (Addr×Obj)) (σ:St) (Q:Bool->Hp->Prop) (b:Bool) (s':Shared):Prop:=∃ H',Inv X pins σ H' s'/\Q b H'
noncomputable def AP (X:Cx) (pins:List (Addr×Obj)) (σ:St) (Q:List V->Hp->Prop) (us:List Value) (s':Shared):Prop:=∃ vs H',Inv X pins σ H' s'/\Vals vs us/\Q vs H'
noncomputable def SP (X:Cx) (pins:List (Addr×Obj)) (D:Ends) (f:Flow) (s':Shared):Prop :=
 match f with
 | .next=>∃ σ' H',Inv X pins σ' H' s'/\D.nx σ' H'
 | .brk=>∃ σ' H',Inv X pins σ' H' s'/\D.bk σ' H'
 | .cont=>∃ σ' H',Inv X pins σ' H' s'/\D.ct σ' H'
 | .ret u=>∃ v σ' H',Inv X pins σ' H' s'/\y3 v u/\D.rt v H'
noncomputable def PE (X:Cx) (e:Expr) (t:TE):Prop :=
 ∀ (pins:List (Addr×Obj)) (s:Shared) (σ:St) (H:Hp) (Q:VK),Inv X pins σ H s->t σ H Q->wpAny (model X.prog X.w) X.A (eval e X.env) (EP X pins σ Q) X.xe s
noncomputable def PT (X:Cx) (e:Expr) (t:TT):Prop :=
 ∀ (pins:List (Addr×Obj)) (s:Shared) (σ:St) (H:Hp) (Q:Bool->Hp->Prop),Inv X pins σ H s->t σ H Q->wpAny (model X.prog X.w) X.A (isTrue e X.env (eval e X.env)) (TP X pins σ Q) X.xe s
noncomputable def PW (X:Cx) (e:Expr) (t:TT):Prop :=
 ∀ (whole:Sem Value) (pins:List (Addr×Obj)) (s:Shared) (σ:St) (H:Hp) (Q:Bool->Hp->Prop),Inv X pins σ H s->t σ H Q->wpAny (model X.prog X.w) X.A (isTrue e X.env whole) (TP X pins σ Q) X.xe s
theorem PW.pt {X:Cx}{e:Expr}{t:TT}(h:PW X e t):PT X e t:=h _
noncomputable def PA (X:Cx) (es:List Expr) (t:TA):Prop :=
 ∀ (pos:Pos) (pins:List (Addr×Obj)) (s:Shared) (σ:St) (H:Hp) (Q:List V->Hp->Prop),Inv X pins σ H s->t σ H Q->wpAny (model X.prog X.w) X.A (spliced (backTo pos (starEach es X.env))) (AP X pins σ Q) X.xe s
noncomputable def PS (X:Cx) (st:Stmt) (t:TS):Prop :=
 ∀ (pins:List (Addr×Obj)) (s:Shared) (σ:St) (H:Hp) (D:Ends),Inv X pins σ H s->t D σ H->wpAny (model X.prog X.w) X.A (exec st X.env) (SP X pins D) X.xe s
noncomputable def PSs (X:Cx) (st:List Stmt) (t:TS):Prop :=
 ∀ (pins:List (Addr×Obj)) (s:Shared) (σ:St) (H:Hp) (D:Ends),Inv X pins σ H s->t D σ H->wpAny (model X.prog X.w) X.A (execs st X.env) (SP X pins D) X.xe s
theorem thn {α:Type}{t:Sem α}{Q Q':α->Shared->Prop}{M:Model}{A:Around}{E:Value->Shared->Prop}{s:Shared}(h:wpAny M A t Q E s) (hQ:∀ a s,Q a s->Q' a s):wpAny M A t Q' E s:=N0p h hQ λ o_ o_ x=>x
theorem thx {α β:Type}{t:Sem α}{P:Hp→Shared→Prop}{R:β→α→Prop}{K:β→Hp→Prop}{Q':α→Shared→Prop}{M:Model}{A:Around}{E:Value→Shared→Prop}{s:Shared}(h:wpAny M A t (fun u s'=>∃ x H',P H' s'∧R x u∧K x H') E s) (hQ:∀ u s1 x H1,P H1 s1→R x u→K x H1→Q' u s1):wpAny M A t Q' E s :=
 thn h fun u s1 ⟨x,H1,I1,r,q⟩=>hQ u s1 x H1 I1 r q
section
variable {X:Cx}
noncomputable def z8w (i:Nat):TE:=λ σ H Q=>∃ v,σ[i]? = some (some v)/\Q v H
noncomputable def tC (v:V):TE:=λ o_ H Q=>Q v H
theorem Y7 {i:Nat}{x:Str}{pos:Pos}(hN:X.N[i]? = some x) (hv:Vis X.env.scope x) (hd:(x==("__debug__" : Str))=false:=by decide) (hcd:(x==("__classdict__" : Str))=false:=by decide):PE X (.Name x pos) (z8w i):=by
 intro pins s σ H Q I h
 obtain ⟨v,e,h⟩:=h
 obtain ⟨m,hn,hl⟩:=I.loc
 obtain ⟨u,r,l⟩:=hl i x v hN e hv
 have fin:EP X pins σ Q u s:=⟨v,H,I,r,h⟩
 rcases l with ⟨hk,hm⟩ | ⟨hk,c,hc,hcell⟩
 ·exact wpAny_Name (wpAny_loadName_local I.ok.kind hk hn hm fin) hd
 ·rcases hk with hk | hk
  ·exact wpAny_Name (wpAny_loadName_cell I.ok.kind hk hc hcell fin) hd
  ·exact wpAny_Name (wpAny_loadName_free I.ok.kind hk hc hcell fin hcd) hd
theorem q8N {i j pos}:PE X (.Constant (.int i) j pos) (tC (.int i)):=λ o_ o_ o_ H o_ I h=>wpAny_Constant_int ⟨.int i,H,I.tok _,⟨_,rfl⟩,h⟩
theorem z6U {b j pos}:PE X (.Constant (.bool b) j pos) (tC (.bl b)):=λ o_ o_ o_ H o_ I h=>Constant_bool ⟨.bl b,H,I,rfl,h⟩
theorem z4D {j pos}:PE X (.Constant .none j pos) (tC .non):=λ o_ o_ o_ H o_ I h=>Constant_none ⟨.non,H,I,rfl,h⟩
theorem z4E {x j pos}:PE X (.Constant (.str x) j pos) (tC (.str x)):=λ o_ o_ o_ H o_ I h=>Calls.Constant_str ⟨.str x,H,I.tok _,⟨_,rfl⟩,h⟩
noncomputable def Gl (X:Cx) (x:Str):Prop:=X.env.kindOf x=some .globalImplicit
theorem q67 {E:Value->Shared->Prop}{pins:List (Addr×Obj)}{s:Shared}{σ:St}{H:Hp}{x:Str}{u:Value}{pos:Pos}{Q:Value->Shared->Prop}(I:Inv X pins σ H s) (hg:Gl X x) (hm:X.mg x=some u) (h:Q u s)
 (hd:(x==("__debug__" : Str))=false:=by decide):wpAny (model X.prog X.w) X.A (eval (.Name x pos) X.env) Q E s :=
 Calls.Name_function_global I.ok.kind hg (Calls.loadGlobal_global (by rw [I.ok.glob];exact I.mod.glob.keeps I.bk) hm h) hd
theorem q4X {E:Value->Shared->Prop}{pins:List (Addr×Obj)}{s:Shared}{σ:St}{H:Hp}{x:Str}{u:Value}{pos:Pos}{Q:Value->Shared->Prop}(I:Inv X pins σ H s) (hg:Gl X x) (hm:X.mg x=none) (hv:bootBuiltins x=some u) (h:Q u s)
 (hn:x≠"__name__":=by decide) (hd:(x==("__debug__" : Str))=false:=by decide):wpAny (model X.prog X.w) X.A (eval (.Name x pos) X.env) Q E s:=by
 obtain ⟨mb,h1,h2⟩:=I.mod.blt
 exact Calls.Name_function_global I.ok.kind hg (Calls.loadGlobal_builtin (by rw [I.ok.glob];exact I.mod.glob.keeps I.bk) hm (by rw [I.ok.blt];exact h1.keeps I.bk) ((h2 x hn).trans hv) h) hd
theorem q68 {x:Str}{v:V}{u:Value}{pos:Pos}(hg:Gl X x) (hm:X.mg x=some u) (r:y3 v u) (hd:(x==("__debug__" : Str))=false:=by decide):PE X (.Name x pos) (tC v) :=
 λ o_ o_ o_ H o_ I h=>q67 I hg hm ⟨v,H,I,r,h⟩ hd
theorem z2I {x:Str}{v:V}{u:Value}{pos:Pos}(hg:Gl X x) (hm:X.mg x=none) (hv:bootBuiltins x=some u) (r:y3 v u) (hn:x≠"__name__":=by decide) (hd:(x==("__debug__" : Str))=false:=by decide):PE X (.Name x pos) (tC v) :=
 λ o_ o_ o_ H o_ I h=>q4X I hg hm hv ⟨v,H,I,r,h⟩ hn hd
variable {a b:Expr}{ta tb:TE}{pos:Pos}
noncomputable def tB (t:TE):TT:=λ σ H Q=>t σ H λ x H1=>∃ c,x=.bl c/\Q c H1
variable {tA tB':TT}{rest:List Expr}
noncomputable def tAnd (t u:TT):TT:=λ σ H Q=>t σ H λ c H1=>if c=true then u σ H1 Q else Q false H1
noncomputable def tOr (t u:TT):TT:=λ σ H Q=>t σ H λ c H1=>if c=true then Q true H1 else u σ H1 Q
noncomputable def tNot (t:TT):TT:=λ σ H Q=>t σ H λ c H1=>Q (!c) H1
theorem z2J (ha:PT X a tA):PW X (.BoolOp .And [a] pos) tA:=by
 intro wh pins s σ H Q I h
 refine isTrue_and (thn (ha pins s σ H Q I h) λ c s1 e=>?_)
 cases c with
 | true=>exact isTrue_and_nil e
 | false=>exact e
theorem z4F (ha:PT X a tA):PW X (.BoolOp .Or [a] pos) tA:=by
 intro wh pins s σ H Q I h
 refine isTrue_or (thn (ha pins s σ H Q I h) λ c s1 e=>?_)
 cases c with
 | false=>exact isTrue_or_nil e
 | true=>exact e
theorem z4G (ha:PT X a tA) (hb:PW X (.BoolOp .And (b::rest) pos) tB'):PW X (.BoolOp .And (a::b::rest) pos) (tAnd tA tB'):=by
 intro wh pins s σ H Q I h
 refine isTrue_and (thn (ha pins s σ H _ I h) λ c s1 hx_=>?_)
 obtain ⟨H1,I1,q1⟩:=hx_
 cases c with
 | true=>exact hb wh pins s1 σ H1 Q I1 q1
 | false=>exact ⟨H1,I1,q1⟩
theorem z6V (ha:PT X a tA) (hb:PW X (.BoolOp .Or (b::rest) pos) tB'):PW X (.BoolOp .Or (a::b::rest) pos) (tOr tA tB'):=by
 intro wh pins s σ H Q I h
 refine isTrue_or (thn (ha pins s σ H _ I h) λ c s1 hx_=>?_)
 obtain ⟨H1,I1,q1⟩:=hx_
 cases c with
 | true=>exact ⟨H1,I1,q1⟩
 | false=>exact hb wh pins s1 σ H1 Q I1 q1
theorem z4H (ha:PT X a tA):PT X (.UnaryOp .Not a pos) (tNot tA):=by
 intro pins s σ H Q I h
 exact isTrue_not (ha pins s σ H (λ c H1=>Q (!c) H1) I h)
noncomputable def z6W (ta tb:TE):TE:=λ σ H Q=>ta σ H λ x H1=>∃ c,x=.bl c/\if c=true then tb σ H1 Q else Q (.bl false) H1
noncomputable def tOrV (ta tb:TE):TE:=λ σ H Q=>ta σ H λ x H1=>∃ c,x=.bl c/\if c=true then Q (.bl true) H1 else tb σ H1 Q
theorem z4I {op}{t:TE}(h:PE X a t):PE X (.BoolOp op [a] pos) t:=λ pins s σ H Q I hw=>BoolOp_one (h pins s σ H Q I hw)
theorem z4J (ha:PE X a ta) (hb:PE X (.BoolOp .And (b::rest) pos) tb):PE X (.BoolOp .And (a::b::rest) pos) (z6W ta tb):=by
 intro pins s σ H Q I h
 refine BoolOp_and (thx (ha pins s σ H _ I h) λ v s1 x H1 I1 r1 q1=>?_)
 obtain ⟨c,rfl,q1⟩:=q1
 cases r1
 refine wpAny_truthy_bool ?_
 cases c with
 | true=>exact hb pins s1 σ H1 Q I1 q1
 | false=>exact ⟨.bl false,H1,I1,rfl,q1⟩
theorem z6X (ha:PE X a ta) (hb:PE X (.BoolOp .Or (b::rest) pos) tb):PE X (.BoolOp .Or (a::b::rest) pos) (tOrV ta tb):=by
 intro pins s σ H Q I h
 refine BoolOp_or (thx (ha pins s σ H _ I h) λ v s1 x H1 I1 r1 q1=>?_)
 obtain ⟨c,rfl,q1⟩:=q1
 cases r1
 refine wpAny_truthy_bool ?_
 cases c with
 | false=>exact hb pins s1 σ H1 Q I1 q1
 | true=>exact ⟨.bl true,H1,I1,rfl,q1⟩
noncomputable def tIf (t:TT) (ta tb:TE):TE:=λ σ H Q=>t σ H λ c H1=>if c=true then ta σ H1 Q else tb σ H1 Q
theorem z10 {c:Expr}(hc:PT X c tA) (ha:PE X a ta) (hb:PE X b tb):PE X (.IfExp c a b pos) (tIf tA ta tb):=by
 intro pins s σ H Q I h
 refine wpAny_IfExp (thn (hc pins s σ H _ I h) λ d s1 hx_=>?_)
 obtain ⟨H1,I1,q1⟩:=hx_
 cases d with
 | true=>exact ha pins s1 σ H1 Q I1 q1
 | false=>exact hb pins s1 σ H1 Q I1 q1
end
noncomputable def SqL (K:W.Frag) (H:Hp) (a:Addr) (xs:List V):Prop :=
 Rd H a (.lst xs) \/
  ∃ (o:Obj) (its:Array Value) (n:Nat),K.lookup a=some o/\o.cls=.type "list"/\o.dict=none/\o.data=.seq its n/\its.size<=sizeLine/\Vals xs its.toList
noncomputable def SqT (K:W.Frag) (H:Hp) (a:Addr) (xs:List V):Prop :=
 Rd H a (.tup xs) \/
  ∃ (o:Obj) (its:Array Value) (n:Nat),K.lookup a=some o/\o.cls=.type "tuple"/\o.data=.seq its n/\its.size<=sizeLine/\Vals xs its.toList
noncomputable def absV:Value->Option V
 | .none=>some .non
 | .bool b=>some (.bl b)
 | .int i _=>some (.int i)
 | .str x _=>some (.str x)
 | .bytes b _=>some (.byt b)
 | .float b _=>some (.flt b)
 | .ref a=>some (.ref a)
 | .type n=>some (.ty n)
 | _=>none
theorem y3.abs {x:V}{u:Value}(r:y3 x u):absV u=some x:=by
 cases x with
 | non=>cases r;rfl
 | bl _=>cases r;rfl
 | int _=>obtain ⟨t,rfl⟩:=r;rfl
 | str _=>obtain ⟨t,rfl⟩:=r;rfl
 | byt _=>obtain ⟨t,rfl⟩:=r;rfl
 | flt _=>obtain ⟨t,rfl⟩:=r;rfl
 | ref _=>cases r;rfl
 | ty _=>cases r;rfl
theorem y3.inj {x y:V}{u:Value}(r:y3 x u) (q:y3 y u):x=y:=N0b (r.abs.symm.trans q.abs)
theorem Vals.inj:∀ {xs ys:List V}{us:List Value},Vals xs us->Vals ys us->xs=ys
 | _,_,_,.nil,.nil=>rfl
 | _,_,_,.cons r t,.cons r' t'=>by rw [r.inj r',Vals.inj t t']
section
variable {X:Cx}{pins:List (Addr×Obj)}{σ:St}{H:Hp}{s:Shared}{a:Addr}{xs ys:List V}
theorem SqL.of {K:W.Frag}(h:H a=some (.lst xs)):SqL K H a xs:=.inl (.inl h)
theorem SqT.of {K:W.Frag}(h:H a=some (.tup xs)):SqT K H a xs:=.inl (.inl h)
theorem Inv.list (I:Inv X pins σ H s) (h:SqL X.K H a xs):∃ its:List Value,Vals xs its/\PlainL s.heap a its.toArray/\xs.length<=sizeLine:=by
 rcases h with h | ⟨o,its,n,hk,hc,hd,hs,hz,r⟩
 ·obtain ⟨z,its,n,r,e⟩:=h.ok I.hok
  exact ⟨its,r,⟨_,n,e,rfl,rfl,rfl⟩,z⟩
 ·refine ⟨its.toList,r,⟨o,n,I.kIn a o hk,hc,hd,by simpa using hs⟩,?_⟩
  have e:=r.length
  simp only [N0g] at e
  simp_all
theorem Inv.tuple (I:Inv X pins σ H s) (h:SqT X.K H a xs):∃ its:List Value,Vals xs its/\IsTup s.heap a its.toArray/\xs.length<=sizeLine:=by
 rcases h with h | ⟨o,its,n,hk,hc,hs,hz,r⟩
 ·obtain ⟨z,its,r,p⟩:=h.ok I.hok
  exact ⟨its,r,p,z⟩
 ·refine ⟨its.toList,r,⟨o,I.kIn a o hk,hc,n,by simpa using hs⟩,?_⟩
  have e:=r.length
  simp only [N0g] at e
  simp_all
theorem Inv.list_inj (I:Inv X pins σ H s) (h:SqL X.K H a xs) (h':SqL X.K H a ys):xs=ys:=by
 obtain ⟨its,r,⟨o,n,e,_,_,d⟩,_⟩:=I.list h
 obtain ⟨its',r',⟨o',n',e',_,_,d'⟩,_⟩:=I.list h'
 rw [e] at e';cases e'
 rw [d] at d'
 injection d' with d1 _
 have:its=its':=by simpa using congrArg Array.toList d1
 subst this
 exact r.inj r'
theorem Inv.tuple_inj (I:Inv X pins σ H s) (h:SqT X.K H a xs) (h':SqT X.K H a ys):xs=ys:=by
 obtain ⟨its,r,⟨o,e,_,n,d⟩,_⟩:=I.tuple h
 obtain ⟨its',r',⟨o',e',_,n',d'⟩,_⟩:=I.tuple h'
 rw [e] at e';cases e'
 rw [d] at d'
 injection d' with d1 _
 have:its=its':=by simpa using congrArg Array.toList d1
 subst this
 exact r.inj r'
end
noncomputable abbrev Cx.wish (X:Cx) (E:Value->Shared->Prop):Cx:={ X with xe:=E }
noncomputable abbrev Cx.nox (X:Cx):Cx:=X.wish λ o_ o_=>False
theorem Cx.Ok.wish {X:Cx}(ok:X.Ok) (E:Value->Shared->Prop):(X.wish E).Ok :=
 ⟨ok.mod,ok.kind,ok.glob,ok.blt,ok.above,ok.inj,ok.has,ok.cab,ok.hd,ok.frames,ok.stk,ok.exf,ok.bs,ok.bsz,ok.noex,ok.exfs,ok.funs,ok.frf⟩
theorem Cx.Ok.unwish {X:Cx}{E:Value->Shared->Prop}(ok:(X.wish E).Ok):X.Ok :=
 ⟨ok.mod,ok.kind,ok.glob,ok.blt,ok.above,ok.inj,ok.has,ok.cab,ok.hd,ok.frames,ok.stk,ok.exf,ok.bs,ok.bsz,ok.noex,ok.exfs,ok.funs,ok.frf⟩
section
variable {X:Cx}{pins:List (Addr×Obj)}{σ:St}{H:Hp}{s:Shared}{E:Value->Shared->Prop}
theorem Inv.wish (I:Inv X pins σ H s) (E:Value->Shared->Prop):Inv (X.wish E) pins σ H s:=⟨I.ok.wish E,I.os,I.bare,I.base,I.loc,I.cell,I.free,I.freeC,I.pin,I.hok,I.len⟩
theorem Inv.unwish (I:Inv (X.wish E) pins σ H s):Inv X pins σ H s:=⟨I.ok.unwish,I.os,I.bare,I.base,I.loc,I.cell,I.free,I.freeC,I.pin,I.hok,I.len⟩
theorem SP.unwish {D:Ends}{f:Flow}{s':Shared}(h:SP (X.wish E) pins D f s'):SP X pins D f s':=by
 cases f with
 | next=>obtain ⟨σ',H',I,q⟩:=h;exact ⟨σ',H',I.unwish,q⟩
 | brk=>obtain ⟨σ',H',I,q⟩:=h;exact ⟨σ',H',I.unwish,q⟩
 | cont=>obtain ⟨σ',H',I,q⟩:=h;exact ⟨σ',H',I.unwish,q⟩
 | ret u=>obtain ⟨v,σ',H',I,r,q⟩:=h;exact ⟨v,σ',H',I.unwish,r,q⟩
theorem PSs.nox {st:List Stmt}{t:TS}(h:PSs X.nox st t):PSs X st t:=λ pins s σ H D I hw =>
 N0p (h pins s σ H D (I.wish _) hw) (λ o_ o_ q=>q.unwish) λ o_ o_ z=>False.elim z
end
section
variable {X:Cx}{st:Stmt}{rest:List Stmt}{t u:TS}{e:Expr}{te:TE}{pos:Pos}
noncomputable def z6Y:TS:=λ D σ H=>D.nx σ H
noncomputable def tSeq (t u:TS):TS:=λ D σ H=>t { D with nx:=u D } σ H
theorem z2K:PSs X [] z6Y:=λ o_ o_ σ H o_ I h=>wpAny_execs_nil ⟨σ,H,I,h⟩
theorem q40 (h1:PS X st t) (h2:PSs X rest u):PSs X (st::rest) (tSeq t u):=by
 intro pins s σ H D I h
 refine wpAny_execs_cons (thn (h1 pins s σ H { D with nx:=u D } I h) λ f s1 q=>?_)
 cases f with
 | next =>
  obtain ⟨σ',H',I',q⟩:=q
  exact h2 pins s1 σ' H' D I' q
 | ret v=>exact q
 | brk=>exact q
 | cont=>exact q
theorem q8O (h1:PS X st t):PSs X [st] t:=by
 intro pins s σ H D I h
 refine wpAny_execs_cons (thn (h1 pins s σ H D I h) λ f s1 q=>?_)
 cases f with
 | next=>exact wpAny_execs_nil q
 | ret v=>exact q
 | brk=>exact q
 | cont=>exact q
theorem Inv.quiet {pins:List (Addr×Obj)}{σ:St}{H:Hp}{s:Shared}(I:Inv X pins σ H s):interactive X.env=false:=by simp [interactive,I.ok.kind]
noncomputable def z6Z (te:TE):TS:=λ D σ H=>te σ H λ o_ H1=>D.nx σ H1
theorem q1V (he:PE X e te) (hs:swapsWith e none pos.line X.env=pure false:=by rfl):PS X (.Expr e pos) (z6Z te):=by
 intro pins s σ H D I h
 exact wpAny_Expr_any (thx (he pins s σ H _ I h) λ v s1 x H1 I1 r1 q1=>⟨σ,H1,I1,q1⟩) I.quiet hs
noncomputable def tRet (te:TE):TS:=λ D σ H=>te σ H D.rt
theorem q4Y (he:PE X e te):PS X (.Return (some e) pos) (tRet te):=by
 intro pins s σ H D I h
 exact wpAny_Return_some (thx (he pins s σ H _ I h) λ v s1 x H1 I1 r1 q1=>⟨x,σ,H1,I1,r1,q1⟩)
noncomputable def tIfS (c:TT) (t u:TS):TS:=λ D σ H=>c σ H λ b H1=>if b=true then t D σ H1 else u D σ H1
theorem z70 {c:Expr}{a b:List Stmt}{tc:TT}(hc:PT X c tc) (ha:PSs X a t) (hb:PSs X b u):PS X (.If c a b pos) (tIfS tc t u):=by
 intro pins s σ H D I h
 refine wpAny_If (thn (hc pins s σ H _ I h) λ d s1 hx_=>?_)
 obtain ⟨H1,I1,q1⟩:=hx_
 cases d with
 | true=>exact ha pins s1 σ H1 D I1 q1
 | false=>exact hb pins s1 σ H1 D I1 q1
noncomputable def z4K:TS:=λ o_ o_ o_=>False
theorem z11:PS X st z4K:=λ o_ o_ o_ o_ o_ o_ h=>h.elim
end
noncomputable abbrev TG:=V->St->Hp->(St->Hp->Prop)->Prop
noncomputable abbrev TGs:=List V->St->Hp->(St->Hp->Prop)->Prop
noncomputable def PG (X:Cx) (target:Expr) (t:TG):Prop :=
 ∀ (pins:List (Addr×Obj)) (s:Shared) (σ:St) (H:Hp) (v:V) (u:Value) (Q:St->Hp->Prop),Inv X pins σ H s->y3 v u->t v σ H Q ->
  wpAny (model X.prog X.w) X.A (assign target X.env u) (λ o_ s'=>∃ σ' H',Inv X pins σ' H' s'/\Q σ' H') X.xe s
noncomputable def PGs (X:Cx) (ts:List Expr) (t:TGs):Prop :=
 ∀ (pins:List (Addr×Obj)) (s:Shared) (σ:St) (H:Hp) (vs:List V) (us:List Value) (Q:St->Hp->Prop),Inv X pins σ H s->Vals vs us->t vs σ H Q ->
  wpAny (model X.prog X.w) X.A (assignInOrder ((assignEach ts X.env).map (·.2)) us) (λ o_ s'=>∃ σ' H',Inv X pins σ' H' s'/\Q σ' H') X.xe s
noncomputable abbrev z71:=V->V->V->Hp->(Hp->Prop)->Prop
noncomputable def z8x (X:Cx) (t:z71):Prop :=
 ∀ (pins:List (Addr×Obj)) (s:Shared) (σ:St) (H:Hp) (o i v:V) (ov iv u:Value) (Q:Hp->Prop),Inv X pins σ H s->y3 o ov->y3 i iv->y3 v u->t o i v H Q ->
  wpAny (model X.prog X.w) X.A (setItem ov iv u) (λ o_ s'=>∃ H',Inv X pins σ H' s'/\Q H') X.xe s
section
variable {X:Cx}{pos:Pos}
noncomputable def q7S (i:Nat):TG:=λ v σ H Q=>Q (σ.set i (some v)) H
theorem q0K {i:Nat}{x:Str}(hN:X.N.Nodup) (hi:X.N[i]? = some x) (hx:Loc X.env.scope x) (hf:X.fn x=true\/X.env.scope.names.lookup x=some .local:=by nofun):PG X (.Name x pos) (q7S i):=by
 intro pins s σ H v u Q I r h
 exact wpAny_assign_Name (q6V I hN hi hx r (λ s' I'=>⟨_,H,I',h⟩) hf)
noncomputable def gNil:TGs:=λ vs σ H Q=>vs=[]/\Q σ H
noncomputable def gCons (t:TG) (u:TGs):TGs:=λ vs σ H Q=>∃ v r,vs=v::r/\t v σ H λ σ' H'=>u r σ' H' Q
theorem z2L:PGs X [] gNil:=by
 intro pins s σ H vs us Q I r h
 obtain ⟨e,h⟩:=h
 subst e
 cases r
 exact assignInOrder_nil ⟨σ,H,I,h⟩
theorem q41 {e:Expr}{es:List Expr}{t:TG}{u:TGs}(h1:PG X e t) (h2:PGs X es u)
 (hs:(assignEach (e::es) X.env).map (·.2)=assign e X.env::(assignEach es X.env).map (·.2):=by rfl):PGs X (e::es) (gCons t u):=by
 intro pins s σ H vs us Q I r h
 obtain ⟨v,vr,e1,h⟩:=h
 subst e1
 cases r with
 | cons r rr =>
  rw [hs]
  refine assignInOrder_cons (thn (h1 pins s σ H _ _ _ I r h) λ o1_ s1 hx_=>?_)
  obtain ⟨σ1,H1,I1,q1⟩:=hx_
  exact h2 pins s1 σ1 H1 _ _ Q I1 rr q1
noncomputable def gTup (K:W.Frag) (n:Nat) (t:TGs):TG:=λ v σ H Q=>∃ a xs,v=.ref a/\SqT K H a xs/\xs.length=n/\t xs σ H Q
theorem z4L {es:List Expr}{k:Nat}{t:TGs}{n:Nat}(hc:X.calm=true) (h:PGs X es t)
 (hn:(assignEach es X.env).length=n:=by rfl) (hst:(assignEach es X.env).findIdx? (·.1)=none:=by rfl):PG X (.Tuple es k pos) (gTup X.K n t):=by
 intro pins s σ H v u Q I r hw
 obtain ⟨a,xs,e1,hq,hl,hw⟩:=hw
 subst e1
 cases r
 obtain ⟨its,rv,ht,hz⟩:=I.tuple hq
 refine assign_Tuple_tuple (I.ok.hd hc) ht (by simp [hn,<- hl,rv.length]) hst λ h' hx=>?_
 have I1:Inv X pins σ H { s with heap:=h' }:=I.kept (t':=s.toks) λ b o e=>hx b o (N12 (N1p e)) e
 exact h pins _ σ H xs _ Q I1 (by simpa using rv) hw
noncomputable def gSub (to ti:TE) (t:z71):TG:=λ v σ H Q=>to σ H λ o H1=>ti σ H1 λ i H2=>t o i v H2 λ H3=>Q σ H3
theorem z4M {o i:Expr}{to ti:TE}{t:z71}(ho:PE X o to) (hi:PE X i ti) (hs:z8x X t)
 (ha:∀ v,assign (.Subscript o i pos) X.env v=(do
  let ov <- holding [v] (eval o X.env)
  let iv <- holding [v,ov] (eval i X.env)
  standAt pos
  holding [v,ov,iv] (setItem ov iv v)
  release [v,ov,iv] []):=by intro _;rfl):PG X (.Subscript o i pos) (gSub to ti t):=by
 intro pins s σ H v u Q I r h
 rw [ha]
 refine N03 (wpAny_holding (thx (ho pins s σ H _ I h) λ ov s1 x H1 I1 r1 q1=>?_))
 refine N03 (wpAny_holding (thx (hi pins s1 σ H1 _ I1 q1) λ iv s2 y H2 I2 r2 q2=>?_))
 refine N03 (wpAny_standAt (N03 (wpAny_holding (thn (hs pins s2 σ H2 x y v ov iv u _ I2 r1 r2 r q2) λ o1_ s3 hx_=>?_))))
 obtain ⟨H3,I3,q3⟩:=hx_
 exact wpAny_release ⟨σ,H3,I3,q3⟩
noncomputable def z6h (te:TE) (g:TG):TS:=λ D σ H=>te σ H λ x H1=>g x σ H1 D.nx
theorem z2c {tg e:Expr}{te:TE}{g:TG}(he:PE X e te) (hg:PG X tg g) (hs:swapsWithSole [tg] e pos.line X.env=pure false:=by rfl) (hw:swappedStores [tg] e X.env=pure none:=by rfl)
 (h1:(assignEach [tg] X.env).map (·.2)=[assign tg X.env]:=by rfl):PS X (.Assign [tg] e pos) (z6h te g):=by
 intro pins s σ H D I h
 refine wpAny_Assign_stores (thx (he pins s σ H _ I h) λ v s1 x H1 I1 r1 q1=>?_) hs hw
 rw [h1]
 exact thn (hg pins s1 σ H1 x v _ I1 r1 q1) λ o_ s2 q=>q
theorem q6W {i:Nat}{x:Str}{e:Expr}{te:TE}{pos':Pos}(hN:X.N.Nodup) (hi:X.N[i]? = some x) (hx:Loc X.env.scope x) (he:PE X e te) (hs:swapsWith e (some (.Name x pos')) pos.line X.env=pure false:=by rfl) (hf:X.fn x=true\/X.env.scope.names.lookup x=some .local:=by nofun) :
 PS X (.Assign [.Name x pos'] e pos) (z6h te (q7S i)):=by
 intro pins s σ H D I h
 refine wpAny_Assign_Name (thx (he pins s σ H _ I h) λ v s1 y H1 I1 r1 q1=>?_) hs
 exact q6V I1 hN hi hx r1 (λ s2 I2=>⟨_,H1,I2,q1⟩) hf
noncomputable def z4N (c:TT) (tb:TS):TS:=λ D σ H=>∃ W:Nat->St->Hp->Prop,(∃ m,W m σ H)/\∀ m σ H,W m σ H ->
 c σ H λ b H1=>if b=true then ∃ N:St->Hp->Prop,(∀ σ' H',N σ' H'->∃ m',m'<m/\W m' σ' H')/\tb { D with nx:=N,ct:=N,bk:=D.nx } σ H1 else D.nx σ H1
theorem z12 {c:Expr}{body:List Stmt}{tc:TT}{tb:TS}(hp:PassesOwn (model X.prog X.w) X.A X.env X.xe) (hc:PT X c tc) (hb:PSs X body tb):PS X (.While c body [] pos) (z4N tc tb):=by
 intro pins s σ H D I h
 obtain ⟨W,⟨m0,w0⟩,turn⟩:=h
 refine wpAny_While (codeAny_whileLoop (λ n s'=>∃ σ' H',Inv X pins σ' H' s'/\W n σ' H') ?_ m0 ⟨σ,H,I,w0⟩)
 rintro n s1 ⟨σ1,H1,I1,w1⟩
 refine wpAny_passesOwn hp (thn (hc pins s1 σ1 H1 _ I1 (turn n σ1 H1 w1)) λ b s2 hx_=>?_)
 obtain ⟨H2,I2,q2⟩:=hx_
 cases b with
 | true =>
  obtain ⟨N,hN,q2⟩:=q2
  rw [N0j rfl]
  refine wpAny_passesOwn hp (thn (hb pins s2 σ1 H2 _ I2 q2) λ f s3 q3=>?_)
  cases f with
  | next =>
   obtain ⟨σ3,H3,I3,n3⟩:=q3
   obtain ⟨m',hm,w3⟩:=hN σ3 H3 n3
   exact ⟨m',hm,σ3,H3,I3,w3⟩
  | cont =>
   obtain ⟨σ3,H3,I3,n3⟩:=q3
   obtain ⟨m',hm,w3⟩:=hN σ3 H3 n3
   exact ⟨m',hm,σ3,H3,I3,w3⟩
  | brk=>exact q3
  | ret v=>exact q3
 | false =>
  rw [N0l N0d]
  exact wpAny_execs_nil ⟨σ1,H2,I2,q2⟩
end
structure It where
 go:Nat->Hp->Prop
 yld:Nat->Hp->V->Hp->Prop
 stop:Nat->Hp->Prop
noncomputable def FpOk (X:Cx) (pins:List (Addr×Obj)) (H:Hp) (b:Addr):Prop :=
 H b=none/\b≠X.env.locals/\b∉X.fs/\(b∈X.ex\/X.s₀.heap.objs.size<=b)/\(∀ x c,X.env.cells.lookup x=some c->c≠b)/\∀ p∈X.pn++pins,p.1≠b
theorem Inv.fpOk {X:Cx}{pins:List (Addr×Obj)}{σ:St}{H H':Hp}{s:Shared}{b:Addr}(I:Inv X pins σ H s) (hb:s.heap.objs.size<=b) (hn:H' b=none):FpOk X pins H' b:=by
 refine ⟨hn,Nat.ne_of_gt (N0n I.lt hb),I.nofs hb,.inr (N0v I.sz hb),λ x c e z=>?_,λ p hp z=>?_⟩
 ·obtain ⟨v,q⟩:=I.cell x c e
  exact absurd (N0n q.lt (by rw [z];exact hb)) (N1a _)
 ·exact absurd (N0n (N1p (I.pin p hp).1) (by rw [z];exact hb)) (N1a _)
structure Turn (P:Program) (w:World) (K:W.Frag) (tg:Expr) (J:It) (fp:List Addr) (it:Addr) (tn:Nat->Heap->Prop):Prop where
 mem:it∈fp
 obj:∀ i h,tn i h->∀ b∈fp,∃ o,h.get? b=some o/\∀ v,o.data≠.cell v
 keep:∀ i h h',tn i h->(∀ b∈fp,∀ o,h.get? b=some o->h'.get? b=some o)->tn i h'
 item:∀ (X:Cx),X.prog=P->X.w=w->X.K=K->X.calm=true->∀ (i:Nat) (pins:List (Addr×Obj)) (s:Shared) (σ:St) (H:Hp) (E:Value->Shared->Prop),Inv X pins σ H s->(∀ b∈fp,FpOk X pins H b)->tn i s.heap->J.go i H ->
  wpAny (model P w) X.A (pyNext (.ref it)) (λ r s1=>∃ u,r=some u /\
   wpAny (model P w) X.A (letOwnedTupleGo tg (.ref it) u) (λ o_ s2=>∃ x H',Inv X pins σ H' s2/\y3 x u/\J.yld i H x H'/\tn (i+1) s2.heap/\∀ b∈fp,H' b=none) E s1) E s
 done:∀ (X:Cx),X.prog=P->X.w=w->X.K=K->X.calm=true->∀ (i:Nat) (pins:List (Addr×Obj)) (s:Shared) (σ:St) (H:Hp) (E:Value->Shared->Prop),Inv X pins σ H s->(∀ b∈fp,FpOk X pins H b)->tn i s.heap->J.stop i H ->
  wpAny (model P w) X.A (pyNext (.ref it)) (λ r s1=>r=none/\Inv X pins σ H s1) E s
 self:∀ (A:Around) (i:Nat) (s:Shared) (Q:Value->Shared->Prop) (E:Value->Shared->Prop),tn i s.heap->Q (.ref it) s->wpAny (model P w) A (pyIter (.ref it)) Q E s
noncomputable abbrev TI:=St->Hp->(It->Hp->Prop)->Prop
noncomputable def PIE (X:Cx) (pins:List (Addr×Obj)) (σ:St) (tg:Expr) (R:It->Hp->Prop) (itv:Value) (s2:Shared):Prop :=
 ∃ (it:Addr) (fp:List Addr) (tn:Nat->Heap->Prop) (J:It) (H':Hp),itv=.ref it/\Inv X pins σ H' s2/\Turn X.prog X.w X.K tg J fp it tn/\tn 0 s2.heap/\(∀ b∈fp,FpOk X pins H' b)/\R J H'
noncomputable def PI (X:Cx) (tg iter:Expr) (wi:TI):Prop :=
 ∀ (pins:List (Addr×Obj)) (s:Shared) (σ:St) (H:Hp) (R:It->Hp->Prop),Inv X pins σ H s->wi σ H R ->
  wpAny (model X.prog X.w) X.A (eval iter X.env) (λ v s1=>wpAny (model X.prog X.w) X.A (pyIter v) (PIE X pins σ tg R) X.xe s1) X.xe s
theorem q8P {M:Model}{A:Around}{E:Value->Shared->Prop}{s:Shared}{tg:Expr}{it:Addr}{u:Value}{o:Obj}{n:String}{vs:Array Value}{Q:Unit->Shared->Prop}(ho:s.heap.get? it=some o) (hc:o.cls=.type n) (hd:o.data=.fields vs)
 (hn:["enumerate","zip","dict_itemiterator","dict_reverseitemiterator","odict_iterator","itertools.zip_longest","itertools.pairwise"].contains n=false) (hQ:Q () s):wpAny M A (letOwnedTupleGo tg (.ref it) u) Q E s:=by
 unfold letOwnedTupleGo
 cases tg<;>first
  | exact N0y hQ
  | (cases u<;>first
   | exact N0y hQ
   | (
    refine N03 (wpAny_load ho ?_)
    rw [hc,hd]
    show wpAny M A (if (["enumerate","zip","dict_itemiterator","dict_reverseitemiterator","odict_iterator","itertools.zip_longest","itertools.pairwise"].contains n&&vs[0]? == some (rawInt _))=true then _ else _) Q E s
    rw [N0l (by intro h;rw [hn,Bool.false_and] at h;cases h)]
    exact N0y hQ))
noncomputable def Itl (K:W.Frag) (a:Addr):It :=
 ⟨λ i H=>∃ xs x,SqL K H a xs/\xs[i]? = some x,λ i H x H'=>H'=H/\∀ xs,SqL K H a xs->xs[i]? = some x,λ i H=>∃ xs,SqL K H a xs/\xs.length<=i⟩
noncomputable def Itt (K:W.Frag) (a:Addr):It :=
 ⟨λ i H=>∃ xs x,SqT K H a xs/\xs[i]? = some x,λ i H x H'=>H'=H/\∀ xs,SqT K H a xs->xs[i]? = some x,λ i H=>∃ xs,SqT K H a xs/\xs.length<=i⟩
noncomputable def Itr (lo:Int) (n:Nat):It:=⟨λ i o_=>i<n,λ i H x H'=>H'=H/\x=.int (lo+i),λ i o_=>n<=i⟩
theorem q8Q {P:Program}{w:World}{K:W.Frag}{tg:Expr}(a it:Addr):Turn P w K tg (Itl K a) [it] it (λ i h=>h.IsListIter it a i) where
 mem:=by simp
 obj:=λ i h st b hb=>by
  have e:b=it:=by simpa using hb
  subst e
  obtain ⟨o,e,c,d⟩:=st
  exact ⟨o,e,λ v z=>by rw [d] at z;cases z⟩
 keep:=λ i h h' st k=>st.at λ o e=>k it (by simp) o e
 item:=by
  intro X hP hw hK hc i pins s σ H E I hf st hg
  subst hP hw hK
  obtain ⟨xs,x,hq,hx⟩:=hg
  obtain ⟨its,rv,p,hz⟩:=I.list hq
  obtain ⟨u,hu,ru⟩:=rv.get hx
  obtain ⟨f0,f1,f2,f3,f4,f5⟩:=hf it (by simp)
  refine wpAny_pyNext_list_item st p.isList (x:=u) (by simpa using hu) λ h' st' sb=>?_
  have I1:Inv X pins σ H { s with heap:=h' }:=I.turned (t':=s.toks) (λ b o hb e=>(sb.2 b hb).trans e) f0 f1 f3 f4 f5
  obtain ⟨o,e,c,d⟩:=id st'
  exact ⟨u,rfl,q8P (s:={ s with heap:=h' }) e c d (by decide) ⟨x,H,I1,ru,⟨rfl,λ ys hy=>by rw [I.list_inj hy hq];exact hx⟩,st',λ b hb=>(hf b hb).1⟩⟩
 done:=by
  intro X hP hw hK hc i pins s σ H E I hf st hg
  subst hP hw hK
  obtain ⟨xs,hq,hx⟩:=hg
  obtain ⟨its,rv,p,hz⟩:=I.list hq
  obtain ⟨f0,f1,f2,f3,f4,f5⟩:=hf it (by simp)
  have hl:=rv.length
  exact wpAny_pyNext_list_end (I.ok.hd hc) st p.isList (by simp;simp_all) λ h' eb=>⟨rfl,I.turned (t':=s.toks) (λ b o hb e=>eb b o hb e) f0 f1 f3 f4 f5⟩
 self:=λ o_ o_ o_ o_ o_ st h=>wpAny_pyIter_listiter st h
theorem q7T {P:Program}{w:World}{K:W.Frag}{tg:Expr}(a it:Addr):Turn P w K tg (Itt K a) [it] it (λ i h=>h.IsTupleIter it a i) where
 mem:=by simp
 obj:=λ i h st b hb=>by
  have e:b=it:=by simpa using hb
  subst e
  obtain ⟨o,e,c,d⟩:=st
  exact ⟨o,e,λ v z=>by rw [d] at z;cases z⟩
 keep:=λ i h h' st k=>st.at λ o e=>k it (by simp) o e
 item:=by
  intro X hP hw hK hc i pins s σ H E I hf st hg
  subst hP hw hK
  obtain ⟨xs,x,hq,hx⟩:=hg
  obtain ⟨its,rv,p,hz⟩:=I.tuple hq
  obtain ⟨u,hu,ru⟩:=rv.get hx
  obtain ⟨f0,f1,f2,f3,f4,f5⟩:=hf it (by simp)
  refine wpAny_pyNext_tuple_item st (show s.heap.IsTuple a its.toArray from p) (x:=u) (by simpa using hu) λ h' st' sb=>?_
  have I1:Inv X pins σ H { s with heap:=h' }:=I.turned (t':=s.toks) (λ b o hb e=>(sb.2 b hb).trans e) f0 f1 f3 f4 f5
  obtain ⟨o,e,c,d⟩:=id st'
  exact ⟨u,rfl,q8P (s:={ s with heap:=h' }) e c d (by decide) ⟨x,H,I1,ru,⟨rfl,λ ys hy=>by rw [I.tuple_inj hy hq];exact hx⟩,st',λ b hb=>(hf b hb).1⟩⟩
 done:=by
  intro X hP hw hK hc i pins s σ H E I hf st hg
  subst hP hw hK
  obtain ⟨xs,hq,hx⟩:=hg
  obtain ⟨its,rv,p,hz⟩:=I.tuple hq
  obtain ⟨f0,f1,f2,f3,f4,f5⟩:=hf it (by simp)
  have hl:=rv.length
  exact wpAny_pyNext_tuple_end (I.ok.hd hc) st (show s.heap.IsTuple a its.toArray from p) (by simp;simp_all) λ h' eb=>⟨rfl,I.turned (t':=s.toks) (λ b o hb e=>eb b o hb e) f0 f1 f3 f4 f5⟩
 self:=λ o_ o_ o_ o_ o_ st h=>wpAny_pyIter_tupleiter st h
theorem q7U {P:Program}{w:World}{K:PySem.W.Frag}{tg:Expr}(it:Addr) (lo:Int) (n:Nat):Turn P w K tg (Itr lo n) [it] it (λ i h=>IsRangeIter h it (lo+(i:Nat) * 1) ((n:Int) - (i:Nat)) 1) where
 mem:=by simp
 obj:=λ i h st b hb=>by
  have e:b=it:=by simpa using hb
  subst e
  exact ⟨_,st,λ v z=>by
   have z':Data.fields _=Data.cell v:=z
   cases z'⟩
 keep:=λ i h h' st k=>k it (by simp) _ st
 item:=by
  intro X hP hw hK hc i pins s σ H E I hf st hg
  subst hP hw hK
  obtain ⟨f0,f1,f2,f3,f4,f5⟩:=hf it (by simp)
  have W:=Walks.range (prog:=X.prog) (w:=X.w) (I.ok.hd hc) it lo 1 n
  refine W.item i s _ _ hg st λ v h' tk hv st' kk=>?_
  obtain ⟨t,rfl⟩:=hv
  have I1:Inv X pins σ H { s with heap:=h',toks:=tk }:=I.turned (λ b o hb e=>kk b o (by simpa using hb) e) f0 f1 f3 f4 f5
  refine ⟨_,rfl,q8P (s:={ s with heap:=h',toks:=tk }) (n:="range_iterator") st' rfl rfl (by decide) ⟨.int (lo+i),H,I1,⟨t,?_⟩,⟨rfl,rfl⟩,st',λ b hb=>(hf b hb).1⟩⟩
  rw [Int.mul_one]
 done:=by
  intro X hP hw hK hc i pins s σ H E I hf st hg
  subst hP hw hK
  obtain ⟨f0,f1,f2,f3,f4,f5⟩:=hf it (by simp)
  exact wpAny_pyNext_range_end (I.ok.hd hc) st (by have:n<=i:=hg;lia) λ h' eb=>⟨rfl,I.turned (t':=s.toks) (λ b o hb e=>eb b o hb e) f0 f1 f3 f4 f5⟩
 self:=λ o_ o_ o_ o_ o_ st h=>wpAny_pyIter_rangeiter st h
section
variable {X:Cx}{tg:Expr}
noncomputable def z72 (K:W.Frag) (tl:TE):TI:=λ σ H R=>tl σ H λ x H1=>∃ a,x=.ref a/\(∃ xs,SqL K H1 a xs)/\R (Itl K a) H1
noncomputable def iTup (K:W.Frag) (tl:TE):TI:=λ σ H R=>tl σ H λ x H1=>∃ a,x=.ref a/\(∃ xs,SqT K H1 a xs)/\R (Itt K a) H1
theorem z2M {l:Expr}{tl:TE}(hl:PE X l tl):PI X tg l (z72 X.K tl):=by
 intro pins s σ H R I h
 refine thx (hl pins s σ H _ I h) λ v s1 x H1 I1 r1 q1=>?_
 obtain ⟨a,e,⟨xs,hq⟩,q⟩:=q1
 subst e
 cases r1
 obtain ⟨its,rv,p,hz⟩:=I1.list hq
 refine wpAny_pyIter_list p.isList ?_
 refine ⟨s1.heap.objs.size,[s1.heap.objs.size],_,_,H1,rfl,I1.kept (t':=s1.toks) λ b o e=>N1o _ e,q8Q a _,⟨_,N1q _ rfl,rfl,rfl⟩,λ b hb=>?_,q⟩
 have e:b=s1.heap.objs.size:=by simpa using hb
 subst e
 exact I1.fpOk (N07 _) (I1.hok.fresh (N07 _))
theorem z4O {l:Expr}{tl:TE}(hl:PE X l tl):PI X tg l (iTup X.K tl):=by
 intro pins s σ H R I h
 refine thx (hl pins s σ H _ I h) λ v s1 x H1 I1 r1 q1=>?_
 obtain ⟨a,e,⟨xs,hq⟩,q⟩:=q1
 subst e
 cases r1
 obtain ⟨its,rv,p,hz⟩:=I1.tuple hq
 refine wpAny_pyIter_tuple (show s1.heap.IsTuple a its.toArray from p) ?_
 refine ⟨s1.heap.objs.size,[s1.heap.objs.size],_,_,H1,rfl,I1.kept (t':=s1.toks) λ b o e=>N1o _ e,q7T a _,⟨_,N1q _ rfl,rfl,rfl⟩,λ b hb=>?_,q⟩
 have e:b=s1.heap.objs.size:=by simpa using hb
 subst e
 exact I1.fpOk (N07 _) (I1.hok.fresh (N07 _))
theorem q6X {pins:List (Addr×Obj)}{σ:St}{H:Hp}{s:Shared}{R:It->Hp->Prop}{E:Value->Shared->Prop}{lo hi:Int}{t u v:Tok}{tk:Nat}(I:Inv X pins σ H s) (h1 : -(2 ^ 62)<=lo) (h2:lo<2 ^ 62) (h3 : -(2 ^ 62)<=hi) (h4:hi<2 ^ 62)
 (q:R (Itr lo (hi - lo).toNat) H):wpAny (model X.prog X.w) X.A (pyIter (.ref s.heap.objs.size)) (PIE X pins σ tg R) E { s with heap:=s.heap.push { cls:=.type "range",data:=.fields #[.int lo t,.int hi u,.int 1 v] },toks:=tk }:=by
 refine wpAny_pyIter_range (IsRange.new ..) (small_one h1 h2 h3 h4) ?_
 have I1:Inv X pins σ H { s with heap:=s.heap.push { cls:=.type "range",data:=.fields #[.int lo t,.int hi u,.int 1 v] },toks:=tk }:=I.kept λ b o e=>N1o _ e
 refine ⟨(s.heap.push { cls:=.type "range",data:=.fields #[.int lo t,.int hi u,.int 1 v] }).objs.size,[(s.heap.push { cls:=.type "range",data:=.fields #[.int lo t,.int hi u,.int 1 v] }).objs.size],_,_,H,rfl,
  I1.kept (t':=tk) λ b o e=>N1o _ e,q7U _ lo (hi - lo).toNat,?_,λ b hb=>?_,q⟩
 ·have e1:lo+((0:Nat):Int) * 1=lo:=by simp
  have e2:(((hi - lo).toNat:Nat):Int) - ((0:Nat):Int)=Builtin.Range.rangeSize lo hi 1:=by rw [rangeSize_one];split<;>lia
  show IsRangeIter _ _ (lo+((0:Nat):Int) * 1) ((((hi - lo).toNat:Nat):Int) - ((0:Nat):Int)) 1
  rw [e1,e2]
  exact N1q _ rfl
 ·have e:b=(s.heap.push { cls:=.type "range",data:=.fields #[.int lo t,.int hi u,.int 1 v] }).objs.size:=by simpa using hb
  subst e
  exact I1.fpOk (N07 _) (I1.hok.fresh (N07 _))
noncomputable def z73 (ta:TA):TI:=λ σ H R=>ta σ H λ vs H1=>∃ j:Int,vs=[.int j] /\ -(2 ^ 62)<=j/\j<2 ^ 62/\R (Itr 0 j.toNat) H1
noncomputable def z74 (ta:TA):TI:=λ σ H R=>ta σ H λ vs H1=>∃ i j:Int,vs=[.int i,.int j]/\(-(2 ^ 62)<=i/\i<2 ^ 62 /\ -(2 ^ 62)<=j/\j<2 ^ 62)/\R (Itr i (j - i).toNat) H1
theorem q8R {a:Expr}{ta:TA}{p pos:Pos}(hg:Gl X "range") (hm:X.mg "range" = none) (ha:PA X [a] ta) (hs:starEach [a] X.env=[(false,eval a X.env)]:=by rfl):PI X tg (.Call (.Name "range" p) [a] [] pos) (z73 ta):=by
 intro pins s σ H R I h
 refine Call_ (q4X I hg hm boot_range (PyProof.Rows.callWith_type1 (thx (ha pos pins s σ H _ I h) λ us s1 vs H1 I1 r1 q1=>?_) hs rfl))
 obtain ⟨j,e,q1,q2,q⟩:=q1
 subst e
 cases r1 with
 | cons r rr =>
  cases rr
  obtain ⟨t,rfl⟩:=r
  exact call_range_1 (q6X I1 (by simp) (by simp) q1 q2 (by simpa using q))
theorem q8S {a b:Expr}{ta:TA}{p pos:Pos}(hg:Gl X "range") (hm:X.mg "range" = none) (ha:PA X [a,b] ta) (hs:starEach [a,b] X.env=[(false,eval a X.env),(false,eval b X.env)]:=by rfl) (hs2:starEach [b] X.env=[(false,eval b X.env)]:=by rfl) :
 PI X tg (.Call (.Name "range" p) [a,b] [] pos) (z74 ta):=by
 intro pins s σ H R I h
 refine Call_ (q4X I hg hm boot_range (PyProof.Rows.callWith_type1 (thx (ha pos pins s σ H _ I h) λ us s1 vs H1 I1 r1 q1=>?_) (by rw [hs,hs2]) (by rw [hs2];rfl)))
 obtain ⟨i,j,e,⟨q1,q2,q3,q4⟩,q⟩:=q1
 subst e
 cases r1 with
 | cons r rr =>
  cases rr with
  | cons r' rr =>
   cases rr
   obtain ⟨t,rfl⟩:=r
   obtain ⟨t',rfl⟩:=r'
   exact call_range_2 (q6X I1 q1 q2 q3 q4 q)
noncomputable def tFor (wi:TI) (g:TG) (tb:TS):TS:=λ D σ H=>wi σ H λ J H1=>∃ W:Nat->Nat->St->Hp->Prop,(∃ m,W 0 m σ H1)/\∀ i m σ H,W i m σ H ->
 (J.stop i H/\D.nx σ H)\/(J.go i H/\∃ N:St->Hp->Prop,(∀ σ' H',N σ' H'->∃ m',m'<m/\W (i+1) m' σ' H')/\∀ x H',J.yld i H x H'->g x σ H' λ σ2 H2=>tb { D with nx:=N,ct:=N,bk:=D.nx } σ2 H2)
noncomputable def q4Z (fp:List Addr) (h:Heap):List (Addr×Obj):=fp.filterMap λ b=>(h.get? b).map λ o=>(b,o)
theorem q15 {fp:List Addr}{h:Heap}{b:Addr}{o:Obj}(hb:b∈fp) (e:h.get? b=some o):(b,o)∈q4Z fp h:=List.mem_filterMap.mpr ⟨b,hb,by rw [e];rfl⟩
theorem q8T {fp:List Addr}{h:Heap}{p:Addr×Obj}(hp:p∈q4Z fp h):p.1∈fp/\h.get? p.1=some p.2:=by
 obtain ⟨b,hb,e⟩:=List.mem_filterMap.mp hp
 cases q:h.get? b with
 | none=>rw [q] at e;cases e
 | some o =>
  rw [q] at e
  have e':(b,o)=p:=N0b e
  subst e'
  exact ⟨hb,q⟩
theorem Inv.pinned {pins:List (Addr×Obj)}{σ:St}{H:Hp}{s:Shared}{fp:List Addr}(I:Inv X pins σ H s) (hf:∀ b∈fp,FpOk X pins H b) (ho:∀ b∈fp,∃ o,s.heap.get? b=some o/\∀ v,o.data≠.cell v):Inv X (pins++q4Z fp s.heap) σ H s :=
 I.pins_of λ p hp=>(N0a.mp hp).elim (λ z=>I.pin p (N05 _ z)) λ z=>by
  obtain ⟨hb,e⟩:=q8T z
  obtain ⟨f0,f1,f2,_⟩:=hf p.1 hb
  obtain ⟨o,e',d⟩:=ho p.1 hb
  rw [e] at e';cases e'
  exact ⟨e,f0,f1,f2,d⟩
theorem Inv.unpinned {pins pl:List (Addr×Obj)}{σ:St}{H:Hp}{s:Shared}(I:Inv X (pins++pl) σ H s):Inv X pins σ H s:=I.pins_of λ p hp=>I.pin p (N05 _ (N0w _ hp))
theorem q8U {iter:Expr}{body:List Stmt}{wi:TI}{g:TG}{tb:TS}{pos:Pos}(hp:PassesOwn (model X.prog X.w) X.A X.env X.xe) (hc:X.calm=true) (hi:PI X tg iter wi) (hg:PG X tg g) (hb:PSs X body tb)
 (hs:∀ x,foldedSetIterable iter X.env x=pure x:=by intro _;rfl):PS X (.For tg iter body [] pos) (tFor wi g tb):=by
 intro pins s σ H D I h
 refine wpAny_For (thn (hi pins s σ H _ I h) λ v s1 h1=>thn h1 λ itv s2 h2=>?_) hs
 obtain ⟨it,fp,tn,J,H2,e,I2,T,st2,f2,W,⟨m0,w0⟩,turn⟩:=h2
 subst e
 have stat:∀ {H':Hp},(∀ b∈fp,H' b=none)->∀ b∈fp,FpOk X pins H' b:=λ hn b hb=>⟨hn b hb,(f2 b hb).2⟩
 refine codeAny_forLoop_any (λ n s'=>∃ i σ' H',Inv X pins σ' H' s'/\tn i s'.heap/\(∀ b∈fp,H' b=none)/\W i n σ' H') ?_ m0 ⟨0,σ,H2,I2,st2,λ b hb=>(f2 b hb).1,w0⟩
 rintro n s3 ⟨i,σ3,H3,I3,st3,fr3,w3⟩
 rcases turn i n σ3 H3 w3 with ⟨stop,qn⟩ | ⟨go,N,hN,step⟩
 ·refine wpAny_passesOwn hp (thn (T.done X rfl rfl rfl hc i pins s3 σ3 H3 X.xe I3 (stat fr3) st3 stop) λ r s4 hx_=>?_)
  obtain ⟨hr,I4⟩:=hx_
  subst hr
  exact wpAny_execs_nil ⟨σ3,H3,I4,qn⟩
 ·refine wpAny_passesOwn hp (thn (T.item X rfl rfl rfl hc i pins s3 σ3 H3 X.xe I3 (stat fr3) st3 go) λ r s4 hx_=>?_)
  obtain ⟨u,hr,h4⟩:=hx_
  subst hr
  refine wpAny_passesOwn hp (thn h4 λ o1_ s5 hx_=>?_)
  obtain ⟨x,H5,I5,r5,y5,st5,fr5⟩:=hx_
  have I5':=I5.pinned (stat fr5) (T.obj _ _ st5)
  refine wpAny_passesOwn hp (thn (hg _ s5 σ3 H5 x u _ I5' r5 (step x H5 y5)) λ o1_ s6 hx_=>?_)
  obtain ⟨σ6,H6,I6,q6⟩:=hx_
  refine wpAny_passesOwn hp (thn (hb _ s6 σ6 H6 _ I6 q6) λ f s7 q7=>?_)
  have again:∀ {σ7:St}{H7:Hp},Inv X (pins++q4Z fp s5.heap) σ7 H7 s7->N σ7 H7->∃ m,m<n/\∃ i σ' H',Inv X pins σ' H' s7/\tn i s7.heap/\(∀ b∈fp,H' b=none)/\W i m σ' H':=λ {σ7 H7} I7 n7=>by
   obtain ⟨m',hm,w7⟩:=hN σ7 H7 n7
   refine ⟨m',hm,i+1,σ7,H7,I7.unpinned,T.keep _ _ _ st5 λ b hb o e=>(I7.pin (b,o) (N05 _ (N05 _ (q15 hb e)))).1,λ b hb=>?_,w7⟩
   obtain ⟨o,e,d⟩:=T.obj _ _ st5 b hb
   exact (I7.pin (b,o) (N05 _ (N05 _ (q15 hb e)))).2.1
  cases f with
  | next=>obtain ⟨σ7,H7,I7,n7⟩:=q7;exact again I7 n7
  | cont=>obtain ⟨σ7,H7,I7,n7⟩:=q7;exact again I7 n7
  | brk=>obtain ⟨σ7,H7,I7,q7⟩:=q7;exact ⟨σ7,H7,I7.unpinned,q7⟩
  | ret v=>obtain ⟨x7,σ7,H7,I7,r7,q7⟩:=q7;exact ⟨x7,σ7,H7,I7.unpinned,r7,q7⟩
end
theorem z13 {K:PySem.W.Frag}{a:Addr}{xs:List V}{g:TG}{tb:TS}{D:Ends}{σ:St}{H:Hp}(Pv:Nat->St->Hp->Prop) (h0:Pv 0 σ H) (hl:∀ i σ H,i<=xs.length->Pv i σ H->SqL K H a xs)
 (hs:∀ i x σ H,xs[i]? = some x->Pv i σ H->g x σ H λ σ2 H2=>tb { D with nx:=Pv (i+1),ct:=Pv (i+1),bk:=D.nx } σ2 H2) (hd:∀ σ H,Pv xs.length σ H->D.nx σ H) :
 ∃ W:Nat->Nat->St->Hp->Prop,(∃ m,W 0 m σ H)/\∀ i m σ H,W i m σ H ->
  ((Itl K a).stop i H/\D.nx σ H)\/((Itl K a).go i H/\∃ N:St->Hp->Prop,(∀ σ' H',N σ' H'->∃ m',m'<m/\W (i+1) m' σ' H')/\∀ x H',(Itl K a).yld i H x H'->g x σ H' λ σ2 H2=>tb { D with nx:=N,ct:=N,bk:=D.nx } σ2 H2):=by
 refine ⟨λ i m σ H=>m=xs.length - i/\i<=xs.length/\Pv i σ H,⟨xs.length,by simp,N1b _,h0⟩,?_⟩
 rintro i m σ H ⟨rfl,hi,p⟩
 have q:=hl i σ H hi p
 by_cases hlt:i<xs.length
 ·refine .inr ⟨⟨xs,xs[i],q,by simp [hlt]⟩,Pv (i+1),λ σ' H' p'=>⟨xs.length - (i+1),by omega,rfl,hlt,p'⟩,λ x H' y=>?_⟩
  obtain ⟨e,y⟩:=y
  subst e
  exact hs i x σ _ (y xs q) p
 ·have e:i=xs.length:=by lia
  subst e
  exact .inl ⟨⟨xs,q,N07 _⟩,hd σ H p⟩
theorem z2N {K:PySem.W.Frag}{a:Addr}{xs:List V}{g:TG}{tb:TS}{D:Ends}{σ:St}{H:Hp}(Pv:Nat->St->Hp->Prop) (h0:Pv 0 σ H) (hl:∀ i σ H,i<=xs.length->Pv i σ H->SqT K H a xs)
 (hs:∀ i x σ H,xs[i]? = some x->Pv i σ H->g x σ H λ σ2 H2=>tb { D with nx:=Pv (i+1),ct:=Pv (i+1),bk:=D.nx } σ2 H2) (hd:∀ σ H,Pv xs.length σ H->D.nx σ H) :
 ∃ W:Nat->Nat->St->Hp->Prop,(∃ m,W 0 m σ H)/\∀ i m σ H,W i m σ H ->
  ((Itt K a).stop i H/\D.nx σ H)\/((Itt K a).go i H/\∃ N:St->Hp->Prop,(∀ σ' H',N σ' H'->∃ m',m'<m/\W (i+1) m' σ' H')/\∀ x H',(Itt K a).yld i H x H'->g x σ H' λ σ2 H2=>tb { D with nx:=N,ct:=N,bk:=D.nx } σ2 H2):=by
 refine ⟨λ i m σ H=>m=xs.length - i/\i<=xs.length/\Pv i σ H,⟨xs.length,by simp,N1b _,h0⟩,?_⟩
 rintro i m σ H ⟨rfl,hi,p⟩
 have q:=hl i σ H hi p
 by_cases hlt:i<xs.length
 ·refine .inr ⟨⟨xs,xs[i],q,by simp [hlt]⟩,Pv (i+1),λ σ' H' p'=>⟨xs.length - (i+1),by omega,rfl,hlt,p'⟩,λ x H' y=>?_⟩
  obtain ⟨e,y⟩:=y
  subst e
  exact hs i x σ _ (y xs q) p
 ·have e:i=xs.length:=by lia
  subst e
  exact .inl ⟨⟨xs,q,N07 _⟩,hd σ H p⟩
theorem q8V {lo:Int}{n:Nat}{g:TG}{tb:TS}{D:Ends}{σ:St}{H:Hp}(Pv:Nat->St->Hp->Prop) (h0:Pv 0 σ H)
 (hs:∀ i σ H,i<n->Pv i σ H->g (.int (lo+i)) σ H λ σ2 H2=>tb { D with nx:=Pv (i+1),ct:=Pv (i+1),bk:=D.nx } σ2 H2) (hd:∀ σ H,Pv n σ H->D.nx σ H) :
 ∃ W:Nat->Nat->St->Hp->Prop,(∃ m,W 0 m σ H)/\∀ i m σ H,W i m σ H ->
  ((Itr lo n).stop i H/\D.nx σ H)\/((Itr lo n).go i H/\∃ N:St->Hp->Prop,(∀ σ' H',N σ' H'->∃ m',m'<m/\W (i+1) m' σ' H')/\∀ x H',(Itr lo n).yld i H x H'->g x σ H' λ σ2 H2=>tb { D with nx:=N,ct:=N,bk:=D.nx } σ2 H2):=by
 refine ⟨λ i m σ H=>m=n - i/\i<=n/\Pv i σ H,⟨n,by simp,N1b _,h0⟩,?_⟩
 rintro i m σ H ⟨rfl,hi,p⟩
 by_cases hlt:i<n
 ·refine .inr ⟨hlt,Pv (i+1),λ σ' H' p'=>⟨n - (i+1),by omega,rfl,hlt,p'⟩,λ x H' y=>?_⟩
  obtain ⟨e,y⟩:=y
  subst e y
  exact hs i σ _ hlt p
 ·have e:i=n:=by lia
  subst e
  exact .inl ⟨N07 _,hd σ H p⟩
noncomputable abbrev R2:=V->V->Hp->VK->Prop
noncomputable def OpR (X:Cx) (f:Value->Value->Sem Value) (r:R2):Prop :=
 ∀ (pins:List (Addr×Obj)) (s:Shared) (σ:St) (H:Hp) (x y:V) (v u:Value) (Q:VK),Inv X pins σ H s->y3 x v->y3 y u->r x y H Q ->
  wpAny (model X.prog X.w) X.A (f v u) (EP X pins σ Q) X.xe s
noncomputable def UnR (X:Cx) (f:Value->Sem Value) (r:V->Hp->VK->Prop):Prop :=
 ∀ (pins:List (Addr×Obj)) (s:Shared) (σ:St) (H:Hp) (x:V) (v:Value) (Q:VK),Inv X pins σ H s->y3 x v->r x H Q ->
  wpAny (model X.prog X.w) X.A (f v) (EP X pins σ Q) X.xe s
noncomputable def V2 (X:Cx) (f:Value) (r:List V->Hp->VK->Prop):Prop :=
 ∀ (pins:List (Addr×Obj)) (s:Shared) (σ:St) (H:Hp) (xs:List V) (us:List Value) (Q:VK),Inv X pins σ H s->Vals xs us->r xs H Q ->
  wpAny (model X.prog X.w) X.A (call f us) (EP X pins σ Q) X.xe s
noncomputable def TruR (X:Cx) (r:V->Hp->(Bool->Hp->Prop)->Prop):Prop :=
 ∀ (pins:List (Addr×Obj)) (s:Shared) (σ:St) (H:Hp) (x:V) (v:Value) (Q:Bool->Hp->Prop),Inv X pins σ H s->y3 x v->r x H Q ->
  wpAny (model X.prog X.w) X.A (truthy v) (TP X pins σ Q) X.xe s
noncomputable def tOp (r:R2) (ta tb:TE):TE:=λ σ H Q=>ta σ H λ x H1=>tb σ H1 λ y H2=>r x y H2 Q
noncomputable def tUn (r:V->Hp->VK->Prop) (ta:TE):TE:=λ σ H Q=>ta σ H λ x H1=>r x H1 Q
noncomputable def rI (C:Int->Int->Prop) (g:Int->Int->V):R2:=λ x y H Q=>∃ i j,x=.int i/\y=.int j/\C i j/\Q (g i j) H
noncomputable def rI0 (g:Int->Int->V):R2:=λ x y H Q=>∃ i j,x=.int i/\y=.int j/\Q (g i j) H
noncomputable def rU (g:Int->V):V->Hp->VK->Prop:=λ x H Q=>∃ i,x=.int i/\Q (g i) H
section
variable {X:Cx}{a b c:Expr}{ta tb tc:TE}{pos:Pos}
theorem z75 (ha:PE X a ta) (hb:PE X b tb){pins:List (Addr×Obj)}{s:Shared}{σ:St}{H:Hp}{R:V->V->Hp->Prop}(I:Inv X pins σ H s)
 (h:ta σ H λ x H1=>tb σ H1 λ y H2=>R x y H2){Q:Value->Shared->Prop}{f:Value->Value->Sem Value}
 (hf:∀ v u s2 x y H2,Inv X pins σ H2 s2->y3 x v->y3 y u->R x y H2->wpAny (model X.prog X.w) X.A (f v u) Q X.xe s2) :
 wpAny (model X.prog X.w) X.A (eval a X.env) (λ v s₁=>wpAny (model X.prog X.w) X.A (eval b X.env) (λ u s₂=>wpAny (model X.prog X.w) X.A (f v u) Q X.xe s₂) X.xe s₁) X.xe s:=by
 refine thx (ha pins s σ H _ I h) λ v s1 x H1 I1 r1 q1=>?_
 refine thx (hb pins s1 σ H1 _ I1 q1) λ u s2 y H2 I2 r2 q2=>?_
 exact hf v u s2 x y H2 I2 r1 r2 q2
theorem z4P {op:Operator}{r:R2}(ho:OpR X (binaryOp op) r) (ha:PE X a ta) (hb:PE X b tb):PE X (.BinOp a op b pos) (tOp r ta tb):=by
 intro pins s σ H Q I h
 exact wpAny_BinOp (z75 ha hb I h λ v u s2 x y H2 I2 rx ry q=>ho pins s2 σ H2 x y v u Q I2 rx ry q)
theorem z76 {op:UnaryOp}{r:V->Hp->VK->Prop}(ho:UnR X (unaryOp op) r) (ha:PE X a ta):PE X (.UnaryOp op a pos) (tUn r ta):=by
 intro pins s σ H Q I h
 exact UnaryOp_ (thx (ha pins s σ H _ I h) λ v s1 x H1 I1 r1 q1=>ho pins s1 σ H1 x v Q I1 r1 q1)
theorem opI {f:Value->Value->Sem Value}{C:Int->Int->Prop}{g:Int->Int->Int}
 (rule:∀ (i j:Int) (t u:Tok) (s:Shared) (Q:Value->Shared->Prop) (E:Value->Shared->Prop),C i j->Q (.int (g i j) s.toks) { s with toks:=s.toks+1 }->wpAny (model X.prog X.w) X.A (f (.int i t) (.int j u)) Q E s) :
 OpR X f (rI C λ i j=>.int (g i j)):=by
 intro pins s σ H x y v u Q I rx ry h
 obtain ⟨i,j,rfl,rfl,hc,q⟩:=h
 obtain ⟨t,rfl⟩:=rx
 obtain ⟨t',rfl⟩:=ry
 exact rule i j t t' s _ _ hc ⟨.int (g i j),H,I.tok _,⟨_,rfl⟩,q⟩
theorem z8y {f:Value->Value->Sem Value}{g:Int->Int->Int}
 (rule:∀ (i j:Int) (t u:Tok) (s:Shared) (Q:Value->Shared->Prop) (E:Value->Shared->Prop),Q (.int (g i j) s.toks) { s with toks:=s.toks+1 }->wpAny (model X.prog X.w) X.A (f (.int i t) (.int j u)) Q E s) :
 OpR X f (rI0 λ i j=>.int (g i j)):=by
 intro pins s σ H x y v u Q I rx ry h
 obtain ⟨i,j,rfl,rfl,q⟩:=h
 obtain ⟨t,rfl⟩:=rx
 obtain ⟨t',rfl⟩:=ry
 exact rule i j t t' s _ _ ⟨.int (g i j),H,I.tok _,⟨_,rfl⟩,q⟩
theorem z6i {f:Value->Value->Sem Value}{g:Int->Int->Bool}
 (rule:∀ (i j:Int) (t u:Tok) (s:Shared) (Q:Value->Shared->Prop) (E:Value->Shared->Prop),Q (.bool (g i j)) s->wpAny (model X.prog X.w) X.A (f (.int i t) (.int j u)) Q E s) :
 OpR X f (rI0 λ i j=>.bl (g i j)):=by
 intro pins s σ H x y v u Q I rx ry h
 obtain ⟨i,j,rfl,rfl,q⟩:=h
 obtain ⟨t,rfl⟩:=rx
 obtain ⟨t',rfl⟩:=ry
 exact rule i j t t' s _ _ ⟨.bl (g i j),H,I,rfl,q⟩
noncomputable def z8z (i j:Int):Prop:=0<j/\j<1073741824
noncomputable def z6j (i j:Int):Prop:=(-(2 ^ 64)<i/\i<2 ^ 64)\/(-(2 ^ 64)<j/\j<2 ^ 64)
theorem z6j.ok {i j:Int}(h:z6j i j):IntMulOk i j:=by
 rcases h with ⟨h1,h2⟩ | ⟨h1,h2⟩
 ·exact .of_left (intBits_le_64 h1 h2)
 ·exact .of_right (intBits_le_64 h1 h2)
theorem z2d:OpR X (binaryOp .Add) (rI0 λ i j=>.int (i+j)):=z8y λ o_ o_ o_ o_ o_ o_ o_ q=>add_int q
theorem q6Y:OpR X (binaryOp .Sub) (rI0 λ i j=>.int (i - j)):=z8y λ o_ o_ o_ o_ o_ o_ o_ q=>sub_int q
theorem q50:OpR X (binaryOp .Mult) (rI z6j λ i j=>.int (i * j)):=opI λ o_ o_ o_ o_ o_ o_ o_ hc q=>mul_int q hc.ok
theorem u4:OpR X (binaryOp .FloorDiv) (rI z8z λ i j=>.int (i / j)):=opI λ i j o_ o_ o_ o_ o_ hc q=>by
 have h1:(0:Int)<j:=hc.1
 have h2:j<1073741824:=hc.2
 exact floordiv_int (by lia) (by rw [Int.fdiv_eq_ediv_of_nonneg i (by lia)];exact q) (.inl (PyProof.noPylong_small (by omega)))
theorem Y8:OpR X (binaryOp .Mod) (rI (λ o_ j=>0<j) λ i j=>.int (i % j)):=opI λ i j o_ o_ o_ o_ o_ hc q=>by
 have h1:(0:Int)<j:=hc
 exact mod_int' (by lia) (by rw [Int.fmod_eq_emod_of_nonneg i (by lia)];exact q)
theorem unI {f:Value->Sem Value}{g:Int->Int}
 (rule:∀ (i:Int) (t:Tok) (s:Shared) (Q:Value->Shared->Prop) (E:Value->Shared->Prop),Q (.int (g i) s.toks) { s with toks:=s.toks+1 }->wpAny (model X.prog X.w) X.A (f (.int i t)) Q E s) :
 UnR X f (rU λ i=>.int (g i)):=by
 intro pins s σ H x v Q I rx h
 obtain ⟨i,rfl,q⟩:=h
 obtain ⟨t,rfl⟩:=rx
 exact rule i t s _ _ ⟨.int (g i),H,I.tok _,⟨_,rfl⟩,q⟩
theorem z4Q:UnR X (unaryOp .USub) (rU λ i=>.int (-i)):=unI λ o_ o_ o_ o_ o_ q=>neg_int q
end
noncomputable def z77:V->V->Bool
 | .non,.non=>true | .non,.int _=>true | .int _,.non=>true | .non,.bl _=>true | .bl _,.non=>true | .non,.str _=>true | .str _,.non=>true
 | .int _,.int _=>true | .bl _,.bl _=>true | .str _,.str _=>true | .byt _,.byt _=>true
 | .int _,.str _=>true | .str _,.int _=>true | .bl _,.str _=>true | .str _,.bl _=>true
 | _,_=>false
noncomputable def rEq:R2:=λ x y H Q=>z77 x y=true/\Q (.bl (decide (x=y))) H
noncomputable def rNe:R2:=λ x y H Q=>z77 x y=true/\Q (.bl (!decide (x=y))) H
theorem dec_int {i j:Int}:decide (V.int i=V.int j)=(i==j):=by
 rw [N1y]
 simp
theorem dec_bl {i j:Bool}:decide (V.bl i=V.bl j)=(i==j):=by
 rw [N1y]
 simp
theorem dec_str {i j:Str}:decide (V.str i=V.str j)=(i==j):=by
 rw [N1y]
 simp
theorem q8W {i j:Array UInt8}:decide (V.byt i=V.byt j)=(i.toList==j.toList):=by
 rw [N1y]
 cases i
 cases j
 simp
section
variable {X:Cx}{a b c:Expr}{ta tb tc:TE}{pos:Pos}
theorem fin_bl {pins:List (Addr×Obj)}{σ:St}{H:Hp}{s:Shared}{Q:VK}{k k':Bool}(I:Inv X pins σ H s) (q:Q (.bl k) H) (e:k=k'):EP X pins σ Q (.bool k') s:=by
 subst e
 exact ⟨.bl k,H,I,rfl,q⟩
theorem z78:OpR X (compareOp .Eq) rEq:=by
 intro pins s σ H x y v u Q I rx ry h
 obtain ⟨hs,q⟩:=h
 cases x with
 | non =>
  cases rx
  cases y with
  | non=>cases ry;exact EqNone.eq_none_none (fin_bl I q (by simp))
  | bl j=>cases ry;exact EqNone.eq_none_bool (fin_bl I q (by simp))
  | int j=>obtain ⟨t',rfl⟩:=ry;exact EqNone.eq_none_int (fin_bl I q (by simp))
  | str j=>obtain ⟨t',rfl⟩:=ry;exact EqNone.eq_none_str (fin_bl I q (by simp))
  | _=>exact absurd (show false=true from hs) N0d
 | bl i =>
  cases rx
  cases y with
  | non=>cases ry;exact EqNone.eq_bool_none (fin_bl I q (by simp))
  | bl j=>cases ry;exact eq_bool (fin_bl I q dec_bl)
  | str j=>obtain ⟨t',rfl⟩:=ry;exact EqMixed.eq_bool_str (fin_bl I q (by simp))
  | _=>exact absurd (show false=true from hs) N0d
 | int i =>
  obtain ⟨t,rfl⟩:=rx
  cases y with
  | non=>cases ry;exact EqNone.eq_int_none (fin_bl I q (by simp))
  | int j=>obtain ⟨t',rfl⟩:=ry;exact eq_int (fin_bl I q dec_int)
  | str j=>obtain ⟨t',rfl⟩:=ry;exact EqMixed.eq_int_str (fin_bl I q (by simp))
  | _=>exact absurd (show false=true from hs) N0d
 | str i =>
  obtain ⟨t,rfl⟩:=rx
  cases y with
  | non=>cases ry;exact EqNone.eq_str_none (fin_bl I q (by simp))
  | bl j=>cases ry;exact EqMixed.eq_str_bool (fin_bl I q (by simp))
  | int j=>obtain ⟨t',rfl⟩:=ry;exact EqMixed.eq_str_int (fin_bl I q (by simp))
  | str j=>obtain ⟨t',rfl⟩:=ry;exact eq_str (fin_bl I q dec_str)
  | _=>exact absurd (show false=true from hs) N0d
 | byt i =>
  obtain ⟨t,rfl⟩:=rx
  cases y with
  | byt j=>obtain ⟨t',rfl⟩:=ry;exact W.eq_bytes (fin_bl I q q8W)
  | _=>exact absurd (show false=true from hs) N0d
 | _=>cases y<;>exact absurd (show false=true from hs) N0d
theorem z79:OpR X (compareOp .NotEq) rNe:=by
 intro pins s σ H x y v u Q I rx ry h
 obtain ⟨hs,q⟩:=h
 cases x with
 | non =>
  cases rx
  cases y with
  | non=>cases ry;exact EqNone.ne_none_none (fin_bl I q (by simp))
  | bl j=>cases ry;exact EqNone.ne_none_bool (fin_bl I q (by simp))
  | int j=>obtain ⟨t',rfl⟩:=ry;exact EqNone.ne_none_int (fin_bl I q (by simp))
  | str j=>obtain ⟨t',rfl⟩:=ry;exact EqNone.ne_none_str (fin_bl I q (by simp))
  | _=>exact absurd (show false=true from hs) N0d
 | bl i =>
  cases rx
  cases y with
  | non=>cases ry;exact EqNone.ne_bool_none (fin_bl I q (by simp))
  | bl j=>cases ry;exact ne_bool (fin_bl I q (congrArg not dec_bl))
  | str j=>obtain ⟨t',rfl⟩:=ry;exact EqMixed.ne_bool_str (fin_bl I q (by simp))
  | _=>exact absurd (show false=true from hs) N0d
 | int i =>
  obtain ⟨t,rfl⟩:=rx
  cases y with
  | non=>cases ry;exact EqNone.ne_int_none (fin_bl I q (by simp))
  | int j=>obtain ⟨t',rfl⟩:=ry;exact ne_int (fin_bl I q (congrArg not dec_int))
  | str j=>obtain ⟨t',rfl⟩:=ry;exact EqMixed.ne_int_str (fin_bl I q (by simp))
  | _=>exact absurd (show false=true from hs) N0d
 | str i =>
  obtain ⟨t,rfl⟩:=rx
  cases y with
  | non=>cases ry;exact EqNone.ne_str_none (fin_bl I q (by simp))
  | bl j=>cases ry;exact EqMixed.ne_str_bool (fin_bl I q (by simp))
  | int j=>obtain ⟨t',rfl⟩:=ry;exact EqMixed.ne_str_int (fin_bl I q (by simp))
  | str j=>obtain ⟨t',rfl⟩:=ry;exact ne_str (fin_bl I q (congrArg not dec_str))
  | _=>exact absurd (show false=true from hs) N0d
 | byt i =>
  obtain ⟨t,rfl⟩:=rx
  cases y with
  | byt j=>obtain ⟨t',rfl⟩:=ry;exact W.ne_bytes (fin_bl I q (congrArg not q8W))
  | _=>exact absurd (show false=true from hs) N0d
 | _=>cases y<;>exact absurd (show false=true from hs) N0d
theorem q8X:OpR X (compareOp .Lt) (rI0 λ i j=>.bl (decide (i<j))):=z6i λ o_ o_ o_ o_ o_ o_ o_ q=>lt_int q
theorem z7a:OpR X (compareOp .LtE) (rI0 λ i j=>.bl (decide (i<=j))):=z6i λ o_ o_ o_ o_ o_ o_ o_ q=>le_int q
theorem z14:OpR X (compareOp .Gt) (rI0 λ i j=>.bl (decide (j<i))):=z6i λ o_ o_ o_ o_ o_ o_ o_ q=>gt_int q
theorem z7b:OpR X (compareOp .GtE) (rI0 λ i j=>.bl (decide (j<=i))):=z6i λ o_ o_ o_ o_ o_ o_ o_ q=>ge_int q
theorem z4R:OpR X (compareOp .Is) (λ x y H Q=>y=.non/\Q (.bl (decide (x=.non))) H):=by
 intro pins s σ H x y v u Q I rx ry h
 obtain ⟨rfl,q⟩:=h
 cases ry
 refine is_none_gen (fin_bl I q ?_)
 cases x<;>first
  | (cases rx;rfl)
  | (obtain ⟨t,rfl⟩:=rx;rfl)
theorem z2O:OpR X (compareOp .IsNot) (λ x y H Q=>y=.non/\Q (.bl (!decide (x=.non))) H):=by
 intro pins s σ H x y v u Q I rx ry h
 obtain ⟨rfl,q⟩:=h
 cases ry
 refine isnot_none_gen (fin_bl I q ?_)
 cases x<;>first
  | (cases rx;rfl)
  | (obtain ⟨t,rfl⟩:=rx;rfl)
noncomputable def isObj:HO->Bool
 | .lst _=>true
 | .ins _ _ _=>true
 | _=>false
theorem Z2 (b:Expr){op:CmpOp}(h:op≠.In:=by decide) (h2:op≠.NotIn:=by decide):behindInMarks op b=false:=by
 have e1:(op==CmpOp.In)=false:=by cases op<;>first | rfl | exact absurd rfl h
 have e2:(op==CmpOp.NotIn)=false:=by cases op<;>first | rfl | exact absurd rfl h2
 cases b<;>simp [behindInMarks,e1,e2]
theorem z2P {op:CmpOp}{r:R2}(ho:OpR X (compareOp op) r) (ha:PE X a ta) (hb:PE X b tb) (hm:behindInMarks op b=false):PE X (.Compare a [op] [b] pos) (tOp r ta tb):=by
 intro pins s σ H Q I h
 exact wpAny_Compare1 (z75 ha hb I h λ v u s2 x y H2 I2 rx ry q=>ho pins s2 σ H2 x y v u Q I2 rx ry q) hm
noncomputable def z7c (t:TE):TT:=λ σ H Q=>t σ H λ x H'=>∃ k,x=.bl k/\Q k H'
theorem q8Y {op:CmpOp}{r:R2}(ho:OpR X (compareOp op) r) (ha:PE X a ta) (hb:PE X b tb) (hm:behindInMarks op b=false):PT X (.Compare a [op] [b] pos) (z7c (tOp r ta tb)):=by
 intro pins s σ H Q I h
 refine wpAny_isTrue_Compare1 (thx (ha pins s σ H _ I h) λ v s1 x H1 I1 r1 q1=>thx (hb pins s1 σ H1 _ I1 q1) λ u s2 y H2 I2 r2 q2 =>
  thx (ho pins s2 σ H2 x y v u _ I2 r1 r2 q2) λ c s3 z H3 I3 r3 ⟨k,e,q3⟩=>?_) hm
 subst e
 cases r3
 exact wpAny_truthy_bool ⟨H3,I3,q3⟩
noncomputable def z4S (r r':R2) (ta tb tc:TE):TE:=λ σ H Q=>ta σ H λ x H1=>tb σ H1 λ y H2=>r x y H2 λ z H3=>∃ k,z=.bl k /\
 (if k=true then tc σ H3 λ w' H4=>r' y w' H4 Q else Q (.bl false) H3)
theorem z15 {op op':CmpOp}{r r':R2}(ho:OpR X (compareOp op) r) (ho':OpR X (compareOp op') r') (ha:PE X a ta) (hb:PE X b tb) (hc:PE X c tc)
 (hm:lastMarks [op,op'] [b,c]=false:=by with_unfolding_all rfl):PE X (.Compare a [op,op'] [b,c] pos) (z4S r r' ta tb tc):=by
 intro pins s σ H Q I h
 refine Compare_chain (thx (ha pins s σ H _ I h) λ v s1 x H1 I1 r1 q1=>chain_link (thx (hb pins s1 σ H1 _ I1 q1) λ u s2 y H2 I2 r2 q2 =>
  thx (ho pins s2 σ H2 x y v u _ I2 r1 r2 q2) λ d s3 z H3 I3 r3 ⟨k,e,q3⟩=>?_)) hm
 subst e
 cases r3
 refine wpAny_truthy_bool ?_
 cases k with
 | false=>exact ite_ff ⟨.bl false,H3,I3,rfl,q3⟩
 | true=>exact ite_tt (chain_last (thx (hc pins s3 σ H3 _ I3 q3) λ w' s4 z' H4 I4 r4 q4=>ho' pins s4 σ H4 y z' u w' Q I4 r2 r4 q4))
noncomputable def z8A (K:W.Frag) (x:V) (H:Hp) (k:Bool):Prop :=
 match x with
 | .non=>k=false
 | .bl b=>k=b
 | .int i=>k=(i != 0)
 | .str y=>y.length<=sizeLine/\k=((y.length:Int) != 0)
 | .byt y=>y.size<=sizeLine/\k=((y.size:Int) != 0)
 | .ref p=>(∃ xs,SqL K H p xs/\k = !xs.isEmpty)\/(∃ xs,SqT K H p xs/\k = !xs.isEmpty)\/∃ kvs,H p=some (.dK kvs)/\k = !kvs.isEmpty
 | _=>False
theorem q7V {κ:Type}{kvs:List (κ×V)}{vs:List (κ×Value)}(r:KV kvs vs):(!vs.isEmpty) = !kvs.isEmpty:=by
 cases r<;>rfl
theorem q3u {xs:List V}{its:List Value}(r:Vals xs its):(!its.toArray.isEmpty) = !xs.isEmpty:=by
 cases r<;>simp
theorem q2E:(sizeLine:Nat)<2 ^ 63:=by rw [sizeLine_eq];decide
theorem z4T:TruR X (λ x H Q=>∃ k,z8A X.K x H k/\Q k H):=by
 intro pins s σ H x v Q I rx h
 obtain ⟨k,e,q⟩:=h
 have hl:=q2E
 have hs:sizeLine=16777216:=sizeLine_eq
 cases x with
 | non =>
  cases rx
  have e':k=false:=e
  subst e'
  exact truthy_none ⟨H,I,q⟩
 | bl b =>
  cases rx
  have e':k=b:=e
  subst e'
  exact wpAny_truthy_bool ⟨H,I,q⟩
 | int i =>
  obtain ⟨t,rfl⟩:=rx
  have e':k=(i != 0):=e
  subst e'
  exact P.truthy_int ⟨H,I,q⟩
 | str y =>
  obtain ⟨t,rfl⟩:=rx
  obtain ⟨hy,e'⟩:y.length<=sizeLine/\k=((y.length:Int) != 0):=e
  subst e'
  exact P.truthy_str (by lia) ⟨H,I.tok _,q⟩
 | byt y =>
  obtain ⟨t,rfl⟩:=rx
  obtain ⟨hy,e'⟩:y.size<=sizeLine/\k=((y.size:Int) != 0):=e
  subst e'
  exact W.truthy_bytes (by omega) ⟨H,I.tok _,q⟩
 | ref p =>
  cases rx
  have e':(∃ xs,SqL X.K H p xs/\k = !xs.isEmpty)\/(∃ xs,SqT X.K H p xs/\k = !xs.isEmpty)\/∃ kvs,H p=some (.dK kvs)/\k = !kvs.isEmpty:=e
  rcases e' with ⟨xs,hx,e'⟩ | ⟨xs,hx,e'⟩ | ⟨kvs,hx,e'⟩
  ·subst e'
   obtain ⟨its,r,pl,hz⟩:=I.list hx
   have hlen:=r.length
   exact wpAny_truthy_list pl.isList (by simp only [N0m];lia) ⟨H,I.tok _,by rw [q3u r];exact q⟩
  ·subst e'
   obtain ⟨its,r,pl,hz⟩:=I.tuple hx
   have hlen:=r.length
   exact truthy_tuple pl (by simp only [N0m];lia) ⟨H,I.tok _,by rw [q3u r];exact q⟩
  ·subst e'
   obtain ⟨hz,hS,vs,r,m⟩:kvs.length<=sizeLine/\(p==sysModules)=false/\∃ vs,KV kvs vs/\s.heap.DictOf (K3 X.prog X.w) p vs:=I.hok p _ hx
   have hlen:kvs.length=vs.length:=Paired.length r
   exact wpAny_truthy_dict hS m (by lia) ⟨H,I.tok _,by rw [q7V r];exact q⟩
 | _=>exact (show False from e).elim
theorem z16 (ha:PE X a ta) (he:∀ whole,isTrue a X.env whole=(do let v <- whole;standAt a.pos;holding [v] (truthy v))) :
 PT X a (λ σ H Q=>ta σ H λ x H'=>∃ k,z8A X.K x H' k/\Q k H'):=by
 intro pins s σ H Q I h
 exact isTrue_plain (thx (ha pins s σ H _ I h) λ v s1 x H1 I1 r1 q1=>z4T pins s1 σ H1 x v Q I1 r1 q1) (he _)
theorem q3v:OpR X (binaryOp .Add) (λ x y H Q=>∃ i j,x=.str i/\y=.str j/\i.length+j.length<=sizeLine/\Q (.str (i++j)) H):=by
 intro pins s σ H x y v u Q I rx ry h
 obtain ⟨i,j,rfl,rfl,hz,q⟩:=h
 obtain ⟨t,rfl⟩:=rx
 obtain ⟨t',rfl⟩:=ry
 exact add_str (λ t' tk=>⟨.str (i++j),H,I.tok _,⟨_,rfl⟩,q⟩) hz
theorem q2F {x:V}{us:List Value}(r:Vals [x] us):∃ u,us=[u]/\y3 x u:=by
 cases r with
 | cons r1 r2=>cases r2;exact ⟨_,rfl,r1⟩
theorem z7d {x y:V}{us:List Value}(r:Vals [x,y] us):∃ u w',us=[u,w']/\y3 x u/\y3 y w':=by
 cases r with
 | cons r1 r2 =>
  cases r2 with
  | cons r3 r4=>cases r4;exact ⟨_,_,rfl,r1,r3⟩
theorem q8Z:V2 X (.type "int") (λ xs H Q=>(∃ i,xs=[.int i]/\Q (.int i) H)\/∃ k,xs=[.bl k]/\Q (.int (if k then 1 else 0)) H):=by
 intro pins s σ H xs us Q I r h
 rcases h with ⟨i,rfl,q⟩ | ⟨k,rfl,q⟩
 ·obtain ⟨u,rfl,t,rfl⟩:=q2F r
  exact call_int_int ⟨.int i,H,I,⟨_,rfl⟩,q⟩
 ·obtain ⟨u,rfl,r1⟩:=q2F r
  cases r1
  exact call_int_bool ⟨.int (if k then 1 else 0),H,I.tok _,⟨_,rfl⟩,q⟩
end
structure ObjM (h:Heap) (x dx C:Addr) (mA:Str->Option Value):Prop where
 obj:h.get? x=some (W.instObj C dx)
 ns:h.Ns1 dx mA
 ne:dx≠x
set_option tactic.hygienic true in
theorem q90 {h:Heap}{dx:Addr}{mA:Str->Option Value}(n:h.Ns1 dx mA):∃ od,h.get? dx=some od/\∀ name,W.lookIn name od=some (mA name):=by
 obtain ⟨o,es,ep,ho,hd,hk,_,hm⟩:=n
 refine ⟨o,ho,λ name=>?_⟩
 have e:=hm name
 unfold nsFind findBy at e
 rw [<- Array.find?_toList] at e
 unfold W.lookIn
 rw [hd]
 dsimp only
 split
 ·rename_i y q
  rw [q] at e
  exact congrArg some e
 ·rename_i q
  rw [q] at e
  have a:es.toList.any (·.refKey)=false:=by
   rw [List.any_eq_false]
   intro y hy
   obtain ⟨z,t,hkey⟩:=hk y (Array.mem_toList_iff.mp hy)
   simp [DictEntry.refKey,hkey]
  have a':¬ es.toList.any (·.refKey)=true:=by rw [a];exact N0d
  rw [N0l a']
  exact congrArg some e
theorem ObjM.look {h:Heap}{x dx C:Addr}{mA:Str->Option Value}(I:ObjM h x dx C mA):∃ od,W.InstAt h x (W.instObj C dx) C (some od)/\∀ name,W.lookIn name od=some (mA name) :=
 let ⟨od,ho,hl⟩:=q90 I.ns
 ⟨od,⟨I.obj,rfl,rfl,ho⟩,hl⟩
section
variable {prog:Program}{w:World}{A:Around}{E:Value->Shared->Prop}{s:Shared}{K:W.Frag}{x dx C f:Addr}{mA:Str->Option Value}{name:Str}{v:Value}
theorem z2Q {expr:Bool}{Q:Value->Shared->Prop}(X:K.In s.heap) (I:ObjM s.heap x dx C mA) (hg:W.plainGet K C name=true) (hh:W.hasDictIn K C=true)
 (ha:W.findIn K (.ref C) name=some none) (hv:mA name=some v) (hv':W.handedIn v=true) (h:Q v { s with toks:=s.toks+1 }) :
 wpAny (model prog w) A (getAttr (.ref x) name expr) Q E s:=by
 obtain ⟨od,J,hl⟩:=I.look
 exact W.get_value X J (W.plainGet_of hg).1 (W.findObj_own hh ha rfl (by rw [hl,hv])) hv' h
theorem z17 {pl:Sem Bool}{Q:Value×List Value->Shared->Prop}(X:K.In s.heap) (I:ObjM s.heap x dx C mA) (hg:W.plainGet K C name=true)
 (hf:W.findIn K (.ref C) name=some (some (.ref f))) (ht:W.isFn K (.ref f)=true) (hv:mA name=none) (h:Q (.ref f,[.ref x]) s) :
 wpAny (model prog w) A (getMethod (.ref x) name pl) Q E s:=by
 obtain ⟨od,J,hl⟩:=I.look
 exact W.method_fn X J (W.plainGet_of hg).1 (W.plainGet_of hg).2 hf (beq_iff_eq.mp ht) (by show (W.lookIn name od).map (·.isSome)=some false;rw [hl,hv];rfl) h
theorem z2R {ns:List Str}{Q:Unit->Shared->Prop}(X:K.In s.heap) (I:ObjM s.heap x dx C mA)
 (hs:W.findIn K (.ref C) "__setattr__" = some (some (.builtin "object.__setattr__"))) (hp:W.plainOver K C=true) (ht:W.takerIn K C name=some none) (hh:W.hasDictIn K C=true)
 (hw:Within mA ns) (hsz:ns.length<=sizeLine)
 (h:∀ h',ObjM h' x dx C (λ y=>if y=name then some v else mA y)->Heap.SameBut dx s.heap h'->Q () { s with heap:=h',toks:=s.toks+2 }) :
 wpAny (model prog w) A (setAttr (.ref x) name v) Q E s:=by
 obtain ⟨od,J,hl⟩:=I.look
 refine W.set_plain X J hs (W.osa_open (s:={ s with toks:=s.toks+1 }) (r:=none) X J hp ht λ b=>?_)
 obtain ⟨cd,hc,hd'⟩:=W.any_some hh
 have hx:s.heap.get? x=some ⟨.ref C,some dx,.plain,#[]⟩:=I.obj
 refine N03 (N0y (N03 (N03 (wpAny_loadPart hx (N03 (W.Looks.here (s:={ s with toks:=s.toks+1 }) (W.looks_clsIn X hc) ?_))))))
 rw [hd']
 refine N0y (a:=some dx) (N03 (N0y (N03 ?_)))
 refine wpAny_nsSet1 (s:={ s with toks:=s.toks+1 }) I.ns λ h' hn2 hs2=>?_
 obtain ⟨oD,esD,epD,hoD,hdD,hcD⟩:=hn2.count (Within.cons name v hw)
 refine N03 (wpAny_lookBehind hoD (by rw [hdD];exact pastItsLine_dict (N0v hcD (by rw [N0h];simp_all))) ?_)
 exact N0y (h _ ⟨(hs2.2 _ (N1f I.ne)).trans I.obj,hn2,I.ne⟩ hs2)
theorem z18 {R:Result->Shared->Prop}{vs:List Value}{kw:List (Str×Value)}(X:K.In s.heap) (hm:W.makesIn K C=true)
 (hi:W.findIn K (.ref C) "__init__" = some (some (.ref f))) (hf:W.typeIn K (.ref f)=some (.type "function"))
 (h:codeAny (model prog w) (A.under (.builtin "type.__call__" ⟨.ref C::vs,kw⟩)) (.call (.ref f) ⟨.ref (s.heap.objs.size+1)::vs,kw⟩) (W.InitBack (s.heap.objs.size+1) R)
  { s with heap:=(s.heap.push W.emptyDict).push (W.instObj C s.heap.objs.size) }) :
 codeAny (model prog w) A (.call (.ref C) ⟨vs,kw⟩) R s:=by
 obtain ⟨hh,g,d,t,os⟩:=s
 exact W.make_core (W.makes_of X hm) (W.looks_findIn X hi) (λ self=>W.bind_fn X self hf) (.inl rfl) h
end
noncomputable def q63 (f:Str) (v:V):List (Str×V)->List (Str×V)
 | []=>[(f,v)]
 | (g,x)::r=>if g=f then (g,v)::r else (g,x)::q63 f v r
theorem q2G (f g:Str) (v:V):∀ fs:List (Str×V),(q63 f v fs).lookup g=if g=f then some v else fs.lookup g
 | []=>by
  show List.lookup g [(f,v)]=_
  by_cases h:g=f
  ·have hb:(g==f)=true:=beq_iff_eq.mpr h
   simp only [List.lookup,hb,N0j h]
  ·have hb:(g==f)=false:=N18.mpr h
   simp only [List.lookup,hb,N0l h]
 | (k,x)::r=>by
  have ih:=q2G f g v r
  rw [show q63 f v ((k,x)::r)=(if k=f then (k,v)::r else (k,x)::q63 f v r) from rfl]
  by_cases hk:k=f
  ·rw [N0j hk]
   by_cases h:g=k
   ·have hb:(g==k)=true:=beq_iff_eq.mpr h
    simp only [List.lookup,hb,N0j (h.trans hk)]
   ·have hb:(g==k)=false:=N18.mpr h
    simp only [List.lookup,hb,N0l (λ e:g=f=>h (e.trans hk.symm))]
  ·rw [N0l hk]
   by_cases h:g=k
   ·have hb:(g==k)=true:=beq_iff_eq.mpr h
    simp only [List.lookup,hb,N0l (λ e:g=f=>hk (h.symm.trans e))]
   ·have hb:(g==k)=false:=N18.mpr h
    simp only [List.lookup,hb]
    exact ih
theorem q2H (f:Str) (v:V):∀ fs:List (Str×V),f∈(q63 f v fs).map (·.1)/\∀ g,g∈fs.map (·.1)->g∈(q63 f v fs).map (·.1)
 | []=>⟨by simp [q63],λ g h=>by simp at h⟩
 | (k,x)::r=>by
  obtain ⟨i1,i2⟩:=q2H f v r
  rw [show q63 f v ((k,x)::r)=(if k=f then (k,v)::r else (k,x)::q63 f v r) from rfl]
  by_cases hk:k=f
  ·rw [N0j hk]
   subst hk
   exact ⟨by simp,λ g h=>by simpa using h⟩
  ·rw [N0l hk]
   refine ⟨?_,λ g h=>?_⟩
   ·rw [N09]
    exact N02 _ i1
   ·rw [N09] at h ⊢
    rcases N0c.mp h with e | e
    ·exact N0c.mpr (.inl e)
    ·exact N02 _ (i2 g e)
theorem q2I (f:Str) (v:V):∀ fs:List (Str×V),(q63 f v fs).length<=fs.length+1
 | []=>by simp [q63]
 | (k,x)::r=>by
  have ih:=q2I f v r
  rw [show q63 f v ((k,x)::r)=(if k=f then (k,v)::r else (k,x)::q63 f v r) from rfl]
  by_cases hk:k=f
  ·rw [N0j hk,N0h,N0h];simp
  ·rw [N0l hk,N0h,N0h];simp_all
theorem q4W.some_of {v:V}{o:Option Value}(r:q4W (some v) o):∃ u,o=some u/\y3 v u:=by
 cases o with
 | none=>exact (show False from r).elim
 | some u=>exact ⟨u,rfl,r⟩
theorem q4W.none_of {o:Option Value}(r:q4W none o):o=none:=by
 cases o with
 | none=>rfl
 | some u=>exact (show False from r).elim
theorem q91 {v:V}{u:Value}(r:y3 v u):W.handedIn u=true:=by
 cases v with
 | non=>cases (show u=Value.none from r);rfl
 | bl b=>cases (show u=Value.bool b from r);rfl
 | int i=>obtain ⟨t,e⟩:=(show ∃ t,u=Value.int i t from r);cases e;rfl
 | str x=>obtain ⟨t,e⟩:=(show ∃ t,u=Value.str x t from r);cases e;rfl
 | byt b=>obtain ⟨t,e⟩:=(show ∃ t,u=Value.bytes b t from r);cases e;rfl
 | flt b=>obtain ⟨t,e⟩:=(show ∃ t,u=Value.float b t from r);cases e;rfl
 | ref a=>cases (show u=Value.ref a from r);rfl
 | ty n=>cases (show u=Value.type n from r);rfl
section
variable {P:Program}{w:World}{H H':Hp}{h h':Heap}{a C dx:Addr}{fs fs':List (Str×V)}
theorem q42 (hok:HOk P w H h) (e:H a=some (.ins C dx fs)):∃ mA,ObjM h a dx C mA/\(∀ f,q4W (fs.lookup f) (mA f))/\Within mA (fs.map (·.1))/\fs.length<=1000/\H dx=some (.own a):=by
 obtain ⟨d,z,ne,ob,mA,n,r,q⟩:=(show K6 P w H h a (.ins C dx fs) from hok a _ e)
 exact ⟨mA,⟨ob,n,ne⟩,r,q,z,d⟩
end
structure Cls (K:W.Frag) (C:Addr):Prop where
 pg:W.plainGet K C Str.empty=true
 hd:W.hasDictIn K C=true
 po:W.plainOver K C=true
 sa:W.findIn K (.ref C) "__setattr__" = some (some (.builtin "object.__setattr__"))
theorem Cls.get {K:W.Frag}{C:Addr}(c:Cls K C) (f:Str):W.plainGet K C f=true:=c.pg
noncomputable def Y1 (K:W.Frag) (C:Addr) (f:Str):Prop:=W.findIn K (.ref C) f=some none
theorem Y1.taker {K:W.Frag}{C:Addr}{f:Str}(n:Y1 K C f):W.takerIn K C f=some none:=by
 unfold W.takerIn
 rw [show W.findIn K (.ref C) f=some none from n]
 rfl
structure Con (K:W.Frag) (C:Addr) (f:Str) (v:V) (u:Value):Prop where
 at_:W.findIn K (.ref C) f=some (some u)
 rel:y3 v u
 get:W.specialIn K u "__get__" = some none
 cp:W.copiedNames.contains f=false
structure Meth (K:W.Frag) (C:Addr) (m:Str) (f:Addr):Prop where
 at_:W.findIn K (.ref C) m=some (some (.ref f))
 fn:W.isFn K (.ref f)=true
 kp:W.keepIn K (.ref f)=true
section
variable {X:Cx}{pins:List (Addr×Obj)}{σ:St}{H:Hp}{s:Shared}{a C dx:Addr}{fs:List (Str×V)}{f:Str}{v:V}{A:Around}{E:Value->Shared->Prop}
theorem q7W {b:Bool}{Q:Value->Shared->Prop}(I:Inv X pins σ H s) (e:H a=some (.ins C dx fs)) (c:Cls X.K C) (n:Y1 X.K C f) (l:fs.lookup f=some v)
 (h:∀ u s',Inv X pins σ H s'->y3 v u->Q u s'):wpAny (model X.prog X.w) A (getAttr (.ref a) f b) Q E s:=by
 obtain ⟨mA,O,r,_,_,_⟩:=q42 I.hok e
 obtain ⟨u,hu,ru⟩:=q4W.some_of (v:=v) (o:=mA f) (by rw [<- l];exact r f)
 exact z2Q I.kIn O (c.get f) c.hd n hu (q91 ru) (h u _ (I.tok _) ru)
theorem q3w {m:Str}{g:Addr}{pl:Sem Bool}{Q:Value×List Value->Shared->Prop}(I:Inv X pins σ H s) (e:H a=some (.ins C dx fs)) (c:Cls X.K C) (k:Meth X.K C m g) (l:fs.lookup m=none)
 (h:Q (.ref g,[.ref a]) s):wpAny (model X.prog X.w) A (getMethod (.ref a) m pl) Q E s:=by
 obtain ⟨mA,O,r,_,_,_⟩:=q42 I.hok e
 have hn:mA m=none:=q4W.none_of (by rw [<- l];exact r m)
 exact z17 I.kIn O (c.get m) k.at_ k.fn hn h
theorem q7X {y:V}{u:Value}{Q:Unit->Shared->Prop}(I:Inv X pins σ H s) (e:H a=some (.ins C dx fs)) (c:Cls X.K C) (n:Y1 X.K C f) (hl:fs.length<1000) (ry:y3 y u)
 (h:∀ s',Inv X pins σ (upd H a (.ins C dx (q63 f y fs))) s'->Q () s'):wpAny (model X.prog X.w) A (setAttr (.ref a) f u) Q E s:=by
 obtain ⟨mA,O,r,wi,_,ho⟩:=q42 I.hok e
 have hz:(fs.map (·.1)).length<=sizeLine:=by rw [N01,sizeLine_eq];omega
 refine z2R I.kIn O c.sa c.po n.taker c.hd wi hz λ h' O' sb=>h _ ?_
 have hd:∃ o,h'.get? dx=some o:=let ⟨o,_,_,e',_⟩:=O'.ns;⟨o,e'⟩
 refine I.write (x:=a) (e:=dx) (by rw [e];exact True.intro) (.inr ho) (λ b q hb z=>(sb.2 b hb).trans z) hd ?_
 refine ⟨by rw [upd_ne O.ne];exact ho,?_,O.ne,O'.obj,_,O'.ns,λ g=>?_,λ g hg=>?_⟩
 ·have:=q2I f y fs;lia
 ·show q4W ((q63 f y fs).lookup g) (if g=f then some u else mA g)
  rw [q2G]
  by_cases q:g=f
  ·rw [N0j q,N0j q];exact ry
  ·rw [N0l q,N0l q];exact r g
 ·by_cases q:g=f
  ·rw [q];exact (q2H f y fs).1
  ·refine (q2H f y fs).2 g (wi g λ z=>hg ?_)
   show (if g=f then some u else mA g)=none
   rw [N0l q];exact z
theorem Inv.made (I:Inv X pins σ H s):Inv X pins σ (upd (upd H s.heap.objs.size (.own (s.heap.objs.size+1))) (s.heap.objs.size+1) (.ins C s.heap.objs.size []))
 { s with heap:=(s.heap.push W.emptyDict).push (W.instObj C s.heap.objs.size) }:=by
 have e1:(s.heap.push W.emptyDict).get? s.heap.objs.size=some W.emptyDict:=N1q s.heap rfl
 have e2:((s.heap.push W.emptyDict).push (W.instObj C s.heap.objs.size)).get? (s.heap.objs.size+1)=some (W.instObj C s.heap.objs.size):=by
  have:=N1q (s.heap.push W.emptyDict) (o:=W.instObj C s.heap.objs.size) rfl
  rwa [Heap.size_push] at this
 have e3:(s.heap.push W.emptyDict).Ns s.heap.objs.size (λ o_=>none):=⟨W.emptyDict,#[],_,e1,rfl,(λ e he=>absurd he (by simp)),λ o_=>rfl⟩
 have I1:=I.laid (a:=s.heap.objs.size) (o:=.own (s.heap.objs.size+1)) (h':=s.heap.push W.emptyDict) (t':=s.toks) (λ b u q=>N1o _ q) (N07 _) ⟨_,e1⟩
 refine I1.laid (a:=s.heap.objs.size+1) (o:=.ins C s.heap.objs.size []) (t':=s.toks) (λ b u q=>N1o _ q) (Nat.le_of_eq (Heap.size_push _ _)) ?_
 have ne:s.heap.objs.size≠s.heap.objs.size+1:=N12 (Nat.lt_succ_self _)
 refine ⟨by rw [upd_ne ne,j0],N1b _,ne,e2,λ o_=>none,(Heap.Ns1.of_empty e3).at λ o q=>N1o _ q,λ o_=>True.intro,λ y hy=>absurd rfl hy⟩
theorem z2S {prog:Program}{w:World}{env:Env}{e:Expr}{f:Str}{pos:Pos}{s:Shared}{Q:Value->Shared->Prop}(hb:attributeBase e f env (eval e env)=eval e env)
 (h:wpAny (model prog w) A (eval e env) (λ o s₁=>wpAny (model prog w) A (getAttr o f true) Q E s₁) E s):wpAny (model prog w) A (eval (.Attribute e f pos) env) Q E s :=
 Attribute_any_ h (by rw [arm_eval_Attribute,hb])
end
noncomputable def tFld (K:W.Frag) (ta:TE) (f:Str):TE:=λ σ H Q=>ta σ H λ x H1=>∃ a C dx fs v,x=.ref a/\H1 a=some (.ins C dx fs)/\Cls K C/\Y1 K C f/\fs.lookup f=some v/\Q v H1
noncomputable def sFld (K:W.Frag) (ta tv:TE) (f:Str):TS:=λ D σ H=>tv σ H λ y H1=>ta σ H1 λ x H2=>∃ a C dx fs,x=.ref a/\H2 a=some (.ins C dx fs)/\Cls K C/\Y1 K C f/\fs.length<1000 /\
 D.nx σ (upd H2 a (.ins C dx (q63 f y fs)))
section
variable {X:Cx}{o e value:Expr}{f:Str}{pos pos' tpos:Pos}{ta tv:TE}
theorem q92 (he:PE X e ta) (hb:attributeBase e f X.env (eval e X.env)=eval e X.env):PE X (.Attribute e f pos) (tFld X.K ta f):=by
 intro pins s σ H Q I h
 refine z2S hb (thx (he pins s σ H _ I h) λ u s1 x H1 I1 rx hx_=>?_)
 obtain ⟨a,C,dx,fs,v,ex,ea,c,n,l,q⟩:=hx_
 subst ex
 obtain rfl:u=Value.ref a:=rx
 exact q7W I1 ea c n l λ u' s2 I2 ru=>⟨v,H1,I2,ru,q⟩
theorem z4U (ha:PE X o ta) (hv:PE X value tv) (hs:swapsWith value (some (.Attribute o f pos')) pos.line X.env=pure false):PS X (.Assign [.Attribute o f pos'] value pos) (sFld X.K ta tv f):=by
 intro pins s σ H D I h
 refine plainObj_wpAny_Assign_Attribute (thx (hv pins s σ H _ I h) λ u s1 y H1 I1 ry q=>thx (ha pins s1 σ H1 _ I1 q) λ ov s2 x H2 I2 rx hx_=>?_) hs
 obtain ⟨a,C,dx,fs,ex,ea,c,n,l,q2⟩:=hx_
 subst ex
 obtain rfl:ov=Value.ref a:=rx
 exact q7X I2 ea c n l ry λ s3 I3=>⟨σ,_,I3,q2⟩
end
section
variable {X:Cx}{pins:List (Addr×Obj)}{σ:St}{H:Hp}{s:Shared}{A:Around}{E:Value->Shared->Prop}{Q:Value->Shared->Prop}{c:Value}{b:Bool}
inductive TyOf (K:W.Frag) (H:Hp):V->Value->Prop where
 | non:TyOf K H .non (.type "NoneType")
 | bl (x:Bool):TyOf K H (.bl x) (.type "bool")
 | int (i:Int):TyOf K H (.int i) (.type "int")
 | str (x:Str):TyOf K H (.str x) (.type "str")
 | flt (x:UInt64):TyOf K H (.flt x) (.type "float")
 | lst {a:Addr}{xs:List V}(e:H a=some (.lst xs)):TyOf K H (.ref a) (.type "list")
 | frz {a:Addr}{o:Obj}{xs:List V}(e:H a=some (.frz o (.lst xs))):TyOf K H (.ref a) (.type "list")
 | tup {a:Addr}{xs:List V}(e:H a=some (.tup xs)):TyOf K H (.ref a) (.type "tuple")
 | dK {a:Addr}{kvs:List (Key×V)}(e:H a=some (.dK kvs)):TyOf K H (.ref a) (.type "dict")
 | dT {a:Addr}{kvs:List (List Key×V)}(e:H a=some (.dT kvs)):TyOf K H (.ref a) (.type "dict")
 | ins {a C dx:Addr}{fs:List (Str×V)}(e:H a=some (.ins C dx fs)) (cl:Cls K C) (ha:W.findIn K (.ref C) "__class__" = some (some (.builtin "object.__class__")))
  (hn:W.specialIn K (.builtin "object.__class__") "__get__" = some (some (.builtin "getset_descriptor.__get__"))) (htk:W.takesIn K (.builtin "object.__class__")=some true)
  (hm:W.mroIn K C (.type "object")=some true):TyOf K H (.ref a) (.ref C)
theorem q93 {x:V}{u t:Value}(I:Inv X pins σ H s) (rx:y3 x u) (ty:TyOf X.K H x t) (e:W.kitOne X.K t c=some b) (h:∀ tk,Q (.bool b) { s with toks:=tk }) :
 wpAny (model X.prog X.w) A (call (.builtin "isinstance") [u,c]) Q E s:=by
 cases ty with
 | non=>cases (show u=Value.none from rx);exact W.kia_one W.kitx_none I.kIn True.intro e (λ z=>nomatch z) h
 | bl y=>cases (show u=Value.bool y from rx);exact W.kia_one W.kitx_bool I.kIn True.intro e (λ z=>nomatch z) h
 | int i=>obtain ⟨t,q⟩:=(show ∃ t,u=Value.int i t from rx);cases q;exact W.kia_one W.kitx_int I.kIn True.intro e (λ z=>nomatch z) h
 | str y=>obtain ⟨t,q⟩:=(show ∃ t,u=Value.str y t from rx);cases q;exact W.kia_one W.kitx_str I.kIn True.intro e (λ z=>nomatch z) h
 | flt y=>obtain ⟨t,q⟩:=(show ∃ t,u=Value.float y t from rx);cases q;exact W.kia_one W.kitx_float I.kIn True.intro e (λ z=>nomatch z) h
 | @lst a xs ea =>
  cases (show u=Value.ref a from rx)
  obtain ⟨_,_,n,_,h1⟩:=(show K6 X.prog X.w H s.heap a (.lst xs) from I.hok a _ ea)
  exact W.kia_one W.kitx_list I.kIn ⟨_,h1,rfl⟩ e (λ z=>nomatch z) h
 | @frz a ob xs ea =>
  cases (show u=Value.ref a from rx)
  obtain ⟨_,_,_,n,_,h1⟩:=(show K6 X.prog X.w H s.heap a (.frz ob (.lst xs)) from I.hok a _ ea)
  exact W.kia_one W.kitx_list I.kIn ⟨_,h1,rfl⟩ e (λ z=>nomatch z) h
 | @tup a xs ea =>
  cases (show u=Value.ref a from rx)
  obtain ⟨_,_,_,p⟩:=(show K6 X.prog X.w H s.heap a (.tup xs) from I.hok a _ ea)
  obtain ⟨o,h1,h2,_⟩:=p
  exact W.kia_one W.kitx_tuple I.kIn ⟨o,h1,h2⟩ e (λ z=>nomatch z) h
 | @dK a kvs ea =>
  cases (show u=Value.ref a from rx)
  obtain ⟨_,_,vs,_,p⟩:=(show K6 X.prog X.w H s.heap a (.dK kvs) from I.hok a _ ea)
  obtain ⟨o,es,ep,h1,h2,_⟩:=p
  exact W.kia_one W.kitx_dict I.kIn ⟨o,h1,h2.1⟩ e (λ z=>nomatch z) h
 | @dT a kvs ea =>
  cases (show u=Value.ref a from rx)
  obtain ⟨_,_,xs,_,o,es,ep,h1,h2,_⟩:=(show K6 X.prog X.w H s.heap a (.dT kvs) from I.hok a _ ea)
  exact W.kia_one W.kitx_dict I.kIn ⟨o,h1,h2.1⟩ e (λ z=>nomatch z) h
 | @ins a C dx fs ea cl ha hn htk hm =>
  cases (show u=Value.ref a from rx)
  obtain ⟨mA,O,_⟩:=q42 I.hok ea
  obtain ⟨od,J,_⟩:=O.look
  exact W.kia_one (W.kitx_own (cl.get _) cl.hd ha hn htk hm) I.kIn J e (λ z=>nomatch z) h
end
structure Room (k:Nat) (A:Around):Prop where
 hd:A.handled=none
 dp:A.depth+3 * k+5<recursionLimit
 un:A.units+16 * k+200<cLine
theorem Room.mono {j k:Nat}{A:Around}(r:Room k A) (h:j<=k):Room j A:=⟨r.hd,by have:=r.dp;lia,by have:=r.un;lia⟩
theorem Room.deeper {k:Nat}{A:Around}(r:Room (k+1) A) (env:Env):Room k (A.deeper env) :=
 ⟨r.hd,by have:=r.dp;show A.depth+1+3 * k+5<_;lia,by have:=r.un;show A.units+3+16 * k+200<_;lia⟩
theorem q7Y {A:Around}{C:Addr}{us:List Value}{kw:List (Str×Value)}:(A.under (.builtin "type.__call__" ⟨.ref C::us,kw⟩)).depth=A.depth+1:=by
 first | rfl | simp [Around.under,Code.weight,Code.isCreation,Code.isGuard,Code.isCaller,Code.frames,Code.isFrame,guardIds]
theorem q7Z {A:Around}{C:Addr}{us:List Value}{kw:List (Str×Value)}:(A.under (.builtin "type.__call__" ⟨.ref C::us,kw⟩)).units=A.units+1:=by
 first | rfl | simp [Around.under,Code.cUnits,Code.frames,Code.isFrame]
theorem Room.make {k:Nat}{A:Around}(r:Room (k+1) A) (C:Addr) (us:List Value) (kw:List (Str×Value)):Room k (A.under (.builtin "type.__call__" ⟨.ref C::us,kw⟩)) :=
 ⟨r.hd,by have:=r.dp;rw [q7Y];lia,by have:=r.un;rw [q7Z];lia⟩
theorem Room.depth {k:Nat}{A:Around}(r:Room k A):A.depth<recursionLimit:=by have:=r.dp;lia
theorem Room.units {k:Nat}{A:Around}(r:Room k A):A.units+64<cLine:=by have:=r.un;lia
noncomputable def z7e:TA:=λ o_ H Q=>Q [] H
noncomputable def z7f (ta:TE) (tr:TA):TA:=λ σ H Q=>ta σ H λ x H1=>tr σ H1 λ xs H2=>Q (x::xs) H2
section
variable {X:Cx}{e:Expr}{es:List Expr}{te:TE}{t:TA}{pos:Pos}
theorem q1v:PA X [] z7e:=λ o_ o_ o_ o_ H Q I h=>Calls.spliced_nil ⟨[],H,I,.nil,h⟩
theorem Y5 (ha:PE X e te) (hr:PA X es t) (hs:starEach (e::es) X.env=(false,eval e X.env)::starEach es X.env:=by rfl):PA X (e::es) (z7f te t):=by
 intro pos pins s σ H Q I h
 rw [hs]
 show wpAny _ _ (spliced ((false,eval e X.env)::backTo pos (starEach es X.env))) _ _ s
 refine Calls.spliced_cons (thx (ha pins s σ H _ I h) λ u s1 x H1 I1 r1 q1=>?_)
 exact thx (hr pos pins s1 σ H1 _ I1 q1) λ us s2 xs H2 I2 r2 q2=>⟨x::xs,H2,I2,.cons r1 r2,q2⟩
noncomputable def tTup (t:TA):TE:=λ σ H Q=>t σ H λ xs H1=>xs.length<=sizeLine/\∀ p,H1 p=none->Q (.ref p) (upd H1 p (.tup xs))
noncomputable def tLst (t:TA):TE:=λ σ H Q=>t σ H λ xs H1=>xs.length<=sizeLine/\∀ p,H1 p=none->Q (.ref p) (upd H1 p (.lst xs))
theorem z4V {x1}(h:PA X es t):PE X (.Tuple es x1 pos) (tTup t):=by
 intro pins s σ H Q I hq
 refine wpAny_Tuple_spliced (thx (h pos pins s σ H _ I hq) λ us s1 xs H1 I1 r ⟨z,q⟩=>⟨by rw [<- r.length];exact z,?_⟩)
 have hf:H1 s1.heap.objs.size=none:=I1.hok.fresh (N07 _)
 refine ⟨.ref s1.heap.objs.size,upd H1 s1.heap.objs.size (.tup xs),I1.laid (t':=s1.toks) (λ b u e=>N1o _ e) (N07 _) ?_,rfl,q _ hf⟩
 exact ⟨z,us,r,⟨_,N1q _ rfl,rfl,_,rfl⟩⟩
theorem z4W (h:PA X es t):PE X (.List es pos) (tLst t):=by
 intro pins s σ H Q I hq
 refine wpAny_List_spliced (thx (h pos pins s σ H _ I hq) λ us s1 xs H1 I1 r ⟨z,q⟩=>⟨by rw [<- r.length];exact z,?_⟩)
 have hf:H1 s1.heap.objs.size=none:=I1.hok.fresh (N07 _)
 refine ⟨.ref s1.heap.objs.size,upd H1 s1.heap.objs.size (.lst xs),I1.laid (t':=s1.toks) (λ b u e=>N1o _ e) (N07 _) ?_,rfl,q _ hf⟩
 exact ⟨z,us,0,r,N1q _ rfl⟩
end
noncomputable abbrev Sp:=List V->Hp->VK->XK->Prop
noncomputable abbrev CXT:=List Env->Hp->Shared->XK->Value->Shared->Prop
structure Env0 (P:Program) (w:World) (K:W.Frag) (mg:Str->Option Value) (base:Heap) (A:Around) (outer:List Env) (s:Shared) (H:Hp):Prop where
 frames:A.frames=some outer
 mod:Mod K mg base
 bs:∀ b o,base.get? b=some o->s.heap.get? b=some o/\Bt H b
 bsz:base.objs.size<=s.heap.objs.size
 funs:s.heap.FunFrames base outer
 frf:∀ b∈frs outer,H b=none
 hok:HOk P w H s.heap
 bare:AllBare s.gens
noncomputable def CE (outer:List Env) (P:Program) (w:World) (H:Hp) (s:Shared) (Q:VK) (u:Value) (s':Shared):Prop :=
 ∃ v H',s'.os=s.os/\AllBare s'.gens/\Un (frs outer) [] H H' s.heap s'.heap/\HOk P w H' s'.heap/\y3 v u/\Q v H'
noncomputable def CR (CX:CXT) (outer:List Env) (P:Program) (w:World) (H:Hp) (s:Shared) (Q:VK) (E:XK) (r:Result) (s':Shared):Prop :=
 match r with
 | .ok (.ret u)=>CE outer P w H s Q u s'
 | .ok _=>False
 | .error e=>CX outer H s E e s'
structure FnOk (P:Program) (w:World) (K:W.Frag) (mg:Str->Option Value) (base:Heap) (CX:CXT) (k:Nat) (f:Addr) (fd:FuncData) (ps:List Str) (sp:Sp):Prop where
 len:∀ vs H Q E,sp vs H Q E->vs.length=ps.length
 run:∀ (A:Around) (outer:List Env) (s:Shared) (H:Hp) (args:Args) (us:List Value) (vs:List V) (Q:VK) (E:XK),Room k A->Env0 P w K mg base A outer s H->BindsTo s fd args (ps.zip us)->Vals vs us->sp vs H Q E ->
  codeAny (model P w) A (.call (.ref f) args) (CR CX outer P w H s Q E) s
theorem FnOk.mono {P:Program}{w:World}{K:W.Frag}{mg:Str->Option Value}{base:Heap}{CX:CXT}{j k:Nat}{f:Addr}{fd:FuncData}{ps:List Str}{sp:Sp}(F:FnOk P w K mg base CX j f fd ps sp) (h:j<=k) :
 FnOk P w K mg base CX k f fd ps sp:=⟨F.len,λ A outer s H args us vs Q E hr=>F.run A outer s H args us vs Q E (hr.mono h)⟩
theorem FnOk.imp {P:Program}{w:World}{K:W.Frag}{mg:Str->Option Value}{base:Heap}{CX:CXT}{k:Nat}{f:Addr}{fd:FuncData}{ps:List Str}{sp sp':Sp}(F:FnOk P w K mg base CX k f fd ps sp)
 (h:∀ vs H Q E,sp' vs H Q E->sp vs H Q E):FnOk P w K mg base CX k f fd ps sp' :=
 ⟨λ vs H Q E q=>F.len vs H Q E (h _ _ _ _ q),λ A outer s H args us vs Q E hr he hb hv hs=>F.run A outer s H args us vs Q E hr he hb hv (h _ _ _ _ hs)⟩
theorem Env0.make {P:Program}{w:World}{K:W.Frag}{mg:Str->Option Value}{base:Heap}{A:Around}{outer:List Env}{s:Shared}{H:Hp}(e:Env0 P w K mg base A outer s H) (C:Addr) (us:List Value) (kw:List (Str×Value)) :
 Env0 P w K mg base (A.under (.builtin "type.__call__" ⟨.ref C::us,kw⟩)) outer s H:=⟨by first | exact e.frames | (simpa [Around.under,Code.envs,Code.isFrame,pushEnvs] using e.frames),e.mod,e.bs,e.bsz,e.funs,e.frf,e.hok,e.bare⟩
section
variable {X:Cx}{pins:List (Addr×Obj)}{σ:St}{H:Hp}{s s':Shared}
theorem Inv.env0 (I:Inv X pins σ H s):Env0 X.prog X.w X.K X.mg X.base X.A X.stack s H :=
 ⟨I.ok.frames,I.ok.mod,I.bs,N0v I.ok.bsz I.sz,I.stack,I.stkFree,I.hok,I.bare⟩
theorem Inv.after {Q:VK}{u:Value}(I:Inv X pins σ H s) (h:CE X.stack X.prog X.w H s Q u s'):EP X pins σ Q u s':=by
 obtain ⟨v,H',os,bare,un,hok,r,q⟩:=h
 obtain ⟨hh,g,d,t,os'⟩:=s'
 obtain rfl:os'=s.os:=os
 exact ⟨v,H',I.call (h':=hh) (g':=g) (d':=d) (t':=t) (ch:=[]) un hok bare (λ b z=>absurd z (by simp)),r,q⟩
end
noncomputable def z4X (sp:Sp) (dvs:List V) (E:XK) (t:TA):TE:=λ σ H Q=>t σ H λ vs H1=>sp (vs++dvs) H1 Q E
noncomputable def z2T (C:Addr) (m:Str) (sp:Sp) (dvs:List V) (E:XK) (ta:TE) (t:TA):TE:=λ σ H Q=>ta σ H λ x H1=>∃ a dx fs,x=.ref a/\H1 a=some (.ins C dx fs)/\fs.lookup m=none /\
 t σ H1 λ vs H2=>sp (x::(vs++dvs)) H2 Q E
noncomputable def z7g (C:Addr) (sp:Sp) (dvs:List V) (E:XK) (t:TA):TE:=λ σ H Q=>t σ H λ vs H1=>∀ x dx,H1 x=none->H1 dx=none->dx≠x ->
 sp (.ref x::(vs++dvs)) (upd (upd H1 dx (.own x)) x (.ins C dx [])) (λ v H2=>v=.non/\Q (.ref x) H2) E
noncomputable def y9 (K:W.Frag) (fd:FuncData) (ps:List Str) (ds:List Value):Prop :=
 ∀ (s:Shared) (us:List Value),K.In s.heap->(us++ds).length=ps.length->BindsTo s fd ⟨us,[]⟩ (ps.zip (us++ds))
theorem y9.all {K:W.Frag}{fd:FuncData}{ps:List Str}(h:∀ us:List Value,us.length=ps.length->bindArgs fd ⟨us,[]⟩=pure (ps.zip us)):y9 K fd ps []:=λ s us o_ hl=>by
 rw [N10] at hl ⊢
 exact .of_eq (h us hl)
noncomputable def q2J (CX:CXT) (X:Cx) (E:XK):Prop:=∀ (pins:List (Addr×Obj)) (σ:St) (H:Hp) (s:Shared) (e:Value) (s':Shared),Inv X pins σ H s->CX X.stack H s E e s'->X.xe e s'
section
variable {X:Cx}{CX:CXT}{k:Nat}{f C:Addr}{fd:FuncData}{ps:List Str}{sp:Sp}{dvs:List V}{ds:List Value}{E:XK}{x m:Str}{p pos apos:Pos}{e o:Expr}{es:List Expr}{ta:TE}{t:TA}
theorem q94 {pins:List (Addr×Obj)}{σ:St}{H:Hp}{s:Shared}{Q:VK}{us:List Value}{vs:List V}(F:FnOk X.prog X.w X.K X.mg X.base CX k f fd ps sp) (hr:Room k X.A) (hb:y9 X.K fd ps ds) (hd:Vals dvs ds) (hx:q2J CX X E)
 (I:Inv X pins σ H s) (r:Vals vs us) (h:sp (vs++dvs) H Q E):wpAny (model X.prog X.w) X.A (call (.ref f) us) (EP X pins σ Q) X.xe s:=by
 have r2:Vals (vs++dvs) (us++ds):=r.append hd
 have hl:(us++ds).length=ps.length:=by rw [<- r2.length];exact F.len _ _ _ _ h
 refine wpAny_call (codeAny_mono (F.run X.A X.stack s H ⟨us,[]⟩ (us++ds) (vs++dvs) Q E hr I.env0 (hb s us I.kIn hl) r2 h) λ r s' hq=>?_)
 cases r with
 | error e=>exact hx pins σ H s e s' I hq
 | ok fl =>
  cases fl with
  | ret u=>exact I.after hq
  | next=>exact False.elim hq
  | brk=>exact False.elim hq
  | cont=>exact False.elim hq
theorem q43 (F:FnOk X.prog X.w X.K X.mg X.base CX k f fd ps sp) (hr:Room k X.A) (hg:Gl X x) (hm:X.mg x=some (.ref f)) (hk:W.keepIn X.K (.ref f)=true) (hb:y9 X.K fd ps ds) (hd:Vals dvs ds) (hx:q2J CX X E)
 (ha:PA X (e::es) t) (hdb:(x==("__debug__" : Str))=false:=by decide) (he:starEach (e::es) X.env=(false,eval e X.env)::starEach es X.env:=by rfl) (hpl:(backTo pos (starEach es X.env)).any (·.1)=false:=by rfl) :
 PE X (.Call (.Name x p) (e::es) [] pos) (z4X sp dvs E t):=by
 intro pins s σ H Q I h
 refine wpAny_Call_Name_kw (q67 I hg hm ?_ hdb)
 refine W.callWith_K (h₀:=X.base) I.ok.mod.kin hk (thx (ha pos pins s σ H _ I h) λ us s1 vs H1 I1 r q=>⟨I1.kIn,?_⟩) he hpl
 exact q94 F hr hb hd hx I1 r q
theorem q95 {pl:Sem Bool}(he:PE X o ta) (c:Cls X.K C) (hm:Meth X.K C m f) (F:FnOk X.prog X.w X.K X.mg X.base CX k f fd ps sp) (hr:Room k X.A) (hb:y9 X.K fd ps ds) (hd:Vals dvs ds) (hx:q2J CX X E) (ha:PA X (e::es) t)
 (hst:starEach (e::es) X.env=(false,eval e X.env)::starEach es X.env:=by rfl) (hpl:(backTo pos (starEach es X.env)).any (·.1)=false:=by rfl)
 (ht:eval (.Call (.Attribute o m apos) (e::es) [] pos) X.env=(do
  let ov <- eval o X.env
  standAt apos.atName
  let (f,first) <- holding [ov] (getMethod ov m pl)
  callWith pos f first (backTo pos (starEach (e::es) X.env)) (backToKw pos (keywordEach [] X.env))):=by rfl) :
 PE X (.Call (.Attribute o m apos) (e::es) [] pos) (z2T C m sp dvs E ta t):=by
 intro pins s σ H Q I h
 refine W.methodCall_KW (pl:=pl) (thx (he pins s σ H _ I h) λ u s1 x H1 I1 rx hx_=>?_) ht
 obtain ⟨a,dx,fs,ex,ea,l,q⟩:=hx_
 subst ex
 obtain rfl:u=Value.ref a:=rx
 refine q3w I1 ea c hm l ?_
 refine W.callWith_K (first:=[.ref a]) (h₀:=X.base) I.ok.mod.kin hm.kp (thx (ha pos pins s1 σ H1 _ I1 q) λ us s2 vs H2 I2 r q2=>⟨I2.kIn,?_⟩) hst hpl
 exact q94 (us:=.ref a::us) (vs:=.ref a::vs) F hr hb hd hx I2 (.cons rfl r) q2
theorem z19 {pl:Sem Bool}(he:PE X o ta) (c:Cls X.K C) (hm:Meth X.K C m f) (F:FnOk X.prog X.w X.K X.mg X.base CX k f fd ps sp) (hr:Room k X.A) (hb:y9 X.K fd ps ds) (hd:Vals dvs ds) (hx:q2J CX X E)
 (ht:eval (.Call (.Attribute o m apos) [] [] pos) X.env=(do
  let ov <- eval o X.env
  standAt apos.atName
  let (f,first) <- holding [ov] (getMethod ov m pl)
  callWith pos f first (backTo pos (starEach [] X.env)) (backToKw pos (keywordEach [] X.env))):=by rfl) :
 PE X (.Call (.Attribute o m apos) [] [] pos) (z2T C m sp dvs E ta z7e):=by
 intro pins s σ H Q I h
 refine W.methodCall_KW (pl:=pl) (thx (he pins s σ H _ I h) λ u s1 x H1 I1 rx hx_=>?_) ht
 obtain ⟨a,dx,fs,ex,ea,l,q⟩:=hx_
 subst ex
 obtain rfl:u=Value.ref a:=rx
 refine q3w I1 ea c hm l ?_
 exact W.callWith_K0 (first:=[.ref a]) I1.kIn hm.kp (q94 (us:=[.ref a]) (vs:=[.ref a]) F hr hb hd hx I1 (.cons rfl .nil) q)
structure Mk (K:W.Frag) (C f:Addr):Prop where
 makes:W.makesIn K C=true
 init:W.findIn K (.ref C) "__init__" = some (some (.ref f))
 fn:W.isFn K (.ref f)=true
 kp:W.keepIn K (.ref C)=true
theorem z1a {pins:List (Addr×Obj)}{σ:St}{H:Hp}{s:Shared}{Q:VK}{us:List Value}{vs:List V}(M:Mk X.K C f) (F:FnOk X.prog X.w X.K X.mg X.base CX k f fd ps sp) (hr:Room (k+1) X.A) (hb:y9 X.K fd ps ds) (hd:Vals dvs ds)
 (hx:q2J CX X E) (I:Inv X pins σ H s) (r:Vals vs us)
 (h:∀ x dx,H x=none->H dx=none->dx≠x->sp (.ref x::(vs++dvs)) (upd (upd H dx (.own x)) x (.ins C dx [])) (λ v H2=>v=.non/\Q (.ref x) H2) E) :
 wpAny (model X.prog X.w) X.A (call (.ref C) us) (EP X pins σ Q) X.xe s:=by
 have hq:=h (s.heap.objs.size+1) s.heap.objs.size (I.hok.fresh (Nat.le_succ _)) (I.hok.fresh (N07 _)) (N12 (Nat.lt_succ_self _))
 have I2:=Inv.made (C:=C) I
 have r2:Vals (V.ref (s.heap.objs.size+1)::(vs++dvs)) (Value.ref (s.heap.objs.size+1)::(us++ds)):=.cons rfl (r.append hd)
 have hl:(Value.ref (s.heap.objs.size+1)::us++ds).length=ps.length:=by
  have e:=r2.length
  rw [F.len _ _ _ _ hq] at e
  exact e.symm
 refine wpAny_call (z18 (f:=f) I.kIn M.makes M.init (beq_iff_eq.mp M.fn) (codeAny_mono (F.run _ X.stack _ _ ⟨Value.ref (s.heap.objs.size+1)::us,[]⟩ (Value.ref (s.heap.objs.size+1)::(us++ds)) _ _ E (hr.make C us [])
  (I2.env0.make C us []) (hb _ (Value.ref (s.heap.objs.size+1)::us) I2.kIn hl) r2 hq) λ r s' hq'=>?_))
 cases r with
 | error e=>exact hx pins σ _ _ e s' I2 hq'
 | ok fl =>
  cases fl with
  | ret u =>
   obtain ⟨v,H',I3,rv,ev,q3⟩:=I2.after hq'
   subst ev
   exact ⟨rv,⟨V.ref (s.heap.objs.size+1),H',I3,rfl,q3⟩⟩
  | next=>exact False.elim hq'
  | brk=>exact False.elim hq'
  | cont=>exact False.elim hq'
theorem z1b (M:Mk X.K C f) (F:FnOk X.prog X.w X.K X.mg X.base CX k f fd ps sp) (hr:Room (k+1) X.A) (hg:Gl X x) (hm:X.mg x=some (.ref C)) (hb:y9 X.K fd ps ds) (hd:Vals dvs ds) (hx:q2J CX X E)
 (hdb:(x==("__debug__" : Str))=false:=by decide):PE X (.Call (.Name x p) [] [] pos) (z7g C sp dvs E z7e):=by
 intro pins s σ H Q I h
 refine wpAny_Call_Name_kw (q67 I hg hm ?_ hdb)
 exact W.callWith_K0 I.kIn M.kp (z1a (us:=[]) M F hr hb hd hx I .nil h)
end
section
variable {X:Cx}{CX:CXT}{k:Nat}{f C:Addr}{fd:FuncData}{ps ks:List Str}{sp:Sp}{E:XK}{x m:Str}{p pos apos kpos:Pos}{e o:Expr}{es:List Expr}{kws:List Keyword}{te ta:TE}{t tk:TA}{nm:Option Str}
structure KBinds (K:W.Frag) (fd:FuncData) (ps ks:List Str) (g:List Value->List Value->List Value) (gV:List V->List V->List V):Prop where
 to:∀ (s:Shared) (us ws:List Value),K.In s.heap->(g us ws).length=ps.length->BindsTo s fd ⟨us,ks.zip ws⟩ (ps.zip (g us ws))
 rel:∀ {vs:List V}{us:List Value}{zs:List V}{ws:List Value},Vals vs us->Vals zs ws->Vals (gV vs zs) (g us ws)
variable {g:List Value->List Value->List Value}{gV:List V->List V->List V}
end
structure FnScope (N P:List Str) (sc:Scope):Prop where
 kind:sc.kind=.function
 co:sc.isCoroutine=false
 gen:sc.isGenerator=false
 nd:N.Nodup
 pre:N.take P.length=P
 par:∀ x∈P,sc.names.lookup x=some .local\/sc.names.lookup x=some .cell
 nofree:∀ y∈sc.names,y.2≠.free
theorem q51 {kindOf:Str->Option NameKind}{x:Str}:∀ {binds:List (Str×Value)}{m:Str->Option Value},(∀ v,(x,v)∉binds)->bindL kindOf binds m x=m x
 | [],_,_=>rfl
 | (n,v)::r,m,h=>by
  unfold bindL
  rw [q51 λ w hw=>h w (N02 _ hw)]
  split
  ·have:x≠n:=by rintro rfl;exact h v N00
   simp [this]
  ·rfl
theorem q52 {kindOf:Str->Option NameKind}{x:Str}:∀ {binds:List (Str×Value)}{m:Str->Option Value},(∀ v,(x,v)∉binds)->bindC kindOf binds m x=m x
 | [],_,_=>rfl
 | (n,v)::r,m,h=>by
  unfold bindC
  rw [q52 λ w hw=>h w (N02 _ hw)]
  split
  ·rfl
  ·have:x≠n:=by rintro rfl;exact h v N00
   simp [this]
theorem q53 {kindOf:Str->Option NameKind}{x:Str}{v:Value}:∀ {P:List Str}{vs:List Value}{i:Nat}{m:Str->Option Value},P.Nodup->P[i]? = some x->vs[i]? = some v->kindOf x=some .local ->
 bindL kindOf (P.zip vs) m x=some v
 | [],_,_,_,_,h,_,_=>by simp at h
 | _::_,[],_,_,_,_,h,_=>by simp at h
 | p::P,w::vs,0,m,nd,h1,h2,hk=>by
  simp at h1 h2;subst h1;subst h2
  show bindL kindOf ((p,w)::P.zip vs) m p=_
  unfold bindL
  rw [q51 λ v hv=>(N1s.mp nd).1 (N24 hv).1,N0j hk]
  simp
 | p::P,w::vs,i+1,m,nd,h1,h2,hk=>by
  show bindL kindOf ((p,w)::P.zip vs) m x=_
  unfold bindL
  exact q53 (i:=i) (N1s.mp nd).2 (by simpa using h1) (by simpa using h2) hk
theorem q54 {kindOf:Str->Option NameKind}{x:Str}{v:Value}:∀ {P:List Str}{vs:List Value}{i:Nat}{m:Str->Option Value},P.Nodup->P[i]? = some x->vs[i]? = some v->kindOf x≠some .local ->
 bindC kindOf (P.zip vs) m x=some v
 | [],_,_,_,_,h,_,_=>by simp at h
 | _::_,[],_,_,_,_,h,_=>by simp at h
 | p::P,w::vs,0,m,nd,h1,h2,hk=>by
  simp at h1 h2;subst h1;subst h2
  show bindC kindOf ((p,w)::P.zip vs) m p=_
  unfold bindC
  rw [q52 λ v hv=>(N1s.mp nd).1 (N24 hv).1,N0l hk]
  simp
 | p::P,w::vs,i+1,m,nd,h1,h2,hk=>by
  show bindC kindOf ((p,w)::P.zip vs) m x=_
  unfold bindC
  exact q54 (i:=i) (N1s.mp nd).2 (by simpa using h1) (by simpa using h2) hk
noncomputable def start (N:List Str) (vs:List V):St:=vs.map some++List.replicate (N.length - vs.length) none
noncomputable def cxOf (CX:CXT) (P:Program) (w:World) (K:W.Frag) (mg:Str->Option Value) (base:Heap) (N:List Str) (qual:Str) (scope:Scope) (f:Addr) (cd:Value) (A:Around) (outer:List Env) (s:Shared) (H:Hp) (E:XK):Cx where
 prog:=P
 w:=w
 K:=K
 mg:=mg
 base:=base
 A:=A.deeper (envOfC qual scope s.heap.objs.size f cd)
 N:=N
 s₀:=s
 H₀:=H
 env:=envOfC qual scope s.heap.objs.size f cd
 outer:=outer
 stack:=envOfC qual scope s.heap.objs.size f cd::outer
 ex:=[]
 calm:=true
 fn:=λ o_=>true
 pn:=[]
 xe:=λ e s'=>wpAny (model P w) (A.deeper (envOfC qual scope s.heap.objs.size f cd)) (leaving (envOfC qual scope s.heap.objs.size f cd) e) (λ o_ s''=>CX outer H s E e s'') (λ e' s''=>CX outer H s E e' s'') s'
theorem q6Z {sc:Scope}{n:Nat}{x:Str}(h:sc.names.lookup x=some .cell):∃ c,(cellsFrom n sc.names []).lookup x=some c:=by
 have q:=W.cellsFrom_some sc.names n [] (.inl h)
 exact Option.isSome_iff_exists.mp q
theorem q96 {CX:CXT}{P:Program}{w:World}{K:W.Frag}{mg:Str->Option Value}{base:Heap}{N ps:List Str}{qual:Str}{scope:Scope}{f:Addr}{cd:Value}{A:Around}{outer:List Env}{s s1:Shared}{H:Hp}{E:XK}{us:List Value}{vs:List V}
 (S:FnScope N ps scope) (hd:A.handled=none) (e0:Env0 P w K mg base A outer s H) (hl:vs.length=ps.length) (r:Vals vs us)
 (x:InCallC s s.heap.objs.size (bindL (envOfC qual scope s.heap.objs.size f cd).kindOf (ps.zip us) λ o_=>none) (cellsFrom (s.heap.objs.size+1) scope.names []) (bindC (envOfC qual scope s.heap.objs.size f cd).kindOf (ps.zip us) λ o_=>none) s1) :
 Inv (cxOf CX P w K mg base N qual scope f cd A outer s H E) [] (start N vs) H s1:=by
 have hpl:ps.length<=N.length:=by have:=congrArg List.length S.pre;rw [N16] at this;lia
 obtain ⟨h1,tk,rfl,hk⟩:=x.done
 have noA:∀ b:Addr,b∉(cxOf CX P w K mg base N qual scope f cd A outer s H E).ex:=λ b z=>absurd (show b∈([]:List Addr) from z) (by simp)
 refine ⟨⟨e0.mod,S.kind,rfl,rfl,N07 _,λ y z c h1 h2=>?_,λ y hy=>?_,λ y c o_ h=>?_,λ o_=>hd,Around.frames_deeper e0.frames,.inr ⟨rfl,rfl⟩,λ b z=>absurd z (noA b),e0.bs,e0.bsz,λ b o_ o_=>noA b,λ b z=>absurd z (noA b),e0.funs,e0.frf⟩,
  rfl,e0.bare,Un.kept hk,⟨_,x.toInCall.ns,λ i y v h1 h2 h3=>?_⟩,λ y c h=>⟨_,x.cell y c h⟩,e0.hok.fresh (N07 _),λ y c h=>?_,λ p hp=>absurd (show p∈([]:List (Addr×Obj)) from hp) (by simp),e0.hok.kept hk,?_⟩
 ·exact name_of_addr x.apart (PySem.mem_of_lookup h1) (PySem.mem_of_lookup h2)
 ·have hy:scope.names.lookup y=some .cell\/scope.names.lookup y=some .free:=hy
  rcases hy with hy | hy
  ·exact q6Z hy
  ·exact absurd rfl (S.nofree _ (PySem.mem_of_lookup hy))
 ·exact Nat.le_of_lt (x.above y c (PySem.mem_of_lookup h))
 ·have hi:i<vs.length:=by
   unfold start at h2
   by_cases hi:i<vs.length
   ·exact hi
   ·rw [N19 (by simpa using hi)] at h2
    rw [List.getElem?_replicate] at h2
    split at h2<;>cases h2
  have ha:vs[i]? = some v:=by
   unfold start at h2
   rw [N0x (by simpa using hi),N0i] at h2
   cases e:vs[i]? with
   | none=>rw [e] at h2;cases h2
   | some a=>rw [e] at h2;cases h2;rfl
  obtain ⟨u,hu,rv⟩:=r.get ha
  have hp:ps[i]? = some y:=by
   rw [<- S.pre,List.getElem?_take_of_lt (by simp_all)];exact h1
  have ndP:ps.Nodup:=by rw [<- S.pre];exact S.nd.sublist (List.take_sublist _ _)
  refine ⟨u,rv,?_⟩
  rcases S.par y (N0u hp) with k | k
  ·exact .inl ⟨k,q53 ndP hp hu k⟩
  ·obtain ⟨c,e⟩:=q6Z (n:=s.heap.objs.size+1) k
   refine .inr ⟨.inl k,c,e,?_⟩
   have q:=x.cell y c e
   rw [q54 ndP hp hu (by show scope.names.lookup y≠_;rw [k];decide)] at q
   exact q
 ·exact e0.hok.fresh (Nat.le_of_lt (x.above y c (PySem.mem_of_lookup h)))
 ·unfold start
  show _=N.length
  rw [N06,N01,N13]
  simp_all
theorem z7h {CX:CXT}{P:Program}{w:World}{K:W.Frag}{mg:Str->Option Value}{base:Heap}{k:Nat}{f:Addr}{name qual:Str}{params:Arguments}{body:List Stmt}{scope:Scope}{dV kV doc pm cdv ct oc:Value}{an od:Option Addr}
 {osl:Array (Option Value)}{N ps:List Str}{sp:Sp}(lk:K.lookup f=some ⟨oc,od,.func (W.fnOf name qual params body scope dV kV doc pm an cdv ct),osl⟩) (hcd:W.codeIn K cdv qual=true) (S:FnScope N ps scope)
 (len:∀ vs H Q E,sp vs H Q E->vs.length=ps.length)
 (hbody:∀ (A:Around) (outer:List Env) (s:Shared) (H:Hp) (vs:List V) (Q:VK) (E:XK),Room k (A.deeper (envOfC qual scope s.heap.objs.size f cdv))->sp vs H Q E ->
  ∃ t,PSs (cxOf CX P w K mg base N qual scope f cdv A outer s H E) body t/\t { nx:=λ o_ H'=>Q .non H',rt:=Q } (start N vs) H) :
 FnOk P w K mg base CX (k+1) f (W.fnOf name qual params body scope dV kV doc pm an cdv ct) ps sp:=by
 refine ⟨len,λ A outer s H args us vs Q E hr e0 hb r hsp=>?_⟩
 have hl:=len _ _ _ _ hsp
 have KX:K.In s.heap:=e0.mod.kin.keeps λ b o e=>(e0.bs b o e).1
 have lim:s.heap.NoLimit:=e0.mod.nolimit.keeps λ b o e=>(e0.bs b o e).1
 have hkind:∀ y∈ps.zip us,scope.names.lookup y.1=some .local\/(scope.names.lookup y.1=some .cell/\((cellsFrom (s.heap.objs.size+1) scope.names []).lookup y.1).isSome=true):=λ ⟨n,v⟩ hy=>by
  rcases S.par n (N24 hy).1 with q | q
  ·exact .inl q
  ·exact .inr ⟨q,W.cellsFrom_some _ _ _ (.inl q)⟩
 refine codeAny_call_function hr.depth (KX _ _ lk) rfl S.co S.gen rfl (W.codeRec_of KX hcd) (hb _ _ _ _ ?_)
 refine wpAny_newFunctionEnv_cells S.kind hkind λ env he s1 x=>?_
 subst he
 refine ⟨lim.keeps x.toInCall.keep,codeAny_func ?_⟩
 obtain ⟨t,ht,hq⟩:=hbody A outer s H vs Q E (hr.deeper _) hsp
 have I:Inv (cxOf CX P w K mg base N qual scope f cdv A outer s H E) [] (start N vs) H s1:=q96 S hr.hd e0 hl r x
 refine N0p (ht [] s1 (start N vs) H _ I hq) (λ fl s' hs=>?_) λ e s' hs=>hs
 have fin:∀ {σ':St}{H':Hp}{v:V}{u:Value},Inv (cxOf CX P w K mg base N qual scope f cdv A outer s H E) [] σ' H' s'->y3 v u->Q v H'->CE outer P w H s Q u s' :=
  λ {σ' H' v u} J rv q=>⟨v,H',J.os,J.bare,J.base,J.hok,rv,q⟩
 cases fl with
 | ret u =>
  obtain ⟨v,σ',H',J,rv,q⟩:=hs
  exact fin J rv q
 | next =>
  obtain ⟨σ',H',J,q⟩:=hs
  exact fin (v:=V.non) (u:=Value.none) J rfl q
 | brk =>
  obtain ⟨_,_,_,q⟩:=hs
  exact False.elim q
 | cont =>
  obtain ⟨_,_,_,q⟩:=hs
  exact False.elim q
section
variable {X:Cx}{x:Str}{p pos:Pos}{e:Expr}{es:List Expr}{t:TA}{id T:String}{r:List V->Hp->VK->Prop}
noncomputable def tCB (r:List V->Hp->VK->Prop) (t:TA):TE:=λ σ H Q=>t σ H λ vs H1=>r vs H1 Q
theorem q70 (hc:V2 X (.builtin id) r) (hg:Gl X x) (hm:X.mg x=none) (hv:bootBuiltins x=some (.builtin id)) (ha:PA X (e::es) t) (hn:x≠"__name__":=by decide) (hdb:(x==("__debug__" : Str))=false:=by decide)
 (he:starEach (e::es) X.env=(false,eval e X.env)::starEach es X.env:=by rfl) (hpl:(backTo pos (starEach es X.env)).any (·.1)=false:=by rfl):PE X (.Call (.Name x p) (e::es) [] pos) (tCB r t):=by
 intro pins s σ H Q I h
 refine wpAny_Call_Name_kw (q4X I hg hm hv ?_ hn hdb)
 exact PyProof.Rows.callWith_builtin1 (thx (ha pos pins s σ H _ I h) λ us s1 vs H1 I1 r1 q1=>hc pins s1 σ H1 vs us Q I1 r1 q1) he hpl
theorem q55 (hc:V2 X (.type T) r) (hg:Gl X x) (hm:X.mg x=none) (hv:bootBuiltins x=some (.type T)) (ha:PA X (e::es) t) (hn:x≠"__name__":=by decide) (hdb:(x==("__debug__" : Str))=false:=by decide)
 (he:starEach (e::es) X.env=(false,eval e X.env)::starEach es X.env:=by rfl) (hpl:(backTo pos (starEach es X.env)).any (·.1)=false:=by rfl):PE X (.Call (.Name x p) (e::es) [] pos) (tCB r t):=by
 intro pins s σ H Q I h
 refine wpAny_Call_Name_kw (q4X I hg hm hv ?_ hn hdb)
 exact PyProof.Rows.callWith_type1 (thx (ha pos pins s σ H _ I h) λ us s1 vs H1 I1 r1 q1=>hc pins s1 σ H1 vs us Q I1 r1 q1) he hpl
end
end L2
namespace HT
open PySem PyProof.Rows
section
open PySem.SeqAt
open PySem.AutoSeq1 (wpAny_loadPart')
open PySem.MeetsSeq PySem.MeetsSeq2 PySem.MeetsSeq3
end
section
variable {prog:Program}{w:World}{A:Around}{E:Value->Shared->Prop}{s:Shared}
theorem z2U {t b:Addr}{vs ws:List Value}{Q:Value->Shared->Prop}(ht:IsTup s.heap t vs.toArray) (hb:IsTup s.heap b ws.toArray) (hv:vs≠[])
 (h1:ws=[]->Q (.ref t) s) (h2:ws≠[]->Q (.ref s.heap.objs.size) { s with heap:=s.heap.push { cls:=.type "tuple",data:=.seq (vs++ws).toArray } })
 (hsz:vs.length+ws.length<=sizeLine):wpAny (model prog w) A (binaryOp .Add (.ref t) (.ref b)) Q E s:=by
 obtain ⟨⟨cls,dd,data,sl⟩,ho,hc,n,hd⟩:=id ht
 obtain ⟨⟨cls2,dd2,data2,sl2⟩,ho2,hc2,n2,hd2⟩:=id hb
 simp only at hc hd hc2 hd2
 subst hc hd hc2 hd2
 have e:vs.toArray++ws.toArray=(vs++ws).toArray:=by simp
 by_cases hw:ws=[]
 ·exact concat_meets ⟨_,ho,rfl⟩ ⟨_,ho2,rfl⟩ noFill_tuple_add seq_tuple_add F.slot_tuple_add F.entry_tuple_add (F.args_tuple_add_2 _ _)
   (tuple_addW1 t b vs.toArray ws.toArray n n2 dd dd2 sl sl2 (by simpa using hv) (by simp [hw])) ⟨ho,ho2,h1 hw⟩
 ·refine concat_meets ⟨_,ho,rfl⟩ ⟨_,ho2,rfl⟩ noFill_tuple_add seq_tuple_add F.slot_tuple_add F.entry_tuple_add (F.args_tuple_add_2 _ _)
   (tuple_addW2 t b vs.toArray ws.toArray n n2 dd dd2 sl sl2 (by simpa using hv) (by simpa using hw) (by rw [N0m,N0m];exact hsz)) ⟨ho,ho2,?_⟩
  rw [e]
  exact h2 hw
noncomputable def sIx (n d:Nat):Option Int->Nat
 | none=>d
 | some v=>if v<0 then (v+(n:Int)).toNat else min v.toNat n
end
end HT
namespace L2
open PySem PySem.Spec PyProof.Rows
noncomputable abbrev TO:=St->Hp->(Option Int->Hp->Prop)->Prop
noncomputable def PO (X:Cx) (e:Option Expr) (t:TO):Prop :=
 ∀ (pins:List (Addr×Obj)) (s:Shared) (σ:St) (H:Hp) (Q:Option Int->Hp->Prop),Inv X pins σ H s->t σ H Q ->
  wpAny (model X.prog X.w) X.A (evalPart e X.env) (λ u s'=>∃ o H',Inv X pins σ H' s'/\IsPart u o/\Q o H') X.xe s
noncomputable def z2V:TO:=λ o_ H Q=>Q none H
noncomputable def z7i (t:TE):TO:=λ σ H Q=>t σ H λ x H1=>∃ i,x=.int i/\Q (some i) H1
theorem q80 {ns:List Int}:∀ {us:List Value},Vals (ns.map V.int) us->IntsAre us ns:=by
 induction ns with
 | nil=>intro us r;rw [List.map_nil] at r;cases r;exact .nil
 | cons n ns ih =>
  intro us r
  rw [N09] at r
  cases r with
  | cons r1 r2 =>
   obtain ⟨t,e⟩:=r1
   subst e
   exact .cons n t (ih r2)
section
variable {X:Cx}{e:Expr}{te:TE}{lo hi:Option Expr}{tl th:TO}{pos p2:Pos}
theorem z2W:PO X none z2V:=by
 intro pins s σ H Q I h
 rw [evalPart_none]
 exact N0y ⟨none,H,I,.none,h⟩
theorem z2X (h:PE X e te):PO X (some e) (z7i te):=by
 intro pins s σ H Q I hw
 rw [evalPart_some]
 refine thx (h pins s σ H _ I hw) λ u s1 x H1 I1 r1 q1=>?_
 obtain ⟨i,rfl,q⟩:=q1
 obtain ⟨t,rfl⟩:=r1
 exact ⟨some i,H1,I1,.int i t,q⟩
noncomputable def SlR (X:Cx) (r:V->Option Int->Option Int->Hp->VK->Prop):Prop :=
 ∀ (pins:List (Addr×Obj)) (s:Shared) (σ:St) (H:Hp) (x:V) (v vl vu:Value) (lo hi:Option Int) (sl:Addr) (Q:VK),Inv X pins σ H s->y3 x v->s.heap.IsSliceOf sl vl vu .none->IsPart vl lo->IsPart vu hi->r x lo hi H Q ->
  ∃ T id,typeLookup (.type T) "__getitem__" = pure (some (.builtin id))/\s.TypeIs v T/\wpAny (model X.prog X.w) X.A (getItem v (.ref sl)) (EP X pins σ Q) X.xe s
noncomputable def tSl (r:V->Option Int->Option Int->Hp->VK->Prop) (te:TE) (tl th:TO):TE:=λ σ H Q=>te σ H λ x H1=>tl σ H1 λ l H2=>th σ H2 λ u H3=>r x l u H3 Q
theorem z1c {r:V->Option Int->Option Int->Hp->VK->Prop}(hr:SlR X r) (he:PE X e te) (hl:PO X lo tl) (hu:PO X hi th):PE X (.Subscript e (.Slice lo hi none p2) pos) (tSl r te tl th):=by
 intro pins s σ H Q I h
 refine Subscript_ (thx (he pins s σ H _ I h) λ v s1 x H1 I1 r1 q1=>?_)
 refine wpAny_Slice (thx (hl pins s1 σ H1 _ I1 q1) λ vl s2 l H2 I2 pl q2=>thx (hu pins s2 σ H2 _ I2 q2) λ vu s3 u H3 I3 pu q3=>?_)
 rw [evalPart_none]
 refine N0y ?_
 have I4:Inv X pins σ H3 { s3 with heap:=s3.heap.push { cls:=.type "slice",data:=.fields #[vl,vu,.none] } }:=I3.kept (t':=s3.toks) λ b ob q=>N1o _ q
 obtain ⟨T,id,hT,ht,hg⟩:=hr pins { s3 with heap:=s3.heap.push { cls:=.type "slice",data:=.fields #[vl,vu,.none] } } σ H3 x v vl vu l u s3.heap.objs.size Q I4 r1 (Heap.IsSliceOf.new ..) pl pu q3
 show wpAny (model X.prog X.w) X.A (subscriptTail e (.Slice lo hi none p2) v (.ref s3.heap.objs.size)) (EP X pins σ Q) X.xe { s3 with heap:=s3.heap.push { cls:=.type "slice",data:=.fields #[vl,vu,.none] } }
 exact tail_any (ops:=[.ref s3.heap.objs.size,v]) ht hT hg (by with_unfolding_all rfl)
noncomputable def cutV (xs:List V) (lo hi:Option Int):List V:=(xs.drop (HT.sIx xs.length 0 lo)).take (HT.sIx xs.length xs.length hi - HT.sIx xs.length 0 lo)
theorem q69 (xs:List V) (lo hi:Option Int):(cutV xs lo hi).length<=xs.length:=by
 unfold cutV
 rw [N16,N1k]
 lia
noncomputable def z2Y (K:W.Frag):R2:=λ x y H Q=>∃ a b xs ys,x=.ref a/\y=.ref b/\SqT K H a xs/\SqT K H b ys/\xs≠[]/\xs.length+ys.length<=sizeLine /\
 (ys=[]->Q (.ref a) H)/\(ys≠[]->∀ p,H p=none->Q (.ref p) (upd H p (.tup (xs++ys))))
theorem Vals.nil_iff {xs:List V}{us:List Value}(r:Vals xs us):us=[]↔xs=[]:=by
 cases r with
 | nil=>simp
 | cons _ _=>simp
theorem z2Z:OpR X (binaryOp .Add) (z2Y X.K):=by
 intro pins s σ H x y v u Q I rx ry h
 obtain ⟨a,b,xs,ys,rfl,rfl,ha,hb,hx,hz,q1,q2⟩:=h
 cases rx
 cases ry
 obtain ⟨its,r1,p1,_⟩:=I.tuple ha
 obtain ⟨its2,r2,p2,_⟩:=I.tuple hb
 refine HT.z2U p1 p2 (λ z=>hx (r1.nil_iff.mp z)) (λ z=>⟨.ref a,H,I,rfl,q1 (r2.nil_iff.mp z)⟩) (λ z=>?_) (by rw [<- r1.length,<- r2.length];exact hz)
 refine ⟨.ref s.heap.objs.size,_,I.laid (t':=s.toks) (o:=.tup (xs++ys)) (λ b ob q=>N1o _ q) (N07 _) ?_,rfl,q2 (λ w=>z (r2.nil_iff.mpr w)) _ (I.hok.fresh (N07 _))⟩
 exact ⟨by rw [N06];exact hz,_,r1.append r2,IsTup.new _ _⟩
end
noncomputable def ixN (n:Nat) (i:Int):Option Nat:=if 0<=i then (if i<n then some i.toNat else none) else if -(n:Int)<=i then some (i+n).toNat else none
noncomputable def atI {α:Type}(xs:List α) (i:Int):Option α:=(ixN xs.length i).bind λ j=>xs[j]?
theorem q97 {n:Nat}{i:Int}{j:Nat}(h:ixN n i=some j):seqIndex? i n=some j/\j<n /\ -(n:Int)<=i/\i<n:=by
 unfold ixN at h
 by_cases h0:0<=i
 ·rw [N0j h0] at h
  by_cases h1:i<n
  ·rw [N0j h1] at h
   have e:i.toNat=j:=N0b h
   exact ⟨by rw [seqIndex_of h0 h1,e],by lia,by lia,h1⟩
  ·rw [N0l h1] at h;cases h
 ·rw [N0l h0] at h
  by_cases h1 : -(n:Int)<=i
  ·rw [N0j h1] at h
   have e:(i+n).toNat=j:=N0b h
   exact ⟨by rw [seqIndex_neg (by simp_all) h1,e],by lia,h1,by lia⟩
  ·rw [N0l h1] at h;cases h
theorem q6a {α:Type}{xs:List α}{i:Int}{v:α}(h:atI xs i=some v):∃ j,seqIndex? i xs.length=some j/\xs[j]? = some v/\j<xs.length /\ -(xs.length:Int)<=i/\i<xs.length:=by
 unfold atI at h
 cases e:ixN xs.length i with
 | none=>rw [e] at h;cases h
 | some j =>
  rw [e] at h
  obtain ⟨h1,h2,h3,h4⟩:=q97 e
  exact ⟨j,h1,h,h2,h3,h4⟩
noncomputable def q98 (b:Expr):Prop:=∀ o i,subscripted b false o i=operate [o,i] (getItem o i)
noncomputable def IxR (X:Cx) (r:R2):Prop :=
 ∀ (value slice:Expr) (pins:List (Addr×Obj)) (s:Shared) (σ:St) (H:Hp) (x y:V) (v u:Value) (Q:VK),Inv X pins σ H s->y3 x v->y3 y u->r x y H Q ->
  subscripted slice false v u=operate [v,u] (getItem v u)->wpAny (model X.prog X.w) X.A (subscriptTail value slice v u) (EP X pins σ Q) X.xe s
noncomputable def MtR (X:Cx) (id:String) (r:V->List V->Hp->VK->Prop):Prop :=
 ∀ (pins:List (Addr×Obj)) (s:Shared) (σ:St) (H:Hp) (x:V) (xs:List V) (v:Value) (us:List Value) (Q:VK),Inv X pins σ H s->y3 x v->Vals xs us->r x xs H Q ->
  wpAny (model X.prog X.w) X.A (call (.builtin id) (v::us)) (EP X pins σ Q) X.xe s
section
variable {X:Cx}{a b:Expr}{ta tb:TE}{pos:Pos}
theorem IxR.or {r r':R2}(h:IxR X r) (h':IxR X r'):IxR X (λ x y H Q=>r x y H Q\/r' x y H Q):=by
 intro value slice pins s σ H x y v u Q I rx ry q hs
 rcases q with q | q
 ·exact h value slice pins s σ H x y v u Q I rx ry q hs
 ·exact h' value slice pins s σ H x y v u Q I rx ry q hs
theorem z30 {r:R2}(hr:IxR X r) (ha:PE X a ta) (hb:PE X b tb) (hs:q98 b):PE X (.Subscript a b pos) (tOp r ta tb):=by
 intro pins s σ H Q I h
 exact Subscript_ (z75 ha hb I h λ v u s2 x y H2 I2 rx ry q=>hr a b pins s2 σ H2 x y v u Q I2 rx ry q (hs _ _))
noncomputable def z8B (K:W.Frag):R2:=λ x y H Q=>∃ p xs i v,x=.ref p/\y=.int i/\SqL K H p xs/\atI xs i=some v/\Q v H
noncomputable def z8C (K:W.Frag):R2:=λ x y H Q=>∃ p xs i v,x=.ref p/\y=.int i/\SqT K H p xs/\atI xs i=some v/\Q v H
noncomputable def z8D:R2:=λ x y H Q=>∃ z i c,x=.str z/\y=.int i/\z.length<=sizeLine/\atI z.cps.toList i=some c/\Q (.str ⟨#[c]⟩) H
theorem z31:IxR X (z8B X.K):=by
 intro value slice pins s σ H x y v u Q I rx ry h hs
 obtain ⟨p,xs,i,z,rfl,rfl,hq,he,q⟩:=h
 cases rx
 obtain ⟨t,rfl⟩:=ry
 obtain ⟨its,r,pl,hz⟩:=I.list hq
 obtain ⟨j,h1,h2,h3,h4,h5⟩:=q6a he
 obtain ⟨w,ew,rw'⟩:=r.get h2
 have hl:=r.length
 have hn:=q2E
 have fin:EP X pins σ Q w s:=⟨z,H,I,rw',q⟩
 by_cases h0:0<=i
 ·have hj:i.toNat=j:=by
   rw [seqIndex_of h0 h5] at h1
   exact N0b h1
  exact item_listR pl.isList h0 (by lia) (by rw [hj];simpa using ew) fin hs
 ·have hj:(i+(its.toArray.size:Int)).toNat=j:=by
   rw [seqIndex_neg (by simp_all) h4] at h1
   rw [N0m,<- hl]
   exact N0b h1
  exact subscriptTail_builtinR (x:=w) pl.isList.typeIs slot_list_getitem.lookup
   (wpAny_getItem_list_neg (Q:=λ r s'=>r=w/\EP X pins σ Q r s') pl.isList (by simp_all) (by rw [N0m]<;>simp_all) (by lia) (by rw [hj];simpa using ew) ⟨rfl,fin⟩) hs
theorem q99:IxR X (z8C X.K):=by
 intro value slice pins s σ H x y v u Q I rx ry h hs
 obtain ⟨p,xs,i,z,rfl,rfl,hq,he,q⟩:=h
 cases rx
 obtain ⟨t,rfl⟩:=ry
 obtain ⟨its,r,pl,hz⟩:=I.tuple hq
 obtain ⟨j,h1,h2,h3,h4,h5⟩:=q6a he
 obtain ⟨w,ew,rw'⟩:=r.get h2
 have hl:=r.length
 have hn:=q2E
 have fin:EP X pins σ Q w s:=⟨z,H,I,rw',q⟩
 exact subscriptTail_builtinR (x:=w) pl.typeIs slot_tuple_getitem.lookup
  (getItem_tuple (j:=j) (Q:=λ r s'=>r=w/\EP X pins σ Q r s') pl (by lia) (by lia) (by rw [N0m,<- hl];exact h1) (by simpa using ew) ⟨rfl,fin⟩) hs
theorem z4Y:IxR X z8D:=by
 intro value slice pins s σ H x y v u Q I rx ry h hs
 obtain ⟨z,i,c,rfl,rfl,hz,he,q⟩:=h
 obtain ⟨t,rfl⟩:=rx
 obtain ⟨t',rfl⟩:=ry
 obtain ⟨j,h1,h2,h3,h4,h5⟩:=q6a he
 have hl:z.cps.toList.length=z.length:=by simp [Str.length]
 rw [hl] at h1 h4 h5
 have hn:=q2E
 exact tail_any (typeIs_str s z t) slot_str_getitem.lookup (getItem_str (c:=c) (by
  have e1:decide (i < -(2 ^ 63:Int))=false:=N0e (by lia)
  have e2:decide (i ≥ 2 ^ 63)=false:=N0e (by lia)
  rw [e1,e2,Bool.or_false]) (by rw [h1];simpa using h2) ⟨.str ⟨#[c]⟩,H,I.tok _,⟨_,rfl⟩,q⟩) hs
noncomputable def rIx (K:W.Frag):R2:=λ x y H Q=>z8B K x y H Q\/z8C K x y H Q\/z8D x y H Q
theorem z4Z:IxR X (rIx X.K):=z31.or (q99.or z4Y)
theorem q81 (its:List Value) (n j:Nat) (u:Value):Obj.mapSeq (·.setIfInBounds j u) { cls:=.type "list",data:=.seq its.toArray n }={ cls:=.type "list",data:=.seq (its.set j u).toArray n }:=by
 simp [Obj.mapSeq]
theorem Inv.lst {pins:List (Addr×Obj)}{σ:St}{H:Hp}{s:Shared}{p:Addr}{xs:List V}(I:Inv X pins σ H s) (h:H p=some (.lst xs)) :
 ∃ (its:List Value) (n:Nat),Vals xs its/\s.heap.get? p=some { cls:=.type "list",data:=.seq its.toArray n }/\xs.length<=sizeLine:=by
 obtain ⟨z,its,n,r,e⟩:=I.hok p _ h
 exact ⟨its,n,r,e,z⟩
theorem Inv.lstUpd {pins:List (Addr×Obj)}{σ:St}{H:Hp}{s:Shared}{p:Addr}{xs ys:List V}{its its':List Value}{n n':Nat}{f:Obj->Obj}(I:Inv X pins σ H s) (h:H p=some (.lst xs))
 (ho:s.heap.get? p=some { cls:=.type "list",data:=.seq its.toArray n }) (hf:f { cls:=.type "list",data:=.seq its.toArray n }={ cls:=.type "list",data:=.seq its'.toArray n' }) (r:Vals ys its') (hz:ys.length<=sizeLine) (t:Nat) :
 Inv X pins σ (upd H p (.lst ys)) { s with heap:=s.heap.update p f,toks:=t }:=by
 have e:(s.heap.update p f).get? p=some { cls:=.type "list",data:=.seq its'.toArray n' }:=by
  rw [Heap.get?_update_self f ho (by rw [hf]<;>rfl),hf]
 refine I.write (x:=p) (e:=p) (by rw [h];trivial) (.inl rfl) (λ b u hb q=>(Heap.get?_update_other _ _ (N1f hb)).trans q) ⟨_,e⟩ ?_
 exact ⟨hz,its',n',r,e⟩
noncomputable def z7j:V->V->V->Hp->(Hp->Prop)->Prop:=λ o i v H Q=>∃ p xs k j,o=.ref p/\i=.int k/\H p=some (.lst xs)/\ixN xs.length k=some j/\Q (upd H p (.lst (xs.set j v)))
theorem z1d:z8x X z7j:=by
 intro pins s σ H o i v ov iv u Q I ro ri rv h
 obtain ⟨p,xs,k,j,rfl,rfl,hp,hj,q⟩:=h
 cases ro
 obtain ⟨t,rfl⟩:=ri
 obtain ⟨its,n,r,ho,hz⟩:=I.lst hp
 obtain ⟨h1,h2,h3,h4⟩:=q97 hj
 have hl:=r.length
 have hn:=q2E
 have I':Inv X pins σ (upd H p (.lst (xs.set j v))) { s with heap:=s.heap.update p (Obj.mapSeq (·.setIfInBounds j u)) } :=
  I.lstUpd hp ho (q81 its n j u) (r.set rv j) (by rw [N1g];exact hz) s.toks
 by_cases h0:0<=k
 ·have hk:k.toNat=j:=by
   rw [seqIndex_of h0 h4] at h1
   exact N0b h1
  exact W.ki_setAt ho h0 (by lia) (by rw [N0m,<- hl];exact h4) (by rw [hk];exact ⟨_,I',q⟩)
 ·have hk:(k+(its.toArray.size:Int)).toNat=j:=by
   rw [seqIndex_neg (by simp_all) h3] at h1
   rw [N0m,<- hl]
   exact N0b h1
  exact W.ki_setBack ho (by simp_all) (by rw [N0m,<- hl];exact h3) (by lia) (by rw [hk];exact ⟨_,I',q⟩)
theorem q56 (lo hi:Option Int) (n:Nat):(sliceBounds lo hi none n).1=((HT.sIx n 0 lo:Nat):Int)/\(sliceBounds lo hi none n).2.1=((HT.sIx n n hi:Nat):Int)/\(sliceBounds lo hi none n).2.2=1:=by
 refine ⟨?_,?_,rfl⟩
 ·cases lo with
  | none=>simp [sliceBounds,HT.sIx]
  | some i =>
   simp only [sliceBounds,HT.sIx,Option.getD_none,show (1:Int) > 0 by decide,if_true]
   by_cases h:i<0
   ·simp only [h,if_true]<;>lia
   ·simp only [h,if_false]<;>lia
 ·cases hi with
  | none=>simp [sliceBounds,HT.sIx]
  | some i =>
   simp only [sliceBounds,HT.sIx,Option.getD_none,show (1:Int) > 0 by decide,if_true]
   by_cases h:i<0
   ·simp only [h,if_true]<;>lia
   ·simp only [h,if_false]<;>lia
theorem q44 (its:List Value) (lo hi:Option Int):slicePick its.toArray lo hi none=((its.drop (HT.sIx its.length 0 lo)).take (HT.sIx its.length its.length hi - HT.sIx its.length 0 lo)).toArray:=by
 obtain ⟨h1,h2,h3⟩:=q56 lo hi its.toArray.size
 unfold slicePick
 rw [h1,h2,h3]
 simp only [sliceRange_one,pick_run,N0m]<;>rfl
noncomputable def rSlL (K:W.Frag):V->Option Int->Option Int->Hp->VK->Prop:=λ x lo hi H Q=>∃ a xs,x=.ref a/\SqL K H a xs/\∀ p,H p=none->Q (.ref p) (upd H p (.lst (cutV xs lo hi)))
theorem z32:SlR X (rSlL X.K):=by
 intro pins s σ H x v vl vu lo hi sl Q I rx hs pl pu h
 obtain ⟨a,xs,rfl,hx,q⟩:=h
 cases rx
 obtain ⟨its,r,ht,hz⟩:=I.list hx
 have hlen:=r.length
 refine ⟨"list",_,slot_list_getitem.lookup,ht.isList.typeIs,?_⟩
 refine wpAny_getItem_list_slice ht.isList hs pl pu .none (by simp) ?_ (by rw [N0m]<;>simp_all)
 rw [q44,<- hlen]
 refine ⟨.ref s.heap.objs.size,_,I.laid (t':=s.toks) (o:=.lst (cutV xs lo hi)) (λ b ob q=>N1o _ q) (N07 _) ?_,rfl,q _ (I.hok.fresh (N07 _))⟩
 exact ⟨N0v (q69 xs lo hi) hz,_,0,(r.drop (HT.sIx xs.length 0 lo)).take (HT.sIx xs.length xs.length hi - HT.sIx xs.length 0 lo),N1q _ rfl⟩
noncomputable def q2m:V->Bool
 | .non=>true
 | .bl _=>true
 | .int _=>true
 | .str _=>true
 | _=>false
noncomputable def eqV:V->V->Bool
 | .non,.non=>true
 | .bl a,.bl b=>a==b
 | .bl a,.int b=>(if a then 1 else 0)==b
 | .int a,.bl b=>a==(if b then 1 else 0)
 | .int a,.int b=>a==b
 | .str a,.str b=>a==b
 | _,_=>false
theorem z50 {A:Around}{s:Shared}{y x:V}{u v:Value}(ry:y3 y u) (rx:y3 x v) (fy:q2m y=true) (fx:q2m x=true):SeqAt.EqAt A s u v (eqV y x):=by
 cases y with
 | non =>
  cases ry
  cases x with
  | non=>cases rx;exact SeqAt.EqAt.same _
  | bl b=>cases rx;exact SeqAt.EqAt.none_bool b
  | int b=>obtain ⟨t,rfl⟩:=rx;exact SeqAt.EqAt.none_int b t
  | str b=>obtain ⟨t,rfl⟩:=rx;exact SeqAt.EqAt.none_str b t
  | _=>exact absurd (show false=true from fx) N0d
 | bl a =>
  cases ry
  cases x with
  | non=>cases rx;exact SeqAt.EqAt.bool_none a
  | bl b=>cases rx;exact SeqAt.EqAt.bool_bool a b
  | int b=>obtain ⟨t,rfl⟩:=rx;exact SeqAt.EqAt.bool_int a b t
  | str b=>obtain ⟨t,rfl⟩:=rx;exact SeqAt.EqAt.bool_str a b t
  | _=>exact absurd (show false=true from fx) N0d
 | int a =>
  obtain ⟨t',rfl⟩:=ry
  cases x with
  | non=>cases rx;exact SeqAt.EqAt.int_none a t'
  | bl b=>cases rx;exact SeqAt.EqAt.int_bool a t' b
  | int b=>obtain ⟨t,rfl⟩:=rx;exact SeqAt.EqAt.int_int a t' b t
  | str b=>obtain ⟨t,rfl⟩:=rx;exact SeqAt.EqAt.int_str a t' b t
  | _=>exact absurd (show false=true from fx) N0d
 | str a =>
  obtain ⟨t',rfl⟩:=ry
  cases x with
  | non=>cases rx;exact SeqAt.EqAt.str_none a t'
  | bl b=>cases rx;exact SeqAt.EqAt.str_bool a t' b
  | int b=>obtain ⟨t,rfl⟩:=rx;exact SeqAt.EqAt.str_int a t' b t
  | str b=>obtain ⟨t,rfl⟩:=rx;exact SeqAt.EqAt.str_str a t' b t
  | _=>exact absurd (show false=true from fx) N0d
 | _=>exact absurd (show false=true from fy) N0d
noncomputable def eqU (x:V) (u:Value):Bool:=match u with
 | .none=>eqV .non x
 | .bool b=>eqV (.bl b) x
 | .int i _=>eqV (.int i) x
 | .str z _=>eqV (.str z) x
 | _=>false
theorem z2e {x y:V}{u:Value}(r:y3 y u) (f:q2m y=true):eqU x u=eqV y x:=by
 cases y with
 | non=>cases r;rfl
 | bl b=>cases r;rfl
 | int i=>obtain ⟨t,rfl⟩:=r;rfl
 | str z=>obtain ⟨t,rfl⟩:=r;rfl
 | _=>exact absurd (show false=true from f) N0d
theorem q2K {x:V}:∀ {xs:List V}{us:List Value},Vals xs us->xs.all q2m=true->us.any (eqU x)=xs.any λ y=>eqV y x
 | _,_,.nil,_=>rfl
 | y::xs,u::us,.cons r t,f=>by
  rw [List.all_cons,N0q] at f
  rw [N1i,N1i,z2e r f.1,q2K t f.2]
theorem q1w {A:Around}{s:Shared}{x:V}{v:Value}(rx:y3 x v) (fx:q2m x=true):∀ {xs:List V}{us:List Value},Vals xs us->xs.all q2m=true->∀ u∈us,SeqAt.EqAt A s u v (eqU x u)
 | _,_,.nil,_=>λ u hu=>by cases hu
 | y::xs,u::us,.cons r t,f=>λ u' hu=>by
  rw [List.all_cons,N0q] at f
  rcases N0c.mp hu with rfl | hu
  ·rw [z2e r f.1];exact z50 r rx f.1 fx
  ·exact q1w rx fx t f.2 u' hu
noncomputable def inV (x:V) (xs:List V):Bool:=xs.any λ y=>eqV y x
noncomputable def rIn (K:W.Frag) (neg:Bool):R2:=λ x y H Q=>∃ p xs,y=.ref p/\(SqL K H p xs\/SqT K H p xs)/\q2m x=true/\xs.all q2m=true/\Q (.bl (if neg then !inV x xs else inV x xs)) H
theorem q57:OpR X (compareOp .In) (rIn X.K false):=by
 intro pins s σ H x y v u Q I rx ry h
 obtain ⟨p,xs,rfl,hq,fx,fs,q⟩:=h
 cases ry
 rcases hq with hq | hq
 ·obtain ⟨its,r,pl,hz⟩:=I.list hq
  refine SeqAt.in_listAt (eqU x) pl.isList (λ w hw=>q1w rx fx r fs w (by simpa using hw)) ⟨.bl _,H,I,rfl,?_⟩
  rw [show its.toArray.any (eqU x)=its.any (eqU x) by simp,q2K r fs]
  exact q
 ·obtain ⟨its,r,pl,hz⟩:=I.tuple hq
  refine SeqAt.in_tupleAt (eqU x) pl (λ w hw=>q1w rx fx r fs w (by simpa using hw)) ⟨.bl _,H,I,rfl,?_⟩
  rw [show its.toArray.any (eqU x)=its.any (eqU x) by simp,q2K r fs]
  exact q
theorem q58:OpR X (compareOp .NotIn) (rIn X.K true):=by
 intro pins s σ H x y v u Q I rx ry h
 obtain ⟨p,xs,rfl,hq,fx,fs,q⟩:=h
 cases ry
 rcases hq with hq | hq
 ·obtain ⟨its,r,pl,hz⟩:=I.list hq
  refine SeqAt.notIn_listAt (eqU x) pl.isList (λ w hw=>q1w rx fx r fs w (by simpa using hw)) ⟨.bl _,H,I,rfl,?_⟩
  rw [show its.toArray.any (eqU x)=its.any (eqU x) by simp,q2K r fs]
  exact q
 ·obtain ⟨its,r,pl,hz⟩:=I.tuple hq
  refine SeqAt.notIn_tupleAt (eqU x) pl (λ w hw=>q1w rx fx r fs w (by simpa using hw)) ⟨.bl _,H,I,rfl,?_⟩
  rw [show its.toArray.any (eqU x)=its.any (eqU x) by simp,q2K r fs]
  exact q
theorem q59:V2 X (.builtin "len") (λ xs H Q=>∃ p ys,xs=[.ref p]/\(SqL X.K H p ys\/SqT X.K H p ys)/\Q (.int ys.length) H):=by
 intro pins s σ H xs us Q I r h
 obtain ⟨p,ys,rfl,hq,q⟩:=h
 obtain ⟨u,rfl,rx⟩:=q2F r
 cases rx
 have hn:=q2E
 rcases hq with hq | hq
 ·obtain ⟨its,r',pl,hz⟩:=I.list hq
  have hlen:=r'.length
  exact Calls.call_len_list pl.isList (by simp only [N0m]<;>lia) ⟨.int ys.length,H,I.tok _,⟨s.toks+1,by rw [N0m,hlen]⟩,q⟩
 ·obtain ⟨its,r',pl,hz⟩:=I.tuple hq
  have hlen:=r'.length
  exact len_tuple pl (by simp only [N0m]<;>lia) ⟨.int ys.length,H,I.tok _,⟨s.toks+1,by rw [N0m,hlen]⟩,q⟩
theorem q5a:V2 X (.builtin "len") (λ xs H Q=>∃ z,xs=[.str z]/\z.length<=sizeLine/\Q (.int z.length) H):=by
 intro pins s σ H xs us Q I r h
 obtain ⟨z,rfl,hz,q⟩:=h
 obtain ⟨u,rfl,t,rfl⟩:=q2F r
 have hn:=q2E
 exact len_str (by lia) ⟨.int z.length,H,I.tok _,⟨_,rfl⟩,q⟩
theorem q5b:V2 X (.type "list") (λ xs H Q=>∃ p ys,xs=[.ref p]/\(SqL X.K H p ys\/SqT X.K H p ys)/\∀ l,H l=none->Q (.ref l) (upd H l (.lst ys))):=by
 intro pins s σ H xs us Q I r h
 obtain ⟨p,ys,rfl,hq,q⟩:=h
 obtain ⟨u,rfl,rx⟩:=q2F r
 cases rx
 have fin:∀ (its:List Value),Vals ys its->ys.length<=sizeLine->∀ (h':Heap) (c':Nat),(∀ b o',s.heap.get? b=some o'->h'.get? b=some o') ->
  h'.get? s.heap.objs.size=some { cls:=.type "list",dict:=none,data:=.seq its.toArray c',slots:=#[] }->EP X pins σ Q (.ref s.heap.objs.size) { s with heap:=h' }:=λ its r' hz h' c' kp e =>
  ⟨.ref s.heap.objs.size,_,I.laid (t':=s.toks) kp (N07 _) (show K6 X.prog X.w _ h' _ (.lst ys) from ⟨hz,its,c',r',e⟩),rfl,q _ (I.hok.fresh (N07 _))⟩
 rcases hq with hq | hq
 ·obtain ⟨its,r',pl,hz⟩:=I.list hq
  have hlen:=r'.length
  obtain ⟨o,ho,hc,n,hd⟩:=pl.isList
  exact call_list_seq p (.inl rfl) ho hc hd (λ h' c' kp e=>fin its r' hz h' c' kp e) (by simp only [N0m]<;>lia)
 ·obtain ⟨its,r',pl,hz⟩:=I.tuple hq
  have hlen:=r'.length
  obtain ⟨o,ho,hc,n,hd⟩:=pl
  exact call_list_seq p (.inr rfl) ho hc hd (λ h' c' kp e=>fin its r' hz h' c' kp e) (by simp only [N0m]<;>lia)
theorem q0f:V2 X (.type "tuple") (λ xs H Q=>∃ p ys,xs=[.ref p]/\((SqL X.K H p ys/\∀ l,H l=none->Q (.ref l) (upd H l (.tup ys)))\/(SqT X.K H p ys/\Q (.ref p) H))):=by
 intro pins s σ H xs us Q I r h
 obtain ⟨p,ys,rfl,h⟩:=h
 obtain ⟨u,rfl,rx⟩:=q2F r
 cases rx
 rcases h with ⟨hq,q⟩ | ⟨hq,q⟩
 ·obtain ⟨its,r',pl,hz⟩:=I.list hq
  have hlen:=r'.length
  refine call_tuple_list pl.isList (λ h' kp=>?_) (by simp only [N0m]<;>simp_all)
  have I1:Inv X pins σ H { s with heap:=h' }:=I.kept (t':=s.toks) kp
  have I2:Inv X pins σ (upd H h'.objs.size (.tup ys)) { s with heap:=h'.push { cls:=.type "tuple",data:=.seq its.toArray } } :=
   I1.laid (t':=s.toks) (λ b o e=>N1o _ e) (N07 _) (show K6 X.prog X.w _ _ _ (.tup ys) from ⟨hz,its,r',IsTup.new _ _⟩)
  exact ⟨.ref h'.objs.size,_,I2,rfl,q _ (I1.hok.fresh (N07 _))⟩
 ·obtain ⟨its,r',pl,hz⟩:=I.tuple hq
  exact call_tuple_same pl ⟨.ref p,H,I,rfl,q⟩
noncomputable def tyV (K:W.Frag) (T:String) (x:V) (H:Hp):Prop:=match x with
 | .str _=>T="str"
 | .int _=>T="int"
 | .ref p=>(T="list"/\∃ xs,SqL K H p xs)\/(T="tuple"/\∃ o,K.lookup p=some o/\o.cls=.type "tuple"/\o.dict=none) \/
  (T="dict"/\((∃ kvs,H p=some (.dK kvs))\/∃ kvs,H p=some (.dT kvs)))\/(T="set"/\∃ S n,H p=some (.set S n))
 | _=>False
theorem z2f {pins:List (Addr×Obj)}{σ:St}{H:Hp}{s:Shared}{T:String}{x:V}{v:Value}(I:Inv X pins σ H s) (r:y3 x v) (ty:tyV X.K T x H) :
 s.TypeIs v T/\∀ a,v=.ref a->∃ ob,s.heap.get? a=some ob/\ob.dict=none:=by
 cases x with
 | str z =>
  obtain ⟨t,rfl⟩:=r
  cases (show T="str" from ty)
  exact ⟨typeIs_str s z t,λ o_ e=>nomatch e⟩
 | int i =>
  obtain ⟨t,rfl⟩:=r
  cases (show T="int" from ty)
  exact ⟨typeIs_int s i t,λ o_ e=>nomatch e⟩
 | ref p =>
  cases r
  rcases ty with ⟨rfl,xs,hq⟩ | ⟨rfl,o,hk,hc,hd⟩ | ⟨rfl,hk⟩ | ⟨rfl,S,n,hk⟩
  ·obtain ⟨its,_,pl,_⟩:=I.list hq
   refine ⟨pl.isList.typeIs,λ a e=>?_⟩
   cases e
   obtain ⟨o,n,e,c,hd,_⟩:=pl
   exact ⟨o,e,hd⟩
  ·refine ⟨⟨o,I.kIn p o hk,hc⟩,λ a e=>?_⟩
   cases e
   exact ⟨o,I.kIn _ o hk,hd⟩
  ·have z:∃ o,s.heap.get? p=some o/\o.ExactDict:=by
    rcases hk with ⟨kvs,hk⟩ | ⟨kvs,hk⟩
    ·obtain ⟨_,_,_,_,o,_,_,e,ex,_⟩:=I.hok p _ hk
     exact ⟨o,e,ex⟩
    ·obtain ⟨_,_,_,_,o,_,_,e,ex,_⟩:=I.hok p _ hk
     exact ⟨o,e,ex⟩
   obtain ⟨o,e,ex⟩:=z
   refine ⟨⟨o,e,ex.1⟩,λ a e2=>?_⟩
   cases e2
   exact ⟨o,e,ex.2.1⟩
  ·obtain ⟨o,_,_,_,e,ex,_⟩:=I.hok p _ hk
   refine ⟨⟨o,e,ex.1⟩,λ a e2=>?_⟩
   cases e2
   exact ⟨o,e,ex.2.1⟩
 | _=>exact False.elim ty
noncomputable def tBM0 (K:W.Frag) (T:String) (r:V->List V->Hp->VK->Prop) (to:TE):TE:=λ σ H Q=>to σ H λ x H1=>tyV K T x H1/\r x [] H1 Q
noncomputable def tBM (K:W.Frag) (T:String) (r:V->List V->Hp->VK->Prop) (to:TE) (t:TA):TE:=λ σ H Q=>to σ H λ x H1=>tyV K T x H1/\t σ H1 λ xs H2=>r x xs H2 Q
variable {o e:Expr}{es:List Expr}{to:TE}{t:TA}{name:Str}{apos cpos:Pos}{T id:String}{r:V->List V->Hp->VK->Prop}
theorem z51 (pa:PlainAttrs T) (slot:Slot T name id) (hty:typeOf (.builtin id)=pure (.type "method_descriptor")) (hm:MtR X id r) (ho:PE X o to)
 (hbase:attributeBase o name X.env (eval o X.env)=eval o X.env:=by rfl) (hline:(apos.endLine==cpos.line)=true:=by rfl):PE X (.Call (.Attribute o name apos) [] [] cpos) (tBM0 X.K T r to):=by
 intro pins s σ H Q I h
 refine wpAny_Call_method0_late hbase hline (thx (ho pins s σ H _ I h) λ v s1 x H1 I1 r1 hx_=>?_)
 obtain ⟨ty,q1⟩:=hx_
 obtain ⟨h1,h2⟩:=z2f I1 r1 ty
 exact ⟨T,id,pa,slot,hty,h1,h2,Calls.callWith_builtin rfl (PySem.evalArgs_none (hm pins s1 σ H1 x [] v [] Q I1 r1 .nil q1))⟩
theorem z33 (pa:PlainAttrs T) (slot:Slot T name id) (hty:typeOf (.builtin id)=pure (.type "method_descriptor")) (hm:MtR X id r) (ho:PE X o to) (ha:PA X (e::es) t)
 (hbase:attributeBase o name X.env (eval o X.env)=eval o X.env:=by rfl)
 (hfew:((backTo cpos (starEach (e::es) X.env)).all (λ x=>!x.1)&&(backToKw cpos (keywordEach [] X.env)).all (λ x=>x.1.isSome)
  && decide ((e::es).length+([]:List Keyword).length+(if ([]:List Keyword).isEmpty then 0 else 1)<30))=true:=by rfl)
 (hline:(apos.endLine==cpos.line)=true:=by rfl) (hs:starEach (e::es) X.env=(false,eval e X.env)::starEach es X.env:=by rfl) (hplain:(backTo cpos (starEach es X.env)).any (·.1)=false:=by rfl) :
 PE X (.Call (.Attribute o name apos) (e::es) [] cpos) (tBM X.K T r to t):=by
 intro pins s σ H Q I h
 refine wpAny_Call_method_late hbase hfew hline rfl (thx (ho pins s σ H _ I h) λ v s1 x H1 I1 r1 hx_=>?_)
 obtain ⟨ty,q1⟩:=hx_
 obtain ⟨h1,h2⟩:=z2f I1 r1 ty
 refine ⟨T,id,pa,slot,hty,h1,h2,?_⟩
 have hA:=ha cpos pins s1 σ H1 _ I1 q1
 rw [hs] at hA ⊢
 refine Calls.callWith_builtin (by show (false || (backTo cpos (starEach es X.env)).any (·.1))=false;rw [hplain]<;>rfl) (Calls.evalArgs_plain ?_)
 exact thn hA λ us s2 ⟨vs,H2,I2,r2,q2⟩=>hm pins s2 σ H2 x vs v us Q I2 r1 r2 q2
end
noncomputable def MtM (X:Cx) (id:String) (r:V->List V->Hp->VK->Prop):Prop :=
 ∀ (pins:List (Addr×Obj)) (s:Shared) (σ:St) (H:Hp) (x:V) (xs:List V) (v:Value) (us:List Value) (Q:VK),Inv X pins σ H s->y3 x v->Vals xs us->r x xs H Q ->
  wpAny (model X.prog X.w) X.A (call (.builtin id) (v::us)) (EP X pins σ Q) X.xe s
theorem Vals.one:∀ {x:V}{us:List Value},Vals [x] us->∃ u,us=[u]/\y3 x u
 | _,_,.cons r .nil=>⟨_,rfl,r⟩
theorem Vals.zero:∀ {us:List Value},Vals [] us->us=[]
 | _,.nil=>rfl
theorem Vals.dropLast {xs:List V}{us:List Value}(h:Vals xs us):Vals xs.dropLast us.dropLast:=by
 induction h with
 | nil=>exact .nil
 | cons r t ih =>
  cases t with
  | nil=>exact .nil
  | cons q t'=>exact .cons r ih
theorem q82 {α:Type}(l:List α):l.eraseIdx (l.length - 1)=l.dropLast:=by
 induction l with
 | nil=>rfl
 | cons a r ih =>
  cases r with
  | nil=>rfl
  | cons b r =>
   have e:(a::b::r).length - 1=((b::r).length - 1)+1:=by
    have h1:(a::b::r).length=r.length+2:=rfl
    have h2:(b::r).length=r.length+1:=rfl
    lia
   rw [e,List.eraseIdx_cons_succ,ih]
   all_goals rfl
section
variable {X:Cx}{pins:List (Addr×Obj)}{σ:St}{H:Hp}{s:Shared}{l b:Addr}{xs ys zs:List V}
theorem Inv.lset {its its':List Value}{n:Nat}{f:Array Value->Array Value}{t':Nat}(I:Inv X pins σ H s) (hH:H l=some (.lst xs))
 (e:s.heap.get? l=some { cls:=.type "list",data:=.seq its.toArray n }) (hf:f its.toArray=its'.toArray) (hv:Vals ys its') (hz:ys.length<=sizeLine) :
 Inv X pins σ (upd H l (.lst ys)) { s with heap:=s.heap.update l (Obj.mapSeq f),toks:=t' }:=by
 have q:=IsL.update e f
 rw [hf] at q
 refine I.write (x:=l) (e:=l) (by rw [hH];exact trivial) (.inl rfl) (λ b' u hb hu=>(Heap.get?_update_other s.heap (Obj.mapSeq f) (N1f hb)).trans hu) ⟨_,q⟩ ?_
 exact ⟨hz,its',_,hv,q⟩
theorem Inv.lnew {its:List Value}{t':Nat}(I:Inv X pins σ H s) (hv:Vals ys its) (hz:ys.length<=sizeLine) :
 Inv X pins σ (upd H s.heap.objs.size (.lst ys)) { s with heap:=s.heap.push { cls:=.type "list",data:=.seq its.toArray },toks:=t' } :=
 I.laid (λ o_ o_ q=>N1o _ q) (N07 _) ⟨hz,its,0,hv,N1q _ rfl⟩
theorem Inv.fresh (I:Inv X pins σ H s):H s.heap.objs.size=none:=I.hok.fresh (N07 _)
theorem Inv.lstM (I:Inv X pins σ H s) (hH:H l=some (.lst xs)):xs.length<=sizeLine/\∃ (its:List Value) (n:Nat),Vals xs its/\xs.length=its.length/\s.heap.get? l=some { cls:=.type "list",data:=.seq its.toArray n }:=by
 obtain ⟨z,its,n,r,e⟩:=I.hok l _ hH
 exact ⟨z,its,n,r,r.length,e⟩
end
section
variable {X:Cx}
noncomputable def z34:V->List V->Hp->VK->Prop:=λ x vs H Q=>∃ l xs y,x=.ref l/\vs=[y]/\H l=some (.lst xs)/\xs.length<sizeLine/\Q .non (upd H l (.lst (xs++[y])))
theorem q2L:MtM X "list.append" z34:=by
 intro pins s σ H x vs v us Q I rx rv h
 obtain ⟨l,xs,y,rfl,rfl,hH,hz,q⟩:=h
 cases rx
 obtain ⟨u,rfl,ru⟩:=rv.one
 obtain ⟨z,its,n,r,hl,e⟩:=I.lstM hH
 refine call_meets F.slot_list_append ⟨_,e,rfl⟩ F.entry_list_append (F.args_list_append_2 _ _) (PySem.list_append l its.toArray n u (by rw [N0m];simp_all)) ⟨e,?_⟩
 refine ⟨.non,_,I.lset (its':=its++[u]) hH e (by simp) (r.append (.cons ru .nil)) ?_,rfl,q⟩
 rw [N06,N11]
 assumption
noncomputable def rPop:V->List V->Hp->VK->Prop:=λ x vs H Q=>∃ l xs y,x=.ref l/\vs=[]/\H l=some (.lst xs)/\xs[xs.length - 1]? = some y/\Q y (upd H l (.lst xs.dropLast))
theorem z52:MtM X "list.pop" rPop:=by
 intro pins s σ H x vs v us Q I rx rv h
 obtain ⟨l,xs,y,rfl,rfl,hH,hy,q⟩:=h
 cases rx
 have hus:=rv.zero
 subst hus
 obtain ⟨z,its,n,r,hl,e⟩:=I.lstM hH
 obtain ⟨u,hu,ru⟩:=r.get hy
 have hy':its.toArray[its.toArray.size - 1]? = some u:=by
  show its.toArray[its.length - 1]? = some u
  rw [<- Array.getElem?_toList,<- hl]
  exact hu
 refine call_meets F.slot_list_pop ⟨_,e,rfl⟩ F.entry_list_pop (F.args_list_pop_1 _) (MeetsSeq.list_pop_last l its.toArray n u hy' (by rw [N0m];lia)) ⟨e,?_⟩
 refine ⟨y,_,I.lset (its':=its.dropLast) hH e ?_ r.dropLast ?_,ru,q⟩
 ·show its.toArray.eraseIdxIfInBounds (its.toArray.size - 1)=its.dropLast.toArray
  rw [N0m,List.eraseIdxIfInBounds_toArray,q82]
 ·rw [List.length_dropLast]
  lia
end
section
variable {κ:Type} [DecidableEq κ]
noncomputable def valV (kvs:List (κ×V)) (k:κ):Option V:=(kvs.find? λ kv=>decide (kv.1=k)).map (·.2)
noncomputable def putK (kvs:List (κ×V)) (k:κ) (v:V):List (κ×V) :=
 if (kvs.any λ kv=>decide (kv.1=k))=true then kvs.map (λ kv=>if kv.1=k then (kv.1,v) else kv) else kvs++[(k,v)]
noncomputable def q2n (kvs:List (κ×V)) (k:κ):List (κ×V):=kvs.filter λ kv=>decide (kv.1≠k)
theorem q0g {p:κ×V}{r:List (κ×V)}{k:κ}(e:p.1=k):valV (p::r) k=some p.2:=by simp [valV,List.find?_cons,e]
theorem q0h {p:κ×V}{r:List (κ×V)}{k:κ}(e:¬ p.1=k):valV (p::r) k=valV r k:=by simp [valV,List.find?_cons,e]
theorem q71 (k:κ):∀ kvs:List (κ×V),(kvs.any λ kv=>decide (kv.1=k))=(valV kvs k).isSome
 | []=>rfl
 | p::r=>by
  rw [N1i]
  by_cases e:p.1=k
  ·simp only [q0g e,N0o e,Bool.true_or,Option.isSome_some]
  ·rw [q0h e,N0e e,Bool.false_or];exact q71 k r
theorem q0i (kvs:List (κ×V)) (k:κ) (v:V):(putK kvs k v).length<=kvs.length+1:=by
 unfold putK
 split
 ·rw [N01];simp
 ·rw [N06,N0h,List.length_nil];simp
theorem q4W.isSome_eq {o:Option V}{u:Option Value}(r:q4W o u):o.isSome=u.isSome:=by
 cases o with
 | none=>cases u with
  | none=>rfl
  | some _=>exact (show False from r).elim
 | some _=>cases u with
  | none=>exact (show False from r).elim
  | some _=>rfl
theorem KV.val {kvs:List (κ×V)}{vs:List (κ×Value)}(r:KV kvs vs) (k:κ):q4W (valV kvs k) (valueAt vs k):=by
 unfold KV at r
 induction r with
 | nil=>exact True.intro
 | @cons p q ps qs h t ih =>
  obtain ⟨h1,h2⟩:=h
  by_cases e:p.1=k
  ·have e':q.1=k:=h1.symm.trans e
   have b:valueAt (q::qs) k=some q.2:=by simp [valueAt,List.find?_cons,e']
   rw [q0g e,b];exact h2
  ·have e':¬ q.1=k:=λ z=>e (h1.trans z)
   have b:valueAt (q::qs) k=valueAt qs k:=by simp [valueAt,List.find?_cons,e']
   rw [q0h e,b];exact ih
theorem KV.any {kvs:List (κ×V)}{vs:List (κ×Value)}(r:KV kvs vs) (k:κ):(kvs.any λ kv=>decide (kv.1=k))=vs.any λ kv=>decide (kv.1=k):=by
 unfold KV at r
 induction r with
 | nil=>rfl
 | cons h t ih=>rw [N1i,N1i,ih,h.1]
theorem KV.repl {kvs:List (κ×V)}{vs:List (κ×Value)}(r:KV kvs vs) (k:κ){y:V}{u:Value}(ry:y3 y u) :
 KV (kvs.map λ kv=>if kv.1=k then (kv.1,y) else kv) (vs.map λ kv=>if kv.1=k then (kv.1,u) else kv):=by
 unfold KV at r ⊢
 induction r with
 | nil=>exact .nil
 | @cons p q ps qs h t ih =>
  rw [N09,N09]
  refine .cons ?_ ih
  obtain ⟨h1,h2⟩:=h
  by_cases e:p.1=k
  ·rw [N0j e,N0j (h1.symm.trans e)];exact ⟨h1,ry⟩
  ·rw [N0l e,N0l (λ z=>e (h1.trans z))];exact ⟨h1,h2⟩
theorem KV.put {kvs:List (κ×V)}{vs:List (κ×Value)}(r:KV kvs vs) (k:κ){y:V}{u:Value}(ry:y3 y u):KV (putK kvs k y) (stored vs k u):=by
 unfold putK stored
 rw [r.any k]
 by_cases e:(vs.any λ kv=>decide (kv.1=k))=true
 ·rw [N0j e,N0j e];exact r.repl k ry
 ·rw [N0l e,N0l e];exact Paired.snoc r ⟨rfl,ry⟩
theorem KV.drop {kvs:List (κ×V)}{vs:List (κ×Value)}(r:KV kvs vs) (k:κ):KV (q2n kvs k) (without vs k):=by
 unfold KV at r ⊢
 unfold q2n without
 induction r with
 | nil=>exact .nil
 | @cons p q ps qs h t ih =>
  obtain ⟨h1,h2⟩:=h
  rw [N1e,N1e]
  by_cases e:p.1=k
  ·have a:¬ decide (p.1≠k)=true:=by simp [e]
   have b:¬ decide (q.1≠k)=true:=by simp [h1.symm.trans e]
   rw [N0l a,N0l b];exact ih
  ·have e':¬ q.1=k:=λ z=>e (h1.trans z)
   have a:decide (p.1≠k)=true:=by simp [e]
   have b:decide (q.1≠k)=true:=by simp [e']
   rw [N0j a,N0j b];exact .cons ⟨h1,h2⟩ ih
theorem KV.keys {kvs:List (κ×V)}{vs:List (κ×Value)}(r:KV kvs vs):kvs.map (·.1)=vs.map (·.1):=by
 unfold KV at r
 induction r with
 | nil=>rfl
 | cons h t ih=>rw [N09,N09,ih,h.1]
theorem KV.length {kvs:List (κ×V)}{vs:List (κ×Value)}(r:KV kvs vs):kvs.length=vs.length:=Paired.length r
theorem z1e (kvs:List (κ×V)) (k:κ):(q2n kvs k).length<=kvs.length:=N22 _ _
end
theorem q83 {P:Program}{w:World}{k:Key}{u:Value}(r:y3 (kV k) u):(K3 P w).is k u=true:=by
 cases k with
 | inl i=>obtain ⟨t,e⟩:=(show ∃ t,u=Value.int i t from r);subst e;exact q65 P w i t
 | inr x=>obtain ⟨t,e⟩:=(show ∃ t,u=Value.str x t from r);subst e;exact q66 P w x t
theorem q5c {P:Program}{w:World}:∀ {ks:List Key}{us:List Value},Vals (ks.map kV) us->ItemsAre (K3 P w) ks us
 | [],_,r=>by rw [List.map_nil] at r;cases r;exact .nil
 | k::ks,_,r=>by
  rw [N09] at r
  cases r with
  | cons h t=>exact .cons (q83 h) (q5c t)
noncomputable abbrev KT (H:Hp):List (List Key×V)->List (List Key×Addr×Value)->Prop:=Paired λ p q=>p.1=q.1/\H q.2.1=some (.tup (p.1.map kV))/\y3 p.2 q.2.2
theorem KT.val {H:Hp}{kvs:List (List Key×V)}{xs:List (List Key×Addr×Value)}(r:KT H kvs xs) (k:List Key):q4W (valV kvs k) ((atKey xs k).map (·.2)):=by
 induction r with
 | nil=>exact True.intro
 | @cons p q ps qs h t ih =>
  obtain ⟨h1,_,h2⟩:=h
  by_cases e:p.1=k
  ·have e':q.1=k:=h1.symm.trans e
   have b:atKey (q::qs) k=some q.2:=by simp [atKey,List.find?_cons,e']
   rw [q0g e,b];exact h2
  ·have e':¬ q.1=k:=λ z=>e (h1.trans z)
   have b:atKey (q::qs) k=atKey qs k:=by simp [atKey,List.find?_cons,e']
   rw [q0h e,b];exact ih
theorem KT.repl {H:Hp}{kvs:List (List Key×V)}{xs:List (List Key×Addr×Value)}(r:KT H kvs xs) (k:List Key){y:V}{u:Value}(ry:y3 y u) :
 KT H (kvs.map λ kv=>if kv.1=k then (kv.1,y) else kv) (xs.map (putAt k u)):=by
 induction r with
 | nil=>exact .nil
 | @cons p q ps qs h t ih =>
  rw [N09,N09]
  refine .cons ?_ ih
  obtain ⟨h1,h2,h3⟩:=h
  unfold putAt
  by_cases e:p.1=k
  ·rw [N0j e,N0j (h1.symm.trans e)];exact ⟨h1,h2,ry⟩
  ·rw [N0l e,N0l (λ z=>e (h1.trans z))];exact ⟨h1,h2,h3⟩
theorem KT.put {H:Hp}{kvs:List (List Key×V)}{xs:List (List Key×Addr×Value)}(r:KT H kvs xs) (k:List Key){b:Addr}{y:V}{u:Value}(hb:H b=some (.tup (k.map kV))) (ry:y3 y u) :
 KT H (putK kvs k y) (storedH xs k b u):=by
 have e:(kvs.any λ kv=>decide (kv.1=k))=(atKey xs k).isSome:=by
  rw [q71,(r.val k).isSome_eq,Option.isSome_map]
 unfold putK storedH
 rw [e]
 by_cases q:(atKey xs k).isSome=true
 ·rw [N0j q,N0j q];exact r.repl k ry
 ·rw [N0l q,N0l q];exact Paired.snoc r ⟨rfl,hb,ry⟩
theorem KT.keeps {H H':Hp}{kvs:List (List Key×V)}{xs:List (List Key×Addr×Value)}(r:KT H kvs xs) (ht:∀ b ys,H b=some (.tup ys)->H' b=some (.tup ys)):KT H' kvs xs :=
 Paired.mapP r λ o_ o_ z=>⟨z.1,ht _ _ z.2.1,z.2.2⟩
section
variable {P:Program}{w:World}{H:Hp}{h:Heap}{a:Addr}
theorem z53 {u:HO}(ok:HOk P w H h) (e:Rd H a u):K6 P w H h a u:=e.ok ok
theorem q6b {kvs:List (Key×V)}(ok:HOk P w H h) (e:Rd H a (.dK kvs)):kvs.length<=sizeLine/\(a==sysModules)=false/\∃ vs,KV kvs vs/\h.DictOf (K3 P w) a vs :=
 show K6 P w H h a (.dK kvs) from z53 ok e
theorem z35 {kvs:List (Key×V)}(ok:HOk P w H h) (e:H a=some (.dK kvs)):kvs.length<=sizeLine/\(a==sysModules)=false/\∃ vs,KV kvs vs/\h.DictOf (K3 P w) a vs:=q6b ok (.inl e)
theorem q3x {ks:List Key}(ok:HOk P w H h) (e:H a=some (.tup (ks.map kV))):(tupleKind (K3 P w)).is h ks a:=by
 obtain ⟨_,its,r,o,h1,h2,n,h3⟩:=(show K6 P w H h a (.tup (ks.map kV)) from ok a _ e)
 exact ⟨o,its.toArray,n,h1,h2,h3,by simpa using q5c r⟩
theorem q84 {kvs:List (List Key×V)}(ok:HOk P w H h) (e:Rd H a (.dT kvs)):kvs.length<=sizeLine/\(a==sysModules)=false /\
 ∃ xs,KT H kvs xs/\h.DictOfH (tupleKind (K3 P w)) a xs:=by
 obtain ⟨z,y,xs,r,o,es,ep,h1,h2,h3,h4,h5⟩:=(show K6 P w H h a (.dT kvs) from z53 ok e)
 refine ⟨z,y,xs,r,o,es,ep,h1,h2,h3,h4,λ x hx=>?_,h5⟩
 have all:∀ {l:List (List Key×V)}{m:List (List Key×Addr×Value)},KT H l m->∀ x∈m,(tupleKind (K3 P w)).is h x.1 x.2.1:=by
  intro l m q
  induction q with
  | nil=>intro x hx;exact nomatch hx
  | @cons p q ps qs hq t ih =>
   intro x hx
   rcases N0c.mp hx with e | hx
   ·subst e
    exact q3x ok (by rw [<- hq.1];exact hq.2.1)
   ·exact ih x hx
 exact all r x hx
theorem z54 {kvs:List (List Key×V)}(ok:HOk P w H h) (e:H a=some (.dT kvs)):kvs.length<=sizeLine/\(a==sysModules)=false /\
 ∃ xs,KT H kvs xs/\h.DictOfH (tupleKind (K3 P w)) a xs:=q84 ok (.inl e)
end
noncomputable def q3y (H:Hp) (a:Addr) (y:V) (r:Option V):Prop :=
 (∃ kvs k,Rd H a (.dK kvs)/\y=kV k/\r=valV kvs k)\/∃ kvs k b,Rd H a (.dT kvs)/\y=.ref b/\H b=some (.tup (k.map kV))/\r=valV kvs k
noncomputable def q9a (H:Hp) (a:Addr) (y v:V) (H':Hp):Prop :=
 (∃ kvs k,H a=some (.dK kvs)/\y=kV k/\kvs.length<sizeLine/\H'=upd H a (.dK (putK kvs k v))) \/
 ∃ kvs k b,H a=some (.dT kvs)/\y=.ref b/\H b=some (.tup (k.map kV))/\kvs.length<sizeLine/\H'=upd H a (.dT (putK kvs k v))
theorem q3y.k {H:Hp}{a:Addr}{kvs:List (Key×V)}{k:Key}(e:H a=some (.dK kvs)):q3y H a (kV k) (valV kvs k):=.inl ⟨kvs,k,.inl e,rfl,rfl⟩
theorem q9a.k {H:Hp}{a:Addr}{kvs:List (Key×V)}{k:Key}{v:V}(e:H a=some (.dK kvs)) (hl:kvs.length<sizeLine):q9a H a (kV k) v (upd H a (.dK (putK kvs k v))):=.inl ⟨kvs,k,e,rfl,hl,rfl⟩
theorem q9a.t {H:Hp}{a b:Addr}{kvs:List (List Key×V)}{k:List Key}{v:V}(e:H a=some (.dT kvs)) (eb:H b=some (.tup (k.map kV))) (hl:kvs.length<sizeLine) :
 q9a H a (.ref b) v (upd H a (.dT (putK kvs k v))):=.inr ⟨kvs,k,b,e,rfl,eb,hl,rfl⟩
section
variable {X:Cx}{pins:List (Addr×Obj)}{σ:St}{H:Hp}{s:Shared}{a:Addr}{y v:V}{u r:Value}{o:Option V}{A:Around}{E:Value->Shared->Prop}
theorem Inv.big (I:Inv X pins σ H s):sysModules<s.heap.objs.size:=by
 have h:mainGlobals<s.heap.objs.size:=(I.mod.glob.keeps I.bk).lt
 exact Nat.lt_trans (by decide) h
theorem q9b {Q:Value->Shared->Prop}(hu:A.units+1<cLine) (I:Inv X pins σ H s) (g:q3y H a y (some v)) (ry:y3 y u) (h:∀ w' s',Inv X pins σ H s'->y3 v w'->Q w' s') :
 wpAny (model X.prog X.w) A (getItem (.ref a) u) Q E s:=by
 rcases g with ⟨kvs,k,e,ey,l⟩ | ⟨kvs,k,b,e,ey,eb,l⟩
 ·subst ey
  obtain ⟨z,hd,vs,rel,dd⟩:=q6b I.hok e
  obtain ⟨w',hw,rw'⟩:=q4W.some_of (v:=v) (o:=valueAt vs k) (by rw [l];exact rel.val k)
  exact wpAny_getItem_of (q83 ry) dd.mapOf hw (h w' _ (I.tok _) rw')
 ·subst ey
  cases (show u=Value.ref b from ry)
  obtain ⟨z,hd,xs,rel,dd⟩:=q84 I.hok e
  obtain ⟨w',hw,rw'⟩:=q4W.some_of (v:=v) (o:=(atKey xs k).map (·.2)) (by rw [l];exact rel.val k)
  obtain ⟨p,hp,hp2⟩:=N1x.mp hw
  refine wpAny_getItem_heap (tupleKind_room_in1 hu) (q3x I.hok eb) dd hp ?_
  rw [hp2]
  exact h w' _ (I.tok _) rw'
theorem d_in {Q:Value->Shared->Prop}(hu:A.units+1<cLine) (I:Inv X pins σ H s) (g:q3y H a y o) (ry:y3 y u) (h:∀ s',Inv X pins σ H s'->Q (.bool o.isSome) s') :
 wpAny (model X.prog X.w) A (compareOp .In u (.ref a)) Q E s:=by
 rcases g with ⟨kvs,k,e,ey,l⟩ | ⟨kvs,k,b,e,ey,eb,l⟩
 ·subst ey
  obtain ⟨z,hd,vs,rel,dd⟩:=q6b I.hok e
  refine wpAny_in_of (q83 ry) hd dd.mapOf ?_
  rw [<- (rel.val k).isSome_eq,<- l]
  exact h _ (I.tok _)
 ·subst ey
  cases (show u=Value.ref b from ry)
  obtain ⟨z,hd,xs,rel,dd⟩:=q84 I.hok e
  refine wpAny_in_heap (tupleKind_room_in1 hu) (q3x I.hok eb) hd dd ?_
  have q:=(rel.val k).isSome_eq
  rw [Option.isSome_map] at q
  rw [<- q,<- l]
  exact h _ (I.tok _)
theorem z36 {Q:Value->Shared->Prop}(hu:A.units+1<cLine) (I:Inv X pins σ H s) (g:q3y H a y o) (ry:y3 y u) (h:∀ s',Inv X pins σ H s'->Q (.bool (!o.isSome)) s') :
 wpAny (model X.prog X.w) A (compareOp .NotIn u (.ref a)) Q E s:=by
 rcases g with ⟨kvs,k,e,ey,l⟩ | ⟨kvs,k,b,e,ey,eb,l⟩
 ·subst ey
  obtain ⟨z,hd,vs,rel,dd⟩:=q6b I.hok e
  refine wpAny_notIn_of (q83 ry) hd dd.mapOf ?_
  rw [<- (rel.val k).isSome_eq,<- l]
  exact h _ (I.tok _)
 ·subst ey
  cases (show u=Value.ref b from ry)
  obtain ⟨z,hd,xs,rel,dd⟩:=q84 I.hok e
  refine wpAny_notIn_heap (tupleKind_room_in1 hu) (q3x I.hok eb) hd dd ?_
  have q:=(rel.val k).isSome_eq
  rw [Option.isSome_map] at q
  rw [<- q,<- l]
  exact h _ (I.tok _)
theorem q45 {h':Heap}{t':Nat}{ob:HO}(I:Inv X pins σ H s) (mu:Mut (H a)) (hs:Heap.SameBut a s.heap h') (he:∃ q,h'.get? a=some q) (new:K6 X.prog X.w (upd H a ob) h' a ob) :
 Inv X pins σ (upd H a ob) { s with heap:=h',toks:=t' } :=
 I.write (x:=a) (e:=a) mu (.inl rfl) (λ b q hb z=>(hs.2 b hb).trans z) he new
theorem z2g {P:Program}{w:World}{H':Hp}{h':Heap}{kvs:List (Key×V)}{vs:List (Key×Value)}(z:kvs.length<=sizeLine) (hd:(a==sysModules)=false) (rel:KV kvs vs) (dd:h'.DictOf (K3 P w) a vs) :
 K6 P w H' h' a (.dK kvs):=⟨z,hd,vs,rel,dd⟩
theorem q9c {H':Hp}{Q:Unit->Shared->Prop}(hu:A.units+1<cLine) (I:Inv X pins σ H s) (g:q9a H a y v H') (ry:y3 y u) (rv:y3 v r) (h:∀ s',Inv X pins σ H' s'->Q () s') :
 wpAny (model X.prog X.w) A (setItem (.ref a) u r) Q E s:=by
 rcases g with ⟨kvs,k,e,ey,l,eH⟩ | ⟨kvs,k,b,e,ey,eb,l,eH⟩
 ·subst ey eH
  obtain ⟨z,hd,vs,rel,dd⟩:=z35 I.hok e
  have hz:vs.length<=sizeLine:=by rw [<- rel.length];exact z
  have hl:(putK kvs k v).length<=sizeLine:=by have:=q0i kvs k v;lia
  refine wpAny_setItem_pairs (hsz:=hz) (q83 ry) dd λ h' dd' hs=>h _ ?_
  have he:∃ q,h'.get? a=some q:=let ⟨q,_,_,hq,_⟩:=dd';⟨q,hq⟩
  exact q45 I (by rw [e];exact True.intro) hs he (z2g hl hd (rel.put k rv) dd')
 ·subst ey eH
  cases (show u=Value.ref b from ry)
  obtain ⟨z,hd,xs,rel,dd⟩:=z54 I.hok e
  have hz:xs.length<=sizeLine:=by rw [<- Paired.length rel];exact z
  have hl:(putK kvs k v).length<=sizeLine:=by have:=q0i kvs k v;lia
  refine wpAny_setItem_heap (hsz:=hz) (tupleKind_room_in1 hu) (q3x I.hok eb) dd λ h' dd' hs=>h _ ?_
  obtain ⟨q,es,ep,hq,h2,h3,h4,_,h5⟩:=dd'
  refine q45 I (by rw [e];exact True.intro) hs ⟨q,hq⟩ ⟨hl,hd,_,(rel.put k eb rv).keeps λ c ys ec=>?_,q,es,ep,hq,h2,h3,h4,h5⟩
  rw [upd_ne (ne_of ec e (λ z=>nomatch z))]
  exact ec
end
section
variable {X:Cx}{pins:List (Addr×Obj)}{σ:St}{H:Hp}{s:Shared}{a:Addr}{kvs:List (Key×V)}{k:Key}{u:Value}{A:Around}{E:Value->Shared->Prop}
theorem z7k {v:V}{more:List Value}{Q:Value->Shared->Prop}(I:Inv X pins σ H s) (e:H a=some (.dK kvs)) (ry:y3 (kV k) u) (l:valV kvs k=some v) (hm:more=[]\/∃ x,more=[x])
 (h:∀ w' s',Inv X pins σ (upd H a (.dK (q2n kvs k))) s'->y3 v w'->Q w' s'):wpAny (model X.prog X.w) A (call (.builtin "dict.pop") (.ref a::u::more)) Q E s:=by
 obtain ⟨z,hd,vs,rel,dd⟩:=z35 I.hok e
 obtain ⟨w',hw,rw'⟩:=q4W.some_of (v:=v) (o:=valueAt vs k) (by rw [<- l];exact rel.val k)
 have hp:(keyPart u).isSome=true:=by
  cases k with
  | inl i=>obtain ⟨t,q⟩:=(show ∃ t,u=Value.int i t from ry);subst q;rfl
  | inr x=>obtain ⟨t,q⟩:=(show ∃ t,u=Value.str x t from ry);subst q;rfl
 have ha:argsOk "dict.pop" ⟨.ref a::u::more,[]⟩:=by
  rcases hm with q | ⟨x,q⟩
  ·subst q;exact F.args_dict_pop_2 _ _
  ·subst q;exact F.args_dict_pop_3 _ _ _
 refine call_meetsIn F.slot_dict_pop dd.typeIs F.entry_dict_pop ha (meets_dict_pop_there (K3 X.prog X.w) a (q83 ry) more hm hp)
  ⟨vs,w',dd,by rw [<- rel.length];exact z,hw,λ h' dd' hs=>h w' _ ?_ rw'⟩
 have he:∃ q,h'.get? a=some q:=let ⟨q,_,_,hq,_⟩:=dd';⟨q,hq⟩
 exact q45 I (by rw [e];exact True.intro) hs he (z2g (N0v (z1e kvs k) z) hd (rel.drop k) dd')
theorem z7l {Q:Value->Shared->Prop}(I:Inv X pins σ H s) (e:Rd H a (.dK kvs)) (h:∀ t s',Inv X pins σ H s'->Q (.int kvs.length t) s'):wpAny (model X.prog X.w) A (call (.builtin "len") [.ref a]) Q E s:=by
 obtain ⟨z,hd,vs,rel,dd⟩:=q6b I.hok e
 refine call_len_dict hd dd (by rw [<- rel.length];rw [sizeLine_eq] at z;lia) ?_
 rw [<- rel.length]
 exact h _ _ (I.tok _)
end
noncomputable def z2h (i:Expr):Prop:=∀ ov iv,subscripted i false ov iv=operate [ov,iv] (getItem ov iv)
theorem z37 {prog:Program}{w:World}{A:Around}{E:Value->Shared->Prop}{s:Shared}{env:Env}{value slice:Expr}{pos:Pos}{T id:String}{Q:Value->Shared->Prop}
 (hl:typeLookup (.type T) "__getitem__" = pure (some (.builtin id))) (hs:z2h slice)
 (h:wpAny (model prog w) A (eval value env) (λ o s₁=>wpAny (model prog w) A (eval slice env) (λ i s₂=>s₂.TypeIs o T/\wpAny (model prog w) A (getItem o i) Q E s₂) E s₁) E s) :
 wpAny (model prog w) A (eval (.Subscript value slice pos) env) Q E s:=by
 refine Subscript_ (N0p h (λ o s₁ h₁=>N0p h₁ (λ i s₂ h₂=>?_) λ o_ o_ x=>x) λ o_ o_ x=>x)
 obtain ⟨hT,h₂⟩:=h₂
 unfold subscriptTail
 refine N03 ?_
 rw [getitemInPython_of_ne hT.not_modules]
 refine N03 (wpAny_specialOf hT hl ?_)
 have fin:wpAny (model prog w) A (subscripted slice false o i) (λ r s₃=>wpAny (model prog w) A (letTemporaryGo value o r >>= λ o_=>pure r) Q E s₃) E s₂:=by
  rw [hs o i]
  exact wpAny_operating (N0p h₂ (λ r s₃ h₃=>N03 (wpAny_letTemporaryGo (N0y h₃))) λ o_ o_ x=>x)
 first
  | exact N0y (N03 fin)
  | exact N03 (N0y (N03 fin))
  | exact N03 fin
theorem q6c {X:Cx}{pins:List (Addr×Obj)}{σ:St}{H:Hp}{s:Shared}{a:Addr}{y:V}{o:Option V}(I:Inv X pins σ H s) (g:q3y H a y o):s.TypeIs (.ref a) "dict":=by
 rcases g with ⟨kvs,k,e,_,_⟩ | ⟨kvs,k,b,e,_,_,_⟩
 ·obtain ⟨_,_,vs,_,dd⟩:=q6b I.hok e
  exact dd.typeIs
 ·obtain ⟨_,_,xs,_,dd⟩:=q84 I.hok e
  exact dd.typeIs
noncomputable def z7m (td ty:TE):TE:=λ σ H Q=>td σ H λ x H1=>ty σ H1 λ y H2=>∃ a v,x=.ref a/\q3y H2 a y (some v)/\Q v H2
noncomputable def z7n (td ty tv:TE):TS:=λ D σ H=>tv σ H λ v H1=>td σ H1 λ x H2=>ty σ H2 λ y H3=>∃ a H4,x=.ref a/\q9a H3 a y v H4/\D.nx σ H4
section
variable {X:Cx}{o i e value:Expr}{pos pos' tpos:Pos}{td ty tv:TE}
theorem q1W (hu:X.A.units+1<cLine) (ho:PE X o td) (hi:PE X i ty) (hs:z2h i):PE X (.Subscript o i pos) (z7m td ty):=by
 intro pins s σ H Q I h
 refine z37 F.slot_dict_getitem.lookup hs (thx (ho pins s σ H _ I h) λ u s1 x H1 I1 rx q1=>thx (hi pins s1 σ H1 _ I1 q1) λ iv s2 y H2 I2 ry hx_=>?_)
 obtain ⟨a,v,ex,g,q2⟩:=hx_
 subst ex
 obtain rfl:u=Value.ref a:=rx
 exact ⟨q6c I2 g,q9b hu I2 g ry λ w' s3 I3 rw'=>⟨v,H2,I3,rw',q2⟩⟩
theorem q46 (hu:X.A.units+1<cLine) (ho:PE X o td) (hi:PE X i ty) (hv:PE X value tv) (hs:swapsWith value (some (.Subscript o i pos')) pos.line X.env=pure false) :
 PS X (.Assign [.Subscript o i pos'] value pos) (z7n td ty tv):=by
 intro pins s σ H D I h
 refine wpAny_Assign_Subscript (thx (hv pins s σ H _ I h) λ r s1 v H1 I1 rv q1=>thx (ho pins s1 σ H1 _ I1 q1) λ u s2 x H2 I2 rx q2=>thx (hi pins s2 σ H2 _ I2 q2) λ iv s3 y H3 I3 ry hx_=>?_) hs
 obtain ⟨a,H4,ex,g,q3⟩:=hx_
 subst ex
 obtain rfl:u=Value.ref a:=rx
 exact q9c hu I3 g ry rv λ s4 I4=>⟨σ,H4,I4,q3⟩
end
theorem z1f {P:Program}{w:World}{H:Hp}(h:Heap) (hb:sysModules<h.objs.size):K6 P w H (h.push { cls:=.type "dict",data:=.dict #[] }) h.objs.size (.dK []) :=
 ⟨N1b _,N18.mpr (N1f (N12 hb)),[],.nil,Heap.DictOf.new h⟩
theorem q72 {P:Program}{w:World}{H:Hp}(h:Heap) (hb:sysModules<h.objs.size):K6 P w H (h.push { cls:=.type "dict",data:=.dict #[] }) h.objs.size (.dT []) :=
 ⟨N1b _,N18.mpr (N1f (N12 hb)),[],.nil,_,#[],0,N1q _ rfl,⟨rfl,rfl,rfl⟩,rfl,rfl,N27⟩
noncomputable def z55:TE:=λ o_ H Q=>∀ p,H p=none->Q (.ref p) (upd H p (.dK []))
noncomputable def z56:TE:=λ o_ H Q=>∀ p,H p=none->Q (.ref p) (upd H p (.dT []))
section
variable {X:Cx}{pos:Pos}
theorem q73:PE X (.Dict [] [] pos) z55:=λ pins s σ H Q I h =>
 wpAny_Dict_empty ⟨.ref s.heap.objs.size,_,I.laid (a:=s.heap.objs.size) (o:=.dK []) (t':=s.toks) (λ o_ o_ q=>N1o _ q) (N07 _) (z1f s.heap I.big),rfl,h _ (I.hok.fresh (N07 _))⟩
theorem q47:PE X (.Dict [] [] pos) z56:=λ pins s σ H Q I h =>
 wpAny_Dict_empty ⟨.ref s.heap.objs.size,_,I.laid (a:=s.heap.objs.size) (o:=.dT []) (t':=s.toks) (λ o_ o_ q=>N1o _ q) (N07 _) (q72 s.heap I.big),rfl,h _ (I.hok.fresh (N07 _))⟩
end
noncomputable def q9d:List (TE×TE)->St->Hp->(List (V×V)->Hp->Prop)->Prop
 | [],_,H,Q=>Q [] H
 | (tk,tv)::r,σ,H,Q=>tk σ H λ x H1=>tv σ H1 λ y H2=>q9d r σ H2 λ ps H3=>Q ((x,y)::ps) H3
noncomputable abbrev VV:List (V×V)->List (Value×Value)->Prop:=Paired λ p q=>y3 p.1 q.1/\y3 p.2 q.2
noncomputable def PPs (X:Cx) (pos:Pos) (keys:List (Option Expr)) (values:List Expr) (trs:List (TE×TE)):Prop :=
 ∀ (pins:List (Addr×Obj)) (s:Shared) (σ:St) (H:Hp) (Q:List (V×V)->Hp->Prop),Inv X pins σ H s->q9d trs σ H Q ->
  wpAny (model X.prog X.w) X.A (evalPairs (pairTrees keys values X.env pos)) (λ vs s'=>∃ ps H',Inv X pins σ H' s'/\VV ps vs/\Q ps H') X.xe s
theorem q9e {X:Cx}{pos:Pos}:PPs X pos [] [] []:=λ pins s σ H Q I h=>pairTrees_nil_walk ⟨[],H,I,.nil,h⟩
theorem q48 {X:Cx}{pos:Pos}{k v:Expr}{ks:List (Option Expr)}{vs:List Expr}{tk tv:TE}{trs:List (TE×TE)}(hk:PE X k tk) (hv:PE X v tv) (hr:PPs X pos ks vs trs) :
 PPs X pos (some k::ks) (v::vs) ((tk,tv)::trs):=λ pins s σ H Q I h =>
 pairTrees_cons_walk (thx (hk pins s σ H _ I h) λ u s1 x H1 I1 rx q1=>thx (hv pins s1 σ H1 _ I1 q1) λ w2 s2 y H2 I2 ry q2 =>
  thx (hr pins s2 σ H2 _ I2 q2) λ ws s3 ps H3 I3 rel q3=>⟨(x,y)::ps,H3,I3,.cons ⟨rx,ry⟩ rel,q3⟩)
structure M1 (X:Cx) (o:Expr) (m:Str) (apos:Pos) (e:Expr) (cpos:Pos):Prop where
 base:attributeBase o m X.env (eval o X.env)=eval o X.env
 few:((backTo cpos (starEach [e] X.env)).all (λ x=>!x.1)&&(backToKw cpos (keywordEach [] X.env)).all (λ x=>x.1.isSome)
  && decide (([e]:List Expr).length+([]:List Keyword).length+(if ([]:List Keyword).isEmpty then 0 else 1)<30))=true
 line:(apos.endLine==cpos.line)=true
 trees:backTo cpos (starEach [e] X.env)=[(false,eval e X.env)]
structure M2 (X:Cx) (o:Expr) (m:Str) (apos:Pos) (e f:Expr) (cpos:Pos):Prop where
 base:attributeBase o m X.env (eval o X.env)=eval o X.env
 few:((backTo cpos (starEach [e,f] X.env)).all (λ x=>!x.1)&&(backToKw cpos (keywordEach [] X.env)).all (λ x=>x.1.isSome)
  && decide (([e,f]:List Expr).length+([]:List Keyword).length+(if ([]:List Keyword).isEmpty then 0 else 1)<30))=true
 line:(apos.endLine==cpos.line)=true
 trees:backTo cpos (starEach [e,f] X.env)=[(false,eval e X.env),(false,eval f X.env)]
noncomputable def IsD (H:Hp) (a:Addr):Prop:=(∃ kvs,Rd H a (.dK kvs))\/∃ kvs,Rd H a (.dT kvs)
theorem z57 {X:Cx}{pins:List (Addr×Obj)}{σ:St}{H:Hp}{s:Shared}{a:Addr}(I:Inv X pins σ H s) (d:IsD H a) :
 s.TypeIs (.ref a) "dict"/\(∀ b,Value.ref a=.ref b->∃ ob,s.heap.get? b=some ob/\ob.dict=none)/\(a==sysModules)=false:=by
 rcases d with ⟨kvs,e⟩ | ⟨kvs,e⟩
 ·obtain ⟨_,hd,vs,_,dd⟩:=q6b I.hok e
  refine ⟨dd.typeIs,λ b q=>?_,hd⟩
  cases q
  obtain ⟨ob,_,_,h1,h2,_⟩:=dd
  exact ⟨ob,h1,h2.2.1⟩
 ·obtain ⟨_,hd,xs,_,dd⟩:=q84 I.hok e
  refine ⟨dd.typeIs,λ b q=>?_,hd⟩
  cases q
  obtain ⟨ob,_,_,h1,h2,_⟩:=dd
  exact ⟨ob,h1,h2.2.1⟩
noncomputable def z58 (td ty:TE):TE:=λ σ H Q=>td σ H λ x H1=>∃ a,x=.ref a/\IsD H1 a/\ty σ H1 λ y H2=>∃ kvs k v,H2 a=some (.dK kvs)/\y=kV k/\valV kvs k=some v/\Q v (upd H2 a (.dK (q2n kvs k)))
section
variable {X:Cx}{o e f:Expr}{apos cpos:Pos}{td ty tx:TE}
theorem z1g (ho:PE X o td) (he:PE X e ty) (m:M1 X o "pop" apos e cpos):PE X (.Call (.Attribute o "pop" apos) [e] [] cpos) (z58 td ty):=by
 intro pins s σ H Q I h
 refine wpAny_Call_method m.base m.few m.line F.plainAttrs_dict F.slot_dict_pop F.type_dict_pop (thx (ho pins s σ H _ I h) λ u s1 x H1 I1 rx hx_=>?_)
 obtain ⟨a,ex,d,q1⟩:=hx_
 subst ex
 obtain rfl:u=Value.ref a:=rx
 obtain ⟨t1,t2,_⟩:=z57 I1 d
 refine ⟨t1,t2,?_⟩
 rw [m.trees]
 refine Calls.callWith_builtin rfl (Calls.evalArgs_plain (Calls.spliced_cons (thx (he pins s1 σ H1 _ I1 q1) λ iv s2 y H2 I2 ry ⟨kvs,k,v,ea,ey,l,q2⟩=>Calls.spliced_nil ?_)))
 subst ey
 exact z7k I2 ea ry l (.inl rfl) λ w' s3 I3 rw'=>⟨v,_,I3,rw',q2⟩
end
end L2
namespace Att
open PySem PySem.W PySem.Calls PyProof.Rows
theorem q2M {P:Params}{h:Heap}:∀ (ns:List Int) (vs:List Value),WellAll P h vs (ns.map WData.int)->IntsAre vs ns:=by
 intro ns
 induction ns with
 | nil =>
  intro vs w
  rw [List.map_nil] at w
  cases w
  exact .nil
 | cons n ns ih =>
  intro vs w
  rw [N09] at w
  cases w with
  | cons a b =>
   cases a
   exact .cons _ _ (ih _ b)
theorem q9f {l:OpenLaw}{n:Nat}(hn:l.most=some n){P:Params}{h:Heap}{args:List WData}{vals:List Value}
 (hpre:l.row.toRowW.claim.pre args=true) (hwl:WellAll P h vals args) :
 ∃ a vs ns,vals=[Value.ref a]/\args=[WData.list (ns.map WData.int)]/\h.get? a=some { cls:=.type "list",data:=.seq vs.toArray }/\IntsAre vs ns/\ns.length<=n:=by
 have hsh:WShape.hasAll [] args [.list .int]=true:=(pre_splitW hpre).1
 have hc:l.pre.holds [] { args:=args }=true:=(pre_splitW hpre).2
 obtain ⟨d,r,rfl,h1,h2⟩:=hasAllW_cons hsh
 obtain rfl:=hasAllW_nil h2
 obtain ⟨xs,rfl,h3⟩:=hasW_list h1
 obtain ⟨ns,rfl⟩:=items_int h3
 have hlen:ns.length<=n:=by
  unfold OpenLaw.pre at hc
  have h4:(WTm.not (.lt (.lit (.int (n:Int))) (.len (.arg 0)))).holds [] { args:=[.list (ns.map .int)] }=true:=by
   have h4:=(holds_andW hc).1
   rw [hn] at h4
   exact h4
  have h5:=condW_of h4 (w_not (w_lt w_lit (w_len_list (w_arg rfl))))
  rw [N01] at h5
  refine Nat.le_of_not_lt λ q=>?_
  have q':(n:Int)<((ns.length:Nat):Int):=by simp_all
  first
   | (rw [N0o q'] at h5;exact absurd h5 (by decide))
   | (simp at h5;omega)
 cases hwl with
 | cons w1 w2 =>
  cases w2
  cases w1 with
  | list ho hall=>exact ⟨_,_,ns,rfl,rfl,ho,q2M ns _ hall,hlen⟩
theorem q9g (l:OpenLaw) (args:List WData):l.row.toRowW.claim.post args (.bool true) args=true :=
 postW_of (r:=l.row.toRowW) (X:=(true==true))
  (show WShape.has [] (.bool true) .bool=true by first | rfl | decide | simp [WShape.has,WShape.arms,WShape.armsAll])
  (show (WTm.eq .res (.lit (.bool true))).value [] { args:=args,res:=some (.bool true),after:=args }=some (.bool (true==true)) from w_eq_bool (w_res rfl) w_lit) rfl
theorem q6d {l:OpenLaw}{n:Nat}{q:Program}{loose:List Str}{XP:(Str->Option Value)->Heap->Prop}{YP:World->Heap->Prop}{d:DefRec}
 (hn:l.most=some n) (hdf:d.params.defaults=[])
 (call:∀ (w:World) (s₀ s₁:Shared) (mg mb:Str->Option Value) (fa:Addr) (o:Obj) (pm cd doc:Value) (a:Addr) (vs:List Value) (ns:List Int),
  Ground q loose [] XP w s₀ mg mb s₁.heap->YP w s₁.heap ->
  s₁.heap.get? fa=some o->o.data=.func (docDef d.name d.params d.body d.scope pm cd doc)->s₁.heap.CodeRec cd d.name->mg d.name=some (.ref fa) ->
  s₁.heap.get? a=some { cls:=.type "list",data:=.seq vs.toArray }->IntsAre vs ns->ns.length<=n->s₁.gens = #[] ->
  codeAny (model l.prog w) callerA (.call (.ref fa) ⟨[.ref a],[]⟩) (λ r s'=>r=.ok (.ret (.bool true))/\OldK s₁.heap s'.heap/\s'.os=s₁.os/\AllBare s'.gens) s₁) :
 WalkO q loose XP YP l.row.toRowW d [] (λ f vs=>PySem.call f vs):=by
 intro w s₀ s₁ mg mb G Y fa o pm cd doc dV kV ho hd hcd hD hmg hg args vals as hpre hlay hrd hwl hlo
 obtain rfl:dV=.none:=Dflts.none hD hdf
 obtain rfl:kV=.none:=Dflts.noKw hD
 obtain ⟨a,vs,ns,rfl,rfl,hobj,hints,hlen⟩:=q9f hn hpre hwl
 refine enter_call (codeAny_mono (call w s₀ s₁ mg mb fa o pm cd doc a vs ns G Y ho (fd_plain hd) hcd hmg hobj hints hlen hg) λ r s' hq=>?_)
 obtain ⟨rfl,h2,h3,h4⟩:=hq
 exact ⟨.inl ⟨.bool true,.bool true,[],rfl,λ o_=>rfl,.bool true,q9g l _,λ o_=>⟨List.Pairwise.nil,λ o_ hm=>(nomatch hm)⟩⟩,h2,h3,h4⟩
end Att
namespace L2
open PySem PySem.Spec PyProof.Rows
theorem q5d:∀ {vs:List Value}{ns:List Int},IntsAre vs ns->Vals (ns.map V.int) vs
 | _,_,.nil=>.nil
 | _,_,.cons n t h=>.cons ⟨t,rfl⟩ (q5d h)
noncomputable def q1X (s:Stmt) (j:Nat):Stmt:=match s with
 | .ClassDef _ _ _ body _ _ _ _ _ _ _=>body.getD j (.Pass ⟨0,0,0,0⟩)
 | _=>.Pass ⟨0,0,0,0⟩
noncomputable def defArgs (s:Stmt):Arguments:=match s with
 | .FunctionDef _ a _ _ _ _ _ _ _ _=>a
 | _=>{ posonlyargs:=[],args:=[],vararg:=none,kwonlyargs:=[],kw_defaults:=[],kwarg:=none,defaults:=[] }
noncomputable def defBody (s:Stmt):List Stmt:=match s with
 | .FunctionDef _ _ b _ _ _ _ _ _ _=>b
 | _=>[]
noncomputable def defScope (s:Stmt):Scope:=match s with
 | .FunctionDef _ _ _ _ _ _ sc _ _ _=>sc
 | _=>{ kind:=.function,names:=[],isGenerator:=false,isCoroutine:=false }
noncomputable abbrev CX0:CXT:=λ o_ o_ o_ o_ o_ o_=>False
noncomputable abbrev E0:XK:=λ o_ o_ o_=>False
theorem q5e {X:Cx}:q2J CX0 X E0:=λ o_ o_ o_ o_ o_ o_ o_ h=>h.elim
structure Fun (K:W.Frag) (x qual:Str) (st:Stmt) (f:Addr) (fd:FuncData):Prop where
 ex:∃ (oc:Value) (od:Option Addr) (kV doc pm:Value) (an:Option Addr) (cdv ct:Value) (osl:Array (Option Value)),
  fd=W.fnOf x qual (defArgs st) (defBody st) (defScope st) .none kV doc pm an cdv ct/\K.lookup f=some ⟨oc,od,.func fd,osl⟩/\W.codeIn K cdv qual=true
 kp:W.keepIn K (.ref f)=true
section
variable {P:Program}{w:World}{K:W.Frag}{mg:Str->Option Value}{base:Heap}
theorem Fun.ok {x qual:Str}{st:Stmt}{f:Addr}{fd:FuncData}{N ps:List Str}{k:Nat}{sp:Sp}(F:Fun K x qual st f fd) (S:FnScope N ps (defScope st)) (len:∀ vs H Q E,sp vs H Q E->vs.length=ps.length)
 (hbody:∀ (cdv:Value) (A:Around) (outer:List Env) (s:Shared) (H:Hp) (vs:List V) (Q:VK) (E:XK),Room k (A.deeper (envOfC qual (defScope st) s.heap.objs.size f cdv))->sp vs H Q E ->
  ∃ t,PSs (cxOf CX0 P w K mg base N qual (defScope st) f cdv A outer s H E).nox (defBody st) t/\t { nx:=λ o_ H'=>Q .non H',rt:=Q } (start N vs) H):FnOk P w K mg base CX0 (k+1) f fd ps sp:=by
 obtain ⟨oc,od,kV,doc,pm,an,cdv,ct,osl,rfl,lk,hcd⟩:=F.ex
 refine z7h lk hcd S len λ A outer s H vs Q E hr hsp=>?_
 obtain ⟨t,h,q⟩:=hbody cdv A outer s H vs Q E hr hsp
 exact ⟨t,h.nox,q⟩
theorem Fun.binds {x qual:Str}{st:Stmt}{f:Addr}{fd:FuncData}{ps:List Str}(F:Fun K x qual st f fd)
 (h:∀ (kV doc pm:Value) (an:Option Addr) (cdv ct:Value) (us:List Value),us.length=ps.length->bindArgs (W.fnOf x qual (defArgs st) (defBody st) (defScope st) .none kV doc pm an cdv ct) ⟨us,[]⟩=pure (ps.zip us)):y9 K fd ps []:=by
 obtain ⟨oc,od,kV,doc,pm,an,cdv,ct,osl,rfl,lk,hcd⟩:=F.ex
 exact .all (h kV doc pm an cdv ct)
theorem J7 {x qual:Str}{st:Stmt}{f:Addr}{oc:Value}{od an:Option Addr}{osl:Array (Option Value)}{kV doc pm cdv ct:Value}(l:K.lookup f=some ⟨oc,od,.func (W.fnOf x qual (defArgs st) (defBody st) (defScope st) .none kV doc pm an cdv ct),osl⟩)
 (c:W.codeIn K cdv qual=true) (k:W.keepIn K (.ref f)=true):Fun K x qual st f (W.fnOf x qual (defArgs st) (defBody st) (defScope st) .none kV doc pm an cdv ct):=⟨⟨oc,od,kV,doc,pm,an,cdv,ct,osl,rfl,l,c⟩,k⟩
end
section
variable {X:Cx}
theorem pv (i:Nat){x:Str}{pos:Pos}(hN:X.N[i]? = some x:=by rfl) (hv:Vis X.env.scope x:=by nofun) (hd:(x==("__debug__" : Str))=false:=by decide)
 (hcd:(x==("__classdict__" : Str))=false:=by decide):PE X (.Name x pos) (z8w i):=Y7 hN hv hd hcd
theorem q9h:V2 X (.builtin "len") (λ xs H Q=>∃ a kvs,xs=[V.ref a]/\H a=some (.dK kvs)/\Q (.int kvs.length) H):=by
 intro pins s σ H xs us Q I r h
 obtain ⟨a,kvs,rfl,ha,q⟩:=h
 obtain ⟨u,rfl,ru⟩:=q2F r
 cases ru
 exact z7l I (.inl ha) λ t s' I'=>⟨.int kvs.length,H,I',⟨t,rfl⟩,q⟩
end
theorem z1h {A B:Prop}(h:B):if false=true then A else B:=by
 rw [N0l N0d]
 exact h
theorem z1i {A B:Prop}(h:A):if true=true then A else B:=by
 rw [N0j rfl]
 exact h
noncomputable def Same (H H':Hp):Prop:=∀ b o,H b=some o->H' b=some o
theorem Same.refl (H:Hp):Same H H:=λ o_ o_ h=>h
theorem Same.trans {H H1 H2:Hp}(a:Same H H1) (b:Same H1 H2):Same H H2:=λ c o h=>b c o (a c o h)
theorem Same.free {H H':Hp}(e:Same H H'){l:Addr}(h:H' l=Option.none):H l=Option.none:=by
 cases q:H l with
 | none=>rfl
 | some o =>
  rw [e l o q] at h
  cases h
section
variable {κ:Type} [DecidableEq κ]
theorem q9i {p:κ×V}{r:List (κ×V)}{k:κ}(e:p.1=k):q2n (p::r) k=q2n r k:=by
 unfold q2n
 rw [N1e,N0l (by simp [e])]
theorem q9j {p:κ×V}{r:List (κ×V)}{k:κ}(e:¬ p.1=k):q2n (p::r) k=p::q2n r k:=by
 unfold q2n
 rw [N1e,N0j (by simp [e])]
end
noncomputable def clOf (sc:Scope) (env:Env):List (Str×Addr):=(sc.names.filter λ p=>p.2 == .free).reverse.map λ p=>(p.1,(env.cells.lookup p.1).getD 0)
theorem q9k {env:Env}:∀ (l:List (Str×NameKind)) (acc:List (Str×Addr)),(∀ p∈l,p.2=.free->∃ c,env.cells.lookup p.1=some c) ->
 (forIn l acc λ (x:Str×NameKind) (s:List (Str×Addr))=>if (x.2==NameKind.free)=true then do
  let a <- cellOf env x.1
  pure (ForInStep.yield ((x.1,a)::s))
  else (pure (ForInStep.yield s):Sem (ForInStep (List (Str×Addr)))))=pure ((l.filter λ p=>p.2 == .free).reverse.map (λ p=>(p.1,(env.cells.lookup p.1).getD 0))++acc)
 | [],acc,_=>rfl
 | p::r,acc,h=>by
  rw [List.forIn_cons]
  by_cases e:p.2=.free
  ·obtain ⟨c,hc⟩:=h p N00 e
   have e1:(p.2==NameKind.free)=true:=by rw [e];rfl
   rw [N0j e1]
   have e2:cellOf env p.1=pure c:=by unfold cellOf;rw [hc]
   rw [e2]
   show (forIn r ((p.1,c)::acc) _:Sem _)=_
   rw [q9k r ((p.1,c)::acc) λ q hq=>h q (N02 _ hq)]
   rw [N1e,N0j e1,List.reverse_cons,N14,N1w]
   show _=pure (_++([(p.1,(env.cells.lookup p.1).getD 0)]++acc))
   rw [hc];rfl
  ·have e1:¬ (p.2==NameKind.free)=true:=by simpa using e
   rw [N0l e1]
   show (forIn r acc _:Sem _)=_
   rw [q9k r acc λ q hq=>h q (N02 _ hq)]
   rw [N1e,N0l e1]
theorem q1x {sc:Scope}{env:Env}(h:∀ p∈sc.names,p.2=.free->∃ c,env.cells.lookup p.1=some c):closureFor sc env=pure (clOf sc env):=by
 simp only [closureFor]
 rw [q9k sc.names [] h,N10]
 rfl
theorem q0j {β:Type}:∀ {l:List (Str×β)}{x:Str}{b:β},l.lookup x=some b->(x,b)∈l
 | (y,c)::r,x,b,h=>by
  rw [N15] at h
  cases e:x==y with
  | true =>
   rw [e] at h;have e':x=y:=by simpa using e
   subst e';cases h;exact N00
  | false=>rw [e] at h;exact N02 _ (q0j h)
theorem q02 (f:Str->Addr):∀ {l:List (Str×NameKind)}{x:Str},(∃ p∈l,p.1=x)->(l.map λ p=>(p.1,f p.1)).lookup x=some (f x)
 | [],x,⟨p,hp,_⟩=>nomatch hp
 | q::r,x,⟨p,hp,e⟩=>by
  rw [N09,N15]
  cases e2:x==q.1 with
  | true =>
   have e':x=q.1:=by simpa using e2
   rw [e']
  | false =>
   have e':¬ x=q.1:=by simpa using e2
   rcases N0c.mp hp with rfl | hp
   ·exact absurd e.symm e'
   ·exact q02 f ⟨p,hp,e⟩
theorem q2N (f:Str->Addr){l:List (Str×NameKind)}{x:Str}{c:Addr}(h:(l.map λ p=>(p.1,f p.1)).lookup x=some c):∃ p∈l,p.1=x:=by
 have m:=q0j h
 obtain ⟨p,hp,e⟩:=N1z.mp m
 exact ⟨p,hp,congrArg (·.1) e⟩
theorem q74 {sc:Scope}{env:Env}{x:Str}{c:Addr}(h:sc.names.lookup x=some .free) (hc:env.cells.lookup x=some c):(clOf sc env).lookup x=some c:=by
 unfold clOf
 have m:∃ p∈(sc.names.filter λ p=>p.2 == .free).reverse,p.1=x:=⟨(x,.free),List.mem_reverse.mpr (N1u.mpr ⟨q0j h,rfl⟩),rfl⟩
 rw [q02 (λ y=>(env.cells.lookup y).getD 0) m,hc];rfl
theorem q16 {sc:Scope}{env:Env}{x:Str}{c:Addr}(hf:∀ p∈sc.names,p.2=.free->∃ c,env.cells.lookup p.1=some c) (h:(clOf sc env).lookup x=some c):env.cells.lookup x=some c:=by
 unfold clOf at h
 obtain ⟨p,hp,e⟩:=q2N (λ y=>(env.cells.lookup y).getD 0) h
 rw [q02 (λ y=>(env.cells.lookup y).getD 0) ⟨p,hp,e⟩] at h
 obtain ⟨h1,h2⟩:=N1u.mp (List.mem_reverse.mp hp)
 obtain ⟨d,hd⟩:=hf p h1 (by simpa using h2)
 rw [e] at hd
 rw [hd] at h ⊢;exact h
theorem q2a {env:Env}:∀ {names:List (Str×NameKind)}{x:Str},names.lookup x=some .free ->
 (names.map λ (n,k)=>if (k==NameKind.free&&env.scope.kind == .function&&env.kindOf n==some .cell) then (n,NameKind.cell) else (n,k)).lookup x=some .cell \/
 (names.map λ (n,k)=>if (k==NameKind.free&&env.scope.kind == .function&&env.kindOf n==some .cell) then (n,NameKind.cell) else (n,k)).lookup x=some .free
 | (n,k)::r,x,h=>by
  have ih:=@q2a env r x
  rw [N15] at h
  rw [N09]
  show List.lookup x ((if (k==NameKind.free&&env.scope.kind == .function&&env.kindOf n==some .cell)=true then (n,NameKind.cell) else (n,k))::_)=_\/List.lookup x ((if (k==NameKind.free&&env.scope.kind == .function&&env.kindOf n==some .cell)=true then (n,NameKind.cell) else (n,k))::_)=_
  cases hx:x==n with
  | true =>
   rw [hx] at h;cases h
   by_cases hc:(NameKind.free==NameKind.free&&env.scope.kind == .function&&env.kindOf n==some .cell)=true
   ·rw [N0j hc];left;simp [N15,hx]
   ·rw [N0l hc];right;simp [N15,hx]
  | false =>
   rw [hx] at h
   by_cases hc:(k==NameKind.free&&env.scope.kind == .function&&env.kindOf n==some .cell)=true
   ·rw [N0j hc];simp only [N15,hx];exact ih h
   ·rw [N0l hc];simp only [N15,hx];exact ih h
section
variable {prog:Program}{w:World}{A:Around}{R:Result->Shared->Prop}{s:Shared}
theorem q5f {elt target iter:Expr}{ifs:List Expr}{scope:Scope}{pos:Pos}{it acc:Value}{env:Env}(XE:Value->Shared->Prop) (hXE:∀ e s,XE e s->notedBy (model prog w) A env (λ e s'=>R (.error e) s') e s) (I:Nat->Shared->Prop)
 (turn:∀ n s,I n s->wpAny (model prog w) A (pyNext it) (λ r s₁=>match r with
  | none=>R (.ok .next) s₁
  | some v=>wpAny (model prog w) A (letOwnedTupleGo target it v) (λ o_ s₂=>wpAny (model prog w) A (assign target env v) (λ o_ s₃ =>
   wpAny (model prog w) A (forIn ifs true λ c r=>if r=true then do let ok <- isTrue c env (eval c env);pure (ForInStep.yield ok) else pure (ForInStep.yield r)) (λ ok s₄ =>
    if ok=true then wpAny (model prog w) A (eval elt env) (λ x s₅ =>
     wpAny (model prog w) A (call (.builtin "list.append") [acc,x]) (λ o_ s₆=>∃ m,m<n/\I m s₆) XE s₅) XE s₄
    else ∃ m,m<n/\I m s₄) XE s₃) XE s₂) XE s₁) XE s)
 (n:Nat) (h:I n s) :
 codeAny (model prog w) A (.compLoop (.ListComp elt [⟨target,iter,ifs,0⟩] scope pos) 0 it acc env) R s:=by
 refine codeAny_loop rfl I (λ n s hI=>?_) n h
 show wpAny _ A ((compTurn (.ListComp elt [⟨target,iter,ifs,0⟩] scope pos) 0 it acc env).onRaise (λ x=>do noteFrame x env;theTreesLotGoes x)) _ _ s
 refine wpAny_noted ?_
 rw [compTurn_list]
 refine N03 (wpAny_standAt (N03 (N0p (turn n s hI) (λ r s₁ h₁=>?_) hXE)))
 cases r with
 | none=>exact N0y h₁
 | some v =>
  refine N03 (N0p h₁ (λ o_ s₂ h₂=>?_) hXE)
  refine N03 (N0p h₂ (λ o_ s₃ h₃=>N03 (N0p h₃ (λ ok s₄ h₄=>?_) hXE)) hXE)
  cases ok with
  | false=>exact N0y ⟨rfl,h₄⟩
  | true =>
   exact N03 (N03 (N0p h₄ (λ x s₅ h₅=>N03 (N0p h₅ (λ o_ s₆ h₆=>N0y (N0y ⟨rfl,h₆⟩)) hXE)) hXE))
end
theorem q2b {env:Env}:∀ {names:List (Str×NameKind)}{x:Str},(∀ y∈names,y.2≠.cell) ->
 ((names.map λ (n,k)=>if (k==NameKind.free&&env.scope.kind == .function&&env.kindOf n==some .cell) then (n,NameKind.cell) else (n,k)).lookup x=some .cell \/
 (names.map λ (n,k)=>if (k==NameKind.free&&env.scope.kind == .function&&env.kindOf n==some .cell) then (n,NameKind.cell) else (n,k)).lookup x=some .free)->names.lookup x=some .free
 | [],x,_,h=>by rcases h with h | h<;>cases h
 | (n,k)::r,x,nc,h=>by
  have ih:=@q2b env r x λ y hy=>nc y (N02 _ hy)
  have nk:k≠.cell:=nc (n,k) N00
  rw [N09] at h
  change List.lookup x ((if (k==NameKind.free&&env.scope.kind == .function&&env.kindOf n==some .cell)=true then (n,NameKind.cell) else (n,k))::_)=_\/List.lookup x ((if (k==NameKind.free&&env.scope.kind == .function&&env.kindOf n==some .cell)=true then (n,NameKind.cell) else (n,k))::_)=_ at h
  rw [N15]
  cases hx:x==n with
  | true =>
   by_cases hc:(k==NameKind.free&&env.scope.kind == .function&&env.kindOf n==some .cell)=true
   ·have:k=.free:=by
     simp only [N0q,beq_iff_eq] at hc
     exact hc.1.1
    rw [this]
   ·rw [N0l hc] at h
    simp only [N15,hx] at h
    rcases h with h | h
    ·cases h;exact absurd rfl nk
    ·exact h
  | false =>
   by_cases hc:(k==NameKind.free&&env.scope.kind == .function&&env.kindOf n==some .cell)=true
   ·rw [N0j hc] at h;simp only [N15,hx] at h;exact ih h
   ·rw [N0l hc] at h;simp only [N15,hx] at h;exact ih h
noncomputable abbrev q49:=List (Str×Nat)
noncomputable def capσ (caps:q49) (σ:St):St:=caps.map λ c=>(σ[c.2]?).join
structure CArg where
 C:Addr
 s:Shared
 H:Hp
 fp:List Addr
 xe:Value->Shared->Prop
noncomputable abbrev cxC (X:Cx) (x:Str) (caps:q49) (sc:Scope) (z:CArg):Cx :=
 { X with N:=x::caps.map (·.1),s₀:=z.s,H₀:=z.H,env:=compEnvC sc (clOf sc X.env) z.C X.env,outer:=X.stack,stack:=X.stack,ex:=z.fp,fn:=λ o_=>false,pn:=[],xe:=z.xe }
noncomputable def q1k (o sc:Scope) (N:List Str) (x:Str) (caps:q49):Bool :=
 sc.names.lookup x==some .local&&sc.kind == .function &&
 sc.names.all (λ y=>y.2 != .cell&&(y.2 != .local || sc.names.lookup y.1==some .local)&&(y.2 != .free || (o.names.lookup y.1==some .cell || o.names.lookup y.1==some .free))) &&
 decide ((x::caps.map (·.1)).Nodup) &&
 caps.all (λ c=>N[c.2]? == some c.1&&sc.names.lookup c.1==some .free&&(o.names.lookup c.1==some .cell || o.names.lookup c.1==some .free))
structure CompOk (X:Cx) (x:Str) (caps:q49) (sc:Scope):Prop where
 own:sc.names.lookup x=some .local
 kind:sc.kind=.function
 nocell:∀ y∈sc.names,y.2≠.cell
 names:∀ y∈sc.names,y.2=.local->sc.names.lookup y.1=some .local
 free:∀ y∈sc.names,y.2=.free->X.env.kindOf y.1=some .cell\/X.env.kindOf y.1=some .free
 nd:(x::caps.map (·.1)).Nodup
 cap:∀ c∈caps,X.N[c.2]? = some c.1/\sc.names.lookup c.1=some .free/\(X.env.kindOf c.1=some .cell\/X.env.kindOf c.1=some .free)
theorem q5g {X:Cx}{x:Str}{caps:q49}{sc:Scope}(h:q1k X.env.scope sc X.N x caps=true):CompOk X x caps sc:=by
 unfold q1k at h
 simp only [N0q,N21,beq_iff_eq,bne_iff_ne,Bool.or_eq_true,decide_eq_true_eq] at h
 obtain ⟨⟨⟨⟨h1,h2⟩,h3⟩,h4⟩,h5⟩:=h
 refine ⟨h1,h2,λ y hy=>(h3 y hy).1.1,λ y hy e=>?_,λ y hy e=>?_,h4,λ c hc=>⟨(h5 c hc).1.1,(h5 c hc).1.2,(h5 c hc).2⟩⟩
 ·exact (h3 y hy).1.2.resolve_left λ z=>z e
 ·exact (h3 y hy).2.resolve_left λ z=>z e
noncomputable def z38 (X:Cx) (ifs:List Expr) (t:TT):Prop :=
 ∀ (pins:List (Addr×Obj)) (s:Shared) (σ:St) (H:Hp) (Q:Bool->Hp->Prop),Inv X pins σ H s->t σ H Q ->
  wpAny (model X.prog X.w) X.A (forIn ifs true λ c r=>if r=true then do let ok <- isTrue c X.env (eval c X.env);pure (ForInStep.yield ok) else pure (ForInStep.yield r)) (TP X pins σ Q) X.xe s
noncomputable def tYes:TT:=λ o_ H Q=>Q true H
theorem z1j {X:Cx}:z38 X [] tYes:=λ o_ o_ o_ H o_ I h=>wpAny_tests_nil ⟨H,I,h⟩
theorem z1k {X:Cx}{c:Expr}{t:TT}(h:PT X c t):z38 X [c] t:=λ pins s σ H Q I q=>wpAny_tests_one (h pins s σ H Q I q)
theorem Inv.adopt {X:Cx}{pins:List (Addr×Obj)}{σ:St}{H:Hp}{s:Shared}{D:Addr}{o:HO}(I:Inv X pins σ H s) (f:FpOk X pins H D) (new:K6 X.prog X.w (upd H D o) s.heap D o):Inv X pins σ (upd H D o) s:=by
 obtain ⟨hn,f1,f2,f3,f4,f5⟩:=f
 refine I.step (g':=s.gens) (d':=s.drawn) (t':=s.toks) (h':=s.heap) (ch:=[D]) (λ b hb=>?_) (λ b o o_ o_ o_ e o_=>e) (λ b o o_ o_ o_ e o_=>⟨o.slots,e⟩) (λ b o' hb o_ n=>?_) (λ b o o_ e=>⟨o,e⟩)
  (λ b xs q=>by rw [upd_ne (J4 q hn)];exact q) (λ b u xs q=>by rw [upd_ne (J4 q hn)];exact q) (λ b ps q=>⟨#[],by rw [upd_ne (J4 q hn),q];simp⟩) (λ o_ o_ o_ o_ e=>e) (λ m hm=>hm) (λ b u e=>?_) I.bare
 ·have e:b=D:=by simpa using hb
  subst e
  exact ⟨f3,f1,f4,f5⟩
 ·rw [upd_ne (by simpa using hb)];exact n
 ·by_cases hb:b=D
  ·subst hb;rw [j0] at e;cases e;exact new
  ·rw [upd_ne hb] at e
   exact (I.hok b u e).stay (λ c v o_ q=>q) (λ c q=>by rw [upd_ne (J4 q hn)];exact q) λ c xs q=>by rw [upd_ne (J4 q hn)];exact q
noncomputable def q1y (caps:q49) (σ:St) (tt:CArg->TT) (te:CArg->TE) (J:It) (H1:Hp) (F:List V->Hp->Prop):Prop :=
 ∃ W:Nat->Nat->List V->Hp->Prop,(∃ m,W 0 m [] H1)/\∀ z i m ys H,W i m ys H ->
  (J.stop i H/\F ys H) \/
  (J.go i H/\∃ N:List V->Hp->Prop,(∀ ys' H',N ys' H'->∃ m',m'<m/\W (i+1) m' ys' H')/\∀ x H',J.yld i H x H'->tt z (some x::capσ caps σ) H' λ b H3=>if b=true then te z (some x::capσ caps σ) H3 λ v H4=>ys.length<sizeLine/\N (ys++[v]) H4
   else N ys H3)
noncomputable def z39 (caps:q49) (wi:TI) (tt:CArg->TT) (te:CArg->TE):TE:=λ σ H Q=>wi σ H λ J H1 =>
 q1y caps σ tt te J H1 λ ys H2=>∀ p,H2 p=none->Q (.ref p) (upd H2 p (.lst ys))
section
variable {X:Cx}{x:Str}{caps:q49}{elt iter:Expr}{ifs:List Expr}{sc:Scope}{px pos:Pos}{wi:TI}{tt:CArg->TT}{te:CArg->TE}
theorem z59 {pins:List (Addr×Obj)}{σ:St}{H:Hp}{s:Shared}{fp:List Addr}{C:Addr}{xe:Value->Shared->Prop}(k:CompOk X x caps sc) (I:Inv X pins σ H s) (f:∀ b∈fp,FpOk X pins H b) (fl:∀ b∈fp,b<s.heap.objs.size) (hC:s.heap.objs.size<=C) :
 (cxC X x caps sc ⟨C,s,H,fp,xe⟩).Ok:=by
 have hfree:∀ p∈sc.names,p.2=.free->∃ c,X.env.cells.lookup p.1=some c:=λ p hp e=>I.ok.has p.1 (k.free p hp e)
 refine ⟨I.ok.mod,k.kind,I.ok.glob,I.ok.blt,hC,λ a b c ha hb=>?_,λ a ha=>?_,(λ o_ o_ z=>nomatch z),I.ok.hd,I.ok.frames,.inl rfl,λ b hb=>⟨N12 (N0n (fl b hb) hC),λ y c e=>?_⟩,I.bs,N0v I.ok.bsz I.sz,λ b o e hb=>?_,λ b hb z=>?_,I.stack,I.stkFree⟩
 ·exact I.ok.inj a b c (q16 hfree ha) (q16 hfree hb)
 ·have e:sc.names.lookup a=some .free:=q2b (env:=X.env) k.nocell ha
  obtain ⟨c,hc⟩:=hfree (a,.free) (q0j e) rfl
  exact ⟨c,q74 e hc⟩
 ·exact (f b hb).2.2.2.2.1 y c (q16 hfree e)
 ·rcases (f b hb).2.2.2.1 with z | z
  ·exact I.ok.noex b o e z
  ·exact absurd (N0n (N1p (I.ok.bs b o e).1) z) (N1a _)
 ·rcases N0c.mp (I.stkSub b z) with e | e
  ·exact (f b hb).2.1 e
  ·exact (f b hb).2.2.1 e
theorem z1l {pins:List (Addr×Obj)}{σ:St}{H:Hp}{s:Shared}{h1:Heap}{t1:Nat}{fp:List Addr}{C:Addr}{xe:Value->Shared->Prop}{m:Str->Option Value}(k:CompOk X x caps sc) (I:Inv X pins σ H s) (f:∀ b∈fp,FpOk X pins H b) (fl:∀ b∈fp,b<s.heap.objs.size) (hC:s.heap.objs.size<=C)
 (old:∀ b o,s.heap.get? b=some o->h1.get? b=some o) (hn:h1.Ns C m):Inv (cxC X x caps sc ⟨C,s,H,fp,xe⟩) [] (none::capσ caps σ) H { s with heap:=h1,toks:=t1 }:=by
 have hfree:∀ p∈sc.names,p.2=.free->∃ c,X.env.cells.lookup p.1=some c:=λ p hp e=>I.ok.has p.1 (k.free p hp e)
 refine ⟨z59 k I f fl hC,rfl,I.bare,Un.kept old,⟨m,hn,λ i y v e1 e2 e3=>?_⟩,λ y c e=>?_,I.hok.fresh hC,λ y c e=>I.freeC y c (q16 hfree e),(λ p hp=>(N1d (show p∈([]:List (Addr×Obj)) from hp)).elim),I.hok.kept old,by simp [capσ]⟩
 ·cases i with
  | zero=>cases e2
  | succ i =>
   have e1:(caps.map (·.1))[i]? = some y:=e1
   have e2:(capσ caps σ)[i]? = some (some v):=e2
   rw [N0i] at e1
   unfold capσ at e2
   rw [N0i] at e2
   cases ec:caps[i]? with
   | none=>rw [ec] at e1;cases e1
   | some c =>
    rw [ec] at e1 e2
    have e1:c.1=y:=N0b e1
    have e2:(σ[c.2]?).join=some v:=N0b e2
    subst e1
    have e2':σ[c.2]? = some (some v):=by
     cases q:σ[c.2]? with
     | none=>rw [q] at e2;cases e2
     | some q'=>rw [q] at e2;have:q'=some v:=e2;rw [this]
    obtain ⟨k1,k2,k3⟩:=k.cap c (N0u ec)
    obtain ⟨m0,hm0,hl⟩:=I.loc
    obtain ⟨u,ru,lk⟩:=hl c.2 c.1 v k1 e2' (.inr k3)
    refine ⟨u,ru,?_⟩
    rcases lk with ⟨z,_⟩ | ⟨_,a,ha,hcell⟩
    ·rw [z] at k3;rcases k3 with k3 | k3<;>cases k3
    ·exact .inr ⟨q2a k2,a,q74 k2 ha,hcell.keeps old⟩
 ·obtain ⟨v,hv⟩:=I.cell y c (q16 hfree e)
  exact ⟨v,hv.keeps old⟩
noncomputable abbrev lsO (its:List Value) (q:Nat):Obj:={ cls:=.type "list",data:=.seq its.toArray q }
theorem q6e {XE:Addr->Addr->Value->Shared->Prop}{G:CArg->Prop}{pins:List (Addr×Obj)}{σ:St}{s:Shared}{itv:Value}{F:List V->Hp->Prop}{RR:Value->Addr->Result->Shared->Prop}(k:CompOk X x caps sc) (hc:X.calm=true) (ht:∀ z,G z->z38 (cxC X x caps sc z) ifs (tt z)) (he:∀ z,G z->PE (cxC X x caps sc z) elt (te z))
 (hXE:∀ D C e s',XE D C e s'->notedBy (model X.prog X.w) X.A (compEnvC sc (clOf sc X.env) C X.env) (λ e s''=>RR (.ref D) C (.error e) s'') e s')
 (hG:∀ D C fp H2,Inv X pins σ H2 s->(∀ b∈fp,FpOk X pins H2 b)->(∀ b∈fp,b<s.heap.objs.size)->s.heap.objs.size<=C->G ⟨C,s,H2,fp,XE D C⟩)
 (h2:PIE X pins σ (.Name x px) (λ J H1=>q1y caps σ tt te J H1 F) itv s)
 (hRR:∀ D C s' H' ys m oC,Inv X (pins++[(C,oC)]) σ (upd H' D (.lst ys)) s'->H' D=none->F ys H'->s'.heap.get? C=some oC->s'.heap.Ns C m->FpOk X pins (upd H' D (.lst ys)) C->RR (.ref D) C (.ok .next) s') :
 wpAny (model X.prog X.w) X.A (newList []) (λ acc s₃=>wpAny (model X.prog X.w) X.A (newFunctionEnv sc X.env.globals (clOf sc X.env) [] X.env.qual none .none (some X.env)) (λ cenv s₄ =>
  codeAny (model X.prog X.w) X.A (.compStart (.ListComp elt [⟨.Name x px,iter,ifs,0⟩] sc pos) 0 itv acc { cenv with scope:=relabel sc X.env }) (RR acc cenv.locals) s₄) X.xe s₃) X.xe s:=by
 obtain ⟨it,fp,tn,J,H2,rfl,I2,T,st2,f2,W,⟨m0,w0⟩,turn⟩:=h2
 have fl:∀ b∈fp,b<s.heap.objs.size:=λ b hb=>let ⟨o,e,_⟩:=T.obj _ _ st2 b hb;N1p e
 refine wpAny_newObj_type (wpAny_newFunctionEnv k.nocell (by intro y hy;simp at hy) (λ h₁ hns₁ hsb₁=>?_) k.kind)
 dsimp only at hns₁ hsb₁ ⊢
 generalize hH2:s.heap.push { cls:=.type "list",dict:=none,data:=.seq ([]:List Value).toArray }=G2 at hns₁ hsb₁ ⊢
 have hC:G2.objs.size=s.heap.objs.size+1:=by rw [<- hH2,Heap.size_push]
 have hDC:s.heap.objs.size≠G2.objs.size:=by rw [hC];exact N12 (Nat.lt_succ_self _)
 have hCle:s.heap.objs.size<=G2.objs.size:=by rw [hC];exact Nat.le_succ _
 have below:∀ b,b<s.heap.objs.size->b≠G2.objs.size:=λ b hb=>by rw [hC];exact N12 (Nat.lt_succ_of_lt hb)
 have old:∀ b o,s.heap.get? b=some o->h₁.get? b=some o:=λ b o e=>hsb₁.extBut b o (below b (N1p e)) (N1o _ (hH2▸N1o _ e))
 have hacc:h₁.get? s.heap.objs.size=some { cls:=.type "list",data:=.seq ([]:List Value).toArray 0 }:=hsb₁.extBut _ _ hDC (N1o _ (hH2▸N1q _ rfl))
 generalize hCe:G2.objs.size=C at *
 generalize hDe:s.heap.objs.size=D at *
 have g:G ⟨C,s,H2,fp,XE D C⟩:=hG D C fp H2 I2 f2 fl hCle
 have I4:=z1l (xe:=XE D C) (t1:=s.toks+([]:List (Str×Value)).length) k I2 f2 (λ b hb=>by rw [hDe];exact fl b hb) (C:=C) (by rw [hDe];exact hCle) old hns₁
 have st4:tn 0 h₁:=T.keep _ _ _ st2 λ b o_ o e=>old b o e
 have nfpD:∀ b∈fp,D≠b:=λ b hb=>Nat.ne_of_gt (fl b hb)
 have FP:∀ {H':Hp}{pn:List (Addr×Obj)},(∀ b∈fp,H' b=none)->(∀ p∈pn,p.1=D)->∀ b∈fp,FpOk (cxC X x caps sc ⟨C,s,H2,fp,XE D C⟩) pn H' b:=λ hn hp b hb =>
  ⟨hn b hb,N12 (N0n (fl b hb) hCle),I4.ok.exfs b hb,.inl hb,(I4.ok.exf b hb).2,λ p hp' z=>nfpD b hb ((hp p (by simpa using hp')).symm.trans z)⟩
 have nCellD:∀ y c,(clOf sc X.env).lookup y=some c->c≠D:=λ y c e z=>by
  obtain ⟨v,q⟩:=I2.cell y c (q16 (λ p hp e=>I2.ok.has p.1 (k.free p hp e)) e)
  have:=q.lt
  rw [z,hDe] at this
  exact N1a _ this
 have nfsD:D∉frs X.stack:=λ z=>by
  rcases N0c.mp (I2.stkSub D z) with e | e
  ·have:=I2.lt
   rw [<- e,hDe] at this
   exact N1a _ this
  ·exact I2.nofs (a:=D) (by rw [hDe];exact N07 _) e
 have pinD:∀ {σ':St}{H':Hp}{s':Shared}{oD:Obj},Inv (cxC X x caps sc ⟨C,s,H2,fp,XE D C⟩) [] σ' H' s'->s'.heap.get? D=some oD->H' D=none->(∀ v,oD.data≠.cell v)->Inv (cxC X x caps sc ⟨C,s,H2,fp,XE D C⟩) [(D,oD)] σ' H' s':=λ I e n d =>
  I.pins_of λ p hp=>by
   have e':=N0f.mp hp
   rw [e']
   exact ⟨e,n,hDC,nfsD,d⟩
 have hD0:H2 D=none:=I2.hok.fresh (by rw [hDe];exact N07 _)
 obtain ⟨IV,hIV⟩:∃ IV:Nat->Shared->Prop,∀ n s',IV n s'↔∃ i o ys H' its q,Inv (cxC X x caps sc ⟨C,s,H2,fp,XE D C⟩) [] (o::capσ caps σ) H' s'/\tn i s'.heap/\(∀ b∈fp,H' b=none)/\W i n ys H'/\ys.length<=sizeLine/\Vals ys its/\s'.heap.get? D=some (lsO its q)/\H' D=none:=⟨_,λ o_ o_=>Iff.rfl⟩
 have loop:∀ s₃:Shared,s₃={ s with heap:=h₁,toks:=s.toks+([]:List (Str×Value)).length } ->
  codeAny (model X.prog X.w) X.A (.compLoop (.ListComp elt [⟨.Name x px,iter,ifs,0⟩] sc pos) 0 (.ref it) (.ref D) (compEnvC sc (clOf sc X.env) C X.env)) (RR (.ref D) C) s₃:=by
  rintro s₃ rfl
  refine q5f (XE D C) (hXE D C) IV ?_ m0 ((hIV _ _).2 ⟨0,none,[],H2,[],0,I4,st4,λ b hb=>(f2 b hb).1,w0,N1b _,.nil,hacc,hD0⟩)
  intro n s' h'
  obtain ⟨i,o,ys,H',its,q,I',st',fr',w',hz,rv,eD,nD⟩:=(hIV _ _).1 h'
  have Ip:=pinD I' eD nD (by intro v z;cases z)
  have pD:∀ p∈[((D,(lsO its q)):Addr×Obj)],p.1=D:=λ p hp=>by
   rw [N0f.mp hp]
  rcases turn ⟨C,s,H2,fp,XE D C⟩ i n ys H' w' with ⟨stop,qF⟩ | ⟨go,N,hN,step⟩
  ·refine N0p (T.done (cxC X x caps sc ⟨C,s,H2,fp,XE D C⟩) rfl rfl rfl hc i _ s' _ H' (XE D C) Ip (FP fr' pD) st' stop) (λ r s4 hx_=>?_) λ o_ o_ z=>z
   obtain ⟨hr,I5⟩:=hx_
   subst hr
   show RR (.ref D) C (.ok .next) s4
   have eD4:=(I5.pin (D,(lsO its q)) (N05 _ (N0f.mpr rfl))).1
   have chk:∀ b∈fp,(b∈X.ex\/X.s₀.heap.objs.size<=b)/\b≠X.env.locals/\(∀ x c,X.env.cells.lookup x=some c->c≠b)/\∀ p∈X.pn++pins,p.1≠b:=λ b hb=>⟨(f2 b hb).2.2.2.1,(f2 b hb).2.1,(f2 b hb).2.2.2.2.1,(f2 b hb).2.2.2.2.2⟩
   have J5:Inv X pins σ H' s4:=I2.call' (ch:=fp) I5.os I5.base I5.hok I5.bare chk
   have fD:FpOk X pins H' D:=I2.fpOk (by rw [hDe];exact N07 _) nD
   have J6:Inv X pins σ (upd H' D (.lst ys)) s4:=J5.adopt fD ⟨hz,its,q,rv,eD4⟩
   obtain ⟨mC,⟨oC,es,ep,hoC,hdC,rC⟩,_⟩:=I5.loc
   have nC:H' C=none:=I5.free
   have fC:FpOk X pins (upd H' D (.lst ys)) C:=I2.fpOk (by rw [hDe];exact hCle) (by rw [upd_ne (N1f hDC)];exact nC)
   refine hRR D C s4 H' ys mC oC ?_ nD qF hoC ⟨oC,es,ep,hoC,hdC,rC⟩ fC
   refine J6.pins_of λ p hp=>(N0a.mp hp).elim (λ z=>J6.pin p (N05 _ z)) λ z=>?_
   rw [N0f.mp z]
   exact ⟨hoC,fC.1,fC.2.1,fC.2.2.1,λ v z=>by rw [hdC] at z;cases z⟩
  ·refine N0p (T.item (cxC X x caps sc ⟨C,s,H2,fp,XE D C⟩) rfl rfl rfl hc i _ s' _ H' (XE D C) Ip (FP fr' pD) st' go) (λ r s4 hx_=>?_) λ o_ o_ z=>z
   obtain ⟨u,hr,h4⟩:=hx_
   subst hr
   refine N0p h4 (λ o1_ s5 hx_=>?_) λ o_ o_ z=>z
   obtain ⟨y,H5,I5,r5,y5,st5,fr5⟩:=hx_
   have I5':=I5.pinned (FP fr5 pD) (T.obj _ _ st5)
   have hx:Loc (cxC X x caps sc ⟨C,s,H2,fp,XE D C⟩).env.scope x:=.inl (lookup_relabel_local k.own)
   refine N0p ((q0K (X:=cxC X x caps sc ⟨C,s,H2,fp,XE D C⟩) (i:=0) (pos:=px) k.nd rfl hx (.inr (lookup_relabel_local k.own))) _ s5 _ H5 y u (λ σ6 H6=>σ6=some y::capσ caps σ/\H6=H5) I5' r5 ⟨rfl,rfl⟩) (λ o1_ s6 hx_=>?_) λ o_ o_ z=>z
   obtain ⟨σ6,H6,I6,e6,e6'⟩:=hx_
   subst e6 e6'
   have keepT:∀ {σ7:St}{H7:Hp}{s7:Shared},Inv (cxC X x caps sc ⟨C,s,H2,fp,XE D C⟩) ([(D,(lsO its q))]++q4Z fp s5.heap) σ7 H7 s7 ->
    tn (i+1) s7.heap/\(∀ b∈fp,H7 b=none)/\s7.heap.get? D=some (lsO its q)/\H7 D=none:=λ {σ7 H7 s7} I7=>by
    refine ⟨T.keep _ _ _ st5 λ b hb o e=>(I7.pin (b,o) (N05 _ (N05 _ (q15 hb e)))).1,λ b hb=>?_,(I7.pin (D,(lsO its q)) (N05 _ (N0w _ (N0f.mpr rfl)))).1,(I7.pin (D,(lsO its q)) (N05 _ (N0w _ (N0f.mpr rfl)))).2.1⟩
    obtain ⟨o,e,d⟩:=T.obj _ _ st5 b hb
    exact (I7.pin (b,o) (N05 _ (N05 _ (q15 hb e)))).2.1
   refine N0p (ht ⟨C,s,H2,fp,XE D C⟩ g _ s6 _ _ _ I6 (step y _ y5)) (λ ok s7 hx_=>?_) λ o_ o_ z=>z
   obtain ⟨H7,I7,q7⟩:=hx_
   cases ok with
   | false =>
    have q7:N ys H7:=by
     have q7':=q7
     rw [N0l N0d] at q7'
     exact q7'
    rw [N0l N0d]
    obtain ⟨m',hm,w7⟩:=hN ys H7 q7
    obtain ⟨k1,k2,k3,k4⟩:=keepT I7
    exact ⟨m',hm,(hIV _ _).2 ⟨i+1,some y,ys,H7,its,q,I7.pins_of (λ p hp=>(N1d hp).elim),k1,k2,w7,hz,rv,k3,k4⟩⟩
   | true =>
    rw [N0j rfl] at q7
    rw [N0j rfl]
    refine N0p (he ⟨C,s,H2,fp,XE D C⟩ g _ s7 _ H7 _ I7 q7) (λ v s8 hx_=>?_) λ o_ o_ z=>z
    obtain ⟨v',H8,I8,r8,hz8,n8⟩:=hx_
    obtain ⟨m',hm,w8⟩:=hN _ H8 n8
    obtain ⟨k1,k2,k3,k4⟩:=keepT I8
    have hl:=rv.length
    refine call_meets PySem.F.slot_list_append ⟨_,k3,rfl⟩ PySem.F.entry_list_append (PySem.F.args_list_append_2 _ _) (PySem.list_append D its.toArray q v (by rw [N0m];simp_all)) ⟨k3,?_⟩
    have q8:=IsL.update k3 (λ a:Array Value=>a.push v)
    have q9:its.toArray.push v=(its++[v]).toArray:=by simp
    simp only [q9] at q8
    have eo:∀ b o,b≠D->s8.heap.get? b=some o->(s8.heap.update D (Obj.mapSeq λ a:Array Value=>a.push v)).get? b=some o:=λ b o hb e=>(Heap.get?_update_other s8.heap _ (N1f hb)).trans e
    have I9:Inv (cxC X x caps sc ⟨C,s,H2,fp,XE D C⟩) [] (some y::capσ caps σ) H8 s8:=I8.pins_of (λ p hp=>(N1d hp).elim)
    refine ⟨m',hm,(hIV _ _).2 ⟨i+1,some y,ys++[v'],H8,its++[v],(if ((its++[v]).toArray.size==its.toArray.size)=true then q else q+1),I9.turned (it:=D) (t':=s8.toks) eo k4 hDC (.inr (by show s.heap.objs.size<=D;rw [hDe];exact N07 _)) nCellD (λ p hp=>(N1d (show p∈([]:List (Addr×Obj)) from hp)).elim),
     T.keep _ _ _ k1 λ b hb o e=>eo b o (N1f (nfpD b hb)) e,k2,w8,by rw [N06,N11];assumption,rv.append (.cons r8 .nil),q8,k4⟩⟩
 exact codeAny_compStart_list (loop _ rfl) (T.self _ 0 _ _ _ st4 (loop _ rfl))
theorem q3z {pins:List (Addr×Obj)}{σ:St}{s:Shared}{itv:Value}{F:List V->Hp->Prop}{RR:Value->Addr->Result->Shared->Prop}(k:CompOk X x caps sc) (hc:X.calm=true) (ht:∀ z,z38 (cxC X x caps sc z) ifs (tt z)) (he:∀ z,PE (cxC X x caps sc z) elt (te z))
 (h2:PIE X pins σ (.Name x px) (λ J H1=>q1y caps σ tt te J H1 F) itv s)
 (hRR:∀ D C s' H' ys m oC,Inv X (pins++[(C,oC)]) σ (upd H' D (.lst ys)) s'->H' D=none->F ys H'->s'.heap.get? C=some oC->s'.heap.Ns C m->FpOk X pins (upd H' D (.lst ys)) C->RR (.ref D) C (.ok .next) s') :
 wpAny (model X.prog X.w) X.A (newList []) (λ acc s₃=>wpAny (model X.prog X.w) X.A (newFunctionEnv sc X.env.globals (clOf sc X.env) [] X.env.qual none .none (some X.env)) (λ cenv s₄ =>
  codeAny (model X.prog X.w) X.A (.compStart (.ListComp elt [⟨.Name x px,iter,ifs,0⟩] sc pos) 0 itv acc { cenv with scope:=relabel sc X.env }) (RR acc cenv.locals) s₄) X.xe s₃) X.xe s :=
 q6e (XE:=λ o_ o_ o_ o_=>False) (G:=λ o_=>True) k hc (λ z o_=>ht z) (λ z o_=>he z) (λ o_ o_ o_ o_ z=>z.elim) (λ o_ o_ o_ o_ o_ o_ o_ o_=>trivial) h2 hRR
theorem q6f (hk:q1k X.env.scope sc X.N x caps=true) (hc:X.calm=true) (hi:PI X (.Name x px) iter wi) (ht:∀ z,z38 (cxC X x caps sc z) ifs (tt z)) (he:∀ z,PE (cxC X x caps sc z) elt (te z))
 (hs:∀ v,foldedSetIterable iter X.env v=pure v:=by intro _;rfl):PE X (.ListComp elt [⟨.Name x px,iter,ifs,0⟩] sc pos) (z39 caps wi tt te):=by
 intro pins s σ H Q I h
 have k:=q5g hk
 rw [eval_ListComp]
 refine wpAny_comprehension_free (use:=none) (cl:=clOf sc X.env) rfl hs (q1x λ p hp e=>I.ok.has p.1 (k.free p hp e)) k.kind k.names (N0p (hi pins s σ H _ I h) (λ v s1 h1=>N0p h1 (λ itv s2 h2=>?_) λ o_ o_ e=>e) λ o_ o_ e=>e)
 refine q3z (RR:=λ acc C=>compPost (model X.prog X.w) X.A X.xe none (EP X pins σ Q) acc C) k hc ht he h2 ?_
 intro D C s' H' ys m oC I' nD qF hoC hn fC
 refine ⟨m,hn,λ h' hs'=>⟨.ref D,upd H' D (.lst ys),?_,rfl,qF D nD⟩⟩
 exact I'.unpinned.turned (it:=C) (t':=s'.toks) (λ b o hb e=>hs'.extBut b o hb e) fC.1 fC.2.1 fC.2.2.2.1 fC.2.2.2.2.1 fC.2.2.2.2.2
theorem z3a {y:Str}{i:Nat}{py spos:Pos}(hN:X.N.Nodup) (hi':X.N[i]? = some y) (hy:Loc X.env.scope y) (hk:q1k X.env.scope sc X.N x caps=true) (hc:X.calm=true) (hi:PI X (.Name x px) iter wi) (ht:∀ z,z38 (cxC X x caps sc z) ifs (tt z)) (he:∀ z,PE (cxC X x caps sc z) elt (te z))
 (hsw:swapsWith (.ListComp elt [⟨.Name x px,iter,ifs,0⟩] sc pos) (some (.Name y py)) spos.line X.env=pure true:=by rfl)
 (hs:∀ v,foldedSetIterable iter X.env v=pure v:=by intro _;rfl) (hf:X.fn y=true\/X.env.scope.names.lookup y=some .local:=by nofun) :
 PS X (.Assign [.Name y py] (.ListComp elt [⟨.Name x px,iter,ifs,0⟩] sc pos) spos) (z6h (z39 caps wi tt te) (q7S i)):=by
 intro pins s σ H D I h
 have k:=q5g hk
 rw [exec_Assign_Name_used _ _ _ _ hsw]
 refine N03 (wpAny_standAt (N03 ?_))
 show wpAny _ X.A (do let _ <- comprehension (.ListComp elt [⟨.Name x px,iter,ifs,0⟩] sc pos) sc X.env _ (newList []) false (eval iter X.env) (some (assign (.Name y py) X.env))) _ _ s
 refine N03 (N0p (wpAny_comprehension_free (use:=some (assign (.Name y py) X.env)) (Q:=λ o_ s'=>SP X pins D .next s') (cl:=clOf sc X.env) rfl hs (q1x λ p hp e=>I.ok.has p.1 (k.free p hp e)) k.kind k.names
  (N0p (hi pins s σ H _ I h) (λ v s1 h1=>N0p h1 (λ itv s2 h2=>?_) λ o_ o_ e=>e) λ o_ o_ e=>e)) (λ o_ s' hq=>N0y (N0y hq)) λ o_ o_ e=>e)
 refine q3z (RR:=λ acc C=>compPost (model X.prog X.w) X.A X.xe (some (assign (.Name y py) X.env)) (λ o_ s'=>SP X pins D .next s') acc C) k hc ht he h2 ?_
 intro D' C s' H' ys m oC I' nD qF hoC hn fC
 show wpAny _ X.A (assign (.Name y py) X.env (.ref D')) _ _ _
 refine N0p ((q0K (pos:=py) hN hi' hy hf) _ s' σ _ (.ref D') (.ref D') (λ σ2 H2=>D.nx σ2 H2/\H2=upd H' D' (.lst ys)) I' rfl ⟨qF D' nD,rfl⟩) (λ o1_ s2 hx_=>?_) λ o_ o_ e=>e
 obtain ⟨σ2,H2,I2,q2,e2⟩:=hx_
 have hC2:=(I2.pin (C,oC) (N05 _ (N05 _ (N0f.mpr rfl)))).1
 obtain ⟨o',es,ep,ho',r⟩:=hn
 rw [hoC] at ho';cases ho'
 subst e2
 exact ⟨m,⟨_,es,ep,hC2,r⟩,λ h3 hs3=>⟨σ2,_,I2.unpinned.turned (it:=C) (t':=s2.toks) (λ b o hb e=>hs3.extBut b o hb e) fC.1 fC.2.1 fC.2.2.2.1 fC.2.2.2.2.1 fC.2.2.2.2.2,q2⟩⟩
end
section
variable {caps:q49}{σ:St}{tt:CArg->TT}{te:CArg->TE}{H1:Hp}{F:List V->Hp->Prop}
theorem q9l {K:W.Frag}{a:Addr}{xs:List V}(Pv:Nat->List V->Hp->Prop) (h0:Pv 0 [] H1) (hl:∀ i ys H,i<=xs.length->Pv i ys H->SqL K H a xs)
 (hs:∀ z i x ys H,xs[i]? = some x->Pv i ys H->tt z (some x::capσ caps σ) H λ b H3=>if b=true then te z (some x::capσ caps σ) H3 λ v H4=>ys.length<sizeLine/\Pv (i+1) (ys++[v]) H4 else Pv (i+1) ys H3)
 (hd:∀ ys H,Pv xs.length ys H->F ys H):q1y caps σ tt te (Itl K a) H1 F:=by
 refine ⟨λ i m ys H=>m=xs.length - i/\i<=xs.length/\Pv i ys H,⟨xs.length,by simp,N1b _,h0⟩,?_⟩
 rintro z i m ys H ⟨rfl,hi,p⟩
 have q:=hl i ys H hi p
 by_cases hlt:i<xs.length
 ·refine .inr ⟨⟨xs,xs[i],q,by simp [hlt]⟩,Pv (i+1),λ ys' H' p'=>⟨xs.length - (i+1),by omega,rfl,hlt,p'⟩,λ x H' y=>?_⟩
  obtain ⟨e,y⟩:=y
  subst e
  exact hs z i x ys _ (y xs q) p
 ·have e:i=xs.length:=by lia
  subst e
  exact .inl ⟨⟨xs,q,N07 _⟩,hd ys H p⟩
theorem z1m {K:W.Frag}{a:Addr}{xs:List V}(Pv:Nat->List V->Hp->Prop) (h0:Pv 0 [] H1) (hl:∀ i ys H,i<=xs.length->Pv i ys H->SqT K H a xs)
 (hs:∀ z i x ys H,xs[i]? = some x->Pv i ys H->tt z (some x::capσ caps σ) H λ b H3=>if b=true then te z (some x::capσ caps σ) H3 λ v H4=>ys.length<sizeLine/\Pv (i+1) (ys++[v]) H4 else Pv (i+1) ys H3)
 (hd:∀ ys H,Pv xs.length ys H->F ys H):q1y caps σ tt te (Itt K a) H1 F:=by
 refine ⟨λ i m ys H=>m=xs.length - i/\i<=xs.length/\Pv i ys H,⟨xs.length,by simp,N1b _,h0⟩,?_⟩
 rintro z i m ys H ⟨rfl,hi,p⟩
 have q:=hl i ys H hi p
 by_cases hlt:i<xs.length
 ·refine .inr ⟨⟨xs,xs[i],q,by simp [hlt]⟩,Pv (i+1),λ ys' H' p'=>⟨xs.length - (i+1),by omega,rfl,hlt,p'⟩,λ x H' y=>?_⟩
  obtain ⟨e,y⟩:=y
  subst e
  exact hs z i x ys _ (y xs q) p
 ·have e:i=xs.length:=by lia
  subst e
  exact .inl ⟨⟨xs,q,N07 _⟩,hd ys H p⟩
theorem q85 {lo:Int}{n:Nat}(Pv:Nat->List V->Hp->Prop) (h0:Pv 0 [] H1)
 (hs:∀ z i ys H,i<n->Pv i ys H->tt z (some (.int (lo+i))::capσ caps σ) H λ b H3=>if b=true then te z (some (.int (lo+i))::capσ caps σ) H3 λ v H4=>ys.length<sizeLine/\Pv (i+1) (ys++[v]) H4 else Pv (i+1) ys H3)
 (hd:∀ ys H,Pv n ys H->F ys H):q1y caps σ tt te (Itr lo n) H1 F:=by
 refine ⟨λ i m ys H=>m=n - i/\i<=n/\Pv i ys H,⟨n,by simp,N1b _,h0⟩,?_⟩
 rintro z i m ys H ⟨rfl,hi,p⟩
 by_cases hlt:i<n
 ·refine .inr ⟨hlt,Pv (i+1),λ ys' H' p'=>⟨n - (i+1),by omega,rfl,hlt,p'⟩,λ x H' y=>?_⟩
  obtain ⟨e,y⟩:=y
  subst e y
  exact hs z i ys _ hlt p
 ·have e:i=n:=by lia
  subst e
  exact .inl ⟨N07 _,hd ys H p⟩
end
structure CompOk2 (X:Cx) (x x2:Str) (caps:q49) (sc:Scope):Prop where
 own:sc.names.lookup x=some .local
 own2:sc.names.lookup x2=some .local
 kind:sc.kind=.function
 nocell:∀ y∈sc.names,y.2≠.cell
 names:∀ y∈sc.names,y.2=.local->sc.names.lookup y.1=some .local
 free:∀ y∈sc.names,y.2=.free->X.env.kindOf y.1=some .cell\/X.env.kindOf y.1=some .free
 nd:(x::x2::caps.map (·.1)).Nodup
 cap:∀ c∈caps,X.N[c.2]? = some c.1/\sc.names.lookup c.1=some .free/\(X.env.kindOf c.1=some .cell\/X.env.kindOf c.1=some .free)
theorem q9m:∀ {xs:List V}{us:List Value},us.length=xs.length->(∀ (j:Nat) (u:Value),us[j]? = some u->∃ x,xs[j]? = some x/\y3 x u)->Vals xs us
 | [],[],_,_=>.nil
 | x::xs,u::us,hl,h=>by
  obtain ⟨y,e,r⟩:=h 0 u rfl
  have e:x=y:=N0b e
  subst e
  exact .cons r (q9m (by simpa using hl) λ j u hu=>by simpa using h (j+1) u (by simpa using hu))
 | [],_::_,hl,_=>by simp at hl
 | _::_,[],hl,_=>by simp at hl
theorem z7o {P:Program}{w:World}{k:Key}{u:Value}(h:(K3 P w).is k u=true):y3 (kV k) u:=by
 rcases keyIs_shape (show keyIs k u=true from h) with ⟨i,t,rfl,rfl⟩ | ⟨x,t,rfl,rfl⟩
 ·exact ⟨t,rfl⟩
 ·exact ⟨t,rfl⟩
theorem KV.key {kvs:List (Key×V)}{vs:List (Key×Value)}(r:KV kvs vs){j:Nat}{k:Key}{x:Value}(e:vs[j]? = some (k,x)):∃ v,kvs[j]? = some (k,v):=by
 have q:=congrArg (λ l=>l[j]?) r.keys
 simp only [N0i,e,Option.map_some] at q
 cases z:kvs[j]? with
 | none=>rw [z] at q;cases q
 | some p=>rw [z] at q;exact ⟨p.2,by rw [<- (N0b q:p.1=k)]⟩
noncomputable def keysV (kvs:List (Key×V)):List V:=kvs.map λ kv=>kV kv.1
section
variable {X:Cx}
theorem q3q (hc:X.calm=true):V2 X (.type "list") (λ xs H Q=>∃ a kvs,xs=[.ref a]/\H a=some (.dK kvs)/\∀ l,H l=none->Q (.ref l) (upd H l (.lst (keysV kvs)))):=by
 intro pins s σ H xs us Q I r h
 obtain ⟨a,kvs,rfl,ha,q⟩:=h
 obtain ⟨u,rfl,ru⟩:=q2F r
 cases ru
 obtain ⟨hz,hs,vs,rel,dd⟩:=z35 I.hok ha
 obtain ⟨ep,hat⟩:=dd.dictAt
 refine W.kdl_call (W.kdl_dict (knd:=K3 X.prog X.w) (kvs:=vs) (ep:=ep) hs) (I.ok.hd hc) hat (by rw [<- rel.length];exact hz) λ h' tk acc' c' hk hD hacc=>?_
 have hv:Vals (keysV kvs) acc'.toList:=by
  refine q9m ?_ λ j v hj=>?_
  ·rw [N0g,hacc.1,<- rel.length]
   unfold keysV
   rw [N01]
  ·obtain ⟨k,x,e1,e2⟩:=hacc.2 j v (by rw [<- Array.getElem?_toList];exact hj)
   obtain ⟨v',e3⟩:=rel.key e1
   refine ⟨kV k,?_,z7o e2⟩
   unfold keysV
   rw [N0i,e3]
   all_goals rfl
 have hl:(keysV kvs).length<=sizeLine:=by
  unfold keysV
  rw [N01]
  exact hz
 exact ⟨.ref s.heap.objs.size,_,I.laid (t':=tk) hk (N07 _) (show K6 X.prog X.w _ h' _ (.lst (keysV kvs)) from ⟨hl,acc'.toList,c',hv,by rw [hD,Array.toArray_toList]⟩),rfl,q _ I.fresh⟩
theorem z5a {bs:List Bool}{us:List Value}(r:Vals (bs.map V.bl) us){i:Nat}{v:Value}(e:us[i]? = some v):∃ b,bs[i]? = some b/\v=.bool b:=by
 have hl:=r.length
 rw [N01] at hl
 have hi:i<us.length:=(N04.mp e).1
 have hb:bs[i]? = some bs[i]:=N08 (by simp_all)
 obtain ⟨u,e',ru⟩:=r.get (i:=i) (x:=.bl bs[i]) (by rw [N0i,hb];rfl)
 rw [e] at e'
 cases e'
 exact ⟨_,hb,ru⟩
theorem q9n (bs:List Bool) (n:Nat) (h:n=bs.length):((List.range n).all λ i=>(bs[i]?).getD true)=bs.all id:=by
 subst h
 exact LSm.range_all bs
theorem q9o (bs:List Bool) (n:Nat) (h:n=bs.length):((List.range n).any λ i=>(bs[i]?).getD false)=bs.any id:=by
 subst h
 exact LSm.range_any bs
theorem V6 (hc:X.calm=true):V2 X (.builtin "all") (λ xs H Q=>∃ (a:Addr) (bs:List Bool),xs=[.ref a]/\SqL X.K H a (bs.map V.bl)/\Q (.bl (bs.all id)) H):=by
 intro pins s σ H xs us Q I r h
 obtain ⟨a,bs,rfl,ha,q⟩:=h
 obtain ⟨u,rfl,ru⟩:=q2F r
 cases ru
 obtain ⟨its,rv,pl,hz⟩:=I.list ha
 have hl:=pl.isList
 have hlt:a<s.heap.objs.size:=by
  obtain ⟨_,e,_⟩:=id hl
  exact N1p e
 refine call_all_walk (wpAny_pyIter_list hl ⟨s.heap.objs.size,[s.heap.objs.size,a],[s.heap.objs.size],its.toArray.size,_,_,λ i=>(bs[i]?).getD true,rfl,
  Walks.list (A:=X.A.in1) (I.ok.hd hc) _ a (N12 hlt) its.toArray,⟨⟨_,N1q _ rfl,rfl,rfl⟩,hl.push _⟩,λ i v s' Q' E' hP hQ=>?_,λ h' tk hk=>?_⟩)
 ·obtain ⟨b,e,rfl⟩:=z5a rv (by simpa using hP)
  simp only [e,Option.getD_some] at hQ
  exact wpAny_truthy_bool hQ
 ·rw [q9n bs _ (by rw [N0m,<- rv.length,N01])]
  exact ⟨.bl _,H,I.kept (LSm.kept_iter hk),rfl,q⟩
theorem q4a (hc:X.calm=true):V2 X (.builtin "any") (λ xs H Q=>∃ (a:Addr) (bs:List Bool),xs=[.ref a]/\SqL X.K H a (bs.map V.bl)/\Q (.bl (bs.any id)) H):=by
 intro pins s σ H xs us Q I r h
 obtain ⟨a,bs,rfl,ha,q⟩:=h
 obtain ⟨u,rfl,ru⟩:=q2F r
 cases ru
 obtain ⟨its,rv,pl,hz⟩:=I.list ha
 have hl:=pl.isList
 have hlt:a<s.heap.objs.size:=by
  obtain ⟨_,e,_⟩:=id hl
  exact N1p e
 refine call_any_walk (wpAny_pyIter_list hl ⟨s.heap.objs.size,[s.heap.objs.size,a],[s.heap.objs.size],its.toArray.size,_,_,λ i=>(bs[i]?).getD false,rfl,
  Walks.list (A:=X.A.in1) (I.ok.hd hc) _ a (N12 hlt) its.toArray,⟨⟨_,N1q _ rfl,rfl,rfl⟩,hl.push _⟩,λ i v s' Q' E' hP hQ=>?_,λ h' tk hk=>?_⟩)
 ·obtain ⟨b,e,rfl⟩:=z5a rv (by simpa using hP)
  simp only [e,Option.getD_some] at hQ
  exact wpAny_truthy_bool hQ
 ·rw [q9o bs _ (by rw [N0m,<- rv.length,N01])]
  exact ⟨.bl _,H,I.kept (LSm.kept_iter hk),rfl,q⟩
theorem q4b (hc:X.calm=true):V2 X (.builtin "sum") (λ xs H Q=>∃ (a:Addr) (ns:List Int),xs=[.ref a]/\SqL X.K H a (ns.map V.int)/\Q (.int ns.sum) H):=by
 intro pins s σ H xs us Q I r h
 obtain ⟨a,ns,rfl,ha,q⟩:=h
 obtain ⟨u,rfl,ru⟩:=q2F r
 cases ru
 obtain ⟨its,rv,pl,hz⟩:=I.list ha
 have hi:=q80 rv
 obtain ⟨xs,hx⟩:=hi.allInts.items
 have hl':s.heap.IsList a (intItems xs):=hx▸pl.isList
 refine sum_intListG (I.ok.hd hc) hl' λ h' tk t' hk=>?_
 have e1:ns=xs.toList.map (·.1):=by
  rw [<- nums_intItems,<- hx]
  exact (show numsOf its.toArray.toList=ns from hi.numsOf).symm
 rw [show preSum (numAt xs) xs.size=ns.sum by rw [preSum_eq,List.take_of_length_le (by simp),e1]]
 exact ⟨.int ns.sum,H,I.kept hk,⟨t',rfl⟩,q⟩
theorem z5b:SlR X (λ x lo hi H Q=>∃ z,x=.str z/\z.length<=sizeLine/\Q (.str (Txt.slice z lo hi)) H):=by
 intro pins s σ H x v vl vu lo hi sl Q I rx hs pl pu h
 obtain ⟨z,rfl,hz,q⟩:=h
 obtain ⟨t,rfl⟩:=rx
 refine ⟨"str",_,F.slot_str_getitem.lookup,typeIs_str _ _ _,?_⟩
 have fin:∀ t' k,EP X pins σ Q (.str (Txt.slice z lo hi) t') { s with toks:=k }:=λ t' k=>⟨.str _,H,I.tok k,⟨t',rfl⟩,q⟩
 have hle:=N0v (Txt.slice_le z lo hi) hz
 cases pl with
 | none=>cases pu with
  | none=>exact wpAny_getItem_str_slice (l:=none) (u:=none) (st:=none) hs rfl (post_val_or_str ⟨hle,fin⟩)
  | int j uj=>exact wpAny_getItem_str_slice (l:=none) (u:=some (j,uj)) (st:=none) hs rfl (post_val_or_str ⟨hle,fin⟩)
 | int i ui=>cases pu with
  | none=>exact wpAny_getItem_str_slice (l:=some (i,ui)) (u:=none) (st:=none) hs rfl (post_val_or_str ⟨hle,fin⟩)
  | int j uj=>exact wpAny_getItem_str_slice (l:=some (i,ui)) (u:=some (j,uj)) (st:=none) hs rfl (post_val_or_str ⟨hle,fin⟩)
theorem q6g:V2 X (.builtin "isinstance") (λ xs H Q=>∃ x n t b,xs=[x,.ty n]/\TyOf X.K H x t/\W.kitOne X.K t (.type n)=some b/\Q (.bl b) H):=by
 intro pins s σ H xs us Q I r h
 obtain ⟨x,n,t,b,rfl,ty,e,q⟩:=h
 obtain ⟨u,c,rfl,ru,rc⟩:=z7d r
 cases rc
 exact q93 I ru ty e λ tk=>⟨.bl b,H,I.tok tk,rfl,q⟩
end
noncomputable def Its (x:Str):It:=⟨λ i o_=>i<x.cps.size,λ i H v H'=>H'=H/\∃ c,x.cps[i]? = some c/\v=.str ⟨#[c]⟩,λ i o_=>x.cps.size<=i⟩
theorem z1n {P:Program}{w:World}{K:W.Frag}{tg:Expr}(it:Addr) (x:Str) (t:Tok):Turn P w K tg (Its x) [it] it (λ i h=>h.IsStrIter it "str_ascii_iterator" x t i) where
 mem:=by simp
 obj:=λ i h st b hb=>by
  have e:b=it:=by simpa using hb
  subst e
  obtain ⟨o,e,c,d⟩:=st
  exact ⟨o,e,λ v z=>by rw [d] at z;cases z⟩
 keep:=λ i h h' st k=>let ⟨o,ho,r⟩:=st;⟨o,k it (by simp) o ho,r⟩
 item:=by
  intro X hP hw hK hc i pins s σ H E I hf st hg
  subst hP hw hK
  obtain ⟨f0,f1,f2,f3,f4,f5⟩:=hf it (by simp)
  have hg:i<x.cps.size:=hg
  refine wpAny_pyNext_ascii_item st (c:=x.cps[i]) (by simp [hg]) λ h' st' sb=>?_
  have I1:Inv X pins σ H { s with heap:=h',toks:=s.toks+1 }:=I.turned (λ b o hb e=>(sb.2 b hb).trans e) f0 f1 f3 f4 f5
  obtain ⟨o,e,c,d⟩:=id st'
  exact ⟨_,rfl,q8P (s:={ s with heap:=h',toks:=s.toks+1 }) e c d (by decide) ⟨.str ⟨#[x.cps[i]]⟩,H,I1,⟨_,rfl⟩,⟨rfl,x.cps[i],by simp [hg],rfl⟩,st',λ b hb=>(hf b hb).1⟩⟩
 done:=by
  intro X hP hw hK hc i pins s σ H E I hf st hg
  subst hP hw hK
  obtain ⟨f0,f1,f2,f3,f4,f5⟩:=hf it (by simp)
  have hg:x.cps.size<=i:=hg
  exact wpAny_pyNext_ascii_end (I.ok.hd hc) st (by simp;omega) λ h' eb=>⟨rfl,I.turned (t':=s.toks) (λ b o hb e=>eb b o hb e) f0 f1 f3 f4 f5⟩
 self:=λ o_ o_ o_ o_ o_ st h=>wpAny_pyIter_striter_ascii st h
section
variable {X:Cx}{tg:Expr}
noncomputable def iStr (tl:TE):TI:=λ σ H R=>tl σ H λ x H1=>∃ z,x=.str z/\z.cps.all (· < 128)=true/\R (Its z) H1
theorem z5c {l:Expr}{tl:TE}(hl:PE X l tl):PI X tg l (iStr tl):=by
 intro pins s σ H R I h
 refine thx (hl pins s σ H _ I h) λ v s1 x H1 I1 r1 q1=>?_
 obtain ⟨z,e,ha,q⟩:=q1
 subst e
 obtain ⟨t,rfl⟩:=r1
 refine wpAny_pyIter_ascii ha ?_
 refine ⟨s1.heap.objs.size,[s1.heap.objs.size],_,_,H1,rfl,I1.kept (t':=s1.toks) λ b o e=>N1o _ e,z1n _ z t,⟨_,N1q _ rfl,rfl,rfl⟩,λ b hb=>?_,q⟩
 have e:b=s1.heap.objs.size:=by simpa using hb
 subst e
 exact I1.fpOk (N07 _) (I1.hok.fresh (N07 _))
end
theorem z3b {z:Str}{g:TG}{tb:TS}{D:Ends}{σ:L2.St}{H:Hp}(Pv:Nat->L2.St->Hp->Prop) (h0:Pv 0 σ H)
 (hs:∀ i c σ H,z.cps[i]? = some c->Pv i σ H->g (.str ⟨#[c]⟩) σ H λ σ2 H2=>tb { D with nx:=Pv (i+1),ct:=Pv (i+1),bk:=D.nx } σ2 H2) (hd:∀ σ H,Pv z.cps.size σ H->D.nx σ H) :
 ∃ W:Nat->Nat->L2.St->Hp->Prop,(∃ m,W 0 m σ H)/\∀ i m σ H,W i m σ H ->
  ((Its z).stop i H/\D.nx σ H)\/((Its z).go i H/\∃ N:L2.St->Hp->Prop,(∀ σ' H',N σ' H'->∃ m',m'<m/\W (i+1) m' σ' H')/\∀ x H',(Its z).yld i H x H'->g x σ H' λ σ2 H2=>tb { D with nx:=N,ct:=N,bk:=D.nx } σ2 H2):=by
 refine ⟨λ i m σ H=>m=z.cps.size - i/\i<=z.cps.size/\Pv i σ H,⟨z.cps.size,by simp,N1b _,h0⟩,?_⟩
 rintro i m σ H ⟨rfl,hi,p⟩
 by_cases hlt:i<z.cps.size
 ·refine .inr ⟨hlt,Pv (i+1),λ σ' H' p'=>⟨z.cps.size - (i+1),by omega,rfl,hlt,p'⟩,λ x H' y=>?_⟩
  obtain ⟨e,c,hc,y⟩:=y
  subst e y
  exact hs i c σ _ hc p
 ·have e:i=z.cps.size:=by lia
  subst e
  exact .inl ⟨N07 _,hd σ H p⟩
theorem z1o {z:Str}{caps:q49}{σ:L2.St}{tt:CArg->TT}{te:CArg->TE}{H1:Hp}{F:List V->Hp->Prop}(Pv:Nat->List V->Hp->Prop) (h0:Pv 0 [] H1)
 (hs:∀ q i c ys H,z.cps[i]? = some c->Pv i ys H->tt q (some (.str ⟨#[c]⟩)::capσ caps σ) H λ b H3=>if b=true then te q (some (.str ⟨#[c]⟩)::capσ caps σ) H3 λ v H4=>ys.length<sizeLine/\Pv (i+1) (ys++[v]) H4 else Pv (i+1) ys H3)
 (hd:∀ ys H,Pv z.cps.size ys H->F ys H):q1y caps σ tt te (Its z) H1 F:=by
 refine ⟨λ i m ys H=>m=z.cps.size - i/\i<=z.cps.size/\Pv i ys H,⟨z.cps.size,by simp,N1b _,h0⟩,?_⟩
 rintro q i m ys H ⟨rfl,hi,p⟩
 by_cases hlt:i<z.cps.size
 ·refine .inr ⟨hlt,Pv (i+1),λ ys' H' p'=>⟨z.cps.size - (i+1),by omega,rfl,hlt,p'⟩,λ x H' y=>?_⟩
  obtain ⟨e,c,hc,y⟩:=y
  subst e y
  exact hs q i c ys _ hc p
 ·have e:i=z.cps.size:=by lia
  subst e
  exact .inl ⟨N07 _,hd ys H p⟩
section
variable {X:Cx}
theorem q9p:OpR X (compareOp .LtE) (λ x y H Q=>∃ i j,x=.str i/\y=.str j/\Q (.bl (!decide (j.cps.toList<i.cps.toList))) H):=by
 intro pins s σ H x y v u Q I rx ry h
 obtain ⟨i,j,rfl,rfl,q⟩:=h
 obtain ⟨t,rfl⟩:=rx
 obtain ⟨t',rfl⟩:=ry
 exact P.le_str (fin_bl I q rfl)
theorem q9q:OpR X (compareOp .GtE) (λ x y H Q=>∃ i j,x=.str i/\y=.str j/\Q (.bl (!decide (i.cps.toList<j.cps.toList))) H):=by
 intro pins s σ H x y v u Q I rx ry h
 obtain ⟨i,j,rfl,rfl,q⟩:=h
 obtain ⟨t,rfl⟩:=rx
 obtain ⟨t',rfl⟩:=ry
 exact P.ge_str (fin_bl I q rfl)
end
noncomputable def Trc (ctx:Bool) (B:Heap) (e:Addr) (cls:Value) (h:Heap):Prop :=
 ∃ oe vs T oT ts fl,h.get? e=some oe/\oe.cls=cls/\oe.data=.fields vs/\vs[1]? = some (.ref T)/\B.get? T=none/\T≠e/\h.get? T=some oT/\oT.data=.fields ts/\ts[3]? = some fl/\(ctx=true->vs[2]? = some .none)
noncomputable def z8E (ctx:Bool) (B:Heap) (l:List Env) (e:Addr) (cls:Value) (h:Heap):Prop :=
 B.StaysIn h/\B.get? e=none/\h.FunFrames B l/\Trc ctx B e cls h
theorem K6.there {P:Program}{w:World}{H:Hp}{h:Heap}{a:Addr}{o:HO}(x:K6 P w H h a o):∃ u,h.get? a=some u:=by
 cases o with
 | lst xs=>obtain ⟨_,_,_,_,e⟩:=x;exact ⟨_,e⟩
 | tup xs=>obtain ⟨_,_,_,o,e,_⟩:=x;exact ⟨_,e⟩
 | dK kvs=>obtain ⟨_,_,_,_,o,_,_,e,_⟩:=x;exact ⟨_,e⟩
 | dT kvs=>obtain ⟨_,_,_,_,o,_,_,e,_⟩:=x;exact ⟨_,e⟩
 | set S n=>obtain ⟨o,_,_,_,e,_⟩:=x;exact ⟨_,e⟩
 | ins C dx fs=>obtain ⟨_,_,_,e,_⟩:=x;exact ⟨_,e⟩
 | own y=>exact x
 | xd fs=>obtain ⟨_,⟨_,_,_,e,_⟩,_⟩:=x;exact ⟨_,e⟩
 | rng lo hi=>obtain ⟨_,_,_,e⟩:=x;exact ⟨_,e⟩
 | frz ob u=>obtain ⟨e,_⟩:=x;exact ⟨_,e⟩
 | tbl ps=>exact ⟨_,x⟩
 | met f y=>exact ⟨_,x⟩
 | ext φ=>exact x.2.1
structure Fly (ctx:Bool) (P:Program) (w:World) (l:List Env) (H:Hp) (s s':Shared) (ea C:Addr) (B:Heap) (H':Hp):Prop where
 os:s'.os=s.os
 bare:AllBare s'.gens
 un:Un (frs l) [] H H' s.heap s'.heap
 hok:HOk P w H' s'.heap
 fly:z8E ctx B l ea (.ref C) s'.heap
 old:∀ b,b∉frs l->((∃ u,s.heap.get? b=some u)\/(∃ u,H' b=some u))->∃ o,B.get? b=some o
structure FlyX (P:Program) (w:World) (l:List Env) (ex:List Addr) (H:Hp) (s s':Shared) (ea C:Addr) (B:Heap) (H':Hp):Prop where
 os:s'.os=s.os
 bare:AllBare s'.gens
 un:Un (frs l) ex H H' s.heap s'.heap
 hok:HOk P w H' s'.heap
 fly:z8E false B l ea (.ref C) s'.heap
 old:∀ b,b∉frs l->b∉ex->((∃ u,s.heap.get? b=some u)\/(∃ u,H' b=some u))->∃ o,B.get? b=some o
 hex:∀ b∈ex,H' b=none
set_option genInjectivity false in
set_option genSizeOf false in
structure EB where
 (bm:List Value) (N:Addr) (nm q:Str) (bs:List Value) (hd:Bool) (sn:List Str) (sub:List Value) (ab:Bool) (col:Option Bool) (dd:Option Addr) (k0 k1 k2 k3 k5:Option Value) (mN:Str->Option Value)
noncomputable abbrev EB.ob (z:EB) (C:Addr) (newId:String):Obj:=excClassObj z.nm z.q C z.N z.bs z.bm z.hd z.sn z.sub z.ab z.col z.dd z.k0 z.k1 z.k2 z.k3 z.k5 newId
end L2
namespace PySem.W
open PySem PySem.Spec PySem.Calls PyProof.Rows
open Builtin Builtin.ObjectAttr Builtin.Getset_descriptor
structure XCls (K:Frag) (D:Addr):Prop where
 ga:findIn K (.ref D) "__getattribute__" = some (some (.builtin "BaseException.__getattribute__"))
 gt:findIn K (.ref D) "__getattr__" = some none
 fc:findIn K (.ref D) "__class__" = some (some (.builtin "object.__class__"))
 sg:specialIn K (.builtin "object.__class__") "__get__" = some (some (.builtin "getset_descriptor.__get__"))
 tk:takesIn K (.builtin "object.__class__")=some true
 mo:mroIn K D (.type "object")=some true
 mb:mroIn K D (.type "BaseException")=some true
 cl:(clsIn K D).isSome=true
end PySem.W
namespace L2
open PySem PySem.Spec PyProof.Rows
structure RoomM (k:Nat) (A:Around):Prop where
 dp:A.depth+3 * k+5<recursionLimit
 un:A.units+16 * k+200<cLine
noncomputable abbrev Cx.tr (X:Cx) (pn:List (Addr×Obj)) (xe:Value->Shared->Prop):Cx:={ X with pn:=pn,xe:=xe }
noncomputable abbrev Cx.hd (X:Cx) (pn:List (Addr×Obj)) (ea:Addr):Cx:={ X with A:=X.A.mark (some (.ref ea)),calm:=false,pn:=pn,xe:=λ o_ o_=>False }
end L2
namespace L2
open PySem PySem.Spec PyProof.Rows PySem.MeetsSeq
end L2
namespace HT
open PySem PyProof.Rows
section
open PySem.SeqAt
open PySem.AutoSeq1 (wpAny_loadPart')
open PySem.MeetsSeq PySem.MeetsSeq2 PySem.MeetsSeq3
open PySem.SeqAt
open PySem.AutoSeq1 (wpAny_loadPart')
open PySem.MeetsSeq PySem.MeetsSeq2 PySem.MeetsSeq3
inductive CmpsAt (A:Around) (s:Shared):List Value->List Value->List (Bool×Bool)->Prop
 | nil:CmpsAt A s [] [] []
 | cons {y x:Value}{ys xs:List Value}{e l:Bool}{ds:List (Bool×Bool)}(he:EqAt A s y x e) (hl:e=false->∀ (prog:Program) (w:World) (E:Value->Shared->Prop) (Q:Value->Shared->Prop),Q (.bool l) s->wpAny (model prog w) A (richCompare .Lt y x) Q E s) (hr:CmpsAt A s ys xs ds):CmpsAt A s (y::ys) (x::xs) ((e,l)::ds)
end
end HT
namespace L2
open PySem PySem.Spec PyProof.Rows
section
variable {X:Cx}
theorem Inv.thaw {pins:List (Addr×Obj)}{σ:St}{H:Hp}{s:Shared}{a:Addr}{o:Obj}{u:HO}(I:Inv X pins σ H s) (h:H a=some (.frz o u)) (n:X.H₀ a=none):Inv X pins σ (upd H a u) s:=by
 have ne:∀ {b:Addr},H b=none->b≠a:=λ {b} e z=>by rw [z,h] at e;cases e
 have n0:∀ {b:Addr}{x:HO},X.H₀ b=some x->b≠a:=λ {b x} e z=>by rw [z,n] at e;cases e
 refine ⟨I.ok,I.os,I.bare,⟨I.base.keep,I.base.slot,λ b ob q k x=>?_,I.base.there,λ b xs e=>?_,λ b ob v e=>?_,λ b ps e=>?_,I.base.tupx⟩,I.loc,I.cell,?_,λ x c e=>?_,λ p hp=>?_,λ b ob e=>?_,I.len⟩
 ·have z:=I.base.free b ob q k x
  rw [upd_ne (ne z)];exact z
 ·rw [upd_ne (n0 e)];exact I.base.tups b xs e
 ·rw [upd_ne (n0 e)];exact I.base.frzs b ob v e
 ·rw [upd_ne (n0 e)];exact I.base.tbls b ps e
 ·rw [upd_ne (ne I.free)];exact I.free
 ·rw [upd_ne (ne (I.freeC x c e))];exact I.freeC x c e
 ·obtain ⟨h1,h2,h3⟩:=I.pin p hp
  exact ⟨h1,by rw [upd_ne (ne h2)];exact h2,h3⟩
 ·have ho:∀ {c d:Addr},H c=some (.own d)->upd H a u c=some (.own d):=λ {c d} q=>by
   rw [upd_ne (λ z=>by rw [z,h] at q;cases q)];exact q
  have ht:∀ (c:Addr) (xs:List V),H c=some (.tup xs)->upd H a u c=some (.tup xs):=λ c xs q=>by
   rw [upd_ne (λ z=>by rw [z,h] at q;cases q)];exact q
  by_cases hb:b=a
  ·subst hb
   rw [j0] at e
   cases e
   exact K6.stay (show K6 X.prog X.w H s.heap b u from (I.hok b _ h).2) (λ c v o_ q=>q) (λ c q=>ho q) ht
  ·rw [upd_ne hb] at e
   exact (I.hok b ob e).stay (λ c v o_ q=>q) (λ c q=>ho q) ht
noncomputable def z1p (H₀:Hp):V->List V->Hp->VK->Prop:=λ x vs H Q=>∃ l xs y,x=.ref l/\vs=[y]/\Rd H l (.lst xs)/\H₀ l=none/\xs.length<sizeLine/\Q .non (upd H l (.lst (xs++[y])))
theorem q3A:MtM X "list.append" (z1p X.H₀):=by
 intro pins s σ H x vs v us Q I rx rv h
 obtain ⟨l,xs,y,rfl,rfl,hH,h0,hz,q⟩:=h
 rcases hH with hH | ⟨o,hH⟩
 ·exact q2L pins s σ H _ _ v us Q I rx rv ⟨l,xs,y,rfl,rfl,hH,hz,q⟩
 ·exact q2L pins s σ (upd H l (.lst xs)) _ _ v us Q (I.thaw hH h0) rx rv ⟨l,xs,y,rfl,rfl,j0,hz,by rw [q8K];exact q⟩
end
structure CompOkK (X:Cx) (x:Str) (caps:q49) (sc:Scope):Prop where
 own:sc.names.lookup x=some .cell
 kind:sc.kind=.function
 one:(sc.names.filter λ p=>p.2 == .cell)=[(x,.cell)]
 names:∀ y∈sc.names,y.2=.local->sc.names.lookup y.1=some .local
 free:∀ y∈sc.names,y.2=.free->X.env.kindOf y.1=some .cell\/X.env.kindOf y.1=some .free
 nd:(x::caps.map (·.1)).Nodup
 cap:∀ c∈caps,X.N[c.2]? = some c.1/\sc.names.lookup c.1=some .free/\(X.env.kindOf c.1=some .cell\/X.env.kindOf c.1=some .free)
section
variable {prog:Program}{w:World}{A:Around}{E:Value->Shared->Prop}{s:Shared}
theorem q75 {d ep:Nat}{od:Obj}{es:Array DictEntry}{Q:Value->Shared->Prop}(nsys:(d==sysModules)=false) (god:s.heap.get? d=some od) (xd:od.ExactDict) (dat:od.data=.dict es ep)
 (k:Q (.ref s.heap.objs.size) { s with heap:=s.heap.push { cls:=.type "dict_keyiterator",data:=.fields #[.ref d,.int 0 0,.int es.size 0,.int ep 0] } }) :
 wpAny (model prog w) A (pyIter (.ref d)) Q E s:=by
 have ty:s.TypeIs (.ref d) "dict":=⟨od,god,xd.1⟩
 refine wpAny_pyIter_slot ty F.slot_dict_iter (wpAny_call_entry F.slot_dict_iter ty F.entry_dict_iter ?_ (F.args_dict_iter_1 _))
 unfold Builtin.«dict.__iter__»
 refine N03 ?_
 unfold Builtin.Dict.dictSlotNone
 refine N03 (wpAny_notOrdered_dict ty ?_)
 refine N0y (a:=Value.ref d) ?_
 show wpAny _ _ (Builtin.Dict.showsAll d >>= _) _ _ s
 unfold Builtin.Dict.showsAll
 rw [N0l (by rw [nsys];exact N0d)]
 refine N03 (N0y (N03 (wpAny_dictEntries god dat (N03 (wpAny_dictEpoch god dat ?_)))))
 exact N03 (wpAny_newObj_type (N0y ⟨_,rfl,"dict_keyiterator",_,⟨_,N1q _ rfl,rfl⟩,F.slot_dict_keyiterator_next.lookup,k⟩))
theorem z1q {it d:Addr}{i ep:Nat}{od:Obj}{es:Array DictEntry}{Q:Option Value->Shared->Prop}(ki:s.heap.IsKeyIter it d i es.size ep) (god:s.heap.get? d=some od) (dat:od.data=.dict es ep) (lt:i<es.size)
 (k:∀ h',h'.IsKeyIter it d (i+1) es.size ep->Heap.SameBut it s.heap h'->Q (some es[i].key) { s with heap:=h' }):wpAny (model prog w) A (pyNext (.ref it)) Q E s:=by
 obtain ⟨oi,goi,ci,fi⟩:=id ki
 have ow:Builtin.Dict_items.ownsTuple "dict_keyiterator" = false:=by decide
 have nn:¬ ((Value.ref d==Value.none)=true):=N0d
 have ni:¬ ((i:Int)<0):=by simp
 unfold pyNext
 refine N03 (wpAny_attempt (wpAny_callSpecial?_slot (name:=s!"__next__") ki.typeIs F.slot_dict_keyiterator_next (wpAny_call_entry F.slot_dict_keyiterator_next ki.typeIs F.entry_dict_keyiterator_next ?_ (F.args_dict_keyiterator_next_1 _))))
 refine N03 (N0y (N03 (N03 ?_)))
 first | refine N03 (wpAny_typeNameOfWhole_keyiter ki.typeIs (N0y ?_)) | refine N03 (wpAny_typeNameOf_keyiter ki.typeIs (N0y ?_))
 refine N03 (wpAny_fieldsOf goi fi ?_)
 rw [ow,N0l N0d]
 show wpAny _ _ (if (Value.ref d==Value.none)=true then _ else _) _ _ s
 rw [N0l nn]
 refine N03 (N0y (N03 (wpAny_dictEntries god dat ?_)))
 rw [N0l (by simp)]
 refine N03 (N0y (N03 (wpAny_dictEpoch god dat ?_)))
 rw [N0l (by simp)]
 refine N0y ?_
 show wpAny _ _ (match (if (i:Int)<0 then none else es[(i:Int).toNat]?) with | some e=>_ | none=>_) _ _ s
 rw [N0l ni,Int.toNat_natCast,Array.getElem?_eq_getElem lt]
 refine N03 ?_
 first | refine N03 (wpAny_typeNameOfWhole_keyiter ki.typeIs (N0y ?_)) | refine N03 (wpAny_typeNameOf_keyiter ki.typeIs (N0y ?_))
 refine N03 (wpAny_isOneOf_keyiter ki.typeIs ?_)
 show wpAny _ _ (setField (.ref it) 1 (rawInt ((i:Int)+1)) >>= _) _ _ s
 refine N03 (wpAny_setField goi fi (by simp) ?_)
 have up:(s.heap.update it (Obj.mapFields (·.setIfInBounds 1 (rawInt ((i:Int)+1))))).IsKeyIter it d (i+1) es.size ep :=
  ⟨_,Heap.get?_update_self _ goi (Obj.isFreed_of_fields (Obj.data_mapFields fi _)),(Obj.cls_mapFields ..).trans ci,by rw [Obj.data_mapFields fi];simp [rawInt]⟩
 have sb:=Heap.SameBut.update s.heap it (Obj.mapFields (·.setIfInBounds 1 (rawInt ((i:Int)+1))))
 generalize s.heap.update it (Obj.mapFields (·.setIfInBounds 1 (rawInt ((i:Int)+1))))=h2 at up sb ⊢
 refine N03 (wpAny_holding (N03 (wpAny_isOneOf_keyiter (s:={ s with heap:=h2 }) up.typeIs ?_)))
 exact N0y (a:=es[i].key) (N0y ⟨_,rfl,N0y (k h2 up sb)⟩)
theorem z1r {it d:Addr}{i ep:Nat}{od:Obj}{es:Array DictEntry}{Q:Option Value->Shared->Prop}(hh:A.handled=none) (ki:s.heap.IsKeyIter it d i es.size ep) (god:s.heap.get? d=some od) (dat:od.data=.dict es ep) (ge:es.size<=i)
 (k:∀ h',Heap.ExtBut it s.heap h'->Q none { s with heap:=h' }):wpAny (model prog w) A (pyNext (.ref it)) Q E s:=by
 obtain ⟨oi,goi,ci,fi⟩:=id ki
 have ow:Builtin.Dict_items.ownsTuple "dict_keyiterator" = false:=by decide
 have nn:¬ ((Value.ref d==Value.none)=true):=N0d
 have ni:¬ ((i:Int)<0):=by simp
 unfold pyNext
 refine N03 (wpAny_attempt (wpAny_callSpecial?_slot (name:=s!"__next__") ki.typeIs F.slot_dict_keyiterator_next (wpAny_call_entry F.slot_dict_keyiterator_next ki.typeIs F.entry_dict_keyiterator_next ?_ (F.args_dict_keyiterator_next_1 _))))
 refine N03 (N0y (N03 (N03 ?_)))
 first | refine N03 (wpAny_typeNameOfWhole_keyiter ki.typeIs (N0y ?_)) | refine N03 (wpAny_typeNameOf_keyiter ki.typeIs (N0y ?_))
 refine N03 (wpAny_fieldsOf goi fi ?_)
 rw [ow,N0l N0d]
 show wpAny _ _ (if (Value.ref d==Value.none)=true then _ else _) _ _ s
 rw [N0l nn]
 refine N03 (N0y (N03 (wpAny_dictEntries god dat ?_)))
 rw [N0l (by simp)]
 refine N03 (N0y (N03 (wpAny_dictEpoch god dat ?_)))
 rw [N0l (by simp)]
 refine N0y ?_
 show wpAny _ _ (match (if (i:Int)<0 then none else es[(i:Int).toNat]?) with | some e=>_ | none=>_) _ _ s
 rw [N0l ni,Int.toNat_natCast,Array.getElem?_eq_none ge]
 refine N03 ?_
 first | refine N03 (wpAny_typeNameOfWhole_keyiter ki.typeIs (N0y ?_)) | refine N03 (wpAny_typeNameOf_keyiter ki.typeIs (N0y ?_))
 show wpAny _ _ (setField (.ref it) 0 .none >>= _) _ _ s
 refine N03 (wpAny_setField goi fi (by simp) ?_)
 show wpAny _ _ (newExc (.type "StopIteration") [] >>= _) _ _ _
 refine N03 ?_
 unfold newExc newTuple
 refine N03 (wpAny_newObj_type ?_ (by size_fits))
 refine N03 (m:=firstArgMember _ _) (wpAny_of_eq (a:=Value.none) (by first | rfl | (simp only [firstArgMember];rfl)) (wpAny_newObj_type ?_ (by size_fits)))
 unfold raiseNew
 refine N03 (wpAny_handled ?_)
 rw [show A.in1.handled=none from hh]
 refine N03 (N0y (wpAny_throw ?_))
 refine N03 (wpAny_isInstance (T:="StopIteration") (b:=true) ⟨_,N1q _ rfl,rfl⟩ isSubtype_stop ?_)
 exact N0y (k _ (((Heap.SameBut.update ..).extBut.push _).push _))
end
section
variable {X:Cx}{pins:List (Addr×Obj)}{σ:St}{H:Hp}{s:Shared}
theorem Inv.retag {a:Addr}{u u':HO}(I:Inv X pins σ H s) (h:H a=some u) (no:∀ d,u≠.own d) (nt:∀ xs,u≠.tup xs)
 (n1:∀ xs,X.H₀ a≠some (.tup xs)) (n2:∀ ob v,X.H₀ a=some (.frz ob v)->u'=.frz ob v) (n3:∀ ps,X.H₀ a≠some (.tbl ps)) (hu:K6 X.prog X.w H s.heap a u->K6 X.prog X.w H s.heap a u'):Inv X pins σ (upd H a u') s:=by
 have ne:∀ {b:Addr},H b=none->b≠a:=λ {b} e z=>by rw [z,h] at e;cases e
 refine ⟨I.ok,I.os,I.bare,⟨I.base.keep,I.base.slot,λ b ob q k x=>?_,I.base.there,λ b xs e=>?_,λ b ob v e=>?_,λ b ps e=>?_,I.base.tupx⟩,I.loc,I.cell,?_,λ x c e=>?_,λ p hp=>?_,λ b ob e=>?_,I.len⟩
 ·have z:=I.base.free b ob q k x
  rw [upd_ne (ne z)];exact z
 ·rw [upd_ne (show b≠a from λ z=>n1 xs (by rw [<- z];exact e))];exact I.base.tups b xs e
 ·by_cases z:b=a
  ·subst z;rw [j0,n2 ob v e]
  ·rw [upd_ne z];exact I.base.frzs b ob v e
 ·rw [upd_ne (show b≠a from λ z=>n3 ps (by rw [<- z];exact e))];exact I.base.tbls b ps e
 ·rw [upd_ne (ne I.free)];exact I.free
 ·rw [upd_ne (ne (I.freeC x c e))];exact I.freeC x c e
 ·obtain ⟨h1,h2,h3⟩:=I.pin p hp
  exact ⟨h1,by rw [upd_ne (ne h2)];exact h2,h3⟩
 ·have ho:∀ {c d:Addr},H c=some (.own d)->upd H a u' c=some (.own d):=λ {c d} q=>by
   rw [upd_ne (λ z=>by rw [z,h] at q;exact no d (N0b q))];exact q
  have ht:∀ (c:Addr) (xs:List V),H c=some (.tup xs)->upd H a u' c=some (.tup xs):=λ c xs q=>by
   rw [upd_ne (λ z=>by rw [z,h] at q;exact nt xs (N0b q))];exact q
  by_cases hb:b=a
  ·subst hb
   rw [j0] at e
   cases e
   exact K6.stay (hu (I.hok b _ h)) (λ c v o_ q=>q) (λ c q=>ho q) ht
  ·rw [upd_ne hb] at e
   exact (I.hok b ob e).stay (λ c v o_ q=>q) (λ c q=>ho q) ht
theorem Inv.freeze {a:Addr}{o:Obj}{kvs:List (List Key×V)}(I:Inv X pins σ H s) (h:H a=some (.dT kvs)) (ho:s.heap.get? a=some o):Inv X pins σ (upd H a (.frz o (.dT kvs))) s :=
 I.retag h (λ d z=>nomatch z) (λ xs z=>nomatch z) (λ xs z=>by have:=I.base.tups a xs z;rw [h] at this;cases this) (λ ob v z=>by have:=I.base.frzs a ob v z;rw [h] at this;cases this)
  (λ ps z=>by obtain ⟨m,this⟩:=I.base.tbls a ps z;rw [h] at this;cases this) λ z=>⟨ho,z⟩
theorem Inv.thawD {a:Addr}{o:Obj}{kvs:List (List Key×V)}(I:Inv X pins σ H s) (h:H a=some (.frz o (.dT kvs))) (n:∀ ob v,X.H₀ a≠some (.frz ob v)):Inv X pins σ (upd H a (.dT kvs)) s :=
 I.retag h (λ d z=>nomatch z) (λ xs z=>nomatch z) (λ xs z=>by have:=I.base.tups a xs z;rw [h] at this;cases this) (λ ob v z=>absurd z (n ob v))
  (λ ps z=>by obtain ⟨m,this⟩:=I.base.tbls a ps z;rw [h] at this;cases this) λ z=>z.2
theorem q76 {α β:Type}{F:α->β->Prop}:∀ {l:List α}{m:List β}{i:Nat}{a:α},Paired F l m->l[i]? = some a->∃ b,m[i]? = some b/\F a b
 | _,_,0,_,.cons r _,e=>by cases e;exact ⟨_,rfl,r⟩
 | _,_,i+1,_,.cons _ t,e=>q76 (i:=i) t e
 | _,_,_,_,.nil,e=>by simp at e
noncomputable def Itd (a:Addr) (o:Obj) (kvs:List (List Key×V)):It :=
 ⟨λ i H=>H a=some (.frz o (.dT kvs))/\i<kvs.length,λ i H x H'=>H'=H/\∃ b k,x=.ref b/\H b=some (.tup (k.map kV))/\(kvs.map (·.1))[i]? = some k,λ i H=>H a=some (.frz o (.dT kvs))/\kvs.length<=i⟩
theorem q2r {a:Addr}{o:Obj}{kvs:List (List Key×V)}(I:Inv X pins σ H s) (h:H a=some (.frz o (.dT kvs))):s.heap.get? a=some o/\(a==sysModules)=false/\o.ExactDict/\∃ es ep,o.data=.dict es ep/\es.size=kvs.length /\
 ∀ (i:Nat) (k:List Key),(kvs.map (·.1))[i]? = some k->∃ b,H b=some (.tup (k.map kV))/\∃ hi:i<es.size,es[i].key=.ref b:=by
 obtain ⟨ho,hz,hy,xs,pr,o',es,ep,h1,h2,h3,h4,h5⟩:=(show K6 X.prog X.w H s.heap a (.frz o (.dT kvs)) from I.hok a _ h)
 rw [ho] at h1
 cases h1
 have hl:xs.length=kvs.length:=(pr.length).symm
 have hs:es.size=kvs.length:=by rw [<- hl,<- N01 (f:=entryOfKey (tupleKind (K3 X.prog X.w))) (as:=xs),<- h4,N0g]
 refine ⟨ho,hy,h2,es,ep,h3,hs,λ i k e=>?_⟩
 obtain ⟨p,ep',rfl⟩:=N0i▸e |> N1x.mp
 obtain ⟨q,eq,r1,r2,_⟩:=q76 pr ep'
 have hi:i<es.size:=by rw [hs];exact (N04.mp ep').1
 refine ⟨q.2.1,r2,hi,?_⟩
 have e1:es.toList[i]? = some es[i]:=by rw [N08 (by rw [N0g];exact hi)];simp
 rw [h4,N0i,eq] at e1
 have e1:=N0b e1
 rw [<- e1]
 rfl
theorem q5h {P:Program}{w:World}{K:W.Frag}{tg:Expr}{a it ep:Addr}{o:Obj}{es:Array DictEntry}{kvs:List (List Key×V)}(dat:o.data=.dict es ep) (hs:es.size=kvs.length) :
 Turn P w K tg (Itd a o kvs) [it] it (λ i h=>h.IsKeyIter it a i es.size ep) where
 mem:=by simp
 obj:=λ i h st b hb=>by
  have e:b=it:=by simpa using hb
  subst e
  obtain ⟨oi,e,c,d⟩:=st
  exact ⟨oi,e,λ v z=>by rw [d] at z;cases z⟩
 keep:=λ i h h' st k=>st.at λ o e=>k it (by simp) o e
 item:=by
  intro X hP hw hK hc i pins s σ H E I hf st hg
  subst hP hw hK
  obtain ⟨hH,hlt⟩:=hg
  obtain ⟨ho,hy,xd,es',ep',d',hs',gk⟩:=q2r I hH
  rw [dat] at d'
  cases d'
  obtain ⟨b,hb,hi,hkey⟩:=gk i _ (by rw [N0i,N08 hlt];rfl)
  obtain ⟨f0,f1,f2,f3,f4,f5⟩:=hf it (by simp)
  refine z1q st ho dat hi λ h' st' sb=>?_
  have I1:Inv X pins σ H { s with heap:=h' }:=I.turned (t':=s.toks) (λ b o hb e=>(sb.2 b hb).trans e) f0 f1 f3 f4 f5
  obtain ⟨oi,e,c,d⟩:=id st'
  rw [hkey]
  exact ⟨_,rfl,q8P (s:={ s with heap:=h' }) e c d (by decide) ⟨.ref b,H,I1,rfl,⟨rfl,b,_,rfl,hb,by rw [N0i,N08 hlt];rfl⟩,st',λ b hb=>(hf b hb).1⟩⟩
 done:=by
  intro X hP hw hK hc i pins s σ H E I hf st hg
  subst hP hw hK
  obtain ⟨hH,hge⟩:=hg
  obtain ⟨ho,hy,xd,es',ep',d',hs',gk⟩:=q2r I hH
  obtain ⟨f0,f1,f2,f3,f4,f5⟩:=hf it (by simp)
  exact z1r (I.ok.hd hc) st ho dat (by rw [hs];exact hge) λ h' eb=>⟨rfl,I.turned (t':=s.toks) (λ b o hb e=>eb b o hb e) f0 f1 f3 f4 f5⟩
 self:=λ o_ o_ o_ o_ o_ st h=>wpAny_pyIter_keyiter st h
noncomputable def z7p (tl:TE):TI:=λ σ H R=>tl σ H λ x H1=>∃ a kvs,x=.ref a/\H1 a=some (.dT kvs)/\∀ o,R (Itd a o kvs) (upd H1 a (.frz o (.dT kvs)))
theorem q9r {tg l:Expr}{tl:TE}(hl:PE X l tl):PI X tg l (z7p tl):=by
 intro pins s σ H R I h
 refine thx (hl pins s σ H _ I h) λ v s1 x H1 I1 r1 q1=>?_
 obtain ⟨a,kvs,e,hq,q⟩:=q1
 subst e
 cases r1
 obtain ⟨o,ho⟩:=(I1.hok a _ hq).there
 have I2:=I1.freeze hq ho
 obtain ⟨_,hy,xd,es,ep,dat,hs,_⟩:=q2r I2 j0
 refine q75 hy ho xd dat ?_
 refine ⟨s1.heap.objs.size,[s1.heap.objs.size],_,_,_,rfl,I2.kept (t':=s1.toks) λ b o e=>N1o _ e,q5h dat hs,⟨_,N1q _ rfl,rfl,rfl⟩,λ b hb=>?_,q o⟩
 have e:b=s1.heap.objs.size:=by simpa using hb
 subst e
 exact I2.fpOk (N07 _) (I2.hok.fresh (N07 _))
noncomputable def z5d (tl:TE):TI:=λ σ H R=>tl σ H λ x H1=>∃ a o kvs,x=.ref a/\H1 a=some (.frz o (.dT kvs))/\R (Itd a o kvs) H1
theorem q77 {tg l:Expr}{tl:TE}(hl:PE X l tl):PI X tg l (z5d tl):=by
 intro pins s σ H R I h
 refine thx (hl pins s σ H _ I h) λ v s1 x H1 I1 r1 q1=>?_
 obtain ⟨a,o,kvs,e,hq,q⟩:=q1
 subst e
 cases r1
 obtain ⟨ho,hy,xd,es,ep,dat,hs,_⟩:=q2r I1 hq
 refine q75 hy ho xd dat ?_
 refine ⟨s1.heap.objs.size,[s1.heap.objs.size],_,_,_,rfl,I1.kept (t':=s1.toks) λ b o e=>N1o _ e,q5h dat hs,⟨_,N1q _ rfl,rfl,rfl⟩,λ b hb=>?_,q⟩
 have e:b=s1.heap.objs.size:=by simpa using hb
 subst e
 exact I1.fpOk (N07 _) (I1.hok.fresh (N07 _))
theorem z1s {a:Addr}{o:Obj}{kvs:List (List Key×V)}{g:TG}{tb:TS}{D:Ends}{σ:St}{H:Hp}(Pv:Nat->St->Hp->Prop) (h0:Pv 0 σ H) (hl:∀ i σ H,i<=kvs.length->Pv i σ H->H a=some (.frz o (.dT kvs)))
 (hs:∀ i k b σ H,(kvs.map (·.1))[i]? = some k->H b=some (.tup (k.map kV))->Pv i σ H->g (.ref b) σ H λ σ2 H2=>tb { D with nx:=Pv (i+1),ct:=Pv (i+1),bk:=D.nx } σ2 H2) (hd:∀ σ H,Pv kvs.length σ H->D.nx σ H) :
 ∃ W:Nat->Nat->St->Hp->Prop,(∃ m,W 0 m σ H)/\∀ i m σ H,W i m σ H ->
  ((Itd a o kvs).stop i H/\D.nx σ H)\/((Itd a o kvs).go i H/\∃ N:St->Hp->Prop,(∀ σ' H',N σ' H'->∃ m',m'<m/\W (i+1) m' σ' H')/\∀ x H',(Itd a o kvs).yld i H x H'->g x σ H' λ σ2 H2=>tb { D with nx:=N,ct:=N,bk:=D.nx } σ2 H2):=by
 refine ⟨λ i m σ H=>m=kvs.length - i/\i<=kvs.length/\Pv i σ H,⟨kvs.length,by simp,N1b _,h0⟩,?_⟩
 rintro i m σ H ⟨rfl,hi,p⟩
 have q:=hl i σ H hi p
 by_cases hlt:i<kvs.length
 ·refine .inr ⟨⟨q,hlt⟩,Pv (i+1),λ σ' H' p'=>⟨kvs.length - (i+1),by omega,rfl,hlt,p'⟩,λ x H' y=>?_⟩
  obtain ⟨e,b,k,e1,e2,e3⟩:=y
  subst e e1
  exact hs i k b σ _ e3 e2 p
 ·have e:i=kvs.length:=by lia
  subst e
  exact .inl ⟨⟨q,N07 _⟩,hd σ H p⟩
theorem q9s {caps:q49}{tt:CArg->TT}{te:CArg->TE}{H1:Hp}{F:List V->Hp->Prop}{a:Addr}{o:Obj}{kvs:List (List Key×V)}(Pv:Nat->List V->Hp->Prop) (h0:Pv 0 [] H1) (hl:∀ i ys H,i<=kvs.length->Pv i ys H->H a=some (.frz o (.dT kvs)))
 (hs:∀ z i k b ys H,(kvs.map (·.1))[i]? = some k->H b=some (.tup (k.map kV))->Pv i ys H->tt z (some (.ref b)::capσ caps σ) H λ c H3=>if c=true then te z (some (.ref b)::capσ caps σ) H3 λ v H4=>ys.length<sizeLine/\Pv (i+1) (ys++[v]) H4 else Pv (i+1) ys H3)
 (hd:∀ ys H,Pv kvs.length ys H->F ys H):q1y caps σ tt te (Itd a o kvs) H1 F:=by
 refine ⟨λ i m ys H=>m=kvs.length - i/\i<=kvs.length/\Pv i ys H,⟨kvs.length,by simp,N1b _,h0⟩,?_⟩
 rintro z i m ys H ⟨rfl,hi,p⟩
 have q:=hl i ys H hi p
 by_cases hlt:i<kvs.length
 ·refine .inr ⟨⟨q,hlt⟩,Pv (i+1),λ ys' H' p'=>⟨kvs.length - (i+1),by omega,rfl,hlt,p'⟩,λ x H' y=>?_⟩
  obtain ⟨e,b,k,e1,e2,e3⟩:=y
  subst e e1
  exact hs z i k b ys _ e3 e2 p
 ·have e:i=kvs.length:=by lia
  subst e
  exact .inl ⟨⟨q,N07 _⟩,hd ys H p⟩
noncomputable def Th (H₀:Hp) (Q:Hp->Prop) (H:Hp):Prop:=∃ a o kvs,H a=some (.frz o (.dT kvs))/\(∀ ob v,H₀ a≠some (.frz ob v))/\Q (upd H a (.dT kvs))
noncomputable def Ends.th (H₀:Hp) (D:Ends):Ends:=⟨λ σ=>Th H₀ (D.nx σ),λ v=>Th H₀ (D.rt v),λ σ=>Th H₀ (D.bk σ),λ σ=>Th H₀ (D.ct σ)⟩
theorem z1t {st:Stmt}{t:TS}(h:PS X st t):PS X st (λ D σ H=>t (D.th X.H₀) σ H):=by
 intro pins s σ H D I q
 refine thn (h pins s σ H _ I q) λ f s1 hs=>?_
 cases f with
 | next=>obtain ⟨σ',H',J,a,o,kvs,e,n,z⟩:=hs;exact ⟨σ',_,J.thawD e n,z⟩
 | brk=>obtain ⟨σ',H',J,a,o,kvs,e,n,z⟩:=hs;exact ⟨σ',_,J.thawD e n,z⟩
 | cont=>obtain ⟨σ',H',J,a,o,kvs,e,n,z⟩:=hs;exact ⟨σ',_,J.thawD e n,z⟩
 | ret u=>obtain ⟨v,σ',H',J,r,a,o,kvs,e,n,z⟩:=hs;exact ⟨v,σ',_,J.thawD e n,r,z⟩
theorem z1u {e:Expr}{t:TE}(h:PE X e t):PE X e (λ σ H Q=>t σ H λ v=>Th X.H₀ (Q v)):=by
 intro pins s σ H Q I q
 refine thn (h pins s σ H _ I q) λ u s1 hs=>?_
 obtain ⟨x,H',J,r,a,o,kvs,e,n,z⟩:=hs
 exact ⟨x,_,J.thawD e n,r,z⟩
theorem z5e {a b:Addr}{kvs:List (List Key×V)}{k:List Key}{v:V}{r:Value}{A:Around}{E:Value->Shared->Prop}{Q:Unit->Shared->Prop}(hu:A.units<cLine) (I:Inv X pins σ H s) (e:H a=some (.dT kvs)) (eb:H b=some (.tup (k.map kV)))
 (l:kvs.length<sizeLine) (rv:y3 v r) (h:∀ s',Inv X pins σ (upd H a (.dT (putK kvs k v))) s'->Q () s'):wpAny (model X.prog X.w) A (dictSet a (.ref b) r) Q E s:=by
 obtain ⟨z,hd,xs,rel,dd⟩:=z54 I.hok e
 have hl:(putK kvs k v).length<=sizeLine:=by have:=q0i kvs k v;lia
 refine wpAny_dictSet_heap (hsz:=by rw [<- Paired.length rel];exact z) hu (q3x I.hok eb) dd λ h' dd' hs=>h _ ?_
 obtain ⟨q,es,ep,hq,h2,h3,h4,_,h5⟩:=dd'
 refine q45 I (by rw [e];exact True.intro) hs ⟨q,hq⟩ ⟨hl,hd,_,(rel.put k eb rv).keeps λ c ys ec=>?_,q,es,ep,hq,h2,h3,h4,h5⟩
 rw [upd_ne (ne_of ec e (λ z=>nomatch z))]
 exact ec
noncomputable def mergeT (kvs more:List (List Key×V)):List (List Key×V):=more.foldl (λ acc kv=>putK acc kv.1 kv.2) kvs
theorem z5f {a:Addr}{A:Around}{E:Value->Shared->Prop}{Q:PUnit->Shared->Prop}(hu:A.units<cLine){more:List (List Key×V)}:∀ {ws:List (Value×Value)}{H:Hp}{s:Shared}{kvs:List (List Key×V)},
 Paired (λ (kv:List Key×V) (w:Value×Value)=>(∃ b,w.1=.ref b/\H b=some (.tup (kv.1.map kV)))/\y3 kv.2 w.2) more ws->Inv X pins σ H s->H a=some (.dT kvs)->kvs.length+more.length<=sizeLine ->
 (∀ s',Inv X pins σ (upd H a (.dT (mergeT kvs more))) s'->Q PUnit.unit s')->wpAny (model X.prog X.w) A (storeAll a ws) Q E s:=by
 induction more with
 | nil =>
  intro ws H s kvs p I e l h
  cases p
  refine N0y (h s ?_)
  have:upd H a (.dT (mergeT kvs []))=H:=by
   funext c
   by_cases z:c=a
   ·rw [z,j0,e];rfl
   ·rw [upd_ne z]
  rw [this]
  exact I
 | cons kv more ih =>
  intro ws H s kvs p I e l h
  cases p with
  | @cons _ w _ ws r t =>
  obtain ⟨⟨b,hb,eb⟩,rv⟩:=r
  obtain ⟨w1,w2⟩:=w
  cases hb
  unfold storeAll
  rw [List.forIn_cons]
  refine N03 (N03 (z5e hu I e eb (by rw [N0h] at l;lia) rv λ s' I'=>N0y ?_))
  refine ih (H:=upd H a (.dT (putK kvs kv.1 kv.2))) (Paired.mapP t λ p q z=>⟨?_,z.2⟩) I' j0 (by have:=q0i kvs kv.1 kv.2;rw [N0h] at l;lia) λ s2 I2=>?_
  ·obtain ⟨⟨c,h1,h2⟩,_⟩:=z
   exact ⟨c,h1,by rw [upd_ne (ne_of h2 e (λ z=>nomatch z))];exact h2⟩
  ·rw [q8K] at I2
   exact h s2 I2
noncomputable def z5g (trs:List (TE×TE)):TE:=λ σ H Q=>∀ p,H p=none->q9d trs σ (upd H p (.dT [])) λ ps H2=>H2 p=some (.dT [])/\∃ kvs:List (List Key×V),
 Paired (λ (kv:List Key×V) (pr:V×V)=>(∃ b,pr.1=.ref b/\H2 b=some (.tup (kv.1.map kV)))/\kv.2=pr.2) kvs ps/\kvs.length<=15/\Q (.ref p) (upd H2 p (.dT (mergeT [] kvs)))
theorem q9t {H:Hp}{kvs:List (List Key×V)}{ps:List (V×V)}{ws:List (Value×Value)}(p:Paired (λ (kv:List Key×V) (pr:V×V)=>(∃ b,pr.1=.ref b/\H b=some (.tup (kv.1.map kV)))/\kv.2=pr.2) kvs ps):VV ps ws ->
 Paired (λ (kv:List Key×V) (w:Value×Value)=>(∃ b,w.1=.ref b/\H b=some (.tup (kv.1.map kV)))/\y3 kv.2 w.2) kvs ws:=by
 induction p generalizing ws with
 | nil=>intro q;cases q;exact .nil
 | cons r t ih =>
  intro q
  cases q with
  | cons q u =>
  obtain ⟨⟨b,h1,h2⟩,h3⟩:=r
  obtain ⟨q1,q2⟩:=q
  rw [h1] at q1
  rw [<- h3] at q2
  exact .cons ⟨⟨b,q1,h2⟩,q2⟩ (ih u)
theorem q78 {pos:Pos}{keys:List (Option Expr)}{values:List Expr}{trs:List (TE×TE)}(hu:X.A.units<cLine) (h:PPs X pos keys values trs) (hall:keys.all (·.isSome)=true) (hl:keys.length=values.length) (h0:keys≠[])
 (h15:keys.length<=15):PE X (.Dict keys values pos) (z5g trs):=by
 intro pins s σ H Q I q
 have hn:=I.hok.fresh (N07 s.heap.objs.size)
 have I1:=I.laid (a:=s.heap.objs.size) (o:=.dT []) (h':=s.heap.push { cls:=.type "dict",data:=.dict #[] }) (t':=s.toks) (λ o_ o_ q=>N1o _ q) (N07 _) (q72 s.heap I.big)
 refine wpAny_Dict_any hall hl h0 h15 (thx (h pins _ σ _ _ I1 (q _ hn)) λ ws s2 ps H2 I2 rel hx_=>?_)
 obtain ⟨e,kvs,pk,lk,q2⟩:=hx_
 exact z5f hu (q9t pk rel) I2 e (by rw [List.length_nil,sizeLine_eq];lia) λ s' I'=>⟨.ref s.heap.objs.size,_,I',rfl,q2⟩
end
structure KTup (K:W.Frag) (ad:Addr) (xs:List V):Prop where
 mk::ex:∃ (o:Obj) (its:Array Value) (n:Nat),K.lookup ad=some o/\o.cls=.type "tuple"/\o.data=.seq its n/\its.size<=sizeLine/\Vals xs its.toList
theorem q9u {P:Program}{w:World}{K:W.Frag}{mg mb:Str->Option Value}{CX:CXT}{k:Nat}{fa a ad:Addr}{fd:FuncData}{x:Str}{sp:Sp}{s₁:Shared}{vs:List Value}{ns:List Int}{xs:List V}
 (KX:K.In s₁.heap) (hns:s₁.heap.Ns mainGlobals mg) (hb:s₁.heap.Ns builtinsNs mb) (hbb:∀ x:Str,x≠"__name__"->mb x=bootBuiltins x) (hlim:s₁.heap.NoLimit) (hg:s₁.gens = #[])
 (ha:s₁.heap.get? a=some { cls:=.type "list",data:=.seq vs.toArray }) (hi:IntsAre vs ns) (hl:ns.length<=sizeLine) (hr:Room k callerA)
 (hNL:∀ b o,K.lookup b=some o->o.cls≠.type "list") (T:KTup K ad xs)
 (F:∀ base:Heap,K.In base->base.Ns mainGlobals mg->FnOk P w K mg base CX k fa fd [x] sp) (hbind:∀ (s:Shared) (u:Value),BindsTo s fd ⟨[u],[]⟩ [(x,u)])
 (hsp:∀ H:Hp,H ad=some (.tup xs)->SqL K H a (ns.map V.int)->sp [.ref a] H (λ v o_=>v=.bl true) λ o_ o_ o_=>False)
 (hCX:∀ H e s',CX [] H s₁ (λ o_ o_ o_=>False) e s'->False) :
 codeAny (model P w) callerA (.call (.ref fa) ⟨[.ref a],[]⟩) (λ r s'=>r=.ok (.ret (.bool true))/\OldK s₁.heap s'.heap/\s'.os=s₁.os/\AllBare s'.gens) s₁:=by
 have rv:=q5d hi
 obtain ⟨ot,its,nt,hT,hTc,hTd,hTz,hTv⟩:=T.ex
 have hka:K.lookup a=none:=by
  cases q:K.lookup a with
  | none=>rfl
  | some o =>
   have e:=KX a o q
   rw [ha] at e;cases e
   exact (hNL a _ q rfl).elim
 have hne:ad≠a:=λ z=>by rw [z,hka] at hT;cases hT
 let H1:Hp:=λ b=>if b=a then some (.frz { cls:=.type "list",data:=.seq vs.toArray } (.lst (ns.map V.int))) else none
 let H:Hp:=upd H1 ad (.tup xs)
 have h1a:H1 a=some (.frz { cls:=.type "list",data:=.seq vs.toArray } (.lst (ns.map V.int))):=N0j rfl
 have h1n:∀ b,b≠a->H1 b=none:=λ b z=>N0l z
 have hA:∀ b,H1 b≠none->b=a:=λ b z=>N1n λ q=>z (h1n b q)
 have hHa:H a=some (.frz { cls:=.type "list",data:=.seq vs.toArray } (.lst (ns.map V.int))):=(upd_ne (N1f hne)).trans h1a
 have hHd:H ad=some (.tup xs):=j0
 have hHn:∀ b,b≠a->b≠ad->H b=none:=λ b z y=>(upd_ne y).trans (h1n b z)
 have hlen:xs.length<=sizeLine:=by
  have e:=hTv.length
  simp only [N0g] at e
  simp_all
 have hS:SqL K H a (ns.map V.int):=.inl (.inr ⟨_,hHa⟩)
 have hok:HOk P w H s₁.heap:=λ b u z=>by
  by_cases q:b=a
  ·subst q
   rw [hHa] at z;cases z
   exact ⟨ha,by rw [N01];exact hl,vs,_,rv,ha⟩
  ·by_cases y:b=ad
   ·subst y
    rw [hHd] at z;cases z
    exact ⟨hlen,its.toList,hTv,ot,KX _ _ hT,hTc,nt,by simpa using hTd⟩
   ·rw [hHn b q y] at z;cases z
 have base_of:∀ {b:Addr}{o:Obj},s₁.heap.get? b=some o->H1 b=none->(hidT s₁.heap H1).get? b=some o:=λ e n=>z0Z e n
 have noA:∀ {b:Addr}{o:Obj}{es:Array DictEntry}{ep:Nat},s₁.heap.get? b=some o->o.data=.dict es ep->H1 b=none:=λ {b o es ep} e d=>by
  by_cases q:b=a
  ·subst q
   rw [ha] at e;cases e
   have d':Data.seq vs.toArray _=Data.dict es ep:=d
   cases d'
  ·exact h1n b q
 have nsK:∀ {b:Addr}{m:Str->Option Value},s₁.heap.Ns b m->(hidT s₁.heap H1).Ns b m:=λ {b m} ⟨o,es,ep,e,d,r⟩=>⟨o,es,ep,base_of e (noA e d),d,r⟩
 have hKb:K.In (hidT s₁.heap H1):=λ b o e=>base_of (KX b o e) (by
  by_cases q:b=a
  ·subst q;rw [hka] at e;cases e
  ·exact h1n b q)
 have hM:Mod K mg (hidT s₁.heap H1):=⟨hKb,nsK hns,⟨mb,nsK hb,hbb⟩,let ⟨mc,h1,h2⟩:=hlim;⟨mc,nsK h1,h2⟩⟩
 have hbs:∀ b o,(hidT s₁.heap H1).get? b=some o->s₁.heap.get? b=some o/\Bt H b:=λ b o e=>by
  obtain ⟨e1,e2⟩:=z2G e
  refine ⟨e1,?_⟩
  by_cases y:b=ad
  ·subst y;exact .inr ⟨xs,hHd⟩
  ·exact .inl ((upd_ne y).trans e2)
 have e0:Env0 P w K mg (hidT s₁.heap H1) callerA [] s₁ H:=⟨rfl,hM,hbs,Nat.le_of_eq (q8L _ _),trivial,λ b hb=>absurd (show b∈([]:List Addr) from hb) (by simp),hok,.of_eq hg⟩
 refine codeAny_mono ((F _ hKb (nsK hns)).run callerA [] s₁ H ⟨[.ref a],[]⟩ [.ref a] [.ref a] _ _ hr e0 (hbind s₁ (.ref a)) (.cons rfl .nil) (hsp H hHd hS)) λ r s' h=>?_
 cases r with
 | error e=>exact (hCX H e s' h).elim
 | ok fl =>
  cases fl with
  | next=>exact False.elim h
  | brk=>exact False.elim h
  | cont=>exact False.elim h
  | ret u =>
   obtain ⟨v,H',os,bare,un,hok',r',q⟩:=h
   have q':v=.bl true:=q
   subst q'
   obtain rfl:u=Value.bool true:=r'
   refine ⟨rfl,OldK.of_keep λ b o e=>?_,os,bare⟩
   by_cases q:b=a
   ·subst q
    obtain ⟨e2,_⟩:=hok' b _ (un.frzs b _ _ hHa)
    rw [ha] at e;cases e
    exact e2
   ·by_cases y:b=ad
    ·subst y
     exact un.tupx b xs o hHd e
    ·exact un.keep b o e (hHn b q y) (by intro z;exact absurd (show b∈([]:List Addr) from z) (by simp)) (by simp)
theorem z1v {l:W.OpenLaw}{n k:Nat}{q:Program}{loose:List Str}{XP:(Str->Option Value)->Heap->Prop}{YP:World->Heap->Prop}{d:DefRec}{K:Params->W.Frag}{CX:World->CXT}{sp:World->Addr->Sp}{x:Str}{xs:List V}
 (hn:l.most=some n) (hn2:n<=sizeLine) (hdf:d.params.defaults=[]) (hr:Room k callerA)
 (hY:∀ (w:World) (h:Heap),YP w h->(K w.params).In h)
 (F:∀ (w:World) (mg:Str->Option Value) (fa:Addr) (h:Heap),(K w.params).In h->h.Ns mainGlobals mg->mg d.name=some (.ref fa) ->
  ∃ (fd:FuncData) (ad:Addr),(∀ (s:Shared) (u:Value),BindsTo s fd ⟨[u],[]⟩ [(x,u)])/\(∀ b o,(K w.params).lookup b=some o->o.cls≠.type "list")/\KTup (K w.params) ad xs /\
   ∀ base:Heap,(K w.params).In base->base.Ns mainGlobals mg->FnOk l.prog w (K w.params) mg base (CX w) k fa fd [x] (sp w ad))
 (hsp:∀ (w:World) (ad:Addr) (H:Hp) (a:Addr) (ns:List Int),ns.length<=n->H ad=some (.tup xs)->SqL (K w.params) H a (ns.map V.int)->sp w ad [.ref a] H (λ v o_=>v=.bl true) λ o_ o_ o_=>False)
 (hCX:∀ (w:World) (H:Hp) (s:Shared) (e:Value) (s':Shared),CX w [] H s (λ o_ o_ o_=>False) e s'->False) :
 W.WalkO q loose XP YP l.row.toRowW d [] (λ f vs=>PySem.call f vs):=by
 refine Att.q6d hn hdf λ w s₀ s₁ mg mb fa o pm cd doc a vs ns G Y ho hd hcd hmg hobj hints hlen hg=>?_
 have KX:=hY w _ Y
 obtain ⟨fd,ad,hb,hNL,hT,hF⟩:=F w mg fa _ KX G.T.g hmg
 exact q9u KX G.T.g G.T.b G.T.builtins G.T.nolimit hg hobj hints (N0v hlen hn2) hr hNL hT hF hb (λ H hO hS=>hsp w ad H a ns hlen hO hS) λ H e s'=>hCX w H s₁ e s'
end L2
namespace Dl
open PySem
noncomputable abbrev Ky:=Sum Int Str
noncomputable abbrev Pl:=Str×Str
inductive XT where
 | rc (r:List (Pl×Option Pl)) | rm (R:List (Pl×List (Pl×Int)))
set_option genInjectivity true in
inductive D where
 | non | bl (b:Bool) | int (i:Int) | str (x:Str)
 | tup (xs:List D) | lst (xs:List D)
 | dct (ks:List Ky) (vs:List D)
 | obj (c:Nat) (f:Str) (d:D)
 | xt (u:XT)
noncomputable abbrev DS:=List (Option D)
noncomputable def plD (p:Pl):D:=.tup [.str p.1,.str p.2]
noncomputable def dPl:D->Option Pl
 | .tup [.str a,.str b]=>some (a,b)
 | _=>none
noncomputable def optD:Option Pl->D
 | none=>.non
 | some p=>plD p
noncomputable def dOpl:D->Option (Option Pl)
 | .non=>some none
 | d=>(dPl d).map some
noncomputable def lkP {α:Type}(r:List (Pl×α)) (p:Pl):Option α:=(r.find? λ e=>decide (e.1=p)).map (·.2)
noncomputable def putP {α:Type}(r:List (Pl×α)) (p:Pl) (x:α):List (Pl×α):=if (r.any λ e=>decide (e.1=p))=true then r.map (λ e=>if e.1=p then (e.1,x) else e) else r++[(p,x)]
set_option genInjectivity true in
inductive Rz (α:Type) where
 | ok (a:α) | er (c:Nat) (s:DS) | un
noncomputable def Rz.bind {α β:Type}:Rz α->(α->Rz β)->Rz β
 | .ok a,f=>f a
 | .er c s,_=>.er c s
 | .un,_=>.un
@[simp] theorem Z3 {α β:Type}(a:α) (f:α->Rz β):(Rz.ok a).bind f=f a:=rfl
noncomputable def Rz.guard {α:Type}(c:Prop) [Decidable c] (r:Rz α):Rz α:=if c then r else .un
@[simp] theorem j8 {α:Type}{c:Prop} [Decidable c] {r:Rz α}(h:c):Rz.guard c r=r:=N0j h
mutual
noncomputable def D.imm:D->Bool
 | .tup xs=>q8F xs
 | .lst _=>false
 | .dct _ _=>false
 | .obj _ _ _=>false
 | .xt _=>false
 | .non=>true
 | .bl _=>true
 | .int _=>true
 | .str _=>true
noncomputable def q8F:List D->Bool
 | []=>true
 | x::r=>x.imm&&q8F r
end
theorem q2s:∀ l:List D,q8F l=l.all D.imm
 | []=>by rw [q8F];rfl
 | x::r=>by rw [q8F,List.all_cons,q2s r]
noncomputable def kyD:Ky->D
 | .inl i=>.int i
 | .inr x=>.str x
noncomputable def keyD:D->Option Ky
 | .int i=>some (.inl i)
 | .str x=>some (.inr x)
 | _=>none
noncomputable def z6k:D->D->Rz D
 | .int i,.int j=>.ok (.int (i+j))
 | .str x,.str y=>.guard (x.length+y.length<=sizeLine) (.ok (.str (x++y)))
 | .lst xs,.lst ys=>.guard (xs.length+ys.length<=sizeLine) (.ok (.lst (xs++ys)))
 | .tup xs,.tup ys=>.guard (xs≠[]/\xs.length+ys.length<=sizeLine) (.ok (.tup (xs++ys)))
 | _,_=>.un
noncomputable def q8G:D->D->Rz D
 | .int i,.int j=>.ok (.int (i - j))
 | _,_=>.un
noncomputable def q79:D->D->Rz D
 | .int i,.int j=>.guard ((-(2 ^ 64)<i/\i<2 ^ 64)\/(-(2 ^ 64)<j/\j<2 ^ 64)) (.ok (.int (i * j)))
 | _,_=>.un
noncomputable def q3B:D->D->Rz D
 | .int i,.int j=>.guard (0<j/\j<1073741824) (.ok (.int (i / j)))
 | _,_=>.un
noncomputable def q0J:D->D->Rz D
 | .int i,.int j=>.guard (0<j) (.ok (.int (i % j)))
 | _,_=>.un
noncomputable def z6l:D->Rz D
 | .int i=>.ok (.int (-i))
 | _=>.un
noncomputable def dLt:D->D->Rz D
 | .int i,.int j=>.ok (.bl (decide (i<j)))
 | _,_=>.un
noncomputable def dLe:D->D->Rz D
 | .int i,.int j=>.ok (.bl (decide (i<=j)))
 | .str x,.str y=>.ok (.bl (!decide (y.cps.toList<x.cps.toList)))
 | _,_=>.un
noncomputable def dGt:D->D->Rz D
 | .int i,.int j=>.ok (.bl (decide (j<i)))
 | _,_=>.un
noncomputable def dGe:D->D->Rz D
 | .int i,.int j=>.ok (.bl (decide (j<=i)))
 | .str x,.str y=>.ok (.bl (!decide (x.cps.toList<y.cps.toList)))
 | _,_=>.un
noncomputable def ixD (n:Nat) (i:Int):Option Nat:=if 0<=i then (if i<n then some i.toNat else none) else if -(n:Int)<=i then some (i+n).toNat else none
noncomputable def atD {α:Type}(xs:List α) (i:Int):Option α:=(ixD xs.length i).bind λ j=>xs[j]?
noncomputable def sIxD (n d:Nat):Option Int->Nat
 | none=>d
 | some v=>if v<0 then (v+(n:Int)).toNat else min v.toNat n
noncomputable def q5i {α:Type}(xs:List α) (lo hi:Option Int):List α:=(xs.drop (sIxD xs.length 0 lo)).take (sIxD xs.length xs.length hi - sIxD xs.length 0 lo)
noncomputable def valD {α:Type}(k:Ky):List Ky->List α->Option α
 | x::ks,d::ds=>if x=k then some d else valD k ks ds
 | _,_=>none
noncomputable def setK {α:Type}(k:Ky) (v:α):List Ky->List α->List α
 | x::ks,d::ds=>(if x=k then v else d)::setK k v ks ds
 | _,ds=>ds
noncomputable def putD (ks:List Ky) (ds:List D) (k:Ky) (v:D):D :=
 if (ks.any λ x=>decide (x=k))=true then .dct ks (setK k v ks ds) else .dct (ks++[k]) (ds++[v])
noncomputable def dropV {α:Type}(k:Ky):List Ky->List α->List α
 | x::ks,d::ds=>if x=k then dropV k ks ds else d::dropV k ks ds
 | _,_=>[]
section
variable {α:Type}{k x:Ky}{v d:α}{ks:List Ky}{ds:List α}
theorem z3c:valD k (x::ks) (d::ds)=if x=k then some d else valD k ks ds:=rfl
theorem q7a:setK k v (x::ks) (d::ds)=(if x=k then v else d)::setK k v ks ds:=rfl
theorem q7b:dropV k (x::ks) (d::ds)=if x=k then dropV k ks ds else d::dropV k ks ds:=rfl
end
noncomputable def optR {α:Type}:Option α->Rz α
 | some a=>.ok a
 | none=>.un
@[simp] theorem z5h {α:Type}(a:α):optR (some a)=.ok a:=rfl
noncomputable def dIx:D->D->Rz D
 | .lst xs,.int i=>optR (atD xs i)
 | .tup xs,.int i=>optR (atD xs i)
 | .str z,.int i=>.guard (z.length<=sizeLine) ((optR (atD z.cps.toList i)).bind λ c=>.ok (.str ⟨#[c]⟩))
 | .dct ks vs,.int i=>optR (valD (.inl i) ks vs)
 | .dct ks vs,.str x=>optR (valD (.inr x) ks vs)
 | .xt (.rc r),y=>optR ((dPl y).bind λ p=>(lkP r p).map optD)
 | _,_=>.un
noncomputable def z7q:D->Rz D
 | .lst xs=>.ok (.int xs.length)
 | .tup xs=>.ok (.int xs.length)
 | .str z=>.guard (z.length<=sizeLine) (.ok (.int z.length))
 | .dct ks _=>.ok (.int ks.length)
 | _=>.un
noncomputable def z7r:D->Rz Bool
 | .non=>.ok false
 | .bl b=>.ok b
 | .int i=>.ok (i != 0)
 | .str y=>.guard (y.length<=sizeLine) (.ok ((y.length:Int) != 0))
 | .lst xs=>.ok (!xs.isEmpty)
 | .tup xs=>.ok (!xs.isEmpty)
 | .dct ks _=>.ok (!ks.isEmpty)
 | _=>.un
noncomputable def flatD:D->Bool
 | .non=>true
 | .bl _=>true
 | .int _=>true
 | .str _=>true
 | _=>false
mutual
noncomputable def eqD:D->D->Bool
 | .non,.non=>true
 | .bl a,.bl b=>a==b
 | .bl a,.int j=>(if a then 1 else 0)==j
 | .int i,.bl b=>i==(if b then 1 else 0)
 | .int a,.int b=>a==b
 | .str a,.str b=>a==b
 | .tup xs,.tup ys=>q9v xs ys
 | .lst xs,.lst ys=>q9v xs ys
 | _,_=>false
noncomputable def q9v:List D->List D->Bool
 | [],[]=>true
 | x::xs,y::ys=>eqD x y&&q9v xs ys
 | _,_=>false
end
theorem z3d (xs ys:List D):eqD (.tup xs) (.tup ys)=q9v xs ys:=rfl
theorem q9w (xs ys:List D):eqD (.lst xs) (.lst ys)=q9v xs ys:=rfl
theorem z1w:q9v [] []=true:=rfl
theorem q2O (a b:D) (xs ys:List D):q9v (a::xs) (b::ys)=(eqD a b&&q9v xs ys):=rfl
mutual
noncomputable def okS:D->Bool
 | .str x=>x.cps.all (· < 0x110000)
 | .tup xs=>q7c xs
 | .lst xs=>q7c xs
 | .dct _ _=>false
 | .obj _ _ _=>false
 | .xt _=>false
 | .non=>true
 | .bl _=>true
 | .int _=>true
noncomputable def q7c:List D->Bool
 | []=>true
 | x::xs=>okS x&&q7c xs
end
mutual
noncomputable def q5j:D->Nat
 | .tup xs=>q4c xs+1
 | .lst xs=>q4c xs+1
 | .dct _ _=>0
 | .obj _ _ _=>0
 | .xt _=>0
 | .non=>0
 | .bl _=>0
 | .int _=>0
 | .str _=>0
noncomputable def q4c:List D->Nat
 | []=>0
 | x::xs=>max (q5j x) (q4c xs)
end
noncomputable def z5i:D->D->Bool
 | .non,.non=>true | .non,.int _=>true | .int _,.non=>true | .non,.bl _=>true | .bl _,.non=>true | .non,.str _=>true | .str _,.non=>true
 | .int _,.int _=>true | .bl _,.bl _=>true | .str _,.str _=>true
 | .int _,.str _=>true | .str _,.int _=>true | .bl _,.str _=>true | .str _,.bl _=>true
 | _,_=>false
noncomputable def cmpOk (x y:D):Bool:=z5i x y || (okS x&&okS y&&decide (q5j x<=64)&&decide (q5j y<=64))
noncomputable def dEq (x y:D):Rz D:=.guard (cmpOk x y=true) (.ok (.bl (eqD x y)))
noncomputable def dNe (x y:D):Rz D:=.guard (cmpOk x y=true) (.ok (.bl (!eqD x y)))
noncomputable def inD (x:D):D->Rz Bool
 | .lst ys=>.guard ((flatD x&&ys.all flatD)=true) (.ok (ys.any λ y=>eqD y x))
 | .tup ys=>.guard ((flatD x&&ys.all flatD)=true) (.ok (ys.any λ y=>eqD y x))
 | .dct ks _=>match keyD x with
  | some k=>.ok (ks.any λ j=>decide (j=k))
  | none=>.un
 | .xt (.rc r)=>match dPl x with
  | some p=>.ok (lkP r p).isSome
  | none=>.un
 | _=>.un
noncomputable def dIn (x y:D):Rz D:=(inD x y).bind λ b=>.ok (.bl b)
noncomputable def dNotIn (x y:D):Rz D:=(inD x y).bind λ b=>.ok (.bl (!b))
noncomputable def q1z:D->Bool
 | .non=>true
 | _=>false
noncomputable def z6m (x y:D):Rz D:=match y with
 | .non=>.ok (.bl (q1z x))
 | .bl c=>match x with
  | .bl b=>.ok (.bl (b==c))
  | _=>.un
 | _=>.un
noncomputable def q6h (x y:D):Rz D:=match y with
 | .non=>.ok (.bl (!q1z x))
 | .bl c=>match x with
  | .bl b=>.ok (.bl (!(b==c)))
  | _=>.un
 | _=>.un
noncomputable def tyD:D->Option String
 | .non=>some "NoneType"
 | .bl _=>some "bool"
 | .int _=>some "int"
 | .str _=>some "str"
 | .tup _=>some "tuple"
 | .lst _=>some "list"
 | .dct _ _=>some "dict"
 | .xt _=>none
 | .obj _ _ _=>none
noncomputable def dIsTy (T:String) (d:D):Rz D:=match tyD d with
 | some t=>.ok (.bl (t==T || (t=="bool"&&T=="int")))
 | none=>.un
noncomputable def blsD:List D->Option (List Bool)
 | []=>some []
 | .bl b::r=>(blsD r).map (b :: ·)
 | _::_=>none
noncomputable def intsD:List D->Option (List Int)
 | []=>some []
 | .int b::r=>(intsD r).map (b :: ·)
 | _::_=>none
noncomputable def z3e (f:D->Rz D):List D->Rz D
 | [d]=>f d
 | _=>.un
noncomputable def z3f:List D->Rz D:=z3e λ d=>match d with
 | .lst xs=>(optR (blsD xs)).bind λ bs=>.ok (.bl (bs.all id))
 | _=>.un
noncomputable def z5j:List D->Rz D:=z3e λ d=>match d with
 | .lst xs=>(optR (blsD xs)).bind λ bs=>.ok (.bl (bs.any id))
 | _=>.un
noncomputable def pSum:List D->Rz D:=z3e λ d=>match d with
 | .lst xs=>(optR (intsD xs)).bind λ bs=>.ok (.int bs.sum)
 | _=>.un
noncomputable def z5k:List D->Rz D:=z3e λ d=>match d with
 | .int i=>.ok (.int i)
 | .bl k=>.ok (.int (if k then 1 else 0))
 | _=>.un
noncomputable def pList:List D->Rz D:=z3e λ d=>match d with
 | .lst xs=>.ok (.lst xs)
 | .tup xs=>.ok (.lst xs)
 | .dct ks _=>.ok (.lst (ks.map kyD))
 | _=>.un
noncomputable def pTuple:List D->Rz D:=z3e λ d=>match d with
 | .lst xs=>.ok (.tup xs)
 | .tup xs=>.ok (.tup xs)
 | _=>.un
noncomputable abbrev GE:=DS->Rz D
noncomputable abbrev GT:=DS->Rz Bool
noncomputable abbrev GA:=DS->Rz (List D)
noncomputable def gVar (i:Nat):GE:=λ δ=>match δ[i]? with
 | some (some d)=>.ok d
 | _=>.un
noncomputable def gVarI (i:Nat):GE:=λ δ=>match δ[i]? with
 | some (some d)=>.guard (d.imm=true) (.ok d)
 | _=>.un
noncomputable def gC (d:D):GE:=λ o_=>.ok d
noncomputable def gOp (f:D->D->Rz D) (a b:GE):GE:=λ δ=>(a δ).bind λ x=>(b δ).bind λ y=>f x y
noncomputable def gUn (f:D->Rz D) (a:GE):GE:=λ δ=>(a δ).bind f
noncomputable def gIf (t:GT) (a b:GE):GE:=λ δ=>(t δ).bind λ c=>if c=true then a δ else b δ
noncomputable def z7s (a b:GE):GE:=λ δ=>(a δ).bind λ x=>match x with
 | .bl true=>b δ
 | .bl false=>.ok (.bl false)
 | _=>.un
noncomputable def gOr (a b:GE):GE:=λ δ=>(a δ).bind λ x=>match x with
 | .bl true=>.ok (.bl true)
 | .bl false=>b δ
 | _=>.un
noncomputable def gB (a:GE):GT:=λ δ=>(a δ).bind λ x=>match x with
 | .bl c=>.ok c
 | _=>.un
noncomputable def gTru (a:GE):GT:=λ δ=>(a δ).bind z7r
noncomputable def q0I (a b:GT):GT:=λ δ=>(a δ).bind λ c=>if c=true then b δ else .ok false
noncomputable def q1U (a b:GT):GT:=λ δ=>(a δ).bind λ c=>if c=true then .ok true else b δ
noncomputable def q03 (a:GT):GT:=λ δ=>(a δ).bind λ c=>.ok (!c)
noncomputable def gYes:GT:=λ o_=>.ok true
noncomputable def gNil:GA:=λ o_=>.ok []
noncomputable def gCons (a:GE) (b:GA):GA:=λ δ=>(a δ).bind λ x=>(b δ).bind λ xs=>.ok (x::xs)
noncomputable def gTup (a:GA):GE:=λ δ=>(a δ).bind λ xs=>.guard (xs.length<=sizeLine) (.ok (.tup xs))
noncomputable def gLst (a:GA):GE:=λ δ=>(a δ).bind λ xs=>.guard (xs.length<=sizeLine) (.ok (.lst xs))
noncomputable abbrev PF:=List D->Rz D
noncomputable def gCall (F:PF) (a:GA):GE:=λ δ=>(a δ).bind F
noncomputable def gOI (a:GE):DS->Rz (Option Int):=λ δ=>(a δ).bind λ x=>match x with
 | .int i=>.ok (some i)
 | _=>.un
noncomputable def gON:DS->Rz (Option Int):=λ o_=>.ok none
noncomputable def dCut:D->Option Int->Option Int->Rz D
 | .lst xs,lo,hi=>.ok (.lst (q5i xs lo hi))
 | .str z,lo,hi=>.guard (z.length<=sizeLine) (.ok (.str ⟨(q5i z.cps.toList lo hi).toArray⟩))
 | _,_,_=>.un
noncomputable def gSl (a:GE) (lo hi:DS->Rz (Option Int)):GE:=λ δ=>(a δ).bind λ x=>(lo δ).bind λ l=>(hi δ).bind λ h=>dCut x l h
noncomputable abbrev GI:=DS->Rz (List D)
noncomputable def signsD (z:Str):List D:=z.cps.toList.map λ c=>D.str ⟨#[c]⟩
noncomputable def gItS (a:GE):GI:=λ δ=>(a δ).bind λ x=>match x with
 | .lst xs=>.ok xs
 | .tup xs=>.ok xs
 | .str z=>.guard (z.cps.all (· < 128)=true) (.ok (signsD z))
 | _=>.un
noncomputable def Rng (j:Int):Prop:=-(2 ^ 62)<=j/\j<2 ^ 62
noncomputable instance (j:Int):Decidable (Rng j):=decidable_of_iff (j.toNat<4611686018427387904/\(-j).toNat<=4611686018427387904) (and_comm.trans (and_congr (Int.toNat_le.trans ⟨λ h=>Int.neg_le_of_neg_le h,λ h=>Int.neg_le_of_neg_le h⟩) (Int.toNat_lt' (by decide))))
noncomputable def rangeD (lo:Int) (n:Nat):List D:=(List.range n).map λ k:Nat=>D.int (lo+(k:Int))
noncomputable def q1A (a:GE):GI:=λ δ=>(a δ).bind λ x=>match x with
 | .int j=>.guard (Rng j) (.ok (rangeD 0 j.toNat))
 | _=>.un
noncomputable def z3g (a b:GE):GI:=λ δ=>(a δ).bind λ x=>(b δ).bind λ y=>match x,y with
 | .int i,.int j=>.guard (Rng i/\Rng j) (.ok (rangeD i (j - i).toNat))
 | _,_=>.un
noncomputable def compL (cap:DS) (t:GT) (e:GE):List D->Rz (List D)
 | []=>.ok []
 | x::xs=>(t (some x::cap)).bind λ b=>if b=true then (e (some x::cap)).bind λ y=>(compL cap t e xs).bind λ ys=>.ok (y::ys) else compL cap t e xs
noncomputable def capD (caps:List Nat) (δ:DS):DS:=caps.map λ c=>(δ[c]?).join
noncomputable def U2 (it:GI) (caps:List Nat) (t:GT) (e:GE):GE:=λ δ=>(it δ).bind λ xs=>(compL (capD caps δ) t e xs).bind λ ys=>.guard (ys.length<=sizeLine) (.ok (.lst ys))
inductive Out where
 | nx (δ:DS) | rt (d:D) (δ:DS) | bk (δ:DS) | ct (δ:DS)
noncomputable abbrev GS:=DS->Rz Out
noncomputable def Z6:GS:=λ δ=>.ok (.nx δ)
noncomputable def gSeq (a b:GS):GS:=λ δ=>(a δ).bind λ o=>match o with
 | .nx δ'=>b δ'
 | o=>.ok o
noncomputable def Y9 (t:GT) (a b:GS):GS:=λ δ=>(t δ).bind λ c=>if c=true then a δ else b δ
noncomputable def y7 (a:GE):GS:=λ δ=>(a δ).bind λ d=>.ok (.rt d δ)
noncomputable def q6i (a:GE):GS:=λ δ=>(a δ).bind λ o_=>.ok (.nx δ)
noncomputable def X4 (i:Nat) (a:GE):GS:=λ δ=>(a δ).bind λ d=>.ok (.nx (δ.set i (some d)))
noncomputable def q3C:GS:=λ o_=>.un
noncomputable def q4d (i:Nat) (a:GE):GS:=λ δ=>(a δ).bind λ d=>match δ[i]? with
 | some (some (.lst xs))=>.guard (xs.length<sizeLine) (.ok (.nx (δ.set i (some (.lst (xs++[d]))))))
 | _=>.un
noncomputable def dPut:D->D->D->Rz D
 | .dct ks vs,k,v=>match keyD k with
  | some k=>.guard (ks.length<sizeLine) (.ok (putD ks vs k v))
  | none=>.un
 | .lst xs,.int i,v=>match ixD xs.length i with
  | some j=>.ok (.lst (xs.set j v))
  | none=>.un
 | .xt (.rc r),k,v=>match dPl k,dOpl v with
  | some p,some o=>.guard (r.length<sizeLine) (.ok (.xt (.rc (putP r p o))))
  | _,_=>.un
 | _,_,_=>.un
noncomputable def gPut (i:Nat) (k a:GE):GS:=λ δ=>(a δ).bind λ d=>(k δ).bind λ k=>match δ[i]? with
 | some (some x)=>(dPut x k d).bind λ y=>.ok (.nx (δ.set i (some y)))
 | _=>.un
noncomputable def forget:List Nat->DS->DS
 | [],δ=>δ
 | i::r,δ=>forget r (δ.set i none)
noncomputable def W6 (i:Nat) (fg:List Nat) (body:GS):List D->DS->Rz Out
 | [],δ=>.ok (.nx δ)
 | x::xs,δ=>(body (δ.set i (some x))).bind λ o=>match o with
  | .nx δ'=>W6 i fg body xs (forget fg δ')
  | .ct δ'=>W6 i fg body xs (forget fg δ')
  | .bk δ'=>.ok (.nx (forget fg δ'))
  | .rt d δ'=>.ok (.rt d δ')
noncomputable def q1B (it:GI) (i:Nat) (fg:List Nat) (body:GS):GS:=λ δ=>(it δ).bind λ xs=>W6 i fg body xs (forget fg δ)
noncomputable def y8 (fg:List Nat) (t:GT) (body:GS):Nat->GS
 | 0,_=>.un
 | n+1,δ=>(t δ).bind λ b=>if b=true then (body δ).bind λ o=>match o with
  | .nx δ'=>y8 fg t body n (forget fg δ')
  | .ct δ'=>y8 fg t body n (forget fg δ')
  | .bk δ'=>.ok (.nx (forget fg δ'))
  | .rt d δ'=>.ok (.rt d δ')
  else .ok (.nx δ)
noncomputable def startD (n:Nat) (ds:List D):DS:=ds.map some++List.replicate (n - ds.length) none
noncomputable def K2 (n:Nat) (body:GS):PF:=λ ds=>(body (startD n ds)).bind λ o=>match o with
 | .nx _=>.ok .non
 | .rt d _=>.ok d
 | _=>.un
noncomputable def D.big:D->Bool
 | .lst _=>true
 | .dct _ _=>true
 | .obj _ _ (.dct _ _)=>true
 | .xt _=>true
 | _=>false
noncomputable def q86 (a:GE):GS:=λ δ=>(a δ).bind λ d=>.guard (d.big=false) (.ok (.rt d δ))
noncomputable def gSetO (i:Nat) (a:GE):GS:=λ δ=>(a δ).bind λ d=>.guard (d.big=true) (.ok (.nx (δ.set i (some d))))
noncomputable def J3:D->D->Rz D
 | .int i,.int j=>.ok (.int (i+j))
 | .str x,.str y=>.guard (x.length+y.length<=sizeLine) (.ok (.str (x++y)))
 | _,_=>.un
noncomputable def pLen:List D->Rz D
 | [d]=>z7q d
 | _=>.un
noncomputable def D.imI:D->Bool
 | .lst xs=>q8F xs
 | .dct _ vs=>q8F vs
 | d=>d.imm
noncomputable def q9x (g:GE):GE:=λ δ=>(g δ).bind λ d=>.guard (d.imI=true) (.ok d)
noncomputable def gIm (g:GE):GE:=λ δ=>(g δ).bind λ d=>.guard (d.imm=true) (.ok d)
noncomputable def z1x (c:Nat) (f:Str):D->Rz D
 | .obj c' f' d=>.guard (c'=c/\f'=f) (.ok d)
 | _=>.un
noncomputable def isObj (c:Nat) (m:Str):D->Bool
 | .obj c' f _=>decide (c'=c) && !decide (f=m)
 | _=>false
noncomputable def u5 (c:Nat) (m:Str) (F:PF) (o:GE) (a:GA):GE:=λ δ=>(o δ).bind λ x=>(a δ).bind λ ds=>.guard (isObj c m x=true) (F (x::ds))
noncomputable def D.imO:D->Bool
 | .lst xs=>q8F xs
 | .dct _ vs=>q8F vs
 | .obj _ _ (.dct _ vs)=>q8F vs
 | .xt _=>true
 | _=>false
noncomputable abbrev PFI:=List D->Rz (D×List D)
noncomputable abbrev GX:=DS->Rz (D×DS)
noncomputable def q3D:List Nat->DS->Rz (List D)
 | [],_=>.ok []
 | i::r,δ=>match δ[i]? with
  | some (some d)=>.guard (d.imO=true) ((q3D r δ).bind λ ds=>.ok (d::ds))
  | _=>.un
noncomputable def setS:List Nat->List D->DS->DS
 | i::r,d::ds,δ=>setS r ds (δ.set i (some d))
 | _,_,δ=>δ
noncomputable def q0y (F:PFI) (is:List Nat) (a:GA):GX:=λ δ=>(a δ).bind λ ds=>(q3D is δ).bind λ os=>(F (os++ds)).bind λ r=>.guard (r.2.length=is.length) (.ok (r.1,setS is r.2 δ))
noncomputable def q2P (c:Nat) (m:Str) (F:PFI) (i:Nat) (a:GA):GX:=λ δ=>(a δ).bind λ ds=>(q3D [i] δ).bind λ os=>.guard ((os.all (isObj c m))=true) ((F (os++ds)).bind λ r=>.guard (r.2.length=[i].length) (.ok (r.1,setS [i] r.2 δ)))
noncomputable def V4 (a:GX):GS:=λ δ=>(a δ).bind λ r=>.ok (.nx r.2)
noncomputable abbrev GTX:=DS->Rz (Bool×DS)
noncomputable def z3h (n p:Nat) (body:GS):PFI:=λ ds=>(body (startD n ds)).bind λ o=>match o with
 | .nx δ=>(q3D (List.range p) δ).bind λ es=>.ok (.non,es)
 | .rt d δ=>(q3D (List.range p) δ).bind λ es=>.ok (d,es)
 | _=>.un
noncomputable def z3i (i:Nat) (c:Nat) (f:Str) (k a:GE):GS:=λ δ=>(a δ).bind λ d=>(k δ).bind λ k=>match δ[i]? with
 | some (some (.obj c' f' x))=>.guard (c'=c/\f'=f) (match x with
  | .dct ks vs=>(dPut (.dct ks vs) k d).bind λ y=>.ok (.nx (δ.set i (some (.obj c' f' y))))
  | _=>.un)
 | _=>.un
noncomputable def z3j (i:Nat) (c:Nat) (f:Str) (k:GE):GS:=λ δ=>(k δ).bind λ k=>match δ[i]? with
 | some (some (.obj c' f' x))=>.guard (c'=c/\f'=f) (match x,keyD k with
  | .dct ks vs,some k=>.guard ((ks.any λ j=>decide (j=k))=true) (.ok (.nx (δ.set i (some (.obj c' f' (.dct (ks.filter λ x=>decide (x≠k)) (dropV k ks vs)))))))
  | _,_=>.un)
 | _=>.un
noncomputable def setT:List Nat->List D->DS->Option DS
 | [],[],δ=>some δ
 | i::r,d::ds,δ=>setT r ds (δ.set i (some d))
 | _,_,_=>none
noncomputable def z4t (is:List Nat) (a:GE):GS:=λ δ=>(a δ).bind λ d=>match d with
 | .tup ds=>(optR (setT is ds δ)).bind λ δ'=>.ok (.nx δ')
 | _=>.un
noncomputable def gChain (f g:D->D->Rz D) (a b c:GE):GE:=λ δ=>(a δ).bind λ x=>(b δ).bind λ y=>(f x y).bind λ z=>match z with
 | .bl true=>(c δ).bind λ w=>g y w
 | .bl false=>.ok (.bl false)
 | _=>.un
noncomputable def dInW (ws:List Str):D->Rz D
 | .str x=>.ok (.bl (decide (x∈ws)))
 | _=>.un
noncomputable def z7t:List D->Option (List Str)
 | []=>some []
 | .str x::r=>(z7t r).map (x :: ·)
 | _::_=>none
noncomputable abbrev HS:=DS->Option (Nat×DS)
noncomputable abbrev HE:=DS->Option Nat
noncomputable def z5l (x:Str):Prop:=x.length<=100000/\∀ c∈x.cps.toList,c<0x110000
noncomputable instance (x:Str):Decidable (z5l x):=inferInstanceAs (Decidable (_/\_))
end Dl
namespace Dl
open PySem L2
noncomputable def plK (p:Pl):List Key:=[.inr p.1,.inr p.2]
noncomputable def plV (p:Pl):List V:=[.str p.1,.str p.2]
noncomputable def rcV (H:Hp) (v:V):Option Pl->Prop
 | none=>v=.non
 | some p=>∃ b,v=.ref b/\H b=some (.tup (plV p))
noncomputable def XOn (H:Hp) (l:List Addr) (v:V):XT->Prop
 | .rc r=>∃ a vs,v=.ref a/\l=[a]/\vs.length=r.length/\H a=some (.dT ((r.map λ e=>plK e.1).zip vs))/\∀ (i:Nat) (u:V) e,vs[i]? = some u->r[i]? = some e->rcV H u e.2
 | .rm R=>∃ a bs,v=.ref a/\l=a::bs/\l.Nodup/\bs.length=R.length/\H a=some (.dT ((R.map λ e=>plK e.1).zip (bs.map V.ref)))/\∀ (i:Nat) (b:Addr) e,bs[i]? = some b->R[i]? = some e->H b=some (.dT (e.2.map λ q=>(plK q.1,V.int q.2)))
theorem XOn.mono {H H':Hp}{l:List Addr}{v:V}{u:XT}(ht:∀ a xs,H a=some (.tup xs)->H' a=some (.tup xs)) (hl:∀ a∈l,∀ o,H a=some o->H' a=some o) (x:XOn H l v u):XOn H' l v u:=by
 cases u with
 | rc r =>
  obtain ⟨a,vs,e1,rfl,e3,e4,e5⟩:=x
  refine ⟨a,vs,e1,rfl,e3,hl a N00 _ e4,λ i u e q1 q2=>?_⟩
  have:=e5 i u e q1 q2
  cases q:e.2 with
  | none=>rw [q] at this;exact this
  | some p =>
   rw [q] at this
   obtain ⟨b,z1,z2⟩:=this
   exact ⟨b,z1,ht _ _ z2⟩
 | rm R =>
  obtain ⟨a,bs,e1,rfl,e3,e4,e5,e6⟩:=x
  exact ⟨a,bs,e1,rfl,e3,e4,hl a N00 _ e5,λ i b e q1 q2=>hl b (N02 _ (N0u q1)) _ (e6 i b e q1 q2)⟩
theorem XOn.ex {H:Hp}{l:List Addr}{v:V}{u:XT}(x:XOn H l v u){a:Addr}(m:a∈l):H a≠none:=by
 intro z
 cases u with
 | rc r =>
  obtain ⟨a',vs,e1,rfl,e3,e4,e5⟩:=x
  rw [N0f.mp m,e4] at z
  cases z
 | rm R =>
  obtain ⟨a',bs,e1,rfl,e3,e4,e5,e6⟩:=x
  rcases N0c.mp m with rfl | m
  ·rw [e5] at z;cases z
  ·obtain ⟨i,hi,e⟩:=List.getElem_of_mem m
   have q2:R[i]? = some (R[i]'(by rw [<- e4];exact hi)):=N08 _
   rw [e6 i a _ (by rw [N08 hi,e]) q2] at z
   cases z
noncomputable def XR (H:Hp) (l:List Addr) (v:V):XT->Prop
 | .rc r=>∃ a vs,v=.ref a/\l=[a]/\vs.length=r.length/\Rd H a (.dT ((r.map λ e=>plK e.1).zip vs))/\∀ (i:Nat) (u:V) e,vs[i]? = some u->r[i]? = some e->rcV H u e.2
 | .rm R=>∃ a bs,v=.ref a/\l=a::bs/\bs.length=R.length/\Rd H a (.dT ((R.map λ e=>plK e.1).zip (bs.map V.ref)))/\∀ (i:Nat) (b:Addr) e,bs[i]? = some b->R[i]? = some e->Rd H b (.dT (e.2.map λ q=>(plK q.1,V.int q.2)))
theorem XOn.xr {H:Hp}{l:List Addr}{v:V}{u:XT}(x:XOn H l v u):XR H l v u:=by
 cases u with
 | rc r=>obtain ⟨a,vs,e1,e2,e3,e4,e5⟩:=x;exact ⟨a,vs,e1,e2,e3,.inl e4,e5⟩
 | rm R=>obtain ⟨a,bs,e1,e2,e3,e4,e5,e6⟩:=x;exact ⟨a,bs,e1,e2,e4,.inl e5,λ i b e q1 q2=>.inl (e6 i b e q1 q2)⟩
theorem q2t {H H':Hp}(ht:∀ a xs,H a=some (.tup xs)->H' a=some (.tup xs)){u:V}{o:Option Pl}(z:rcV H u o):rcV H' u o:=by
 cases o with
 | none=>exact z
 | some p=>obtain ⟨b,z1,z2⟩:=z;exact ⟨b,z1,ht _ _ z2⟩
theorem XR.mono {H H':Hp}{l:List Addr}{v:V}{u:XT}(ht:∀ a xs,H a=some (.tup xs)->H' a=some (.tup xs)) (hl:∀ a∈l,∀ kvs,Rd H a (.dT kvs)->Rd H' a (.dT kvs)) (x:XR H l v u):XR H' l v u:=by
 cases u with
 | rc r =>
  obtain ⟨a,vs,e1,rfl,e3,e4,e5⟩:=x
  exact ⟨a,vs,e1,rfl,e3,hl a N00 _ e4,λ i u e q1 q2=>q2t ht (e5 i u e q1 q2)⟩
 | rm R =>
  obtain ⟨a,bs,e1,rfl,e4,e5,e6⟩:=x
  exact ⟨a,bs,e1,rfl,e4,hl a N00 _ e5,λ i b e q1 q2=>hl b (N02 _ (N0u q1)) _ (e6 i b e q1 q2)⟩
theorem XR.ex {H:Hp}{l:List Addr}{v:V}{u:XT}(x:XR H l v u){a:Addr}(m:a∈l):H a≠none:=by
 have key:∀ {b:Addr}{o:HO},Rd H b o->H b≠none:=λ h=>by rcases h with h | ⟨o,h⟩<;>rw [h]<;>exact λ z=>by cases z
 cases u with
 | rc r =>
  obtain ⟨a',vs,e1,rfl,e3,e4,e5⟩:=x
  rw [N0f.mp m];exact key e4
 | rm R =>
  obtain ⟨a',bs,e1,rfl,e4,e5,e6⟩:=x
  rcases N0c.mp m with rfl | m
  ·exact key e5
  ·obtain ⟨i,hi,e⟩:=List.getElem_of_mem m
   have q2:R[i]? = some (R[i]'(by rw [<- e4];exact hi)):=N08 _
   exact key (e6 i a _ (by rw [N08 hi,e]) q2)
theorem XR.ref {H:Hp}{l:List Addr}{v:V}{u:XT}(x:XR H l v u):∃ a,v=.ref a:=by
 cases u with
 | rc r=>obtain ⟨a,vs,e1,_⟩:=x;exact ⟨a,e1⟩
 | rm R=>obtain ⟨a,bs,e1,_⟩:=x;exact ⟨a,e1⟩
noncomputable def Sun (cl:Nat->Addr) (H:Hp):Prop:=cl 98=1->H (cl 99)=some (.tup (plV ("sun","in")))
theorem Sun.tk {cl:Nat->Addr}{H H':Hp}(h:Sun cl H) (t:∀ a xs,H a=some (.tup xs)->H' a=some (.tup xs)):Sun cl H':=λ e=>t _ _ (h e)
mutual
noncomputable def At (K:W.Frag) (cl:Nat->Addr) (H:Hp) (S:Addr->Prop):V->D->Prop
 | v,.non=>v=.non
 | v,.bl b=>v=.bl b
 | v,.int i=>v=.int i
 | v,.str x=>v=.str x
 | v,.tup ds=>∃ a vs,v=.ref a/\H a=some (.tup vs)/\Ats K cl H S vs ds
 | v,.lst ds=>∃ a vs,v=.ref a/\S a/\Rd H a (.lst vs)/\Ats K cl H S vs ds
 | v,.dct ks ds=>∃ a vs,v=.ref a/\S a/\H a=some (.dK (ks.zip vs))/\ks.length=ds.length/\Ats K cl H S vs ds
 | v,.obj c f d=>∃ a dx u,v=.ref a/\S a/\H a=some (.ins (cl c) dx [(f,u)])/\At K cl H S u d
 | v,.xt u=>∃ l,XR H l v u/\∀ a∈l,S a
noncomputable def Ats (K:W.Frag) (cl:Nat->Addr) (H:Hp) (S:Addr->Prop):List V->List D->Prop
 | [],[]=>True
 | v::vs,d::ds=>At K cl H S v d/\Ats K cl H S vs ds
 | [],_::_=>False
 | _::_,[]=>False
end
section
variable {K:PySem.W.Frag}{cl:Nat->Addr}{H H':Hp}{S S':Addr->Prop}
noncomputable def TupK (H H':Hp):Prop:=∀ a xs,H a=some (.tup xs)->H' a=some (.tup xs)
theorem TupK.of (s:Same H H'):TupK H H':=λ a xs h=>s _ _ h
theorem TupK.trans {H'':Hp}(a:TupK H H') (b:TupK H' H''):TupK H H'':=λ c xs h=>b c xs (a c xs h)
theorem TupK.refl:TupK H H:=λ o_ o_ h=>h
theorem _root_.L2.Same.rd {a:Addr}{u:HO}(s:Same H H') (h:Rd H a u):Rd H' a u:=by
 rcases h with h | ⟨o,h⟩
 ·exact .inl (s _ _ h)
 ·exact .inr ⟨o,s _ _ h⟩
theorem _root_.L2.Rd.ex {a:Addr}{u:HO}(h:Rd H a u):H a≠none:=by
 rcases h with h | ⟨o,h⟩<;>rw [h]<;>exact λ z=>by cases z
mutual
theorem At.mono (ht:TupK H H') (h:∀ a o,S a->H a=some o->H' a=some o) (hs:∀ a,S a->H a≠none->S' a):∀ {v:V}{d:D},At K cl H S v d->At K cl H' S' v d
 | v,.non,z=>by rw [At] at z ⊢;exact z
 | v,.bl _,z=>by rw [At] at z ⊢;exact z
 | v,.int _,z=>by rw [At] at z ⊢;exact z
 | v,.str _,z=>by rw [At] at z ⊢;exact z
 | v,.tup ds,z=>by
  rw [At] at z ⊢
  obtain ⟨a,vs,e,q,r⟩:=z
  exact ⟨a,vs,e,ht _ _ q,Ats.mono ht h hs r⟩
 | v,.lst ds,z=>by
  rw [At] at z ⊢
  obtain ⟨a,vs,e,s,q,r⟩:=z
  refine ⟨a,vs,e,hs a s q.ex,?_,Ats.mono ht h hs r⟩
  rcases q with q | ⟨o,q⟩
  ·exact .inl (h _ _ s q)
  ·exact .inr ⟨o,h _ _ s q⟩
 | v,.dct ks ds,z=>by
  rw [At] at z ⊢
  obtain ⟨a,vs,e,s,q,l,r⟩:=z
  exact ⟨a,vs,e,hs a s (by rw [q];exact λ z=>by cases z),h _ _ s q,l,Ats.mono ht h hs r⟩
 | v,.obj c f d,z=>by
  rw [At] at z ⊢
  obtain ⟨a,dx,u,e,s,q,r⟩:=z
  exact ⟨a,dx,u,e,hs a s (by rw [q];exact λ z=>by cases z),h _ _ s q,At.mono ht h hs r⟩
 | v,.xt u,z=>by
  rw [At] at z ⊢
  obtain ⟨l,x,s⟩:=z
  exact ⟨l,x.mono ht λ a m kvs e=>e.elim (λ e=>.inl (h a _ (s a m) e)) λ ⟨o,e⟩=>.inr ⟨o,h a _ (s a m) e⟩,λ a m=>hs a (s a m) (x.ex m)⟩
theorem Ats.mono (ht:TupK H H') (h:∀ a o,S a->H a=some o->H' a=some o) (hs:∀ a,S a->H a≠none->S' a):∀ {vs:List V}{ds:List D},Ats K cl H S vs ds->Ats K cl H' S' vs ds
 | [],[],_=>by rw [Ats];exact trivial
 | v::vs,d::ds,z=>by
  rw [Ats] at z ⊢
  exact ⟨At.mono ht h hs z.1,Ats.mono ht h hs z.2⟩
 | [],_::_,z=>by rw [Ats] at z;exact z.elim
 | _::_,[],z=>by rw [Ats] at z;exact z.elim
end
theorem At.same {v:V}{d:D}(z:At K cl H S v d) (s:Same H H'):At K cl H' S v d:=z.mono (TupK.of s) (λ a o o_ e=>s a o e) λ o_ h o_=>h
theorem Ats.same {vs:List V}{ds:List D}(z:Ats K cl H S vs ds) (s:Same H H'):Ats K cl H' S vs ds:=z.mono (TupK.of s) (λ a o o_ e=>s a o e) λ o_ h o_=>h
theorem At.sub {v:V}{d:D}(z:At K cl H S v d) (s:∀ a,S a->H a≠none->S' a):At K cl H S' v d:=z.mono TupK.refl (λ a o o_ e=>e) s
theorem Ats.sub {vs:List V}{ds:List D}(z:Ats K cl H S vs ds) (s:∀ a,S a->H a≠none->S' a):Ats K cl H S' vs ds:=z.mono TupK.refl (λ a o o_ e=>e) s
mutual
theorem At.imm (ht:TupK H H'):∀ {v:V}{d:D},d.imm=true->At K cl H S v d->At K cl H' S' v d
 | v,.non,_,z=>by rw [At] at z ⊢;exact z
 | v,.bl _,_,z=>by rw [At] at z ⊢;exact z
 | v,.int _,_,z=>by rw [At] at z ⊢;exact z
 | v,.str _,_,z=>by rw [At] at z ⊢;exact z
 | v,.tup ds,i,z=>by
  rw [At] at z ⊢
  obtain ⟨a,vs,e,q,r⟩:=z
  rw [D.imm] at i
  exact ⟨a,vs,e,ht _ _ q,Ats.imm ht i r⟩
 | v,.lst ds,i,z=>by rw [D.imm] at i;cases i
 | v,.dct ks ds,i,z=>by rw [D.imm] at i;cases i
 | v,.obj c f d,i,z=>by rw [D.imm] at i;cases i
 | v,.xt u,i,z=>by rw [D.imm] at i;cases i
theorem Ats.imm (ht:TupK H H'):∀ {vs:List V}{ds:List D},q8F ds=true->Ats K cl H S vs ds->Ats K cl H' S' vs ds
 | [],[],_,_=>by rw [Ats];exact trivial
 | v::vs,d::ds,i,z=>by
  rw [Ats] at z ⊢
  rw [q8F,N0q] at i
  exact ⟨At.imm ht i.1 z.1,Ats.imm ht i.2 z.2⟩
 | [],_::_,_,z=>by rw [Ats] at z;exact z.elim
 | _::_,[],_,z=>by rw [Ats] at z;exact z.elim
end
theorem Ats.nil:Ats K cl H S [] []:=by rw [Ats];exact trivial
theorem Ats.cons {v:V}{d:D}{vs:List V}{ds:List D}(a:At K cl H S v d) (b:Ats K cl H S vs ds):Ats K cl H S (v::vs) (d::ds):=by rw [Ats];exact ⟨a,b⟩
theorem Ats.append:∀ {vs us:List V}{ds es:List D},Ats K cl H S vs ds->Ats K cl H S us es->Ats K cl H S (vs++us) (ds++es)
 | [],_,[],_,_,b=>b
 | v::vs,us,d::ds,es,a,b=>by
  rw [Ats] at a
  show Ats K cl H S (v::(vs++us)) (d::(ds++es))
  rw [Ats]
  exact ⟨a.1,Ats.append a.2 b⟩
 | [],_,_::_,_,z,_=>by rw [Ats] at z;exact z.elim
 | _::_,_,[],_,z,_=>by rw [Ats] at z;exact z.elim
theorem Ats.length:∀ {vs:List V}{ds:List D},Ats K cl H S vs ds->vs.length=ds.length
 | [],[],_=>rfl
 | v::vs,d::ds,a=>by
  rw [Ats] at a
  rw [N0h,N0h,Ats.length a.2]
 | [],_::_,z=>by rw [Ats] at z;exact z.elim
 | _::_,[],z=>by rw [Ats] at z;exact z.elim
theorem Ats.get:∀ {vs:List V}{ds:List D}{i:Nat}{d:D},Ats K cl H S vs ds->ds[i]? = some d->∃ v,vs[i]? = some v/\At K cl H S v d
 | [],[],i,d,_,e=>by simp at e
 | v::vs,x::ds,0,d,a,e=>by
  rw [Ats] at a
  have e:x=d:=N0b e
  subst e
  exact ⟨v,rfl,a.1⟩
 | v::vs,x::ds,i+1,d,a,e=>by
  rw [Ats] at a
  exact Ats.get (i:=i) a.2 e
 | [],_::_,_,_,z,_=>by rw [Ats] at z;exact z.elim
 | _::_,[],_,_,z,_=>by rw [Ats] at z;exact z.elim
theorem Ats.get' {vs:List V}{ds:List D}{i:Nat}{v:V}(a:Ats K cl H S vs ds) (e:vs[i]? = some v):∃ d,ds[i]? = some d/\At K cl H S v d:=by
 have hl:=a.length
 have hi:i<ds.length:=by rw [<- hl];exact (N04.mp e).1
 obtain ⟨u,eu,h⟩:=a.get (N08 hi)
 rw [e] at eu
 cases eu
 exact ⟨_,N08 hi,h⟩
theorem Ats.drop:∀ (n:Nat){vs:List V}{ds:List D},Ats K cl H S vs ds->Ats K cl H S (vs.drop n) (ds.drop n)
 | 0,_,_,a=>a
 | n+1,[],[],a=>a
 | n+1,v::vs,d::ds,a=>by rw [Ats] at a;exact Ats.drop n a.2
 | _+1,[],_::_,z=>by rw [Ats] at z;exact z.elim
 | _+1,_::_,[],z=>by rw [Ats] at z;exact z.elim
theorem Ats.take:∀ (n:Nat){vs:List V}{ds:List D},Ats K cl H S vs ds->Ats K cl H S (vs.take n) (ds.take n)
 | 0,_,_,_=>Ats.nil
 | n+1,[],[],a=>a
 | n+1,v::vs,d::ds,a=>by
  rw [Ats] at a
  exact Ats.cons a.1 (Ats.take n a.2)
 | _+1,[],_::_,z=>by rw [Ats] at z;exact z.elim
 | _+1,_::_,[],z=>by rw [Ats] at z;exact z.elim
theorem Ats.set {v:V}{d:D}(h:At K cl H S v d):∀ (i:Nat){vs:List V}{ds:List D},Ats K cl H S vs ds->Ats K cl H S (vs.set i v) (ds.set i d)
 | _,[],[],a=>a
 | 0,v::vs,e::ds,a=>by
  rw [Ats] at a
  exact Ats.cons h a.2
 | i+1,u::vs,e::ds,a=>by
  rw [Ats] at a
  exact Ats.cons a.1 (Ats.set h i a.2)
 | _,[],_::_,z=>by rw [Ats] at z;exact z.elim
 | _,_::_,[],z=>by rw [Ats] at z;exact z.elim
theorem q0L {p q:Pl}(h:plK p=plK q):p=q:=by
 unfold plK at h
 injection h with h1 h2
 injection h2 with h2 _
 injection h1 with h1
 injection h2 with h2
 exact Prod.ext h1 h2
theorem q07 {d:D}{p:Pl}(e:dPl d=some p):d=plD p:=by
 cases d with
 | tup l =>
  cases l with
  | nil=>cases e
  | cons a l =>
   cases a with
   | str a =>
    cases l with
    | nil=>cases e
    | cons b l =>
     cases b with
     | str b =>
      cases l with
      | nil=>cases e;rfl
      | cons _ _=>cases e
     | _=>cases e
   | _=>cases e
 | _=>cases e
theorem q08 {x:V}{p:Pl}(a:At K cl H S x (plD p)):∃ b,x=.ref b/\H b=some (.tup ((plK p).map kV)):=by
 unfold plD at a
 rw [At] at a
 obtain ⟨b,vs,rfl,h,w⟩:=a
 match vs,w with
 | [u,v],w =>
  rw [Ats,Ats,At,At] at w
  obtain ⟨rfl,rfl,_⟩:=w
  exact ⟨b,rfl,h⟩
 | [],w=>rw [Ats] at w;exact w.elim
 | [_],w=>rw [Ats,Ats] at w;exact w.2.elim
 | _::_::_::_,w=>rw [Ats,Ats,Ats] at w;exact w.2.2.elim
theorem q7d {x:V}{p:Pl}{b:Addr}(hx:x=.ref b) (h:H b=some (.tup ((plK p).map kV))):At K cl H S x (plD p):=by
 unfold plD
 rw [At]
 exact ⟨b,_,hx,h,by rw [plK,N09,N09,List.map_nil,Ats,Ats,Ats,At,At];exact ⟨rfl,rfl,trivial⟩⟩
theorem z5m {x:V}{o:Option Pl}(h:rcV H x o):At K cl H S x (optD o):=by
 cases o with
 | none=>show At K cl H S x .non;rw [At];exact h
 | some p=>obtain ⟨b,h1,h2⟩:=h;exact q7d h1 h2
theorem lk_zip {α:Type}(p:Pl):∀ (r:List (Pl×α)) (us:List V),us.length=r.length ->
 (lkP r p=none/\valV ((r.map λ e=>plK e.1).zip us) (plK p)=none)\/∃ (i:Nat) (e:Pl×α) (u:V),r[i]? = some e/\us[i]? = some u/\lkP r p=some e.2/\valV ((r.map λ e=>plK e.1).zip us) (plK p)=some u
 | [],[],_=>.inl ⟨rfl,rfl⟩
 | e::r,u::us,h=>by
  rw [N09,N1r]
  by_cases q:e.1=p
  ·refine .inr ⟨0,e,u,rfl,rfl,?_,q0g (by rw [q])⟩
   unfold lkP
   rw [List.find?_cons_of_pos (by simp [q])]
   rfl
  ·rw [q0h (λ z=>q (q0L z))]
   have e2:lkP (e::r) p=lkP r p:=by unfold lkP;rw [List.find?_cons_of_neg (by simp [q])]
   rw [e2]
   rcases lk_zip p r us (by simpa using h) with z | ⟨i,e',u',z1,z2,z3⟩
   ·exact .inl z
   ·exact .inr ⟨i+1,e',u',z1,z2,z3⟩
 | [],_::_,h=>by simp at h
 | _::_,[],h=>by simp at h
theorem lk_row (p:Pl):∀ row:List (Pl×Int),valV (row.map λ q=>(plK q.1,V.int q.2)) (plK p)=(lkP row p).map V.int
 | []=>rfl
 | e::r=>by
  rw [N09]
  by_cases q:e.1=p
  ·rw [q0g (by rw [q])]
   unfold lkP
   rw [List.find?_cons_of_pos (by simp [q])]
   rfl
  ·rw [q0h (λ z=>q (q0L z)),lk_row p r]
   unfold lkP;rw [List.find?_cons_of_neg (by simp [q])]
theorem at_opl {x:V}{d:D}{o:Option Pl}(a:At K cl H S x d) (e:dOpl d=some o):rcV H x o:=by
 unfold dOpl at e
 split at e
 ·cases e;rw [At] at a;exact a
 ·cases q:dPl d with
  | none=>rw [q] at e;cases e
  | some p =>
   rw [q] at e
   cases e
   rw [q07 q] at a
   obtain ⟨b,h1,h2⟩:=q08 a
   exact ⟨b,h1,h2⟩
theorem q9y {α:Type}(p:Pl):∀ (r:List (Pl×α)) (us:List V),us.length=r.length->(((r.map λ e=>plK e.1).zip us).any λ kv=>decide (kv.1=plK p))=r.any λ e=>decide (e.1=p)
 | [],[],_=>rfl
 | e::r,u::us,h=>by
  rw [N09,N1r,N1i,N1i,q9y p r us (by simpa using h)]
  congr 1
  by_cases q:e.1=p
  ·simp [q]
  ·rw [N0e q,N0e (λ z=>q (q0L z))]
 | [],_::_,h=>by simp at h
 | _::_,[],h=>by simp at h
theorem z2i {α:Type}(p:Pl) (x:α) (vv:V):∀ (r:List (Pl×α)) (us:List V),us.length=r.length->∃ us':List V,us'.length=r.length /\
 ((r.map λ e=>plK e.1).zip us).map (λ kv=>if kv.1=plK p then (kv.1,vv) else kv)=((r.map λ e=>if e.1=p then (e.1,x) else e).map λ e=>plK e.1).zip us' /\
 ∀ (i:Nat) (u:V) (e:Pl×α),us'[i]? = some u->(r.map λ e=>if e.1=p then (e.1,x) else e)[i]? = some e->(e.2=x/\u=vv)\/(us[i]? = some u/\r[i]? = some e)
 | [],[],_=>⟨[],rfl,rfl,λ i u e q=>by simp at q⟩
 | e::r,u::us,h=>by
  obtain ⟨us',h1,h2,h3⟩:=z2i p x vv r us (by simpa using h)
  by_cases q:e.1=p
  ·refine ⟨vv::us',by simp [h1],?_,λ i u' e' q1 q2=>?_⟩
   ·rw [N09,N1r,N09,N09,N09,N1r,h2,N0j (by rw [q]),N0j q]
   ·cases i with
    | zero =>
     rw [N09,N0j q] at q2
     cases q1;cases q2
     exact .inl ⟨rfl,rfl⟩
    | succ i=>exact h3 i u' e' q1 q2
  ·refine ⟨u::us',by simp [h1],?_,λ i u' e' q1 q2=>?_⟩
   ·rw [N09,N1r,N09,N09,N09,N1r,h2,N0l (λ z=>q (q0L z)),N0l q]
   ·cases i with
    | zero =>
     rw [N09,N0l q] at q2
     cases q1;cases q2
     exact .inr ⟨rfl,rfl⟩
    | succ i=>exact h3 i u' e' q1 q2
 | [],_::_,h=>by simp at h
 | _::_,[],h=>by simp at h
theorem z3k {α:Type}(p:Pl) (x:α) (vv:V) (r:List (Pl×α)) (us:List V) (h:us.length=r.length):∃ us':List V,us'.length=(putP r p x).length /\
 putK ((r.map λ e=>plK e.1).zip us) (plK p) vv=((putP r p x).map λ e=>plK e.1).zip us' /\
 ∀ (i:Nat) (u:V) (e:Pl×α),us'[i]? = some u->(putP r p x)[i]? = some e->(e.2=x/\u=vv)\/(us[i]? = some u/\r[i]? = some e):=by
 unfold putK putP
 rw [q9y p r us h]
 by_cases c:(r.any λ e=>decide (e.1=p))=true
 ·rw [N0j c,N0j c]
  obtain ⟨us',h1,h2,h3⟩:=z2i p x vv r us h
  exact ⟨us',by rw [N01];exact h1,h2,h3⟩
 ·rw [N0l c,N0l c]
  refine ⟨us++[vv],by simp [h],?_,λ i u e q1 q2=>?_⟩
  ·rw [N14,List.zip_append (by rw [N01];exact h.symm)];rfl
  ·rcases Nat.lt_or_ge i r.length with l | l
   ·rw [N0x (by lia)] at q1
    rw [N0x l] at q2
    exact .inr ⟨q1,q2⟩
   ·rw [N19 (by lia),h] at q1
    rw [N19 l] at q2
    cases z:i - r.length with
    | zero=>rw [z] at q1 q2;cases q1;cases q2;exact .inl ⟨rfl,rfl⟩
    | succ n=>rw [z] at q1;simp at q1
theorem put_row (p:Pl) (n:Int) (row:List (Pl×Int)):putK (row.map λ q=>(plK q.1,V.int q.2)) (plK p) (V.int n)=(putP row p n).map λ q=>(plK q.1,V.int q.2):=by
 have hd:∀ q:Pl×Int,decide (plK q.1=plK p)=decide (q.1=p):=λ q=>by
  by_cases z:q.1=p
  ·simp [z]
  ·rw [N0e z,N0e (λ w=>z (q0L w))]
 unfold putK putP
 rw [List.any_map]
 have e1:(row.any ((λ kv:List Key×V=>decide (kv.1=plK p)) ∘ λ q=>(plK q.1,V.int q.2)))=row.any λ e=>decide (e.1=p):=by
  congr 1;funext q;exact hd q
 rw [e1]
 by_cases c:(row.any λ e=>decide (e.1=p))=true
 ·rw [N0j c,N0j c,N1m,N1m]
  refine N25 λ q o_=>?_
  show (if plK q.1=plK p then (plK q.1,V.int n) else (plK q.1,V.int q.2))=_
  by_cases z:q.1=p
  ·rw [N0j (by rw [z])];simp [z]
  ·rw [N0l (λ w=>z (q0L w))];simp [z]
 ·rw [N0l c,N0l c,N14];rfl
noncomputable def Fz (H H':Hp):Prop:=∀ b o,H b=some o->H' b=some o\/∃ kvs,(o=.dT kvs/\∃ ob,H' b=some (.frz ob (.dT kvs)))\/∃ ob,o=.frz ob (.dT kvs)/\H' b=some (.dT kvs)
theorem Fz.keep {b:Addr}{o:HO}(z:Fz H H') (e:H b=some o) (n1:∀ kvs,o≠.dT kvs) (n2:∀ ob kvs,o≠.frz ob (.dT kvs)):H' b=some o:=by
 rcases z b o e with h | ⟨kvs,⟨h,_⟩ | ⟨ob,h,_⟩⟩
 ·exact h
 ·exact absurd h (n1 kvs)
 ·exact absurd h (n2 ob kvs)
theorem Fz.rd {b:Addr}{kvs:List (List Key×V)}(z:Fz H H') (e:Rd H b (.dT kvs)):Rd H' b (.dT kvs):=by
 rcases e with e | ⟨o,e⟩
 ·rcases z b _ e with h | ⟨kvs',⟨h,ob,h'⟩ | ⟨ob,h,_⟩⟩
  ·exact .inl h
  ·cases h;exact .inr ⟨ob,h'⟩
  ·cases h
 ·rcases z b _ e with h | ⟨kvs',⟨h,_⟩ | ⟨ob,h,h'⟩⟩
  ·exact .inr ⟨o,h⟩
  ·cases h
  ·cases h;exact .inl h'
theorem Fz.tup (z:Fz H H'):TupK H H':=λ a xs e=>z.keep e (λ o_ q=>nomatch q) λ o_ o_ q=>nomatch q
mutual
theorem At.fz (z:Fz H H'):∀ {v:V}{d:D},At K cl H S v d->At K cl H' S v d
 | v,.non,a=>by rw [At] at a ⊢;exact a
 | v,.bl _,a=>by rw [At] at a ⊢;exact a
 | v,.int _,a=>by rw [At] at a ⊢;exact a
 | v,.str _,a=>by rw [At] at a ⊢;exact a
 | v,.tup ds,a=>by
  rw [At] at a ⊢
  obtain ⟨b,vs,e,q,r⟩:=a
  exact ⟨b,vs,e,z.tup _ _ q,Ats.fz z r⟩
 | v,.lst ds,a=>by
  rw [At] at a ⊢
  obtain ⟨b,vs,e,s,q,r⟩:=a
  refine ⟨b,vs,e,s,?_,Ats.fz z r⟩
  rcases q with q | ⟨o,q⟩
  ·exact .inl (z.keep q (λ o_ q=>nomatch q) λ o_ o_ q=>nomatch q)
  ·exact .inr ⟨o,z.keep q (λ o_ q=>nomatch q) λ o_ o_ q=>nomatch q⟩
 | v,.dct ks ds,a=>by
  rw [At] at a ⊢
  obtain ⟨b,vs,e,s,q,l,r⟩:=a
  exact ⟨b,vs,e,s,z.keep q (λ o_ q=>nomatch q) (λ o_ o_ q=>nomatch q),l,Ats.fz z r⟩
 | v,.obj c f d,a=>by
  rw [At] at a ⊢
  obtain ⟨b,dx,u,e,s,q,r⟩:=a
  exact ⟨b,dx,u,e,s,z.keep q (λ o_ q=>nomatch q) (λ o_ o_ q=>nomatch q),At.fz z r⟩
 | v,.xt u,a=>by
  rw [At] at a ⊢
  obtain ⟨l,x,s⟩:=a
  exact ⟨l,x.mono z.tup λ a m kvs e=>z.rd e,s⟩
theorem Ats.fz (z:Fz H H'):∀ {vs:List V}{ds:List D},Ats K cl H S vs ds->Ats K cl H' S vs ds
 | [],[],_=>by rw [Ats];exact trivial
 | v::vs,d::ds,a=>by
  rw [Ats] at a ⊢
  exact ⟨At.fz z a.1,Ats.fz z a.2⟩
 | [],_::_,a=>by rw [Ats] at a;exact a.elim
 | _::_,[],a=>by rw [Ats] at a;exact a.elim
end
noncomputable def Own (K:PySem.W.Frag) (cl:Nat->Addr) (H:Hp) (S:Addr->Prop) (l:List Addr) (v:V):D->Prop
 | .lst ds=>∃ a vs,v=.ref a/\l=[a]/\H a=some (.lst vs)/\Ats K cl H (λ b=>S b/\b∉l) vs ds
 | .dct ks ds=>∃ a vs,v=.ref a/\l=[a]/\H a=some (.dK (ks.zip vs))/\ks.length=ds.length/\Ats K cl H (λ b=>S b/\b∉l) vs ds
 | .obj c f (.dct ks ds)=>∃ a dx b vs,v=.ref a/\l=[a,b]/\a≠b/\H a=some (.ins (cl c) dx [(f,.ref b)])/\H b=some (.dK (ks.zip vs))/\ks.length=ds.length/\Ats K cl H (λ b=>S b/\b∉l) vs ds
 | .xt u=>XOn H l v u
 | _=>False
theorem q5k {l:List Addr}{v:V}{P:Prop}{d:D}(h:Own K cl H S l v d) (h1:∀ ds,d=.lst ds->Own K cl H S l v (.lst ds)->P) (h2:∀ ks ds,d=.dct ks ds->Own K cl H S l v (.dct ks ds)->P) (h3:∀ c f ks ds,d=.obj c f (.dct ks ds)->Own K cl H S l v (.obj c f (.dct ks ds))->P) (h4:∀ u,d=.xt u->XOn H l v u->P):P:=by
 cases d with
 | lst ds=>exact h1 _ rfl h
 | dct ks ds=>exact h2 _ _ rfl h
 | obj c f x=>cases x with
  | dct ks ds=>exact h3 _ _ _ _ rfl h
  | _=>exact False.elim h
 | xt u=>exact h4 _ rfl h
 | _=>exact False.elim h
theorem Own.at {l:List Addr}{v:V}{d:D}(o:Own K cl H S l v d) (s:∀ a,S a->S' a) (sl:∀ a∈l,S' a):At K cl H S' v d:=by
 refine q5k o (λ ds=>?_) (λ ks ds=>?_) (λ c f ks ds=>?_) λ u=>?_
 ·rintro rfl ⟨a,vs,e,el,h,r⟩
  rw [At]
  exact ⟨a,vs,e,sl a (by rw [el];exact N00),.inl h,r.sub λ b z o_=>s b z.1⟩
 ·rintro rfl ⟨a,vs,e,el,h,k,r⟩
  rw [At]
  exact ⟨a,vs,e,sl a (by rw [el];exact N00),h,k,r.sub λ b z o_=>s b z.1⟩
 ·rintro rfl ⟨a,dx,b,vs,e,el,ne,h,hb,k,r⟩
  rw [At]
  refine ⟨a,dx,_,e,sl a (by rw [el];exact N00),h,?_⟩
  rw [At]
  exact ⟨b,vs,rfl,sl b (by rw [el];simp),hb,k,r.sub λ b z o_=>s b z.1⟩
 ·rintro rfl x;rw [At];exact ⟨l,x.xr,sl⟩
theorem Own.mono {l:List Addr}{v:V}(ht:TupK H H') (h:∀ a o,S a->H a=some o->H' a=some o) (hl:∀ a∈l,∀ o,H a=some o->H' a=some o) (hs:∀ a,S a->H a≠none->S' a){d:D}(o:Own K cl H S l v d):Own K cl H' S' l v d:=by
 have M:∀ {vs ds},Ats K cl H (λ b=>S b/\b∉l) vs ds->Ats K cl H' (λ b=>S' b/\b∉l) vs ds:=λ r=>r.mono ht (λ b o z=>h b o z.1) λ b z n=>⟨hs b z.1 n,z.2⟩
 refine q5k o (λ ds=>?_) (λ ks ds=>?_) (λ c f ks ds=>?_) λ u=>?_
 ·rintro rfl ⟨a,vs,e,el,q,r⟩;exact ⟨a,vs,e,el,hl a (by rw [el];exact N00) _ q,M r⟩
 ·rintro rfl ⟨a,vs,e,el,q,k,r⟩;exact ⟨a,vs,e,el,hl a (by rw [el];exact N00) _ q,k,M r⟩
 ·rintro rfl ⟨a,dx,b,vs,e,el,ne,q,qb,k,r⟩;exact ⟨a,dx,b,vs,e,el,ne,hl a (by rw [el];exact N00) _ q,hl b (by rw [el];simp) _ qb,k,M r⟩
 ·rintro rfl x;exact XOn.mono ht hl x
theorem Own.ex {l:List Addr}{v:V}{a:Addr}(m:a∈l){d:D}(o:Own K cl H S l v d):H a≠none:=by
 intro z
 refine q5k o (λ ds=>?_) (λ ks ds=>?_) (λ c f ks ds=>?_) λ u=>?_
 ·rintro - ⟨b,vs,e,el,q,r⟩
  rw [el,N0f] at m
  rw [m,q] at z;cases z
 ·rintro - ⟨b,vs,e,el,q,k,r⟩
  rw [el,N0f] at m
  rw [m,q] at z;cases z
 ·rintro - ⟨a',dx,b,vs,e,el,ne,q,qb,k,r⟩
  rw [el] at m
  rcases N0c.mp m with m | m
  ·rw [m,q] at z;cases z
  ·rw [N0f.mp m,qb] at z;cases z
 ·rintro - x;exact x.ex m z
theorem Own.fz {l:List Addr}{v:V}(z:Fz H H') (hl:∀ a∈l,H' a=H a){d:D}(o:Own K cl H S l v d):Own K cl H' S l v d:=by
 refine q5k o (λ ds=>?_) (λ ks ds=>?_) (λ c f ks ds=>?_) λ u=>?_
 ·rintro rfl ⟨a,vs,e,el,q,r⟩;exact ⟨a,vs,e,el,by rw [hl a (by rw [el];exact N00)];exact q,r.fz z⟩
 ·rintro rfl ⟨a,vs,e,el,q,k,r⟩;exact ⟨a,vs,e,el,by rw [hl a (by rw [el];exact N00)];exact q,k,r.fz z⟩
 ·rintro rfl ⟨a,dx,b,vs,e,el,ne,q,qb,k,r⟩;exact ⟨a,dx,b,vs,e,el,ne,by rw [hl a (by rw [el];exact N00)];exact q,by rw [hl b (by rw [el];simp)];exact qb,k,r.fz z⟩
 ·rintro rfl x;exact XOn.mono z.tup (λ a m o e=>by rw [hl a m];exact e) x
end
structure Dc where
 cl:Nat->Addr
 H₀:Hp
 X:Addr->Prop
 io:List Nat
 iv:Nat->V
 il:Nat->List Addr
 sn:Sun cl H₀
inductive Kd where
 | v | b | s | o | i | w
 deriving DecidableEq
noncomputable def Sk (C:Dc) (F:Addr->Prop):Kd->Addr->Prop
 | .v,_=>True
 | .i,_=>True
 | .b,a=>¬ F a
 | .s,a=>C.H₀ a=none/\¬ F a
 | .o,a=>C.H₀ a=none
 | .w,a=>C.H₀ a=none
noncomputable def leK:Kd->Kd->Bool
 | _,.v=>true
 | _,.i=>true
 | .b,.b=>true
 | .s,.b=>true
 | .s,.s=>true
 | .s,.o=>true
 | .o,.o=>true
 | .w,.o=>true
 | _,_=>false
theorem z3l {C:Dc}{F:Addr->Prop}{a:Addr}:∀ {k m:Kd},leK k m=true->Sk C F k a->Sk C F m a
 | _,.v,_,_=>trivial
 | _,.i,_,_=>trivial
 | .b,.b,_,h=>h
 | .s,.b,_,h=>h.2
 | .s,.s,_,h=>h
 | .s,.o,_,h=>h.1
 | .o,.o,_,h=>h
 | .v,.b,h,_=>by cases h
 | .i,.b,h,_=>by cases h
 | .o,.b,h,_=>by cases h
 | .v,.s,h,_=>by cases h
 | .i,.s,h,_=>by cases h
 | .o,.s,h,_=>by cases h
 | .b,.s,h,_=>by cases h
 | .v,.o,h,_=>by cases h
 | .i,.o,h,_=>by cases h
 | .b,.o,h,_=>by cases h
 | .w,.o,_,h=>h
 | .w,.b,h,_=>by cases h
 | .w,.s,h,_=>by cases h
 | .v,.w,h,_=>by cases h
 | .i,.w,h,_=>by cases h
 | .b,.w,h,_=>by cases h
 | .s,.w,h,_=>by cases h
 | .o,.w,h,_=>by cases h
 | .w,.w,h,_=>by cases h
structure Rx (K:PySem.W.Frag) (C:Dc) (κ:List Kd) (F:Addr->Prop) (σ:St) (H:Hp) (δ:DS):Prop where
 sl:∀ (i:Nat) (d:D),δ[i]? = some (some d)->∃ v k,σ[i]? = some (some v)/\κ[i]? = some k/\At K C.cl H (Sk C F k) v d
 old:∀ a,H a=none->C.H₀ a=none
 ow:∀ a,F a->H a≠none
 tk:TupK C.H₀ H
section
variable {K:PySem.W.Frag}{C:Dc}{κ:List Kd}{F:Addr->Prop}{σ:St}{H H':Hp}{δ:DS}
theorem Rx.same (r:Rx K C κ F σ H δ) (s:Same H H'):Rx K C κ F σ H' δ :=
 ⟨λ i d e=>let ⟨v,k,h1,h2,h3⟩:=r.sl i d e;⟨v,k,h1,h2,h3.same s⟩,λ a h=>r.old a (s.free h),λ a f h=>r.ow a f (s.free h),r.tk.trans (TupK.of s)⟩
theorem Rx.sun (r:Rx K C κ F σ H δ):Sun C.cl H:=C.sn.tk r.tk
theorem Rx.new (r:Rx K C κ F σ H δ) (m:Kd){a:Addr}(h:H a=none):Sk C F m a:=by
 cases m with
 | v=>trivial
 | i=>trivial
 | b=>exact λ f=>r.ow a f h
 | w=>exact r.old a h
 | s=>exact ⟨r.old a h,λ f=>r.ow a f h⟩
 | o=>exact r.old a h
end
noncomputable def Nw (K:PySem.W.Frag) (cl:Nat->Addr) (H H':Hp) (S:Addr->Prop) (v:V) (d:D):Prop:=d.big=true->∃ l,Own K cl H' S l v d/\∀ a∈l,H a=none
theorem Nw.small {K:PySem.W.Frag}{cl:Nat->Addr}{H H':Hp}{S:Addr->Prop}{v:V}{d:D}(h:d.big=false):Nw K cl H H' S v d:=λ z=>by rw [h] at z;cases z
theorem Nw.back {K:PySem.W.Frag}{cl:Nat->Addr}{H H1 H':Hp}{S:Addr->Prop}{v:V}{d:D}(n:Nw K cl H1 H' S v d) (s:Same H H1):Nw K cl H H' S v d:=λ z =>
 let ⟨l,o,h⟩:=n z
 ⟨l,o,λ a m=>s.free (h a m)⟩
noncomputable def Post (K:PySem.W.Frag) (C:Dc) (F:Addr->Prop) (m:Kd) (fr:Bool) (H:Hp) (Q:VK):Rz D->Prop
 | .ok d=>∀ v H',Same H H'->At K C.cl H' (Sk C F m) v d->(fr=true->Nw K C.cl H H' (Sk C F m) v d)->Q v H'
 | _=>False
noncomputable def DE (X:Cx) (C:Dc) (κ:List Kd) (m:Kd) (fr:Bool) (e:Expr) (g:GE):Prop :=
 ∃ t,PE X e t/\∀ F σ H δ,Rx X.K C κ F σ H δ->∀ Q,Post X.K C F m fr H Q (g δ)->t σ H Q
noncomputable def q9z (K:PySem.W.Frag) (C:Dc) (F:Addr->Prop) (m:Kd) (H:Hp) (Q:List V->Hp->Prop):Rz (List D)->Prop
 | .ok ds=>∀ vs H',Same H H'->Ats K C.cl H' (Sk C F m) vs ds->Q vs H'
 | _=>False
noncomputable def DA (X:Cx) (C:Dc) (κ:List Kd) (m:Kd) (es:List Expr) (g:GA):Prop :=
 ∃ t,PA X es t/\∀ F σ H δ,Rx X.K C κ F σ H δ->∀ Q,q9z X.K C F m H Q (g δ)->t σ H Q
noncomputable def PostT (H:Hp) (Q:Bool->Hp->Prop):Rz Bool->Prop
 | .ok b=>∀ H',Same H H'->Q b H'
 | _=>False
noncomputable def DT (X:Cx) (C:Dc) (κ:List Kd) (e:Expr) (g:GT):Prop :=
 ∃ t,PT X e t/\∀ F σ H δ,Rx X.K C κ F σ H δ->∀ Q,PostT H Q (g δ)->t σ H Q
noncomputable def DW (X:Cx) (C:Dc) (κ:List Kd) (e:Expr) (g:GT):Prop :=
 ∃ t,PW X e t/\∀ F σ H δ,Rx X.K C κ F σ H δ->∀ Q,PostT H Q (g δ)->t σ H Q
noncomputable def z5n (H:Hp) (Q:Option Int->Hp->Prop):Rz (Option Int)->Prop
 | .ok b=>∀ H',Same H H'->Q b H'
 | _=>False
noncomputable def DO (X:Cx) (C:Dc) (κ:List Kd) (e:Option Expr) (g:DS->Rz (Option Int)):Prop :=
 ∃ t,PO X e t/\∀ F σ H δ,Rx X.K C κ F σ H δ->∀ Q,z5n H Q (g δ)->t σ H Q
section
variable {X:Cx}{C:Dc}{κ:List Kd}{m:Kd}{fr fa fb fc:Bool}{a b c e:Expr}{es:List Expr}{ga gb gc:GE}{pos:Pos}
theorem Z7 {β:Type}{r:Rz D}{f:D->Rz β}{T:Rz β->Prop}(hu:∀ c s,¬ T (.er c s)) (hn:¬ T .un) (h:T (r.bind f)):∃ d,r=.ok d/\T (f d):=by
 cases r with
 | ok d=>exact ⟨d,rfl,h⟩
 | er c s=>exact absurd h (hu c s)
 | un=>exact absurd h hn
theorem Q1 {α β:Type}{r:Rz α}{f:α->Rz β}{T:Rz β->Prop}(hu:∀ c s,¬ T (.er c s)) (hn:¬ T .un) (h:T (r.bind f)):∃ d,r=.ok d/\T (f d):=by
 cases r with
 | ok d=>exact ⟨d,rfl,h⟩
 | er c s=>exact absurd h (hu c s)
 | un=>exact absurd h hn
theorem Z9 {β:Type}{c:Prop} [Decidable c] {r:Rz β}{T:Rz β->Prop}(hn:¬ T .un) (h:T (Rz.guard c r)):c/\T r:=by
 unfold Rz.guard at h
 by_cases z:c
 ·rw [N0j z] at h;exact ⟨z,h⟩
 ·rw [N0l z] at h;exact absurd h hn
theorem Q3 {β:Type}{K:PySem.W.Frag}{C:Dc}{F:Addr->Prop}{m:Kd}{fr:Bool}{H:Hp}{Q:VK}{r:Rz β}{f:β->Rz D}(h:Post K C F m fr H Q (r.bind f)):∃ d,r=.ok d/\Post K C F m fr H Q (f d):=by
 cases r with
 | ok d=>exact ⟨d,rfl,h⟩
 | er c s=>exact h.elim
 | un=>exact h.elim
theorem x6 {K:PySem.W.Frag}{C:Dc}{F:Addr->Prop}{m:Kd}{fr:Bool}{H:Hp}{Q:VK}{c:Prop} [Decidable c] {r:Rz D}(h:Post K C F m fr H Q (Rz.guard c r)):c/\Post K C F m fr H Q r:=Z9 (T:=Post K C F m fr H Q) (λ z=>z) h
theorem DE.nf (h:DE X C κ m fr e ga):DE X C κ m false e ga:=by
 obtain ⟨t,ht,hd⟩:=h
 refine ⟨t,ht,λ F σ H δ r Q p=>hd F σ H δ r Q ?_⟩
 cases q:ga δ with
 | ok d=>rw [q] at p;exact λ v H' s a o_=>p v H' s a (λ z=>by cases z)
 | er c s=>rw [q] at p;exact p
 | un=>rw [q] at p;exact p
set_option tactic.hygienic true in
theorem z0 (i:Nat){x:Str}{k:Kd}(hk:κ[i]? = some k) (hl:leK k m=true) (hN:X.N[i]? = some x:=by rfl) (hv:Vis X.env.scope x:=by nofun) (hd:(x==("__debug__" : Str))=false:=by decide)
 (hcd:(x==("__classdict__" : Str))=false:=by decide):DE X C κ m false (.Name x pos) (gVar i):=by
 refine ⟨_,Y7 hN hv hd hcd,λ F σ H δ r Q p=>?_⟩
 unfold gVar at p
 split at p
 ·rename_i d q
  obtain ⟨v,k',h1,h2,h3⟩:=r.sl i d q
  rw [hk] at h2
  cases h2
  exact ⟨v,h1,p v H (Same.refl H) (h3.sub λ b z o_=>z3l hl z) (λ z=>by cases z)⟩
 ·exact p.elim
set_option tactic.hygienic true in
theorem q0k (i:Nat){x:Str}(hN:X.N[i]? = some x:=by rfl) (hv:Vis X.env.scope x:=by nofun) (hd:(x==("__debug__" : Str))=false:=by decide)
 (hcd:(x==("__classdict__" : Str))=false:=by decide):DE X C κ m false (.Name x pos) (gVarI i):=by
 refine ⟨_,Y7 hN hv hd hcd,λ F σ H δ r Q p=>?_⟩
 unfold gVarI at p
 split at p
 ·rename_i d q
  obtain ⟨hi,p⟩:=x6 p
  obtain ⟨v,k',h1,h2,h3⟩:=r.sl i d q
  exact ⟨v,h1,p v H (Same.refl H) (h3.imm TupK.refl hi) (λ z=>by cases z)⟩
 ·exact p.elim
theorem j3 {i:Int} {j}:DE X C κ m true (.Constant (.int i) j pos) (gC (.int i)):=⟨_,q8N,λ F σ H δ r Q p=>p _ H (Same.refl H) (by rw [At]) λ o_=>Nw.small rfl⟩
theorem q1i {i:Bool} {j}:DE X C κ m true (.Constant (.bool i) j pos) (gC (.bl i)):=⟨_,z6U,λ F σ H δ r Q p=>p _ H (Same.refl H) (by rw [At]) λ o_=>Nw.small rfl⟩
theorem q5l {j}:DE X C κ m true (.Constant .none j pos) (gC .non):=⟨_,z4D,λ F σ H δ r Q p=>p _ H (Same.refl H) (by rw [At]) λ o_=>Nw.small rfl⟩
theorem Z0 {x:Str} {j}:DE X C κ m true (.Constant (.str x) j pos) (gC (.str x)):=⟨_,z4E,λ F σ H δ r Q p=>p _ H (Same.refl H) (by rw [At]) λ o_=>Nw.small rfl⟩
noncomputable def q87 (K:PySem.W.Frag) (cl:Nat->Addr) (S:Addr->Prop) (H:Hp) (Q:VK):Rz D->Prop
 | .ok d=>∀ v H',Same H H'->At K cl H' S v d->Nw K cl H H' S v d->Q v H'
 | _=>False
noncomputable def OpD (K:PySem.W.Frag) (cl:Nat->Addr) (r:R2) (p:D->D->Rz D):Prop :=
 ∀ (H:Hp) (S:Addr->Prop) (x y:V) (dx dy:D) (Q:VK),(∀ a,H a=none->S a)->At K cl H S x dx->At K cl H S y dy->q87 K cl S H Q (p dx dy)->r x y H Q
noncomputable def OpS (K:PySem.W.Frag) (cl:Nat->Addr) (r:R2) (p:D->D->Rz D):Prop :=
 ∀ (H:Hp) (S:Addr->Prop) (x y:V) (dx dy:D) (Q:VK),At K cl H S x dx->At K cl H S y dy->(match p dx dy with | .ok d=>d.imm=true/\(∀ v H',Same H H'->(∀ S',At K cl H' S' v d)->Q v H') | _=>False)->r x y H Q
noncomputable def z3m (K:PySem.W.Frag) (cl:Nat->Addr) (r:List V->Hp->VK->Prop) (p:List D->Rz D):Prop :=
 ∀ (H:Hp) (S:Addr->Prop) (vs:List V) (ds:List D) (Q:VK),(∀ a,H a=none->S a)->Ats K cl H S vs ds->q87 K cl S H Q (p ds)->r vs H Q
theorem q7e {F:Addr->Prop}{H H1:Hp}{Q:VK}{r:Rz D}(s:Same H H1) (p:Post X.K C F m fr H Q r):q87 X.K C.cl (Sk C F m) H1 Q r:=by
 cases r with
 | ok d=>exact λ v H' s' a n=>p v H' (s.trans s') a λ o_=>n.back s
 | er c s=>exact p
 | un=>exact p
theorem z5o {op:Operator}{r:R2}{p:D->D->Rz D}(ho:OpR X (binaryOp op) r) (hp:OpD X.K C.cl r p) (ha:DE X C κ m fa a ga) (hb:DE X C κ m fb b gb):DE X C κ m true (.BinOp a op b pos) (gOp p ga gb):=by
 obtain ⟨ta,pa,da⟩:=ha
 obtain ⟨tb,pb,db⟩:=hb
 refine ⟨_,z4P ho pa pb,λ F σ H δ rx Q z=>da F σ H δ rx _ ?_⟩
 obtain ⟨d1,e1,z⟩:=Q3 z
 obtain ⟨d2,e2,z⟩:=Q3 z
 rw [e1]
 intro v H1 s1 a1 _
 refine db F σ H1 δ (rx.same s1) _ ?_
 rw [e2]
 intro u H2 s2 a2 _
 exact hp H2 _ v u d1 d2 Q (λ a h=>(rx.same (s1.trans s2)).new m h) (a1.same s2) a2 (q7e (s1.trans s2) z)
theorem j9 {op:Operator}{r:R2}{p:D->D->Rz D}(ho:OpR X (binaryOp op) r) (hp:OpS X.K C.cl r p) (hi:∀ x y d,p x y=.ok d->d.imm=true) (ha:DE X C κ .v fa a ga) (hb:DE X C κ .v fb b gb):DE X C κ m true (.BinOp a op b pos) (gOp p ga gb):=by
 obtain ⟨ta,pa,da⟩:=ha
 obtain ⟨tb,pb,db⟩:=hb
 refine ⟨_,z4P ho pa pb,λ F σ H δ rx Q z=>da F σ H δ rx _ ?_⟩
 obtain ⟨d1,e1,z⟩:=Q3 z
 obtain ⟨d2,e2,z⟩:=Q3 z
 rw [e1]
 intro v H1 s1 a1 _
 refine db F σ H1 δ (rx.same s1) _ ?_
 rw [e2]
 intro u H2 s2 a2 _
 refine hp H2 _ v u d1 d2 Q (a1.same s2) a2 ?_
 cases q:p d1 d2 with
 | ok d =>
  rw [q] at z
  exact ⟨hi _ _ _ q,λ w H3 s3 aw=>z w H3 ((s1.trans s2).trans s3) (aw _) λ o_=>Nw.small (by have:=hi _ _ _ q;cases d<;>first | rfl | (rw [D.imm] at this;cases this))⟩
 | er c s=>rw [q] at z;exact z
 | un=>rw [q] at z;exact z
theorem q3E {op:CmpOp}{r:R2}{p:D->D->Rz D}(ho:OpR X (compareOp op) r) (hp:OpS X.K C.cl r p) (hi:∀ x y d,p x y=.ok d->d.imm=true) (ha:DE X C κ .v fa a ga) (hb:DE X C κ .v fb b gb) (hm:behindInMarks op b=false):DE X C κ m true (.Compare a [op] [b] pos) (gOp p ga gb):=by
 obtain ⟨ta,pa,da⟩:=ha
 obtain ⟨tb,pb,db⟩:=hb
 refine ⟨_,z2P ho pa pb hm,λ F σ H δ rx Q z=>da F σ H δ rx _ ?_⟩
 obtain ⟨d1,e1,z⟩:=Q3 z
 obtain ⟨d2,e2,z⟩:=Q3 z
 rw [e1]
 intro v H1 s1 a1 _
 refine db F σ H1 δ (rx.same s1) _ ?_
 rw [e2]
 intro u H2 s2 a2 _
 refine hp H2 _ v u d1 d2 Q (a1.same s2) a2 ?_
 cases q:p d1 d2 with
 | ok d =>
  rw [q] at z
  exact ⟨hi _ _ _ q,λ w H3 s3 aw=>z w H3 ((s1.trans s2).trans s3) (aw _) λ o_=>Nw.small (by have:=hi _ _ _ q;cases d<;>first | rfl | (rw [D.imm] at this;cases this))⟩
 | er c s=>rw [q] at z;exact z
 | un=>rw [q] at z;exact z
theorem z7u {op:UnaryOp}{r:V->Hp->VK->Prop}{p:D->Rz D}(ho:UnR X (unaryOp op) r) (hp:∀ (H:Hp) (S:Addr->Prop) (x:V) (dx:D) (Q:VK),At X.K C.cl H S x dx->(match p dx with | .ok d=>d.imm=true/\∀ v,(∀ S',At X.K C.cl H S' v d)->Q v H | _=>False)->r x H Q) (hi:∀ x d,p x=.ok d->d.imm=true) (ha:DE X C κ .v fa a ga):DE X C κ m true (.UnaryOp op a pos) (gUn p ga):=by
 obtain ⟨ta,pa,da⟩:=ha
 refine ⟨_,z76 ho pa,λ F σ H δ rx Q z=>da F σ H δ rx _ ?_⟩
 obtain ⟨d1,e1,z⟩:=Q3 z
 rw [e1]
 intro v H1 s1 a1 _
 refine hp H1 _ v d1 Q a1 ?_
 cases q:p d1 with
 | ok d =>
  rw [q] at z
  exact ⟨hi _ _ q,λ w aw=>z w H1 s1 (aw _) λ o_=>Nw.small (by have:=hi _ _ q;cases d<;>first | rfl | (rw [D.imm] at this;cases this))⟩
 | er c s=>rw [q] at z;exact z
 | un=>rw [q] at z;exact z
variable {tA tB:GT}{rest:List Expr}
theorem Q4 {op:CmpOp}{r:R2}{p:D->D->Rz D}(ho:OpR X (compareOp op) r) (hp:OpS X.K C.cl r p) (hi:∀ x y d,p x y=.ok d->d.imm=true) (ha:DE X C κ .v fa a ga) (hb:DE X C κ .v fb b gb) (hm:behindInMarks op b=false):DT X C κ (.Compare a [op] [b] pos) (gB (gOp p ga gb)):=by
 obtain ⟨ta,pa,da⟩:=ha
 obtain ⟨tb,pb,db⟩:=hb
 refine ⟨_,q8Y ho pa pb hm,λ F σ H δ rx Q z=>da F σ H δ rx _ ?_⟩
 obtain ⟨d,e,z⟩:=Z7 (T:=PostT H Q) (λ o_ o_ q=>q) (λ q=>q) z
 have e:(ga δ).bind (λ x=>(gb δ).bind λ y=>p x y)=.ok d:=e
 obtain ⟨d1,e1,e⟩:=Z7 (T:=λ r=>r=Rz.ok d) (λ o_ o_ q=>by cases q) (λ q=>by cases q) e
 obtain ⟨d2,e2,e⟩:=Z7 (T:=λ r=>r=Rz.ok d) (λ o_ o_ q=>by cases q) (λ q=>by cases q) e
 rw [e1]
 intro v H1 s1 a1 _
 refine db F σ H1 δ (rx.same s1) _ ?_
 rw [e2]
 intro u H2 s2 a2 _
 refine hp H2 _ v u d1 d2 _ (a1.same s2) a2 ?_
 rw [e]
 refine ⟨hi _ _ _ e,λ w H3 s3 aw=>?_⟩
 cases d with
 | bl k=>have q:=aw (λ o_=>True);rw [At] at q;exact ⟨k,q,z H3 ((s1.trans s2).trans s3)⟩
 | _=>exact z.elim
theorem x8 (ha:DE X C κ .v fa a ga) (he:∀ whole,isTrue a X.env whole=(do let v <- whole;standAt a.pos;holding [v] (truthy v)):=by intro _;rfl):DT X C κ a (gTru ga):=by
 obtain ⟨ta,pa,da⟩:=ha
 refine ⟨_,z16 pa he,λ F σ H δ rx Q z=>da F σ H δ rx _ ?_⟩
 obtain ⟨d1,e1,z⟩:=Z7 (T:=PostT H Q) (λ o_ o_ q=>q) (λ q=>q) z
 rw [e1]
 intro v H1 s1 a1 _
 cases d1 with
 | non=>rw [At] at a1;subst a1;exact ⟨_,rfl,z H1 s1⟩
 | bl k=>rw [At] at a1;subst a1;exact ⟨_,rfl,z H1 s1⟩
 | int k=>rw [At] at a1;subst a1;exact ⟨_,rfl,z H1 s1⟩
 | str k =>
  rw [At] at a1;subst a1
  obtain ⟨hz,z⟩:=Z9 (T:=PostT H Q) (λ z=>z) z
  exact ⟨_,⟨hz,rfl⟩,z H1 s1⟩
 | lst ds =>
  rw [At] at a1
  obtain ⟨p,vs,rfl,_,q,w⟩:=a1
  refine ⟨_,.inl ⟨vs,.inl q,rfl⟩,?_⟩
  have:(!vs.isEmpty)=(!ds.isEmpty):=by have:=w.length;cases vs<;>cases ds<;>simp at this ⊢
  rw [this];exact z H1 s1
 | tup ds =>
  rw [At] at a1
  obtain ⟨p,vs,rfl,q,w⟩:=a1
  refine ⟨_,.inr (.inl ⟨vs,SqT.of q,rfl⟩),?_⟩
  have:(!vs.isEmpty)=(!ds.isEmpty):=by have:=w.length;cases vs<;>cases ds<;>simp at this ⊢
  rw [this];exact z H1 s1
 | dct ks ds =>
  rw [At] at a1
  obtain ⟨p,vs,rfl,_,q,l,w⟩:=a1
  refine ⟨_,.inr (.inr ⟨_,q,rfl⟩),?_⟩
  have:(!(ks.zip vs).isEmpty)=(!ks.isEmpty):=by have:=w.length;cases vs<;>cases ks<;>cases ds<;>simp at this l ⊢
  rw [this];exact z H1 s1
 | obj _ _ _=>exact z.elim
 | xt _=>exact z.elim
theorem DW.dt (h:DW X C κ e tA):DT X C κ e tA:=let ⟨t,p,q⟩:=h;⟨t,p.pt,q⟩
theorem q2Q (ha:DT X C κ a tA):DW X C κ (.BoolOp .And [a] pos) tA:=let ⟨t,p,q⟩:=ha;⟨t,z2J p,q⟩
theorem q0M (ha:DT X C κ a tA):DW X C κ (.BoolOp .Or [a] pos) tA:=let ⟨t,p,q⟩:=ha;⟨t,z4F p,q⟩
theorem q3F (ha:DT X C κ a tA) (hb:DW X C κ (.BoolOp .And (b::rest) pos) tB):DW X C κ (.BoolOp .And (a::b::rest) pos) (q0I tA tB):=by
 obtain ⟨ta,pa,da⟩:=ha
 obtain ⟨tb,pb,db⟩:=hb
 refine ⟨_,z4G pa pb,λ F σ H δ rx Q z=>da F σ H δ rx _ ?_⟩
 obtain ⟨k,e1,z⟩:=Q1 (T:=PostT H Q) (λ o_ o_ q=>q) (λ q=>q) z
 rw [e1]
 intro H1 s1
 cases k with
 | true =>
  refine z1i (db F σ H1 δ (rx.same s1) Q ?_)
  have z:PostT H Q (tB δ):=z
  cases q:tB δ with
  | ok d=>rw [q] at z;exact λ H' s=>z H' (s1.trans s)
  | er c s=>rw [q] at z;exact z
  | un=>rw [q] at z;exact z
 | false=>exact z1h (z H1 s1)
theorem q1l (ha:DT X C κ a tA) (hb:DW X C κ (.BoolOp .Or (b::rest) pos) tB):DW X C κ (.BoolOp .Or (a::b::rest) pos) (q1U tA tB):=by
 obtain ⟨ta,pa,da⟩:=ha
 obtain ⟨tb,pb,db⟩:=hb
 refine ⟨_,z6V pa pb,λ F σ H δ rx Q z=>da F σ H δ rx _ ?_⟩
 obtain ⟨k,e1,z⟩:=Q1 (T:=PostT H Q) (λ o_ o_ q=>q) (λ q=>q) z
 rw [e1]
 intro H1 s1
 cases k with
 | false =>
  refine z1h (db F σ H1 δ (rx.same s1) Q ?_)
  have z:PostT H Q (tB δ):=z
  cases q:tB δ with
  | ok d=>rw [q] at z;exact λ H' s=>z H' (s1.trans s)
  | er c s=>rw [q] at z;exact z
  | un=>rw [q] at z;exact z
 | true=>exact z1i (z H1 s1)
theorem q0z (ha:DT X C κ a tA):DT X C κ (.UnaryOp .Not a pos) (q03 tA):=by
 obtain ⟨ta,pa,da⟩:=ha
 refine ⟨_,z4H pa,λ F σ H δ rx Q z=>da F σ H δ rx _ ?_⟩
 obtain ⟨k,e1,z⟩:=Q1 (T:=PostT H Q) (λ o_ o_ q=>q) (λ q=>q) z
 rw [e1]
 exact λ H1 s1=>z H1 s1
theorem z2j {op}(h:DE X C κ m fr a ga):DE X C κ m fr (.BoolOp op [a] pos) ga:=let ⟨t,p,q⟩:=h;⟨t,z4I p,q⟩
theorem q1C {F:Addr->Prop}{H H1:Hp}{Q:VK}{r:Rz D}(s:Same H H1) (p:Post X.K C F m fr H Q r):Post X.K C F m fr H1 Q r:=by
 cases r with
 | ok d=>exact λ v H' s' a n=>p v H' (s.trans s') a λ z=>(n z).back s
 | er c s=>exact p
 | un=>exact p
theorem z5p (ha:DE X C κ .v fa a ga) (hb:DE X C κ m false (.BoolOp .And (b::rest) pos) gb):DE X C κ m false (.BoolOp .And (a::b::rest) pos) (z7s ga gb):=by
 obtain ⟨ta,pa,da⟩:=ha
 obtain ⟨tb,pb,db⟩:=hb
 refine ⟨_,z4J pa pb,λ F σ H δ rx Q z=>da F σ H δ rx _ ?_⟩
 obtain ⟨d1,e1,z⟩:=Q3 z
 rw [e1]
 intro v H1 s1 a1 _
 cases d1 with
 | bl k =>
  rw [At] at a1
  refine ⟨k,a1,?_⟩
  cases k with
  | true=>exact z1i (db F σ H1 δ (rx.same s1) Q (q1C s1 z))
  | false=>exact z1h (z _ H1 s1 (by rw [At]) (λ z=>by cases z))
 | _=>exact z.elim
theorem z7v (ha:DE X C κ .v fa a ga) (hb:DE X C κ m false (.BoolOp .Or (b::rest) pos) gb):DE X C κ m false (.BoolOp .Or (a::b::rest) pos) (gOr ga gb):=by
 obtain ⟨ta,pa,da⟩:=ha
 obtain ⟨tb,pb,db⟩:=hb
 refine ⟨_,z6X pa pb,λ F σ H δ rx Q z=>da F σ H δ rx _ ?_⟩
 obtain ⟨d1,e1,z⟩:=Q3 z
 rw [e1]
 intro v H1 s1 a1 _
 cases d1 with
 | bl k =>
  rw [At] at a1
  refine ⟨k,a1,?_⟩
  cases k with
  | false=>exact z1h (db F σ H1 δ (rx.same s1) Q (q1C s1 z))
  | true=>exact z1i (z _ H1 s1 (by rw [At]) (λ z=>by cases z))
 | _=>exact z.elim
theorem z7w (hc:DT X C κ c tA) (ha:DE X C κ m fr a ga) (hb:DE X C κ m fr b gb):DE X C κ m fr (.IfExp c a b pos) (gIf tA ga gb):=by
 obtain ⟨tc,pc,dc⟩:=hc
 obtain ⟨ta,pa,da⟩:=ha
 obtain ⟨tb,pb,db⟩:=hb
 refine ⟨_,z10 pc pa pb,λ F σ H δ rx Q z=>dc F σ H δ rx _ ?_⟩
 obtain ⟨k,e1,z⟩:=Q3 z
 rw [e1]
 intro H1 s1
 cases k with
 | true=>exact z1i (da F σ H1 δ (rx.same s1) Q (q1C s1 z))
 | false=>exact z1h (db F σ H1 δ (rx.same s1) Q (q1C s1 z))
theorem z9:DA X C κ m [] gNil:=⟨_,q1v,λ F σ H δ rx Q z=>z [] H (Same.refl H) Ats.nil⟩
theorem z6 {gs:GA}(ha:DE X C κ m fa e ga) (hb:DA X C κ m es gs) (hs:starEach (e::es) X.env=(false,eval e X.env)::starEach es X.env:=by rfl):DA X C κ m (e::es) (gCons ga gs):=by
 obtain ⟨ta,pa,da⟩:=ha
 obtain ⟨tb,pb,db⟩:=hb
 refine ⟨_,Y5 pa pb hs,λ F σ H δ rx Q z=>da F σ H δ rx _ ?_⟩
 obtain ⟨d1,e1,z⟩:=Z7 (T:=q9z X.K C F m H Q) (λ o_ o_ q=>q) (λ q=>q) z
 obtain ⟨d2,e2,z⟩:=Q1 (T:=q9z X.K C F m H Q) (λ o_ o_ q=>q) (λ q=>q) z
 rw [e1]
 intro v H1 s1 a1 _
 refine db F σ H1 δ (rx.same s1) _ ?_
 rw [e2]
 intro vs H2 s2 a2
 exact z (v::vs) H2 (s1.trans s2) (Ats.cons (a1.same s2) a2)
theorem Q5 {H:Hp}{p:Addr}(h:H p=none) (o:HO):Same H (upd H p o):=λ b u q=>by rw [upd_ne (J4 q h)];exact q
theorem K9 {gs:GA} {x1}(h:DA X C κ m es gs):DE X C κ m true (.Tuple es x1 pos) (gTup gs):=by
 obtain ⟨ta,pa,da⟩:=h
 refine ⟨_,z4V pa,λ F σ H δ rx Q z=>da F σ H δ rx _ ?_⟩
 obtain ⟨ds,e1,z⟩:=Q3 z
 obtain ⟨hz,z⟩:=x6 z
 rw [e1]
 intro vs H1 s1 a1
 refine ⟨by rw [a1.length];exact hz,λ p hp=>z _ _ (s1.trans (Q5 hp _)) ?_ λ o_=>Nw.small rfl⟩
 rw [At]
 exact ⟨p,vs,rfl,j0,a1.same (Q5 hp _)⟩
theorem q0l {K:PySem.W.Frag}{cl:Nat->Addr}{H:Hp}{S:Addr->Prop}{p:Addr}{vs:List V}{ds:List D}(hp:H p=none) (a:Ats K cl H S vs ds) (hs:S p) :
 At K cl (upd H p (.lst vs)) S (.ref p) (.lst ds)/\Nw K cl H (upd H p (.lst vs)) S (.ref p) (.lst ds):=by
 have a2:Ats K cl (upd H p (.lst vs)) (λ b=>S b/\b∉[p]) vs ds:=a.mono (TupK.of (Q5 hp _)) (λ b o o_ e=>Q5 hp _ b o e) λ b sb n=>⟨sb,λ m=>n (by rw [N0f.mp m];exact hp)⟩
 refine ⟨?_,λ o_=>⟨[p],⟨p,vs,rfl,rfl,j0,a2⟩,λ b m=>by rw [N0f.mp m];exact hp⟩⟩
 rw [At]
 exact ⟨p,vs,rfl,hs,.inl j0,a2.sub λ b z o_=>z.1⟩
theorem u6 {gs:GA}(h:DA X C κ m es gs):DE X C κ m true (.List es pos) (gLst gs):=by
 obtain ⟨ta,pa,da⟩:=h
 refine ⟨_,z4W pa,λ F σ H δ rx Q z=>da F σ H δ rx _ ?_⟩
 obtain ⟨ds,e1,z⟩:=Q3 z
 obtain ⟨hz,z⟩:=x6 z
 rw [e1]
 intro vs H1 s1 a1
 refine ⟨by rw [a1.length];exact hz,λ p hp=>?_⟩
 obtain ⟨q1,q2⟩:=q0l hp a1 ((rx.same s1).new m hp)
 exact z _ _ (s1.trans (Q5 hp _)) q1 λ o_=>q2.back s1
theorem q6j:DE X C κ m true (.Dict [] [] pos) (gC (.dct [] [])):=by
 refine ⟨_,q73,λ F σ H δ rx Q z p hp=>z _ _ (Q5 hp _) ?_ λ o_ o_=>⟨[p],⟨p,[],rfl,rfl,j0,rfl,Ats.nil⟩,λ b m=>by rw [N0f.mp m];exact hp⟩⟩
 rw [At]
 exact ⟨p,[],rfl,rx.new m hp,j0,rfl,Ats.nil⟩
noncomputable def spD (K:PySem.W.Frag) (cl:Nat->Addr) (n:Nat) (F:PF):Sp:=λ vs H Q o_=>∃ ds d,(ds.length=n/\Sun cl H)/\Ats K cl H (λ o_=>True) vs ds/\F ds=.ok d /\
 ∀ v H',Same H H'->At K cl H' (λ a=>H a=none) v d->Nw K cl H H' (λ a=>H a=none) v d->Q v H'
theorem z3n {K:PySem.W.Frag}{cl:Nat->Addr}{n:Nat}{F:PF}{vs:List V}{H:Hp}{Q:VK}{E:XK}(h:spD K cl n F vs H Q E):vs.length=n:=by
 obtain ⟨ds,d,l,a,_⟩:=h
 rw [a.length];exact l.1
theorem z1y {F:PF}{n:Nat}{gs:GA}{call:Expr}{t:TA}(pe:PE X call (z4X (spD X.K C.cl n F) [] E0 t)) (hlen:∀ δ ds,gs δ=.ok ds->ds.length=n)
 (da:∀ F σ H δ,Rx X.K C κ F σ H δ->∀ Q,q9z X.K C F .v H Q (gs δ)->t σ H Q):DE X C κ m true call (gCall F gs):=by
 refine ⟨_,pe,λ Fo σ H δ rx Q z=>da Fo σ H δ rx _ ?_⟩
 obtain ⟨ds,e1,z⟩:=Q3 z
 rw [e1]
 intro vs H1 s1 a1
 rw [N10]
 cases q:F ds with
 | ok d =>
  rw [q] at z
  refine ⟨ds,d,⟨hlen δ ds e1,(rx.same s1).sun⟩,a1.sub λ o_ o_ o_=>trivial,q,λ v H' s' a n=>z v H' (s1.trans s') (a.sub λ b h o_=>(rx.same s1).new m h) λ o_=>?_⟩
  intro hb
  obtain ⟨l,o,hn⟩:=n hb
  exact ⟨l,o.mono TupK.refl (λ o_ o_ o_ e=>e) (λ o_ o_ o_ e=>e) λ b h o_=>(rx.same s1).new m h,λ b mb=>s1.free (hn b mb)⟩
 | er c s=>rw [q] at z;exact z.elim
 | un=>rw [q] at z;exact z.elim
end
noncomputable def Fo (φ:Nat->List Addr) (a:Addr):Prop:=∃ i,a∈φ i
noncomputable def z4u (H:Hp) (l:List Addr) (v:V) (d:D):Prop:=∃ (a:Addr) (ks:List Ky) (bs:List Addr) (lss:List (List Str)),v=.ref a/\l=a::bs/\(l.Nodup/\ks.Nodup)/\d=.dct ks (lss.map λ ls=>.lst (ls.map D.str))/\ks.length=bs.length/\lss.length=bs.length /\
 H a=some (.dK (ks.zip (bs.map V.ref)))/\∀ (i:Nat) (b:Addr) (ls:List Str),bs[i]? = some b->lss[i]? = some ls->H b=some (.lst (ls.map V.str))
theorem q9A {K:PySem.W.Frag}{cl:Nat->Addr}{H:Hp}{S:Addr->Prop}:∀ ls:List Str,Ats K cl H S (ls.map V.str) (ls.map D.str)
 | []=>by rw [List.map_nil,List.map_nil,Ats];trivial
 | x::r=>by rw [N09,N09,Ats,At];exact ⟨rfl,q9A r⟩
theorem q5m {K:PySem.W.Frag}{cl:Nat->Addr}{H:Hp}{S:Addr->Prop}:∀ {bs:List Addr}{lss:List (List Str)},lss.length=bs.length->(∀ b∈bs,S b)->(∀ (i:Nat) (b:Addr) (ls:List Str),bs[i]? = some b->lss[i]? = some ls->H b=some (.lst (ls.map V.str)))->Ats K cl H S (bs.map V.ref) (lss.map λ ls=>.lst (ls.map D.str))
 | [],[],_,_,_=>by rw [List.map_nil,List.map_nil,Ats];trivial
 | b::bs,ls::lss,hl,hs,h=>by
  rw [N09,N09,Ats,At]
  exact ⟨⟨b,_,rfl,hs b (N00 ..),.inl (h 0 b ls rfl rfl),q9A ls⟩,q5m (by simpa using hl) (λ c m=>hs c (N02 _ m)) λ i c ms e1 e2=>h (i+1) c ms e1 e2⟩
 | [],_::_,hl,_,_=>by simp at hl
 | _::_,[],hl,_,_=>by simp at hl
theorem z4u.at {K:PySem.W.Frag}{cl:Nat->Addr}{H:Hp}{S:Addr->Prop}{l:List Addr}{v:V}{d:D}(o:z4u H l v d) (hs:∀ a∈l,S a):At K cl H S v d:=by
 obtain ⟨a,ks,bs,lss,rfl,rfl,_,rfl,h1,h2,h3,h4⟩:=o
 rw [At]
 exact ⟨a,_,rfl,hs a (N00 ..),h3,by rw [N01,h1,h2],q5m h2 (λ b m=>hs b (N02 _ m)) h4⟩
theorem z4u.mono {H H':Hp}{l:List Addr}{v:V}{d:D}(o:z4u H l v d) (hl:∀ a∈l,∀ o,H a=some o->H' a=some o):z4u H' l v d:=by
 obtain ⟨a,ks,bs,lss,e1,rfl,h0,e2,h1,h2,h3,h4⟩:=o
 exact ⟨a,ks,bs,lss,e1,rfl,h0,e2,h1,h2,hl a (N00 ..) _ h3,λ i b ls q1 q2=>hl b (N02 _ (N0u q1)) _ (h4 i b ls q1 q2)⟩
noncomputable def SlOk (K:PySem.W.Frag) (C:Dc) (F:Addr->Prop) (H:Hp) (l:List Addr) (v:V) (d:D):Kd->Prop
 | .o=>Own K C.cl H (Sk C F .s) l v d/\∀ a∈l,C.H₀ a=none
 | .i=>Own K C.cl H (Sk C F .s) l v d
 | .w=>z4u H l v d/\∀ a∈l,C.H₀ a=none
 | .v=>At K C.cl H (λ a=>a∈l) v d/\∀ a∈l,C.H₀ a=none
 | .b=>At K C.cl H (Sk C F .b) v d
 | .s=>At K C.cl H (Sk C F .s) v d
structure Rs (K:PySem.W.Frag) (C:Dc) (κ:List Kd) (φ:Nat->List Addr) (σ:St) (H:Hp) (δ:DS):Prop where
 sl:∀ (i:Nat) (d:D),δ[i]? = some (some d)->∃ v k,σ[i]? = some (some v)/\κ[i]? = some k/\SlOk K C (Fo φ) H (φ i) v d k
 dj:∀ i j a,a∈φ i->a∈φ j->i=j
 ow:∀ a,Fo φ a->H a≠none
 fi:∀ a,Fo φ a->C.H₀ a=none\/C.X a
 fr:∀ a o,C.H₀ a=some o->¬ C.X a->H a=some o
 xo:∀ a,C.X a->H a≠none
 tk:TupK C.H₀ H
 ii:∀ j:Nat,j∈C.io->σ[j]? = some (some (C.iv j))/\φ j=C.il j
 len:σ.length=δ.length
structure Kp (F:Addr->Prop) (H:Hp) (F':Addr->Prop) (H':Hp):Prop where
 st:∀ a o,H a=some o->¬ F a->H' a=some o
 tk:TupK H H'
 ow:∀ a,F' a->F a\/H a=none
 ex:∀ a,H a≠none->H' a≠none
section
variable {K:PySem.W.Frag}{C:Dc}{κ κ':List Kd}{φ φ':Nat->List Addr}{F F1 F2:Addr->Prop}{σ:St}{H H' H1 H2:Hp}{δ:DS}
theorem Kp.refl:Kp F H F H:=⟨λ o_ o_ e o_=>e,TupK.refl,λ o_ h=>.inl h,λ o_ h=>h⟩
theorem Kp.trans (a:Kp F H F1 H1) (b:Kp F1 H1 F2 H2):Kp F H F2 H2 :=
 ⟨λ x o e n=>b.st x o (a.st x o e n) λ f=>(a.ow x f).elim n (λ z=>by rw [e] at z;cases z),a.tk.trans b.tk,λ x f=>(b.ow x f).elim (a.ow x) λ z=>.inr (by
  cases q:H x with
  | none=>rfl
  | some o=>exact absurd z (a.ex x (by rw [q];exact λ z=>by cases z))),λ x h=>b.ex x (a.ex x h)⟩
theorem Kp.of (s:Same H H') (sub:∀ a,F1 a->F a\/H a=none):Kp F H F1 H':=⟨λ a o e o_=>s a o e,TupK.of s,sub,λ a h z=>h (s.free z)⟩
theorem Rs.old (r:Rs K C κ φ σ H δ){a:Addr}(h:H a=none):C.H₀ a=none:=by
 cases q:C.H₀ a with
 | none=>rfl
 | some o =>
  by_cases x:C.X a
  ·exact absurd h (r.xo a x)
  ·rw [r.fr a o q x] at h;cases h
theorem Rs.rx (r:Rs K C κ φ σ H δ):Rx K C κ (Fo φ) σ H δ:=by
 refine ⟨λ i d e=>?_,λ a h=>r.old h,r.ow,r.tk⟩
 obtain ⟨v,k,h1,h2,h3⟩:=r.sl i d e
 refine ⟨v,k,h1,h2,?_⟩
 cases k with
 | o=>exact h3.1.at (λ a z=>z.1) h3.2
 | i=>exact Own.at h3 (λ a z=>trivial) λ a z=>trivial
 | v=>exact At.sub h3.1 λ a o_ o_=>trivial
 | w=>exact h3.1.at h3.2
 | b=>exact h3
 | s=>exact h3
theorem SlOk.mono {l:List Addr}{v:V}{d:D}(kp:Kp F H F1 H') (hl:∀ a∈l,∀ o,H a=some o->H' a=some o):∀ {k:Kd},SlOk K C F H l v d k->SlOk K C F1 H' l v d k:=λ {k} h=>by
 have m:∀ a,(¬ F a)->H a≠none->¬ F1 a:=λ a n e f=>(kp.ow a f).elim n e
 cases k with
 | o=>exact ⟨h.1.mono kp.tk (λ a o z e=>kp.st a o e z.2) hl λ a z e=>⟨z.1,m a z.2 e⟩,h.2⟩
 | i=>exact Own.mono kp.tk (λ a o z e=>kp.st a o e z.2) hl (λ a z e=>⟨z.1,m a z.2 e⟩) h
 | v=>exact ⟨At.mono kp.tk (λ a o z e=>hl a z o e) (λ a z o_=>z) h.1,h.2⟩
 | w=>exact ⟨h.1.mono hl,h.2⟩
 | b=>exact At.mono kp.tk (λ a o z e=>kp.st a o e z) (λ a z e=>m a z e) h
 | s=>exact At.mono kp.tk (λ a o z e=>kp.st a o e z.2) (λ a z e=>⟨z.1,m a z.2 e⟩) h
theorem Rs.same (r:Rs K C κ φ σ H δ) (s:Same H H'):Rs K C κ φ σ H' δ :=
 ⟨λ i d e=>let ⟨v,k,h1,h2,h3⟩:=r.sl i d e;⟨v,k,h1,h2,h3.mono (Kp.of s λ a f=>.inl f) λ a o_ o e=>s a o e⟩,r.dj,λ a f h=>r.ow a f (s.free h),r.fi,λ a o e x=>s a o (r.fr a o e x),λ a x h=>r.xo a x (s.free h),λ a xs e=>s _ _ (r.tk a xs e),r.ii,r.len⟩
end
noncomputable def FinS (K:PySem.W.Frag) (C:Dc) (L:List Kd×List Nat) (κ':List Kd) (F:Addr->Prop) (H:Hp) (D:Ends):Rz Out->Prop
 | .ok (.nx δ')=>∀ φ' σ' H',Rs K C κ' φ' σ' H' δ'->Kp F H (Fo φ') H'->D.nx σ' H'
 | .ok (.bk δ')=>∀ φ' σ' H',Rs K C L.1 φ' σ' H' (forget L.2 δ')->Kp F H (Fo φ') H'->D.bk σ' H'
 | .ok (.ct δ')=>∀ φ' σ' H',Rs K C L.1 φ' σ' H' (forget L.2 δ')->Kp F H (Fo φ') H'->D.ct σ' H'
 | .ok (.rt d δ')=>∀ v κr φ' σ' H',(∀ j:Nat,j∈C.io->κr[j]? = some .i)->Rs K C κr φ' σ' H' δ'->At K C.cl H' (λ a=>C.H₀ a=none) v d->Nw K C.cl C.H₀ H' (λ a=>C.H₀ a=none) v d->D.rt v H'
 | _=>False
noncomputable def DSt (X:Cx) (C:Dc) (L:List Kd×List Nat) (κ κ':List Kd) (st:Stmt) (g:GS):Prop :=
 ∃ t,PS X st t/\∀ φ σ H δ,Rs X.K C κ φ σ H δ->∀ D,FinS X.K C L κ' (Fo φ) H D (g δ)->t D σ H
noncomputable def DSs (X:Cx) (C:Dc) (L:List Kd×List Nat) (κ κ':List Kd) (st:List Stmt) (g:GS):Prop :=
 ∃ t,PSs X st t/\∀ φ σ H δ,Rs X.K C κ φ σ H δ->∀ D,FinS X.K C L κ' (Fo φ) H D (g δ)->t D σ H
section
variable {X:Cx}{C:Dc}{L:List Kd×List Nat}{κ κ' κ1 κ2:List Kd}{st:Stmt}{sts:List Stmt}{g g1 g2:GS}{ge gk:GE}{tA:GT}{e:Expr}{fr:Bool}{pos:Pos}{F F1:Addr->Prop}{H H1:Hp}
theorem K7 {D:Ends}{r:Rz Out}(kp:Kp F H F1 H1) (p:FinS X.K C L κ' F H D r):FinS X.K C L κ' F1 H1 D r:=by
 cases r with
 | ok o =>
  cases o with
  | nx δ'=>exact λ φ' σ' H' r k=>p φ' σ' H' r (kp.trans k)
  | bk δ'=>exact λ φ' σ' H' r k=>p φ' σ' H' r (kp.trans k)
  | ct δ'=>exact λ φ' σ' H' r k=>p φ' σ' H' r (kp.trans k)
  | rt d δ'=>exact p
 | er c s=>exact p
 | un=>exact p
theorem Z4 {β:Type}{K:PySem.W.Frag}{C:Dc}{L:List Kd×List Nat}{κ:List Kd}{F:Addr->Prop}{H:Hp}{D:Ends}{r:Rz β}{f:β->Rz Out}(h:FinS K C L κ F H D (r.bind f)):∃ d,r=.ok d/\FinS K C L κ F H D (f d):=by
 cases r with
 | ok d=>exact ⟨d,rfl,h⟩
 | er c s=>exact h.elim
 | un=>exact h.elim
theorem X5 {K:PySem.W.Frag}{C:Dc}{L:List Kd×List Nat}{κ:List Kd}{F:Addr->Prop}{H:Hp}{D:Ends}{c:Prop} [Decidable c] {r:Rz Out}(h:FinS K C L κ F H D (Rz.guard c r)):c/\FinS K C L κ F H D r:=Z9 (T:=FinS K C L κ F H D) (λ z=>z) h
theorem q09 {l:List Nat}{i:Nat}(h:l.contains i=false):i∉l:=λ m=>by rw [List.contains_iff_mem.mpr m] at h;cases h
theorem Z1:DSs X C L κ κ [] Z6:=⟨_,z2K,λ φ σ H δ r D p=>p φ σ H r Kp.refl⟩
theorem j7 (h:DSt X C L κ κ' st g):DSs X C L κ κ' [st] g:=let ⟨t,p,q⟩:=h;⟨t,q8O p,q⟩
theorem z8 (h1:DSt X C L κ κ1 st g1) (h2:DSs X C L κ1 κ' sts g2):DSs X C L κ κ' (st::sts) (gSeq g1 g2):=by
 obtain ⟨t,pt,dt⟩:=h1
 obtain ⟨u,pu,du⟩:=h2
 refine ⟨_,q40 pt pu,λ φ σ H δ r D p=>dt φ σ H δ r _ ?_⟩
 have p:FinS X.K C L κ' (Fo φ) H D ((g1 δ).bind _):=p
 cases q:g1 δ with
 | ok o =>
  rw [q] at p
  cases o with
  | nx δ'=>exact λ φ' σ' H' r' k=>du φ' σ' H' δ' r' D (K7 k p)
  | bk δ'=>exact p
  | ct δ'=>exact p
  | rt d δ'=>exact p
 | er c s=>rw [q] at p;exact p.elim
 | un=>rw [q] at p;exact p.elim
theorem W8 {c:Expr}{a b:List Stmt}(hc:DT X C κ c tA) (ha:DSs X C L κ κ' a g1) (hb:DSs X C L κ κ' b g2):DSt X C L κ κ' (.If c a b pos) (Y9 tA g1 g2):=by
 obtain ⟨tc,pc,dc⟩:=hc
 obtain ⟨ta,pa,da⟩:=ha
 obtain ⟨tb,pb,db⟩:=hb
 refine ⟨_,z70 pc pa pb,λ φ σ H δ r D p=>dc (Fo φ) σ H δ r.rx _ ?_⟩
 obtain ⟨k,e1,p⟩:=Z4 p
 rw [e1]
 intro H1 s1
 have kp:Kp (Fo φ) H (Fo φ) H1:=Kp.of s1 λ a f=>.inl f
 cases k with
 | true=>exact z1i (da φ σ H1 δ (r.same s1) D (K7 kp p))
 | false=>exact z1h (db φ σ H1 δ (r.same s1) D (K7 kp p))
theorem q1D:DSt X C L κ κ' st q3C:=⟨_,z11,λ φ σ H δ r D p=>p.elim⟩
theorem q9B {F:Addr->Prop}{φ:Nat->List Addr}{σ:St}{H H':Hp}{δ:DS}{v:V}{d:D}(r:Rs X.K C κ φ σ H δ) (n:Nw X.K C.cl H H' (Sk C F .o) v d):Nw X.K C.cl C.H₀ H' (λ a=>C.H₀ a=none) v d:=λ hb =>
 let ⟨l,o,h⟩:=n hb
 ⟨l,o,λ a m=>r.old (h a m)⟩
theorem Q9 (h:DE X C κ .o true e ge) (hio:∀ j:Nat,j∈C.io->κ[j]? = some .i):DSt X C L κ κ' (.Return (some e) pos) (y7 ge):=by
 obtain ⟨t,pt,dt⟩:=h
 refine ⟨_,q4Y pt,λ φ σ H δ r D p=>dt (Fo φ) σ H δ r.rx _ ?_⟩
 obtain ⟨d,e1,p⟩:=Z4 p
 rw [e1]
 exact λ v H1 s1 a n=>p v κ φ σ H1 hio (r.same s1) a (q9B r (n rfl))
theorem q9C (h:DE X C κ .o fr e ge) (hio:∀ j:Nat,j∈C.io->κ[j]? = some .i):DSt X C L κ κ' (.Return (some e) pos) (q86 ge):=by
 obtain ⟨t,pt,dt⟩:=h
 refine ⟨_,q4Y pt,λ φ σ H δ r D p=>dt (Fo φ) σ H δ r.rx _ ?_⟩
 obtain ⟨d,e1,p⟩:=Z4 p
 obtain ⟨hz,p⟩:=X5 p
 rw [e1]
 exact λ v H1 s1 a n=>p v κ φ σ H1 hio (r.same s1) a (Nw.small hz)
set_option tactic.hygienic true in
theorem q1m (i:Nat){x:Str}{pos':Pos}(hk:κ[i]? = some .o) (hio:∀ j:Nat,j∈C.io->κ[j]? = some .i) (hN:X.N[i]? = some x:=by rfl) (hv:Vis X.env.scope x:=by nofun) (hd:(x==("__debug__" : Str))=false:=by decide)
 (hcd:(x==("__classdict__" : Str))=false:=by decide):DSt X C L κ κ' (.Return (some (.Name x pos')) pos) (y7 (gVar i)):=by
 refine ⟨_,q4Y (Y7 hN hv hd hcd),λ φ σ H δ r D p=>?_⟩
 obtain ⟨d,e1,p⟩:=Z4 p
 unfold gVar at e1
 split at e1
 ·rename_i d' q
  cases e1
  obtain ⟨v,k,h1,h2,h3⟩:=r.sl i d q
  rw [hk] at h2
  cases h2
  refine ⟨v,h1,p v κ φ σ H hio r (h3.1.at (λ a z=>z.1) h3.2) λ o_=>⟨φ i,h3.1.mono TupK.refl (λ o_ o_ o_ e=>e) (λ o_ o_ o_ e=>e) λ a z o_=>z.1,h3.2⟩⟩
 ·cases e1
theorem q6k (h:DE X C κ .v fr e ge) (hs:swapsWith e none pos.line X.env=pure false:=by rfl):DSt X C L κ κ (.Expr e pos) (q6i ge):=by
 obtain ⟨t,pt,dt⟩:=h
 refine ⟨_,q1V pt hs,λ φ σ H δ r D p=>dt (Fo φ) σ H δ r.rx _ ?_⟩
 obtain ⟨d,e1,p⟩:=Z4 p
 rw [e1]
 exact λ v H1 s1 a n=>p φ σ H1 (r.same s1) (Kp.of s1 λ a f=>.inl f)
set_option tactic.hygienic true in
theorem get_set {α:Type}{l:List α}{i j:Nat}{a:α}{b:α}(h:(l.set i a)[j]? = some b):(i=j/\a=b/\j<l.length)\/(i≠j/\l[j]? = some b):=by
 rw [List.getElem?_set] at h
 by_cases e:i=j
 ·subst e
  rw [N0j rfl] at h
  split at h
  ·rename_i hl
   exact .inl ⟨rfl,N0b h,hl⟩
  ·cases h
 ·rw [N0l e] at h
  exact .inr ⟨e,h⟩
theorem q6l {α:Type}{l:List α}{i:Nat}{a:α}(h:i<l.length):(l.set i a)[i]? = some a:=by
 rw [List.getElem?_set,N0j rfl,N0j h]
theorem q4e {α:Type}{l:List α}{i j:Nat}{a:α}(h:i≠j):(l.set i a)[j]? = l[j]?:=by
 rw [List.getElem?_set,N0l h]
noncomputable def φset (φ:Nat->List Addr) (i:Nat) (l:List Addr):Nat->List Addr:=λ j=>if j=i then l else φ j
theorem φset_same {φ:Nat->List Addr}{i:Nat}{l:List Addr}:φset φ i l i=l:=N0j rfl
theorem φset_ne {φ:Nat->List Addr}{i j:Nat}{l:List Addr}(h:j≠i):φset φ i l j=φ j:=N0l h
theorem Rs.put {K:PySem.W.Frag}{φ:Nat->List Addr}{σ:St}{H H':Hp}{δ:DS}{i:Nat}{k:Kd}{v:V}{d:D}{l:List Addr}(r:Rs K C κ φ σ H δ) (s:Same H H') (hk:i<κ.length) (hs:SlOk K C (Fo (φset φ i l)) H' l v d k) (hl:∀ a∈l,H a=none/\H' a≠none) (hni:i∉C.io) :
 Rs K C (κ.set i k) (φset φ i l) (σ.set i (some v)) H' (δ.set i (some d))/\Kp (Fo φ) H (Fo (φset φ i l)) H':=by
 have sub:∀ a,Fo (φset φ i l) a->Fo φ a\/H a=none:=by
  rintro a ⟨j,hj⟩
  by_cases e:j=i
  ·subst e
   rw [φset_same] at hj
   exact .inr (hl a hj).1
  ·rw [φset_ne e] at hj
   exact .inl ⟨j,hj⟩
 have kp:Kp (Fo φ) H (Fo (φset φ i l)) H':=Kp.of s sub
 refine ⟨⟨λ j d' e=>?_,λ x y a hx hy=>?_,λ a f=>?_,λ a f=>?_,λ a o e x=>s a o (r.fr a o e x),λ a x h=>r.xo a x (s.free h),λ a xs e=>s _ _ (r.tk a xs e),λ j hj=>?_,by rw [N1g,N1g];exact r.len⟩,kp⟩
 ·rcases get_set e with ⟨rfl,e,hlt⟩ | ⟨ne,e⟩
  ·cases e
   exact ⟨v,k,q6l (by rw [r.len];exact hlt),q6l hk,by rw [φset_same];exact hs⟩
  ·obtain ⟨u,k',h1,h2,h3⟩:=r.sl j d' e
   refine ⟨u,k',by rw [q4e ne];exact h1,by rw [q4e ne];exact h2,?_⟩
   rw [φset_ne (N1f ne)]
   exact h3.mono kp λ a o_ o e=>s a o e
 ·by_cases ex:x=i<;>by_cases ey:y=i
  ·rw [ex,ey]
  ·subst ex
   rw [φset_same] at hx
   rw [φset_ne ey] at hy
   exact absurd (hl a hx).1 (r.ow a ⟨y,hy⟩)
  ·subst ey
   rw [φset_same] at hy
   rw [φset_ne ex] at hx
   exact absurd (hl a hy).1 (r.ow a ⟨x,hx⟩)
  ·rw [φset_ne ex] at hx
   rw [φset_ne ey] at hy
   exact r.dj x y a hx hy
 ·obtain ⟨j,hj⟩:=f
  by_cases ej:j=i
  ·subst ej
   rw [φset_same] at hj
   exact (hl a hj).2
  ·rw [φset_ne ej] at hj
   exact λ h=>r.ow a ⟨j,hj⟩ (s.free h)
 ·obtain ⟨j,hj⟩:=f
  by_cases ej:j=i
  ·subst ej
   rw [φset_same] at hj
   exact .inl (r.old (hl a hj).1)
  ·rw [φset_ne ej] at hj
   exact r.fi a ⟨j,hj⟩
 ·have ne:i≠j:=λ z=>hni (by rw [z];exact hj)
  rw [q4e ne,φset_ne (N1f ne)]
  exact r.ii j hj
theorem q0A {φ:Nat->List Addr}{i:Nat}{a:Addr}(h:Fo (φset φ i []) a):Fo φ a:=by
 obtain ⟨j,hj⟩:=h
 by_cases e:j=i
 ·subst e;rw [φset_same] at hj;exact absurd hj (by simp)
 ·rw [φset_ne e] at hj;exact ⟨j,hj⟩
theorem W0 {i:Nat}{x:Str}{k:Kd}{pos':Pos}(hkk:k=.b\/k=.s) (hk:i<κ.length) (hN:X.N.Nodup) (hi:X.N[i]? = some x) (hx:Loc X.env.scope x) (h:DE X C κ k fr e ge) (hs:swapsWith e (some (.Name x pos')) pos.line X.env=pure false:=by rfl)
 (hf:X.fn x=true\/X.env.scope.names.lookup x=some .local:=by nofun) (hni:C.io.contains i=false:=by rfl):DSt X C L κ (κ.set i k) (.Assign [.Name x pos'] e pos) (X4 i ge):=by
 obtain ⟨t,pt,dt⟩:=h
 refine ⟨_,q6W hN hi hx pt hs hf,λ φ σ H δ r D p=>dt (Fo φ) σ H δ r.rx _ ?_⟩
 obtain ⟨d,e1,p⟩:=Z4 p
 rw [e1]
 intro v H1 s1 a n
 have so:SlOk X.K C (Fo (φset φ i [])) H1 [] v d k:=by
  rcases hkk with rfl | rfl
  ·exact At.sub a λ b z o_ f=>z (q0A f)
  ·exact At.sub a λ b z o_=>⟨z.1,λ f=>z.2 (q0A f)⟩
 obtain ⟨r2,kp⟩:=r.put s1 hk so (λ a m=>absurd m (by simp)) (q09 hni)
 exact p _ _ _ r2 kp
theorem Y0 {i:Nat}{x:Str}{pos':Pos}(hk:i<κ.length) (hN:X.N.Nodup) (hi:X.N[i]? = some x) (hx:Loc X.env.scope x) (h:DE X C κ .s true e ge) (hs:swapsWith e (some (.Name x pos')) pos.line X.env=pure false:=by rfl)
 (hf:X.fn x=true\/X.env.scope.names.lookup x=some .local:=by nofun) (hni:C.io.contains i=false:=by rfl):DSt X C L κ (κ.set i .o) (.Assign [.Name x pos'] e pos) (gSetO i ge):=by
 obtain ⟨t,pt,dt⟩:=h
 refine ⟨_,q6W hN hi hx pt hs hf,λ φ σ H δ r D p=>dt (Fo φ) σ H δ r.rx _ ?_⟩
 obtain ⟨d,e1,p⟩:=Z4 p
 obtain ⟨hb,p⟩:=X5 p
 rw [e1]
 intro v H1 s1 a n
 obtain ⟨l,o,hl⟩:=n rfl hb
 have so:SlOk X.K C (Fo (φset φ i l)) H1 l v d .o:=by
  refine ⟨?_,λ a m=>r.old (hl a m)⟩
  have key:∀ b,(Sk C (Fo φ) .s b/\b∉l)->Sk C (Fo (φset φ i l)) .s b:=λ b z=>⟨z.1.1,λ f=>by
   obtain ⟨j,hj⟩:=f
   by_cases e:j=i
   ·subst e;rw [φset_same] at hj;exact z.2 hj
   ·rw [φset_ne e] at hj;exact z.1.2 ⟨j,hj⟩⟩
  cases d with
  | lst ds=>obtain ⟨a',vs,q1,q2,q3,q4⟩:=o;exact ⟨a',vs,q1,q2,q3,q4.sub λ b z o_=>⟨key b z,z.2⟩⟩
  | dct ks ds=>obtain ⟨a',vs,q1,q2,q3,q5,q4⟩:=o;exact ⟨a',vs,q1,q2,q3,q5,q4.sub λ b z o_=>⟨key b z,z.2⟩⟩
  | obj c f d' =>
   cases d' with
   | dct ks ds=>obtain ⟨a',dx,b',vs,q1,q2,q3,q5,q6,q7,q4⟩:=o;exact ⟨a',dx,b',vs,q1,q2,q3,q5,q6,q7,q4.sub λ b z o_=>⟨key b z,z.2⟩⟩
   | _=>exact o.elim
  | xt u=>exact o
  | _=>cases hb
 obtain ⟨r2,kp⟩:=r.put s1 hk so (λ a m=>⟨hl a m,o.ex m⟩) (q09 hni)
 exact p _ _ _ r2 kp
end
section
variable {X:Cx}{C:Dc}{L:List Kd×List Nat}{κ κ' κ1 κ2:List Kd}{st:Stmt}{sts:List Stmt}{g g1 g2 gb:GS}{ge gk:GE}{tA:GT}{e:Expr}{fr:Bool}{pos:Pos}{F F1:Addr->Prop}{H H1:Hp}
theorem q3G:∀ (fg:List Nat) (δ:DS),(forget fg δ).length=δ.length
 | [],δ=>rfl
 | i::r,δ=>by rw [forget,q3G r,N1g]
theorem q3H:∀ {fg:List Nat}{δ:DS}{j:Nat}{d:D},(forget fg δ)[j]? = some (some d)->j∉fg/\δ[j]? = some (some d)
 | [],δ,j,d,h=>⟨by simp,h⟩
 | i::r,δ,j,d,h=>by
  rw [forget] at h
  obtain ⟨h1,h2⟩:=q3H h
  rcases get_set h2 with ⟨_,z,_⟩ | ⟨ne,h2⟩
  ·cases z
  ·exact ⟨λ m=>(N0c.mp m).elim (λ z=>ne z.symm) h1,h2⟩
noncomputable def okK (κ κ2:List Kd) (fg:List Nat):Bool:=(List.range κ.length).all λ j=>fg.contains j || decide (κ[j]? = κ2[j]?)
theorem z3o {κ κ2:List Kd}{fg:List Nat}{j:Nat}{k:Kd}(h:okK κ κ2 fg=true) (m:j∉fg) (e:κ[j]? = some k):κ2[j]? = some k:=by
 have hl:j<κ.length:=(N04.mp e).1
 have q:=N21.mp h j (List.mem_range.mpr hl)
 rw [Bool.or_eq_true] at q
 rcases q with q | q
 ·exact absurd (List.contains_iff_mem.mp q) m
 ·rw [<- of_decide_eq_true q];exact e
theorem Rs.forget {K:PySem.W.Frag}{φ:Nat->List Addr}{σ:St}{H:Hp}{δ:DS}{fg:List Nat}(r:Rs K C κ φ σ H δ) (ok:okK κ κ2 fg=true):Rs K C κ2 φ σ H (forget fg δ) :=
 ⟨λ i d e=>by
  obtain ⟨m,e⟩:=q3H e
  obtain ⟨v,k,h1,h2,h3⟩:=r.sl i d e
  exact ⟨v,k,h1,z3o ok m h2,h3⟩,r.dj,r.ow,r.fi,r.fr,r.xo,r.tk,r.ii,by rw [q3G];exact r.len⟩
theorem q4f (κ:List Kd) (fg:List Nat):okK κ κ fg=true:=N21.mpr λ j o_=>by rw [N0o rfl,Bool.or_true]
theorem Rs.frz {K:PySem.W.Frag}{φ:Nat->List Addr}{σ:St}{H:Hp}{δ:DS}{i:Nat}(r:Rs K C κ φ σ H δ) (hk:κ[i]? = some .o) (hni:i∉C.io):Rs K C (κ.set i .s) (φset φ i []) σ H δ/\Kp (Fo φ) H (Fo (φset φ i [])) H:=by
 have hi:i<κ.length:=(N04.mp hk).1
 have sub:∀ a,Fo (φset φ i []) a->Fo φ a\/H a=none:=λ a f=>.inl (q0A f)
 have kp:Kp (Fo φ) H (Fo (φset φ i [])) H:=Kp.of (Same.refl H) sub
 refine ⟨⟨λ j d e=>?_,λ x y a hx hy=>?_,λ a f=>r.ow a (q0A f),λ a f=>r.fi a (q0A f),r.fr,r.xo,r.tk,λ j hj=>?_,r.len⟩,kp⟩
 ·obtain ⟨v,k,h1,h2,h3⟩:=r.sl j d e
  by_cases ej:i=j
  ·subst ej
   rw [hk] at h2
   cases h2
   refine ⟨v,.s,h1,q6l hi,?_⟩
   refine h3.1.at (λ b z=>⟨z.1,λ f=>z.2 (q0A f)⟩) λ b m=>⟨h3.2 b m,λ f=>?_⟩
   obtain ⟨j,hj⟩:=f
   by_cases e:j=i
   ·subst e;rw [φset_same] at hj;exact absurd hj (by simp)
   ·rw [φset_ne e] at hj;exact e (r.dj j i b hj m)
  ·refine ⟨v,k,h1,by rw [q4e ej];exact h2,?_⟩
   rw [φset_ne (N1f ej)]
   exact h3.mono kp λ o_ o_ o_ e=>e
 ·by_cases ex:x=i
  ·subst ex;rw [φset_same] at hx;exact absurd hx (by simp)
  ·by_cases ey:y=i
   ·subst ey;rw [φset_same] at hy;exact absurd hy (by simp)
   ·rw [φset_ne ex] at hx;rw [φset_ne ey] at hy;exact r.dj x y a hx hy
 ·have ne:j≠i:=λ z=>hni (by rw [<- z];exact hj)
  rw [φset_ne ne]
  exact r.ii j hj
theorem z5q (i:Nat) (hk:κ[i]? = some .o) (h:DSs X C L (κ.set i .s) κ' sts g) (hni:C.io.contains i=false:=by rfl):DSs X C L κ κ' sts g:=by
 obtain ⟨t,pt,dt⟩:=h
 refine ⟨t,pt,λ φ σ H δ r D p=>?_⟩
 obtain ⟨r2,kp⟩:=r.frz hk (q09 hni)
 exact dt _ σ H δ r2 D (K7 kp p)
noncomputable def Wk (K:PySem.W.Frag) (C:Dc) (F:Addr->Prop) (m:Kd) (H:Hp) (J:It) (xs:List D):Prop :=
 (∃ a vs,J=Itl K a/\Sk C F m a/\Rd H a (.lst vs)/\Ats K C.cl H (Sk C F m) vs xs)\/(∃ a vs,J=Itt K a/\H a=some (.tup vs)/\Ats K C.cl H (Sk C F m) vs xs)\/(∃ lo n,J=Itr lo n/\xs=rangeD lo n)\/∃ z,J=Its z/\xs=signsD z
noncomputable def q4g (K:PySem.W.Frag) (C:Dc) (F:Addr->Prop) (m:Kd) (H:Hp) (R:It->Hp->Prop):Rz (List D)->Prop
 | .ok xs=>∀ J H',Same H H'->Wk K C F m H' J xs->R J H'
 | _=>False
noncomputable def DI (X:Cx) (C:Dc) (κ:List Kd) (m:Kd) (tg iter:Expr) (g:GI):Prop :=
 ∃ wi,PI X tg iter wi/\∀ F σ H δ,Rx X.K C κ F σ H δ->∀ R,q4g X.K C F m H R (g δ)->wi σ H R
theorem z5r {tg iter:Expr}{w1 w2:TI}(h1:PI X tg iter w1) (h2:PI X tg iter w2):PI X tg iter (λ σ H R=>w1 σ H R\/w2 σ H R):=by
 intro pins s σ H R I h
 rcases h with h | h
 ·exact h1 pins s σ H R I h
 ·exact h2 pins s σ H R I h
theorem Y2 {m:Kd}{tg:Expr}(h:DE X C κ m fr e ge):DI X C κ m tg e (gItS ge):=by
 obtain ⟨t,pt,dt⟩:=h
 refine ⟨_,z5r (z2M pt) (z5r (z4O pt) (z5c pt)),λ F σ H δ r R p=>?_⟩
 obtain ⟨d,e1,p⟩:=Z7 (T:=q4g X.K C F m H R) (λ o_ o_ q=>q) (λ q=>q) p
 cases d with
 | lst xs =>
  refine .inl (dt F σ H δ r _ ?_)
  rw [e1]
  intro v H1 s1 a _
  rw [At] at a
  obtain ⟨b,vs,rfl,sb,q,w⟩:=a
  exact ⟨b,rfl,⟨vs,.inl q⟩,p _ H1 s1 (.inl ⟨b,vs,rfl,sb,q,w⟩)⟩
 | tup xs =>
  refine .inr (.inl (dt F σ H δ r _ ?_))
  rw [e1]
  intro v H1 s1 a _
  rw [At] at a
  obtain ⟨b,vs,rfl,q,w⟩:=a
  exact ⟨b,rfl,⟨vs,SqT.of q⟩,p _ H1 s1 (.inr (.inl ⟨b,vs,rfl,q,w⟩))⟩
 | str z =>
  obtain ⟨hz,p⟩:=Z9 (T:=q4g X.K C F m H R) (λ z=>z) p
  refine .inr (.inr (dt F σ H δ r _ ?_))
  rw [e1]
  intro v H1 s1 a _
  rw [At] at a
  exact ⟨z,a,hz,p _ H1 s1 (.inr (.inr (.inr ⟨z,rfl,rfl⟩)))⟩
 | _=>exact p.elim
theorem q1n {m:Kd}{tg a:Expr}{p:Pos}{fa:Bool}(hg:Gl X "range") (hm:X.mg "range" = none) (h:DE X C κ .v fa a ge) (hs:starEach [a] X.env=[(false,eval a X.env)]:=by rfl):DI X C κ m tg (.Call (.Name "range" p) [a] [] pos) (q1A ge):=by
 obtain ⟨t,pt,dt⟩:=h
 refine ⟨_,q8R hg hm (Y5 pt q1v hs) hs,λ F σ H δ r R z=>dt F σ H δ r _ ?_⟩
 obtain ⟨d,e1,z⟩:=Z7 (T:=q4g X.K C F m H R) (λ o_ o_ q=>q) (λ q=>q) z
 rw [e1]
 intro v H1 s1 at1 _
 cases d with
 | int j =>
  obtain ⟨hz,z⟩:=Z9 (T:=q4g X.K C F m H R) (λ z=>z) z
  rw [At] at at1
  subst at1
  exact ⟨j,rfl,hz.1,hz.2,z _ H1 s1 (.inr (.inr (.inl ⟨0,j.toNat,rfl,rfl⟩)))⟩
 | _=>exact z.elim
theorem z3p {m:Kd}{tg a b:Expr}{p:Pos}{fa fb:Bool}(hg:Gl X "range") (hm:X.mg "range" = none) (h:DE X C κ .v fa a ge) (h':DE X C κ .v fb b gk) (hs:starEach [a,b] X.env=[(false,eval a X.env),(false,eval b X.env)]:=by rfl) (hs2:starEach [b] X.env=[(false,eval b X.env)]:=by rfl) :
 DI X C κ m tg (.Call (.Name "range" p) [a,b] [] pos) (z3g ge gk):=by
 obtain ⟨t,pt,dt⟩:=h
 obtain ⟨u,pu,du⟩:=h'
 refine ⟨_,q8S hg hm (Y5 pt (Y5 pu q1v hs2) (by rw [hs,hs2])) hs hs2,λ F σ H δ r R z=>dt F σ H δ r _ ?_⟩
 obtain ⟨d,e1,z⟩:=Z7 (T:=q4g X.K C F m H R) (λ o_ o_ q=>q) (λ q=>q) z
 obtain ⟨d2,e2,z⟩:=Z7 (T:=q4g X.K C F m H R) (λ o_ o_ q=>q) (λ q=>q) z
 rw [e1]
 intro v H1 s1 at1 _
 refine du F σ H1 δ (r.same s1) _ ?_
 rw [e2]
 intro v2 H2 s2 at2 _
 cases d with
 | int i =>
  cases d2 with
  | int j =>
   obtain ⟨hz,z⟩:=Z9 (T:=q4g X.K C F m H R) (λ z=>z) z
   rw [At] at at1 at2
   subst at1 at2
   exact ⟨i,j,rfl,⟨hz.1.1,hz.1.2,hz.2.1,hz.2.2⟩,z _ H2 (s1.trans s2) (.inr (.inr (.inl ⟨i,(j - i).toNat,rfl,rfl⟩)))⟩
  | _=>exact z.elim
 | _=>exact z.elim
theorem q0N (i:Nat) (fg:List Nat) (δ:DS):W6 i fg gb [] δ=.ok (.nx δ):=by rw [W6]
theorem X6 {α:Type}{xs:List α}{k:Nat}{x:α}(h:xs[k]? = some x):xs.drop k=x::xs.drop (k+1):=by
 have hl:=(N04.mp h).1
 rw [List.drop_eq_getElem_cons hl,(N04.mp h).2]
theorem q1E {i:Nat}{x:Str}{k:Kd}{fg:List Nat}{tb:TS}{D:Ends}{F0:Addr->Prop}{H0:Hp}(hkk:k=.b\/k=.s) (hk:i<κ.length) (hni:i∉C.io) (ok:okK κ1 κ fg=true)
 (db:∀ φ σ H δ,Rs X.K C (κ.set i k) φ σ H δ->∀ D,FinS X.K C (κ,fg) κ1 (Fo φ) H D (gb δ)->tb D σ H){N:St->Hp->Prop}
 {φ:Nat->List Addr}{σ:St}{H:Hp}{δ:DS}{v:V}{d:Dl.D}{rest:List Dl.D}(r:Rs X.K C κ φ σ H δ) (kp:Kp F0 H0 (Fo φ) H) (a:At X.K C.cl H (Sk C (Fo φ) k) v d) (p:FinS X.K C L κ F0 H0 D (W6 i fg gb (d::rest) δ))
 (hN:∀ φ' σ' H' δ',Rs X.K C κ φ' σ' H' δ'->Kp F0 H0 (Fo φ') H'->FinS X.K C L κ F0 H0 D (W6 i fg gb rest δ')->N σ' H') :
 tb { D with nx:=N,ct:=N,bk:=D.nx } (σ.set i (some v)) H:=by
 have so:SlOk X.K C (Fo (φset φ i [])) H [] v d k:=by
  rcases hkk with rfl | rfl
  ·exact At.sub a λ b z o_ f=>z (q0A f)
  ·exact At.sub a λ b z o_=>⟨z.1,λ f=>z.2 (q0A f)⟩
 obtain ⟨r2,kp2⟩:=r.put (Same.refl H) hk so (λ a m=>absurd m (by simp)) hni
 have kp3:=kp.trans kp2
 refine db _ _ H _ r2 _ ?_
 rw [W6] at p
 cases q:gb (δ.set i (some d)) with
 | ok o =>
  rw [q] at p
  cases o with
  | nx δ'=>exact λ φ' σ' H' r' k'=>hN φ' σ' H' _ (r'.forget ok) (kp3.trans k') p
  | ct δ'=>exact λ φ' σ' H' r' k'=>hN φ' σ' H' _ r' (kp3.trans k') p
  | bk δ'=>exact λ φ' σ' H' r' k'=>p φ' σ' H' r' (kp3.trans k')
  | rt d δ'=>exact p
 | er c s=>rw [q] at p;exact p.elim
 | un=>rw [q] at p;exact p.elim
theorem X7 {i:Nat}{x:Str}{k:Kd}{fg:List Nat}{iter:Expr}{gi:GI}{body:List Stmt}{px:Pos}(hkk:k=.b\/k=.s) (hk:i<κ.length) (hN:X.N.Nodup) (hi:X.N[i]? = some x) (hx:Loc X.env.scope x) (hp:PassesOwn (model X.prog X.w) X.A X.env X.xe) (hc:X.calm=true)
 (hw:DI X C κ k (.Name x px) iter gi) (hb:DSs X C (κ,fg) (κ.set i k) κ1 body gb) (ok:okK κ1 κ fg=true) (hs:∀ x,foldedSetIterable iter X.env x=pure x:=by intro _;rfl)
 (hf:X.fn x=true\/X.env.scope.names.lookup x=some .local:=by nofun) (hni:C.io.contains i=false:=by rfl):DSt X C L κ κ (.For (.Name x px) iter body [] pos) (q1B gi i fg gb):=by
 obtain ⟨wi,pw,dw⟩:=hw
 obtain ⟨tb,pb,db⟩:=hb
 refine ⟨_,q8U hp hc pw (q0K hN hi hx hf) pb hs,λ φ σ H δ r D p=>dw (Fo φ) σ H δ r.rx _ ?_⟩
 obtain ⟨xs,e1,p⟩:=Z4 p
 rw [e1]
 intro J H1 s1 w
 have r1:=(r.same s1).forget (q4f κ fg)
 have kp1:Kp (Fo φ) H (Fo φ) H1:=Kp.of s1 λ a f=>.inl f
 have sk:∀ {φ':Nat->List Addr}{H':Hp}{a:Addr},Kp (Fo φ) H1 (Fo φ') H'->H1 a≠none->Sk C (Fo φ) k a->¬ Fo φ a/\Sk C (Fo φ') k a:=λ {φ' H' a} kp e z=>by
  have m:¬ Fo φ a->¬ Fo φ' a:=λ n f=>(kp.ow a f).elim n e
  rcases hkk with rfl | rfl
  ·exact ⟨z,m z⟩
  ·exact ⟨z.2,z.1,m z.2⟩
 have items:∀ {φ':Nat->List Addr}{H':Hp}{vs:List V},Kp (Fo φ) H1 (Fo φ') H'->Ats X.K C.cl H1 (Sk C (Fo φ) k) vs xs->Ats X.K C.cl H' (Sk C (Fo φ') k) vs xs:=λ {φ' H' vs} kp z =>
  z.mono kp.tk (λ a o za e=>kp.st a o e (sk kp (by rw [e];exact λ z=>by cases z) za).1) λ a za e=>(sk kp e za).2
 rcases w with ⟨a,vs,rfl,sa,ha,wa⟩ | ⟨a,vs,rfl,ha,wa⟩ | ⟨lo,n,rfl,rfl⟩ | ⟨z,rfl,rfl⟩
 ·have hl:=wa.length
  refine z13 (K:=X.K) (a:=a) (xs:=vs) (λ j σ' H'=>∃ φ' δ',Rs X.K C κ φ' σ' H' δ'/\Kp (Fo φ) H1 (Fo φ') H'/\FinS X.K C L κ (Fo φ) H1 D (W6 i fg gb (xs.drop j) δ'))
   ⟨φ,_,r1,Kp.refl,K7 kp1 p⟩ (λ j σ' H' o1_ ⟨φ',δ',r',kp,o2_⟩=>?_) ?_ ?_
  ·refine .inl ?_
   rcases ha with ha | ⟨o,ha⟩
   ·exact .inl (kp.st _ _ ha (sk kp (by rw [ha];exact λ z=>by cases z) sa).1)
   ·exact .inr ⟨o,kp.st _ _ ha (sk kp (by rw [ha];exact λ z=>by cases z) sa).1⟩
  ·rintro j v σ' H' hj ⟨φ',δ',r',kp,q⟩
   obtain ⟨d,hd,ad⟩:=(items kp wa).get' hj
   rw [X6 hd] at q
   exact q1E (x:=x) hkk hk (q09 hni) ok db r' kp ad q λ φ2 σ2 H2 δ2 r2 kp2 q2=>⟨φ2,δ2,r2,kp2,q2⟩
  ·rintro σ' H' ⟨φ',δ',r',kp,q⟩
   rw [hl,N1h,q0N] at q
   exact q φ' σ' H' r' kp
 ·have hl:=wa.length
  refine z2N (K:=X.K) (a:=a) (xs:=vs) (λ j σ' H'=>∃ φ' δ',Rs X.K C κ φ' σ' H' δ'/\Kp (Fo φ) H1 (Fo φ') H'/\FinS X.K C L κ (Fo φ) H1 D (W6 i fg gb (xs.drop j) δ'))
   ⟨φ,_,r1,Kp.refl,K7 kp1 p⟩ (λ j σ' H' o1_ ⟨φ',δ',r',kp,o2_⟩=>SqT.of (kp.tk _ _ ha)) ?_ ?_
  ·rintro j v σ' H' hj ⟨φ',δ',r',kp,q⟩
   obtain ⟨d,hd,ad⟩:=(items kp wa).get' hj
   rw [X6 hd] at q
   exact q1E (x:=x) hkk hk (q09 hni) ok db r' kp ad q λ φ2 σ2 H2 δ2 r2 kp2 q2=>⟨φ2,δ2,r2,kp2,q2⟩
  ·rintro σ' H' ⟨φ',δ',r',kp,q⟩
   rw [hl,N1h,q0N] at q
   exact q φ' σ' H' r' kp
 ·have hl:(rangeD lo n).length=n:=by unfold rangeD;rw [N01,N17]
  refine q8V (lo:=lo) (n:=n) (λ j σ' H'=>∃ φ' δ',Rs X.K C κ φ' σ' H' δ'/\Kp (Fo φ) H1 (Fo φ') H'/\FinS X.K C L κ (Fo φ) H1 D (W6 i fg gb ((rangeD lo n).drop j) δ'))
   ⟨φ,_,r1,Kp.refl,K7 kp1 p⟩ ?_ ?_
  ·rintro j σ' H' hj ⟨φ',δ',r',kp,q⟩
   have hd:(rangeD lo n)[j]? = some (.int (lo+(j:Int))):=by unfold rangeD;rw [N0i,N1j hj];rfl
   rw [X6 hd] at q
   exact q1E (x:=x) hkk hk (q09 hni) ok db r' kp (by rw [At]) q λ φ2 σ2 H2 δ2 r2 kp2 q2=>⟨φ2,δ2,r2,kp2,q2⟩
  ·rintro σ' H' ⟨φ',δ',r',kp,q⟩
   rw [show (rangeD lo n).drop n=[] by rw [N1c];simp_all,q0N] at q
   exact q φ' σ' H' r' kp
 ·have hl:(signsD z).length=z.cps.size:=by unfold signsD;rw [N01,N0g]
  refine z3b (z:=z) (λ j σ' H'=>∃ φ' δ',Rs X.K C κ φ' σ' H' δ'/\Kp (Fo φ) H1 (Fo φ') H'/\FinS X.K C L κ (Fo φ) H1 D (W6 i fg gb ((signsD z).drop j) δ'))
   ⟨φ,_,r1,Kp.refl,K7 kp1 p⟩ ?_ ?_
  ·rintro j c σ' H' hj ⟨φ',δ',r',kp,q⟩
   have hd:(signsD z)[j]? = some (.str ⟨#[c]⟩):=by unfold signsD;rw [N0i,Array.getElem?_toList,hj];rfl
   rw [X6 hd] at q
   exact q1E (x:=x) hkk hk (q09 hni) ok db r' kp (by rw [At]) q λ φ2 σ2 H2 δ2 r2 kp2 q2=>⟨φ2,δ2,r2,kp2,q2⟩
  ·rintro σ' H' ⟨φ',δ',r',kp,q⟩
   rw [show (signsD z).drop z.cps.size=[] by rw [N1c];simp_all,q0N] at q
   exact q φ' σ' H' r' kp
theorem q2u (n:Nat){fg:List Nat}{c:Expr}{body:List Stmt}(hp:PassesOwn (model X.prog X.w) X.A X.env X.xe) (hc:DT X C κ c tA) (hb:DSs X C (κ,fg) κ κ1 body gb) (ok:okK κ1 κ fg=true):DSt X C L κ κ (.While c body [] pos) (y8 fg tA gb n):=by
 obtain ⟨tc,pc,dc⟩:=hc
 obtain ⟨tb,pb,db⟩:=hb
 refine ⟨_,z12 hp pc pb,λ φ σ H δ r D p=>⟨λ m σ' H'=>∃ φ' δ',Rs X.K C κ φ' σ' H' δ'/\Kp (Fo φ) H (Fo φ') H'/\FinS X.K C L κ (Fo φ) H D (y8 fg tA gb m δ'),⟨n,φ,δ,r,Kp.refl,p⟩,?_⟩⟩
 rintro m σ' H' ⟨φ',δ',r',kp,q⟩
 cases m with
 | zero=>exact q.elim
 | succ m =>
  rw [y8] at q
  refine dc (Fo φ') σ' H' δ' r'.rx _ ?_
  obtain ⟨k,e1,q⟩:=Z4 q
  rw [e1]
  intro H1 s1
  have kp1:Kp (Fo φ) H (Fo φ') H1:=kp.trans (Kp.of s1 λ a f=>.inl f)
  cases k with
  | false=>exact z1h (q φ' σ' H1 (r'.same s1) kp1)
  | true =>
   refine z1i ⟨λ σ2 H2=>∃ φ2 δ2,Rs X.K C κ φ2 σ2 H2 δ2/\Kp (Fo φ) H (Fo φ2) H2/\FinS X.K C L κ (Fo φ) H D (y8 fg tA gb m δ2),λ σ2 H2 z=>⟨m,Nat.lt_succ_self m,z⟩,db φ' σ' H1 δ' (r'.same s1) _ ?_⟩
   have q:FinS X.K C L κ (Fo φ) H D ((gb δ').bind _):=q
   cases q2:gb δ' with
   | ok o =>
    rw [q2] at q
    cases o with
    | nx δ2=>exact λ φ2 σ2 H2 r2 k2=>⟨φ2,_,r2.forget ok,kp1.trans k2,q⟩
    | ct δ2=>exact λ φ2 σ2 H2 r2 k2=>⟨φ2,_,r2,kp1.trans k2,q⟩
    | bk δ2=>exact λ φ2 σ2 H2 r2 k2=>q φ2 σ2 H2 r2 (kp1.trans k2)
    | rt d δ2=>exact q
   | er c s=>rw [q2] at q;exact q.elim
   | un=>rw [q2] at q;exact q.elim
end
theorem q4h (k:Ky):∀ (ks:List Ky) (vs:List V),valV (ks.zip vs) k=valD k ks vs
 | [],_=>rfl
 | _::_,[]=>rfl
 | x::ks,v::vs=>by
  rw [N1r,z3c]
  by_cases e:x=k
  ·rw [q0g (p:=(x,v)) e,N0j e]
  ·rw [q0h (p:=(x,v)) e,N0l e,q4h k ks vs]
theorem q6m (k:Ky):∀ (ks:List Ky) (vs:List V),ks.length=vs.length->((ks.zip vs).any λ kv=>decide (kv.1=k))=ks.any λ x=>decide (x=k)
 | [],_,_=>rfl
 | _::_,[],h=>by simp at h
 | x::ks,v::vs,h=>by
  rw [N1r,N1i,N1i,q6m k ks vs (by simpa using h)]
theorem q6n (k:Ky) (v:V):∀ (ks:List Ky) (vs:List V),((ks.zip vs).map λ kv=>if kv.1=k then (kv.1,v) else kv)=ks.zip (setK k v ks vs)
 | [],_=>rfl
 | _::_,[]=>by rw [List.zip_nil_right];rfl
 | x::ks,u::vs=>by
  rw [N1r,N09,q7a,N1r,q6n k v ks vs]
  by_cases e:x=k
  ·rw [N0j (show (x,u).1=k from e),N0j e]
  ·rw [N0l (show ¬ (x,u).1=k from e),N0l e]
theorem q4i (k:Ky):∀ (ks:List Ky) (vs:List V),ks.length=vs.length->q2n (ks.zip vs) k=(ks.filter λ x=>decide (x≠k)).zip (dropV k ks vs)
 | [],_,_=>rfl
 | _::_,[],h=>by simp at h
 | x::ks,u::vs,h=>by
  rw [N1r,q7b,N1e]
  by_cases e:x=k
  ·rw [q9i (p:=(x,u)) e,N0j e,N0l (by simp [e]),q4i k ks vs (by simpa using h)]
  ·rw [q9j (p:=(x,u)) e,N0l e,N0j (by simp [e]),N1r,q4i k ks vs (by simpa using h)]
section
variable {K:PySem.W.Frag}{cl:Nat->Addr}{H H':Hp}{S S':Addr->Prop}
theorem Ats.val {k:Ky}:∀ {ks:List Ky}{vs:List V}{ds:List D}{d:D},Ats K cl H S vs ds->valD k ks ds=some d->∃ v,valD k ks vs=some v/\At K cl H S v d
 | [],_,_,_,_,e=>by cases e
 | _::_,[],[],_,_,e=>by cases e
 | x::ks,v::vs,y::ds,d,a,e=>by
  rw [Ats] at a
  rw [z3c] at e ⊢
  by_cases q:x=k
  ·rw [N0j q] at e ⊢
   cases e
   exact ⟨v,rfl,a.1⟩
  ·rw [N0l q] at e ⊢
   exact Ats.val a.2 e
 | _::_,[],_::_,_,z,_=>by rw [Ats] at z;exact z.elim
 | _::_,_::_,[],_,z,_=>by rw [Ats] at z;exact z.elim
theorem Ats.setK {k:Ky}{v:V}{d:D}(h:At K cl H S v d):∀ {ks:List Ky}{vs:List V}{ds:List D},Ats K cl H S vs ds->Ats K cl H S (setK k v ks vs) (setK k d ks ds)
 | [],_,_,a=>a
 | _::_,[],[],a=>a
 | x::ks,u::vs,y::ds,a=>by
  rw [Ats] at a
  rw [q7a,q7a]
  refine Ats.cons ?_ (Ats.setK h a.2)
  by_cases q:x=k
  ·rw [N0j q,N0j q];exact h
  ·rw [N0l q,N0l q];exact a.1
 | _::_,[],_::_,z=>by rw [Ats] at z;exact z.elim
 | _::_,_::_,[],z=>by rw [Ats] at z;exact z.elim
theorem Ats.dropV {k:Ky}:∀ {ks:List Ky}{vs:List V}{ds:List D},Ats K cl H S vs ds->Ats K cl H S (dropV k ks vs) (dropV k ks ds)
 | [],_,_,a=>Ats.nil
 | _::_,[],[],a=>Ats.nil
 | x::ks,u::vs,y::ds,a=>by
  rw [Ats] at a
  rw [q7b,q7b]
  by_cases q:x=k
  ·rw [N0j q,N0j q];exact Ats.dropV a.2
  ·rw [N0l q,N0l q];exact Ats.cons a.1 (Ats.dropV a.2)
 | _::_,[],_::_,z=>by rw [Ats] at z;exact z.elim
 | _::_,_::_,[],z=>by rw [Ats] at z;exact z.elim
end
theorem q4j {α:Type}(k:Ky) (v:α):∀ (ks:List Ky) (vs:List α),(setK k v ks vs).length=vs.length
 | [],vs=>rfl
 | _::_,[]=>rfl
 | x::ks,u::vs=>by rw [q7a,N0h,N0h,q4j k v ks vs]
theorem q2R {α:Type}(k:Ky):∀ (ks:List Ky) (vs:List α),ks.length=vs.length->(ks.filter λ x=>decide (x≠k)).length=(dropV k ks vs).length
 | [],[],_=>rfl
 | [],_::_,h=>by simp at h
 | _::_,[],h=>by simp at h
 | x::ks,u::vs,h=>by
  rw [q7b,N1e]
  by_cases e:x=k
  ·rw [N0j e,N0l (by simp [e]),q2R k ks vs (by simpa using h)]
  ·rw [N0l e,N0j (by simp [e]),N0h,N0h,q2R k ks vs (by simpa using h)]
section
variable {X:Cx}
theorem z3q:OpR X (binaryOp .Add) (λ x y H Q=>∃ l b xs zs,x=.ref l/\y=.ref b/\Rd H l (.lst xs)/\Rd H b (.lst zs)/\xs.length+zs.length<=sizeLine/\∀ p,H p=none->Q (.ref p) (upd H p (.lst (xs++zs)))):=by
 intro pins s σ H x y v u Q I rx ry h
 obtain ⟨l,b,xs,zs,rfl,rfl,hH,hB,hz,q⟩:=h
 cases rx
 cases ry
 obtain ⟨z,its,n,r,e⟩:=hH.ok I.hok
 obtain ⟨z2,its2,n2,r2,e2⟩:=hB.ok I.hok
 have hl:=r.length
 have hl2:=r2.length
 refine PySem.P.add_list e e2 ?_ (by rw [N0m,N0m];simp_all)
 have ea:its.toArray++its2.toArray=(its++its2).toArray:=by simp
 rw [ea]
 exact ⟨.ref _,_,I.lnew (t':=s.toks) (r.append r2) (by rw [N06];omega),rfl,q _ I.fresh⟩
end
section
variable {X:Cx}{C:Dc}{L:List Kd×List Nat}{κ κ' κ1 κ2:List Kd}{st:Stmt}{sts:List Stmt}{g g1 g2 gb:GS}{ge gk:GE}{tA:GT}{e:Expr}{fr fk:Bool}{pos:Pos}{F F1:Addr->Prop}{H H1:Hp}
theorem Rs.write {K:PySem.W.Frag}{φ:Nat->List Addr}{σ:St}{H:Hp}{δ:DS}{i:Nat}{k:Kd}{a:Addr}{o o':HO}{v:V}{d d':D}(r:Rs K C κ φ σ H δ) (ho:k=.o\/k=.i) (hk:κ[i]? = some k) (hv:σ[i]? = some (some v)) (hd:δ[i]? = some (some d)) (ha:a∈φ i) (hH:H a=some o) (nt:∀ xs,o≠.tup xs)
 (hs:Own K C.cl (upd H a o') (Sk C (Fo φ) .s) (φ i) v d'):Rs K C κ φ σ (upd H a o') (δ.set i (some d'))/\Kp (Fo φ) H (Fo φ) (upd H a o'):=by
 have fa:Fo φ a:=⟨i,ha⟩
 have ex:∀ b,H b≠none->upd H a o' b≠none:=λ b h=>by
  by_cases e:b=a
  ·subst e;rw [j0];exact λ z=>by cases z
  ·rw [upd_ne e];exact h
 have kp:Kp (Fo φ) H (Fo φ) (upd H a o'):=⟨λ b u e n=>by rw [upd_ne (λ z=>n (by rw [z];exact fa))];exact e,λ b xs e=>by
  rw [upd_ne];exact e
  intro z;subst z;rw [hH] at e;exact nt xs (N0b e),λ b f=>.inl f,ex⟩
 refine ⟨⟨λ j x e=>?_,r.dj,λ b f=>ex b (r.ow b f),r.fi,λ b u e x=>?_,λ b x=>ex b (r.xo b x),λ b xs e=>kp.tk b xs (r.tk b xs e),r.ii,by rw [N1g];exact r.len⟩,kp⟩
 ·rcases get_set e with ⟨rfl,e,hlt⟩ | ⟨ne,e⟩
  ·cases e
   refine ⟨v,k,hv,hk,?_⟩
   obtain ⟨v',k',h1,h2,h3⟩:=r.sl i d hd
   rw [hk] at h2
   cases h2
   rcases ho with rfl | rfl
   ·exact ⟨hs,h3.2⟩
   ·exact hs
  ·obtain ⟨u,k',h1,h2,h3⟩:=r.sl j x e
   refine ⟨u,k',h1,h2,h3.mono kp λ b m u' e'=>?_⟩
   rw [upd_ne];exact e'
   intro z;subst z;exact ne (r.dj i j b ha m)
 ·rw [upd_ne];exact r.fr b u e x
  intro z
  subst z
  rcases r.fi b fa with q | q
  ·rw [q] at e;cases e
  ·exact x q
theorem Rs.own {K:PySem.W.Frag}{φ:Nat->List Addr}{σ:St}{H:Hp}{δ:DS}{i:Nat}{k:Kd}{d:D}(r:Rs K C κ φ σ H δ) (ho:k=.o\/k=.i) (hk:κ[i]? = some k) (hd:δ[i]? = some (some d)):∃ v,σ[i]? = some (some v)/\Own K C.cl H (Sk C (Fo φ) .s) (φ i) v d:=by
 obtain ⟨v,k',h1,h2,h3⟩:=r.sl i d hd
 rw [hk] at h2
 cases h2
 rcases ho with rfl | rfl
 ·exact ⟨v,h1,h3.1⟩
 ·exact ⟨v,h1,h3⟩
theorem q2S {K:PySem.W.Frag}{φ:Nat->List Addr}{H:Hp}{a:Addr}{i:Nat}{o o':HO}{vs:List V}{ds:List D}(fa:a∈φ i) (hl:φ i=[a]) (hH:H a=some o) (nt:∀ xs,o≠.tup xs) (w:Ats K C.cl H (Sk C (Fo φ) .s) vs ds):Ats K C.cl (upd H a o') (λ b=>Sk C (Fo φ) .s b/\b∉φ i) vs ds :=
 w.mono (λ b xs e=>by
  rw [upd_ne];exact e
  intro z;subst z;rw [hH] at e;exact nt xs (N0b e)) (λ b u z e=>by rw [upd_ne (λ q=>z.2 ⟨i,by rw [q];exact fa⟩)];exact e) λ b z o_=>⟨z,λ m=>z.2 ⟨i,m⟩⟩
set_option tactic.hygienic true in
theorem q3I (i:Nat){x:Str}{k:Kd}{p1 apos cpos:Pos}(ho:k=.o\/k=.i) (hk:κ[i]? = some k) (h:DE X C κ .s fr e ge) (hN:X.N[i]? = some x:=by rfl) (hv:Vis X.env.scope x:=by nofun) (hd:(x==("__debug__" : Str))=false:=by decide)
 (hcd:(x==("__classdict__" : Str))=false:=by decide)
 (hbase:attributeBase (.Name x p1) "append" X.env (eval (.Name x p1) X.env)=eval (.Name x p1) X.env:=by rfl)
 (hfew:((backTo cpos (starEach [e] X.env)).all (λ x=>!x.1)&&(backToKw cpos (keywordEach [] X.env)).all (λ x=>x.1.isSome)
  && decide ([e].length+([]:List Keyword).length+(if ([]:List Keyword).isEmpty then 0 else 1)<30))=true:=by rfl)
 (hline:(apos.endLine==cpos.line)=true:=by rfl) (hs:starEach [e] X.env=(false,eval e X.env)::starEach [] X.env:=by rfl) (hplain:(backTo cpos (starEach [] X.env)).any (·.1)=false:=by rfl)
 (hsw:swapsWith (.Call (.Attribute (.Name x p1) "append" apos) [e] [] cpos) none pos.line X.env=pure false:=by rfl) :
 DSt X C L κ κ (.Expr (.Call (.Attribute (.Name x p1) "append" apos) [e] [] cpos) pos) (q4d i ge):=by
 obtain ⟨t,pt,dt⟩:=h
 refine ⟨_,q1V (z33 PySem.F.plainAttrs_list PySem.F.slot_list_append PySem.F.type_list_append q2L (Y7 hN hv hd hcd) (Y5 pt q1v hs) hbase hfew hline hs hplain) hsw,λ φ σ H δ r D p=>?_⟩
 obtain ⟨d,e1,p⟩:=Z4 p
 split at p
 ·rename_i xs q
  obtain ⟨hz,p⟩:=X5 p
  obtain ⟨v,hvv,a,vs,rfl,hl,hH,w⟩:=r.own ho hk q
  refine ⟨.ref a,hvv,.inl ⟨rfl,vs,SqL.of hH⟩,dt (Fo φ) σ H δ r.rx _ ?_⟩
  rw [e1]
  intro u H1 s1 a1 _
  have r1:=r.same s1
  have hH1:=s1 _ _ hH
  have ha:a∈φ i:=by rw [hl];exact N00
  refine ⟨a,vs,u,rfl,rfl,hH1,by rw [w.length];exact hz,?_⟩
  have nt:∀ xs,HO.lst vs≠.tup xs:=λ o_ z=>by cases z
  have w1:Ats X.K C.cl H1 (Sk C (Fo φ) .s) (vs++[u]) (xs++[d]):=((w.same s1).sub λ b z o_=>z.1).append (Ats.cons a1 Ats.nil)
  obtain ⟨r2,kp⟩:=r1.write (o':=.lst (vs++[u])) (d':=.lst (xs++[d])) ho hk hvv q ha hH1 nt ⟨a,vs++[u],rfl,hl,j0,q2S ha hl hH1 nt w1⟩
  exact p φ σ _ r2 ((Kp.of s1 λ a f=>.inl f).trans kp)
 ·exact p.elim
theorem z3r {t1 t2:TS}(h1:PS X st t1) (h2:PS X st t2):PS X st (λ D σ H=>t1 D σ H\/t2 D σ H):=by
 intro pins s σ H D I h
 rcases h with h | h
 ·exact h1 pins s σ H D I h
 ·exact h2 pins s σ H D I h
theorem q7f {K:PySem.W.Frag}{cl:Nat->Addr}{H:Hp}{S:Addr->Prop}{v:V}{d:D}{k:Ky}(a:At K cl H S v d) (e:keyD d=some k):v=kV k:=by
 cases d with
 | int i=>rw [At] at a;cases e;exact a
 | str x=>rw [At] at a;cases e;exact a
 | _=>cases e
set_option tactic.hygienic true in
theorem q5n (i:Nat){x:Str}{k:Kd}{ek:Expr}{p1 pos':Pos}(ho:k=.o\/k=.i) (hk:κ[i]? = some k) (hu:X.A.units+64<cLine) (hkey:DE X C κ .v fk ek gk) (h:DE X C κ .s fr e ge) (hN:X.N[i]? = some x:=by rfl) (hv:Vis X.env.scope x:=by nofun) (hd:(x==("__debug__" : Str))=false:=by decide)
 (hcd:(x==("__classdict__" : Str))=false:=by decide) (hs:swapsWith e (some (.Subscript (.Name x p1) ek pos')) pos.line X.env=pure false:=by rfl)
 (hs1:swapsWithSole [.Subscript (.Name x p1) ek pos'] e pos.line X.env=pure false:=by rfl) (hw:swappedStores [.Subscript (.Name x p1) ek pos'] e X.env=pure none:=by rfl)
 (h1:(assignEach [.Subscript (.Name x p1) ek pos'] X.env).map (·.2)=[assign (.Subscript (.Name x p1) ek pos') X.env]:=by rfl)
 (has:∀ v,assign (.Subscript (.Name x p1) ek pos') X.env v=(do
  let ov <- holding [v] (eval (.Name x p1) X.env)
  let iv <- holding [v,ov] (eval ek X.env)
  standAt pos'
  holding [v,ov,iv] (setItem ov iv v)
  release [v,ov,iv] []):=by intro _;rfl) :
 DSt X C L κ κ (.Assign [.Subscript (.Name x p1) ek pos'] e pos) (gPut i gk ge):=by
 obtain ⟨t,pt,dt⟩:=h
 obtain ⟨u,pu,du⟩:=hkey
 refine ⟨_,z3r (q46 (by lia) (Y7 hN hv hd hcd) pu pt hs) (z2c pt (z4M (Y7 hN hv hd hcd) pu z1d has) hs1 hw h1),λ φ σ H δ r D p=>?_⟩
 obtain ⟨d,e1,p⟩:=Z4 p
 obtain ⟨dk,e2,p⟩:=Z4 p
 split at p
 ·rename_i dx q
  obtain ⟨y,e3,p⟩:=Z4 p
  cases dx with
  | dct ks ds =>
   have e3:(match keyD dk with | some k=>Rz.guard (ks.length<sizeLine) (.ok (putD ks ds k d)) | none=>.un)=.ok y:=e3
   cases ek':keyD dk with
   | none=>rw [ek'] at e3;cases e3
   | some kk =>
    rw [ek'] at e3
    obtain ⟨hz,e3⟩:=Z9 (T:=λ r=>r=Rz.ok y) (λ z=>by cases z) e3
    cases e3
    obtain ⟨v,hvv,a,vs,rfl,hl,hH,kl,w⟩:=r.own ho hk q
    have ha:a∈φ i:=by rw [hl];exact N00
    refine .inl (dt (Fo φ) σ H δ r.rx _ ?_)
    rw [e1]
    intro vv H1 s1 a1 _
    refine ⟨.ref a,hvv,du (Fo φ) σ H1 δ (r.same s1).rx _ ?_⟩
    rw [e2]
    intro vk H2 s2 a2 _
    have hvk:=q7f a2 ek'
    subst hvk
    have s12:=s1.trans s2
    have r2:=r.same s12
    have hH2:=s12 _ _ hH
    have wl:=w.length
    refine ⟨a,_,rfl,q9a.k (k:=kk) hH2 (by rw [List.length_zip,kl,wl,Nat.min_self,<- kl];exact hz),?_⟩
    have nt:∀ xs,HO.dK (ks.zip vs)≠.tup xs:=λ o_ z=>by cases z
    have w2:=(w.same s12).sub (S':=Sk C (Fo φ) .s) λ b z o_=>z.1
    have a1':=a1.same s2
    have own:Own X.K C.cl (upd H2 a (.dK (putK (ks.zip vs) kk vv))) (Sk C (Fo φ) .s) (φ i) (.ref a) (putD ks ds kk d):=by
     unfold putD putK
     rw [q6m kk ks vs (by simp_all)]
     by_cases c:(ks.any λ x=>decide (x=kk))=true
     ·rw [N0j c,N0j c,q6n]
      exact ⟨a,_,rfl,hl,j0,by rw [q4j];exact kl,q2S ha hl hH2 nt (w2.setK a1')⟩
     ·rw [N0l c,N0l c]
      refine ⟨a,vs++[vv],rfl,hl,?_,by rw [N06,N06,kl];rfl,q2S ha hl hH2 nt (w2.append (Ats.cons a1' Ats.nil))⟩
      rw [j0,List.zip_append (by simp_all)]
      rfl
    obtain ⟨r3,kp⟩:=r2.write ho hk hvv q ha hH2 nt own
    exact p φ σ _ r3 ((Kp.of s12 λ a f=>.inl f).trans kp)
  | xt u =>
   cases u with
   | rm R=>cases e3
   | rc rr =>
    have e3:(match dPl dk,dOpl d with | some p,some o=>Rz.guard (rr.length<sizeLine) (.ok (Dl.D.xt (.rc (putP rr p o)))) | _,_=>.un)=.ok y:=e3
    cases ek':dPl dk with
    | none=>rw [ek'] at e3;cases e3
    | some pp =>
     cases eo:dOpl d with
     | none=>rw [ek',eo] at e3;cases e3
     | some oo =>
      rw [ek',eo] at e3
      obtain ⟨hz,e3⟩:=Z9 (T:=λ r=>r=Rz.ok y) (λ z=>by cases z) e3
      cases e3
      obtain ⟨v,hvv,a,vs,rfl,hl,vl,hH,hval⟩:=r.own ho hk q
      have ha:a∈φ i:=by rw [hl];exact N00
      refine .inl (dt (Fo φ) σ H δ r.rx _ ?_)
      rw [e1]
      intro vv H1 s1 a1 _
      refine ⟨.ref a,hvv,du (Fo φ) σ H1 δ (r.same s1).rx _ ?_⟩
      rw [e2]
      intro vk H2 s2 a2 _
      rw [q07 ek'] at a2
      obtain ⟨c,rfl,hc⟩:=q08 a2
      have s12:=s1.trans s2
      have r2:=r.same s12
      have hH2:=s12 _ _ hH
      obtain ⟨us',u1,u2,u3⟩:=z3k pp oo vv rr vs vl
      refine ⟨a,_,rfl,q9a.t hH2 hc (by rw [List.length_zip,N01,vl,Nat.min_self];exact hz),?_⟩
      rw [u2]
      have nt:∀ xs,HO.dT ((rr.map λ e=>plK e.1).zip vs)≠.tup xs:=λ o_ z=>by cases z
      have tk:∀ b xs,H2 b=some (.tup xs)->upd H2 a (.dT (((putP rr pp oo).map λ e=>plK e.1).zip us')) b=some (.tup xs):=λ b xs e=>by
       rw [upd_ne (λ z=>by rw [z,hH2] at e;cases e)];exact e
      have own:Own X.K C.cl (upd H2 a (.dT (((putP rr pp oo).map λ e=>plK e.1).zip us'))) (Sk C (Fo φ) .s) (φ i) (.ref a) (.xt (.rc (putP rr pp oo))):=by
       refine ⟨a,us',rfl,hl,u1,j0,λ j u e q1 q2=>q2t tk ?_⟩
       rcases u3 j u e q1 q2 with ⟨z1,z2⟩ | ⟨z1,z2⟩
       ·rw [z1,z2];exact at_opl (a1.same s2) eo
       ·exact q2t (λ b xs e=>s12 _ _ e) (hval j u e z1 z2)
      obtain ⟨r3,kp⟩:=r2.write ho hk hvv q ha hH2 nt own
      exact p φ σ _ r3 ((Kp.of s12 λ a f=>.inl f).trans kp)
  | lst xs =>
   cases dk with
   | int j =>
    have e3:(match ixD xs.length j with | some n=>Rz.ok (Dl.D.lst (xs.set n d)) | none=>.un)=.ok y:=e3
    cases ej:ixD xs.length j with
    | none=>rw [ej] at e3;cases e3
    | some n =>
     rw [ej] at e3
     cases e3
     obtain ⟨v,hvv,a,vs,rfl,hl,hH,w⟩:=r.own ho hk q
     have ha:a∈φ i:=by rw [hl];exact N00
     refine .inr (dt (Fo φ) σ H δ r.rx _ ?_)
     rw [e1]
     intro vv H1 s1 a1 _
     refine ⟨.ref a,hvv,du (Fo φ) σ H1 δ (r.same s1).rx _ ?_⟩
     rw [e2]
     intro vk H2 s2 a2 _
     rw [At] at a2
     subst a2
     have s12:=s1.trans s2
     have r2:=r.same s12
     have hH2:=s12 _ _ hH
     have wl:=w.length
     refine ⟨a,vs,j,n,rfl,rfl,hH2,by rw [wl];exact ej,?_⟩
     have nt:∀ xs,HO.lst vs≠.tup xs:=λ o_ z=>by cases z
     have w2:=((w.same s12).sub (S':=Sk C (Fo φ) .s) λ b z o_=>z.1).set (a1.same s2) n
     obtain ⟨r3,kp⟩:=r2.write (o':=.lst (vs.set n vv)) (d':=.lst (xs.set n d)) ho hk hvv q ha hH2 nt ⟨a,_,rfl,hl,j0,q2S ha hl hH2 nt w2⟩
     exact p φ σ _ r3 ((Kp.of s12 λ a f=>.inl f).trans kp)
   | _=>cases e3
  | _=>cases e3
 ·exact p.elim
end
end Dl
namespace Dl
open PySem L2 PyProof.Rows
theorem OpR.or {X:Cx}{f:Value->Value->Sem Value}{r r':R2}(h:OpR X f r) (h':OpR X f r'):OpR X f (λ x y H Q=>r x y H Q\/r' x y H Q):=by
 intro pins s σ H x y v u Q I rx ry q
 rcases q with q | q
 ·exact h pins s σ H x y v u Q I rx ry q
 ·exact h' pins s σ H x y v u Q I rx ry q
theorem V2.or {X:Cx}{f:Value}{r r':List V->Hp->VK->Prop}(h:V2 X f r) (h':V2 X f r'):V2 X f (λ xs H Q=>r xs H Q\/r' xs H Q):=by
 intro pins s σ H xs us Q I rs q
 rcases q with q | q
 ·exact h pins s σ H xs us Q I rs q
 ·exact h' pins s σ H xs us Q I rs q
section
variable {X:Cx}{C:Dc}{K:W.Frag}{cl:Nat->Addr}
theorem z7x {α:Type}{a:α}:¬ (Rz.un=Rz.ok a):=λ z=>by cases z
theorem U3 {α:Type}{c:Prop} [Decidable c] {r:Rz α}{a:α}(h:Rz.guard c r=.ok a):c/\r=.ok a:=Z9 (T:=λ r=>r=Rz.ok a) z7x h
theorem W2:OpS K cl (λ x y H Q=>rI0 (λ i j=>.int (i+j)) x y H Q\/∃ i j,x=.str i/\y=.str j/\i.length+j.length<=sizeLine/\Q (.str (i++j)) H) J3:=by
 intro H S x y dx dy Q ax ay p
 cases dx with
 | int i=>cases dy with
  | int j=>rw [At] at ax ay;subst ax ay;exact .inl ⟨i,j,rfl,rfl,p.2 _ H (Same.refl H) λ o_=>by rw [At]⟩
  | _=>exact p.elim
 | str i=>cases dy with
  | str j =>
   rw [At] at ax ay;subst ax ay
   by_cases h:i.length+j.length<=sizeLine
   ·simp only [J3,j8 h] at p
    exact .inr ⟨i,j,rfl,rfl,h,p.2 _ H (Same.refl H) λ o_=>by rw [At]⟩
   ·simp only [J3,Rz.guard,N0l h] at p
  | _=>exact p.elim
 | _=>exact p.elim
theorem q3J {f:Int->Int->Rz D}(h:∀ i j d,f i j=.ok d->d.imm=true):∀ (x y:D) (d:D),(match x,y with | .int i,.int j=>f i j | _,_=>(.un:Rz D))=.ok d->d.imm=true:=λ x y d q=>by
 cases x with
 | int i=>cases y with
  | int j=>exact h i j d q
  | _=>cases q
 | _=>cases q
theorem q6o {f:Int->Int->Rz D}{g:Str->Str->Rz D}(h:∀ i j d,f i j=.ok d->d.imm=true) (k:∀ i j d,g i j=.ok d->d.imm=true):∀ (x y:D) (d:D),(match x,y with | .int i,.int j=>f i j | .str i,.str j=>g i j | _,_=>(.un:Rz D))=.ok d->d.imm=true:=λ x y d q=>by
 cases x with
 | int i=>cases y with
  | int j=>exact h i j d q
  | _=>cases q
 | str i=>cases y with
  | str j=>exact k i j d q
  | _=>cases q
 | _=>cases q
theorem q0O {a d:D}(i:a.imm=true) (h:Rz.ok a=.ok d):d.imm=true:=by
 cases h;exact i
theorem q4k {p:Prop} [Decidable p] {a d:D}(i:a.imm=true) (h:Rz.guard p (.ok a)=.ok d):d.imm=true:=q0O i (U3 h).2
theorem Z5:∀ x y d,J3 x y=.ok d->d.imm=true:=q6o (λ o_ o_ o_=>q0O rfl) λ o_ o_ o_=>q4k rfl
theorem z3s:OpD K cl (λ x y H Q=>(rI0 (λ i j=>.int (i+j)) x y H Q\/∃ i j,x=.str i/\y=.str j/\i.length+j.length<=sizeLine/\Q (.str (i++j)) H) \/
 (∃ l b xs zs,x=.ref l/\y=.ref b/\Rd H l (.lst xs)/\Rd H b (.lst zs)/\xs.length+zs.length<=sizeLine/\∀ p,H p=none->Q (.ref p) (upd H p (.lst (xs++zs))))\/z2Y K x y H Q) z6k:=by
 intro H S x y dx dy Q cs ax ay p
 cases dx with
 | int i=>cases dy with
  | int j=>rw [At] at ax ay;subst ax ay;exact .inl (.inl ⟨i,j,rfl,rfl,p _ H (Same.refl H) (by rw [At]) (Nw.small rfl)⟩)
  | _=>exact p.elim
 | str i=>cases dy with
  | str j =>
   rw [At] at ax ay;subst ax ay
   obtain ⟨h,p⟩:=Z9 (T:=q87 K cl S H Q) (λ z=>z) p
   exact .inl (.inr ⟨i,j,rfl,rfl,h,p _ H (Same.refl H) (by rw [At]) (Nw.small rfl)⟩)
  | _=>exact p.elim
 | lst xs=>cases dy with
  | lst ys =>
   rw [At] at ax ay
   obtain ⟨a,vs,rfl,sa,ha,wa⟩:=ax
   obtain ⟨b,us,rfl,sb,hb,wb⟩:=ay
   obtain ⟨h,p⟩:=Z9 (T:=q87 K cl S H Q) (λ z=>z) p
   refine .inr (.inl ⟨a,b,vs,us,rfl,rfl,ha,hb,by rw [wa.length,wb.length];exact h,λ q hq=>?_⟩)
   obtain ⟨q1,q2⟩:=q0l hq (wa.append wb) (cs q hq)
   exact p _ _ (Q5 hq _) q1 q2
  | _=>exact p.elim
 | tup xs=>cases dy with
  | tup ys =>
   rw [At] at ax ay
   obtain ⟨a,vs,rfl,ha,wa⟩:=ax
   obtain ⟨b,us,rfl,hb,wb⟩:=ay
   obtain ⟨⟨h0,h⟩,p⟩:=Z9 (T:=q87 K cl S H Q) (λ z=>z) p
   have hne:vs≠[]:=λ z=>by
    have:=wa.length
    rw [z] at this
    cases xs with
    | nil=>exact h0 rfl
    | cons _ _=>simp at this
   refine .inr (.inr ⟨a,b,vs,us,rfl,rfl,SqT.of ha,SqT.of hb,hne,by rw [wa.length,wb.length];exact h,λ z=>?_,λ z q hq=>?_⟩)
   ·subst z
    have:ys=[]:=by have:=wb.length;cases ys with | nil=>rfl | cons _ _=>simp at this
    subst this
    refine p _ H (Same.refl H) ?_ (Nw.small rfl)
    rw [At]
    exact ⟨a,vs,rfl,ha,by rw [N10];exact wa⟩
   ·refine p _ _ (Q5 hq _) ?_ (Nw.small rfl)
    rw [At]
    exact ⟨q,vs++us,rfl,j0,(wa.append wb).same (Q5 hq _)⟩
  | _=>exact p.elim
 | _=>exact p.elim
theorem q88 {r:R2}{p:D->D->Rz D}{G:Int->Int->Prop} [∀ i j,Decidable (G i j)] {f:Int->Int->V}{fd:Int->Int->D}(hf:∀ i j (H:Hp) S,At K cl H S (f i j) (fd i j)) (hr:∀ x y H Q,(∃ i j,x=V.int i/\y=V.int j/\G i j/\Q (f i j) H)->r x y H Q)
 (hp:∀ i j,p (.int i) (.int j)=.guard (G i j) (.ok (fd i j))) (hn:∀ x y,(∀ i j,¬ (x=D.int i/\y=D.int j))->p x y=.un):OpS K cl r p:=by
 intro H S x y dx dy Q ax ay z
 by_cases c:∃ i j,dx=D.int i/\dy=D.int j
 ·obtain ⟨i,j,rfl,rfl⟩:=c
  rw [At] at ax ay
  subst ax ay
  rw [hp] at z
  by_cases g:G i j
  ·rw [j8 g] at z
   exact hr _ _ _ _ ⟨i,j,rfl,rfl,g,z.2 _ H (Same.refl H) λ S'=>hf i j H S'⟩
  ·unfold Rz.guard at z
   rw [N0l g] at z
   exact z.elim
 ·rw [hn dx dy λ i j q=>c ⟨i,j,q.1,q.2⟩] at z
  exact z.elim
theorem q89 {x y:D}{p:D->D->Rz D}(h:∀ i j,¬ (x=D.int i/\y=D.int j)) (h1:∀ x y,(∀ i,x≠.int i)->p x y=.un) (h2:∀ i y,(∀ j,y≠.int j)->p (.int i) y=.un):p x y=.un:=by
 by_cases c:∃ i,x=D.int i
 ·obtain ⟨i,rfl⟩:=c
  exact h2 i y λ j q=>h i j ⟨rfl,q⟩
 ·exact h1 x y λ i q=>c ⟨i,q⟩
theorem q7g (i:Int) (H:Hp) (S:Addr->Prop):At K cl H S (.int i) (.int i):=by rw [At]
theorem z5s (i:Bool) (H:Hp) (S:Addr->Prop):At K cl H S (.bl i) (.bl i):=by rw [At]
theorem q4l:OpS K cl (rI0 λ i j=>.int (i - j)) q8G:=by
 refine q88 (G:=λ o_ o_=>True) (f:=λ i j=>.int (i - j)) (fd:=λ i j=>.int (i - j)) (λ i j H S=>q7g _ H S) (λ x y H Q ⟨i,j,h1,h2,o1_,q⟩=>⟨i,j,h1,h2,q⟩) (λ i j=>(j8 trivial).symm) λ x y h=>q89 h (λ x y h=>?_) λ i y h=>?_
 ·cases x<;>first | rfl | exact absurd rfl (h _)
 ·cases y<;>first | rfl | exact absurd rfl (h _)
theorem q2T:OpS K cl (rI z6j λ i j=>.int (i * j)) q79:=by
 refine q88 (G:=λ i j=>(-(2 ^ 64)<i/\i<2 ^ 64)\/(-(2 ^ 64)<j/\j<2 ^ 64)) (f:=λ i j=>.int (i * j)) (fd:=λ i j=>.int (i * j)) (λ i j H S=>q7g _ H S) (λ x y H Q ⟨i,j,h1,h2,g,q⟩=>⟨i,j,h1,h2,g,q⟩) (λ i j=>rfl) λ x y h=>q89 h (λ x y h=>?_) λ i y h=>?_
 ·cases x<;>first | rfl | exact absurd rfl (h _)
 ·cases y<;>first | rfl | exact absurd rfl (h _)
theorem u7:OpS K cl (rI z8z λ i j=>.int (i / j)) q3B:=by
 refine q88 (G:=λ i j=>0<j/\j<1073741824) (f:=λ i j=>.int (i / j)) (fd:=λ i j=>.int (i / j)) (λ i j H S=>q7g _ H S) (λ x y H Q ⟨i,j,h1,h2,g,q⟩=>⟨i,j,h1,h2,g,q⟩) (λ i j=>rfl) λ x y h=>q89 h (λ x y h=>?_) λ i y h=>?_
 ·cases x<;>first | rfl | exact absurd rfl (h _)
 ·cases y<;>first | rfl | exact absurd rfl (h _)
theorem W9:OpS K cl (rI (λ o_ j=>0<j) λ i j=>.int (i % j)) q0J:=by
 refine q88 (G:=λ i j=>0<j) (f:=λ i j=>.int (i % j)) (fd:=λ i j=>.int (i % j)) (λ i j H S=>q7g _ H S) (λ x y H Q ⟨i,j,h1,h2,g,q⟩=>⟨i,j,h1,h2,g,q⟩) (λ i j=>rfl) λ x y h=>q89 h (λ x y h=>?_) λ i y h=>?_
 ·cases x<;>first | rfl | exact absurd rfl (h _)
 ·cases y<;>first | rfl | exact absurd rfl (h _)
theorem q5o:OpS K cl (rI0 λ i j=>.bl (decide (i<j))) dLt:=by
 refine q88 (G:=λ o_ o_=>True) (f:=λ i j=>.bl (decide (i<j))) (fd:=λ i j=>.bl (decide (i<j))) (λ i j H S=>z5s _ H S) (λ x y H Q ⟨i,j,h1,h2,o1_,q⟩=>⟨i,j,h1,h2,q⟩) (λ i j=>(j8 trivial).symm) λ x y h=>q89 h (λ x y h=>?_) λ i y h=>?_
 ·cases x<;>first | rfl | exact absurd rfl (h _)
 ·cases y<;>first | rfl | exact absurd rfl (h _)
theorem z2k:OpS K cl (λ x y H Q=>rI0 (λ i j=>.bl (decide (i<=j))) x y H Q\/∃ i j,x=.str i/\y=.str j/\Q (.bl (!decide (j.cps.toList<i.cps.toList))) H) dLe:=by
 intro H S x y dx dy Q ax ay p
 cases dx with
 | int i=>cases dy with
  | int j=>rw [At] at ax ay;subst ax ay;exact .inl ⟨i,j,rfl,rfl,p.2 _ H (Same.refl H) λ o_=>by rw [At]⟩
  | _=>exact p.elim
 | str i=>cases dy with
  | str j=>rw [At] at ax ay;subst ax ay;exact .inr ⟨i,j,rfl,rfl,p.2 _ H (Same.refl H) λ o_=>by rw [At]⟩
  | _=>exact p.elim
 | _=>exact p.elim
theorem z2l:OpR X (compareOp .LtE) (λ x y H Q=>rI0 (λ i j=>.bl (decide (i<=j))) x y H Q\/∃ i j,x=.str i/\y=.str j/\Q (.bl (!decide (j.cps.toList<i.cps.toList))) H):=OpR.or z7a q9p
theorem q7h:OpS K cl (rI0 λ i j=>.bl (decide (j<i))) dGt:=by
 refine q88 (G:=λ o_ o_=>True) (f:=λ i j=>.bl (decide (j<i))) (fd:=λ i j=>.bl (decide (j<i))) (λ i j H S=>z5s _ H S) (λ x y H Q ⟨i,j,h1,h2,o1_,q⟩=>⟨i,j,h1,h2,q⟩) (λ i j=>(j8 trivial).symm) λ x y h=>q89 h (λ x y h=>?_) λ i y h=>?_
 ·cases x<;>first | rfl | exact absurd rfl (h _)
 ·cases y<;>first | rfl | exact absurd rfl (h _)
theorem z2m:OpS K cl (λ x y H Q=>rI0 (λ i j=>.bl (decide (j<=i))) x y H Q\/∃ i j,x=.str i/\y=.str j/\Q (.bl (!decide (i.cps.toList<j.cps.toList))) H) dGe:=by
 intro H S x y dx dy Q ax ay p
 cases dx with
 | int i=>cases dy with
  | int j=>rw [At] at ax ay;subst ax ay;exact .inl ⟨i,j,rfl,rfl,p.2 _ H (Same.refl H) λ o_=>by rw [At]⟩
  | _=>exact p.elim
 | str i=>cases dy with
  | str j=>rw [At] at ax ay;subst ax ay;exact .inr ⟨i,j,rfl,rfl,p.2 _ H (Same.refl H) λ o_=>by rw [At]⟩
  | _=>exact p.elim
 | _=>exact p.elim
theorem z2n:OpR X (compareOp .GtE) (λ x y H Q=>rI0 (λ i j=>.bl (decide (j<=i))) x y H Q\/∃ i j,x=.str i/\y=.str j/\Q (.bl (!decide (i.cps.toList<j.cps.toList))) H):=OpR.or z7b q9q
theorem q4m:∀ x y d,q8G x y=.ok d->d.imm=true:=q3J λ o_ o_ o_=>q0O rfl
theorem q2U:∀ x y d,q79 x y=.ok d->d.imm=true:=q3J λ o_ o_ o_=>q4k rfl
theorem u8:∀ x y d,q3B x y=.ok d->d.imm=true:=q3J λ o_ o_ o_=>q4k rfl
theorem K0:∀ x y d,q0J x y=.ok d->d.imm=true:=q3J λ o_ o_ o_=>q4k rfl
theorem q5p:∀ x y d,dLt x y=.ok d->d.imm=true:=q3J λ o_ o_ o_=>q0O rfl
theorem z2o:∀ x y d,dLe x y=.ok d->d.imm=true:=q6o (λ o_ o_ o_=>q0O rfl) λ o_ o_ o_=>q0O rfl
theorem q7i:∀ x y d,dGt x y=.ok d->d.imm=true:=q3J λ o_ o_ o_=>q0O rfl
theorem z2p:∀ x y d,dGe x y=.ok d->d.imm=true:=q6o (λ o_ o_ o_=>q0O rfl) λ o_ o_ o_=>q0O rfl
theorem z2q {H:Hp}{S:Addr->Prop}{vs:List V}{ds:List D}{i:Int}{d:D}(w:Ats K cl H S vs ds) (e:atD ds i=some d):∃ v,atI vs i=some v/\At K cl H S v d:=by
 unfold atD at e
 unfold atI
 rw [w.length]
 show ∃ v,(ixD ds.length i).bind (λ j=>vs[j]?)=some v/\_
 cases q:ixD ds.length i with
 | none=>rw [q] at e;cases e
 | some j =>
  rw [q] at e
  exact w.get e
theorem z7y {H:Hp}{S:Addr->Prop}{x y:V}{dx dy:D}{Q:VK}(nd:∀ ks ds,dx≠.dct ks ds) (nx:∀ u,dx≠.xt u) (ax:At K cl H S x dx) (ay:At K cl H (λ o_=>True) y dy) (p:match dIx dx dy with | .ok d=>∀ v,At K cl H S v d->Q v H | _=>False):rIx K x y H Q:=by
 cases dx with
 | lst xs=>cases dy with
  | int i =>
   rw [At] at ax
   rw [At] at ay
   obtain ⟨a,vs,rfl,sa,ha,w⟩:=ax
   subst ay
   have p:match optR (atD xs i) with | .ok d=>∀ v,At K cl H S v d->Q v H | _=>False:=p
   cases e:atD xs i with
   | none=>rw [e] at p;exact p.elim
   | some d =>
    rw [e] at p
    obtain ⟨v,h1,h2⟩:=z2q w e
    exact .inl ⟨a,vs,i,v,rfl,rfl,.inl ha,h1,p v h2⟩
  | _=>exact p.elim
 | tup xs=>cases dy with
  | int i =>
   rw [At] at ax
   rw [At] at ay
   obtain ⟨a,vs,rfl,ha,w⟩:=ax
   subst ay
   have p:match optR (atD xs i) with | .ok d=>∀ v,At K cl H S v d->Q v H | _=>False:=p
   cases e:atD xs i with
   | none=>rw [e] at p;exact p.elim
   | some d =>
    rw [e] at p
    obtain ⟨v,h1,h2⟩:=z2q w e
    exact .inr (.inl ⟨a,vs,i,v,rfl,rfl,SqT.of ha,h1,p v h2⟩)
  | _=>exact p.elim
 | str z=>cases dy with
  | int i =>
   rw [At] at ax
   rw [At] at ay
   subst ax ay
   have p:match Rz.guard (z.length<=sizeLine) ((optR (atD z.cps.toList i)).bind λ c=>.ok (.str ⟨#[c]⟩)) with | .ok d=>∀ v,At K cl H S v d->Q v H | _=>False:=p
   by_cases hz:z.length<=sizeLine
   ·rw [j8 hz] at p
    cases e:atD z.cps.toList i with
    | none=>rw [e] at p;exact p.elim
    | some c =>
     rw [e] at p
     exact .inr (.inr ⟨z,i,c,rfl,rfl,hz,e,p _ (by rw [At])⟩)
   ·unfold Rz.guard at p
    rw [N0l hz] at p
    exact p.elim
  | _=>exact p.elim
 | dct ks ds=>exact absurd rfl (nd ks ds)
 | xt u=>exact absurd rfl (nx u)
 | _=>exact p.elim
theorem z7z {H:Hp}{S:Addr->Prop}{x y:V}{ks:List Ky}{ds:List D}{dy:D}{Q:VK}(ax:At K cl H S x (.dct ks ds)) (ay:At K cl H (λ o_=>True) y dy) (p:match dIx (.dct ks ds) dy with | .ok d=>∀ v,At K cl H S v d->Q v H | _=>False):∃ a v,x=.ref a/\q3y H a y (some v)/\Q v H:=by
 have fin:∀ k:Ky,y=kV k->(match optR (valD k ks ds) with | .ok d=>∀ v,At K cl H S v d->Q v H | _=>False)->∃ a v,x=.ref a/\q3y H a y (some v)/\Q v H:=λ k ey p=>by
  rw [At] at ax
  obtain ⟨a,vs,rfl,sa,ha,l,w⟩:=ax
  cases e:valD k ks ds with
  | none=>rw [e] at p;exact p.elim
  | some d =>
   rw [e] at p
   obtain ⟨v,h1,h2⟩:=w.val e
   refine ⟨a,v,rfl,?_,p v h2⟩
   rw [ey,<- h1,<- q4h]
   exact q3y.k ha
 cases dy with
 | int i=>rw [At] at ay;exact fin (.inl i) ay p
 | str i=>rw [At] at ay;exact fin (.inr i) ay p
 | _=>exact p.elim
theorem ixRc {H:Hp}{S:Addr->Prop}{x y:V}{u:XT}{dy:D}{Q:VK}(ax:At K cl H S x (.xt u)) (ay:At K cl H (λ o_=>True) y dy) (p:match dIx (.xt u) dy with | .ok d=>∀ v,At K cl H S v d->Q v H | _=>False):∃ a v,x=.ref a/\q3y H a y (some v)/\Q v H:=by
 cases u with
 | rm R=>exact p.elim
 | rc r =>
  cases e:dIx (.xt (.rc r)) dy with
  | er c s=>rw [e] at p;exact p.elim
  | un=>rw [e] at p;exact p.elim
  | ok d =>
   rw [e] at p
   have e:optR ((dPl dy).bind λ p=>(lkP r p).map optD)=.ok d:=e
   cases q1:dPl dy with
   | none=>rw [q1] at e;cases e
   | some p1 =>
   obtain ⟨a1,b1⟩:=p1
   rw [q1] at e
   have e:optR ((lkP r (a1,b1)).map optD)=.ok d:=e
   rw [q07 q1] at ay
   obtain ⟨c,rfl,hc⟩:=q08 ay
   rw [At] at ax
   obtain ⟨l,⟨a,vs,rfl,_,hl,ha,hv⟩,_⟩:=ax
   rcases lk_zip (a1,b1) r vs hl with ⟨z1,z2⟩ | ⟨i,e',v,g1,g2,z1,z2⟩
   ·rw [z1] at e;cases e
   ·rw [z1] at e
    cases e
    exact ⟨a,v,rfl,.inr ⟨_,plK (a1,b1),c,ha,rfl,hc,z2.symm⟩,p v (z5m (hv i v e' g2 g1))⟩
section
variable {κ:List Kd}{m:Kd}{fr fa fb:Bool}{a b e:Expr}{es:List Expr}{ga gb ge:GE}{gs:GA}{pos p:Pos}
theorem z5t {t1 t2:TE}(h1:PE X e t1) (h2:PE X e t2):PE X e (λ σ H Q=>t1 σ H Q\/t2 σ H Q):=by
 intro pins s σ H Q I h
 rcases h with h | h
 ·exact h1 pins s σ H Q I h
 ·exact h2 pins s σ H Q I h
theorem w9 (hu:X.A.units+64<cLine) (ha:DE X C κ m fa a ga) (hb:DE X C κ .v fb b gb) (hs:q98 b:=by intro _ _;rfl) (hs2:z2h b:=by intro _ _;rfl):DE X C κ m false (.Subscript a b pos) (gOp dIx ga gb):=by
 obtain ⟨ta,pa,da⟩:=ha
 obtain ⟨tb,pb,db⟩:=hb
 refine ⟨_,z5t (z30 z4Z pa pb hs) (q1W (by lia) pa pb hs2),λ F σ H δ rx Q z=>?_⟩
 obtain ⟨d1,e1,z⟩:=Q3 z
 obtain ⟨d2,e2,z⟩:=Q3 z
 have z2:∀ {H2:Hp},Same H H2->(match dIx d1 d2 with | .ok d=>∀ v,At X.K C.cl H2 (Sk C F m) v d->Q v H2 | _=>False):=λ {H2} s=>by
  cases q:dIx d1 d2 with
  | ok d=>rw [q] at z;exact λ w aw=>z w H2 s aw (λ z=>by cases z)
  | er c s=>rw [q] at z;exact z
  | un=>rw [q] at z;exact z
 by_cases isd:∃ ks ds,d1=.dct ks ds
 ·obtain ⟨ks,ds,rfl⟩:=isd
  refine .inr (da F σ H δ rx _ ?_)
  rw [e1]
  intro v H1 s1 a1 _
  refine db F σ H1 δ (rx.same s1) _ ?_
  rw [e2]
  intro u H2 s2 a2 _
  exact z7z (a1.same s2) (a2.sub λ o_ o_ o_=>trivial) (z2 (s1.trans s2))
 by_cases isx:∃ u,d1=.xt u
 ·obtain ⟨xu,rfl⟩:=isx
  refine .inr (da F σ H δ rx _ ?_)
  rw [e1]
  intro v H1 s1 a1 _
  refine db F σ H1 δ (rx.same s1) _ ?_
  rw [e2]
  intro u H2 s2 a2 _
  exact ixRc (a1.same s2) (a2.sub λ o_ o_ o_=>trivial) (z2 (s1.trans s2))
 ·refine .inl (da F σ H δ rx _ ?_)
  rw [e1]
  intro v H1 s1 a1 _
  refine db F σ H1 δ (rx.same s1) _ ?_
  rw [e2]
  intro u H2 s2 a2 _
  exact z7y (λ ks ds q=>isd ⟨ks,ds,q⟩) (λ u q=>isx ⟨u,q⟩) (a1.same s2) (a2.sub λ o_ o_ o_=>trivial) (z2 (s1.trans s2))
theorem q0P:DO X C κ none gON:=⟨_,z2W,λ F σ H δ rx Q z=>z H (Same.refl H)⟩
theorem q0Q (h:DE X C κ .v fa e ga):DO X C κ (some e) (gOI ga):=by
 obtain ⟨ta,pa,da⟩:=h
 refine ⟨_,z2X pa,λ F σ H δ rx Q z=>da F σ H δ rx _ ?_⟩
 obtain ⟨d1,e1,z⟩:=Z7 (T:=z5n H Q) (λ o_ o_ q=>q) (λ q=>q) z
 rw [e1]
 intro v H1 s1 a1 _
 cases d1 with
 | int i=>rw [At] at a1;exact ⟨i,a1,z H1 s1⟩
 | _=>exact z.elim
theorem SlR.or {r r':V->Option Int->Option Int->Hp->VK->Prop}(h:SlR X r) (h':SlR X r'):SlR X (λ x lo hi H Q=>r x lo hi H Q\/r' x lo hi H Q):=by
 intro pins s σ H x v vl vu lo hi sl Q I rx hs pl pu q
 rcases q with q | q
 ·exact h pins s σ H x v vl vu lo hi sl Q I rx hs pl pu q
 ·exact h' pins s σ H x v vl vu lo hi sl Q I rx hs pl pu q
theorem q9D (n d:Nat) (hd:d<=n) (o:Option Int):sIxD n d o<=n:=by
 cases o with
 | none=>exact hd
 | some v =>
  show (if v<0 then (v+(n:Int)).toNat else min v.toNat n)<=n
  split<;>lia
theorem z5u (lo hi:Option Int) (n:Nat):PySem.Builtin.Str.strSliceIndices lo hi 1 n=(List.range (sIxD n n hi - sIxD n 0 lo)).map (sIxD n 0 lo + ·):=by
 have e:∀ (o:Option Int) (d:Nat),d<=n->(match o with | none=>((d:Nat):Int) | some i=>if (1:Int) > 0 then max 0 (min (if i<0 then i+(n:Int) else i) n) else max (-1) (min (if i<0 then i+(n:Int) else i) ((n:Int) - 1)))=((sIxD n d o:Nat):Int):=by
  intro o d hd
  cases o with
  | none=>rfl
  | some i =>
   show (if (1:Int) > 0 then max 0 (min (if i<0 then i+(n:Int) else i) n) else _)=(((if i<0 then (i+(n:Int)).toNat else min i.toNat n):Nat):Int)
   rw [N0j (by decide)]
   by_cases h:i<0
   ·rw [N0j h,N0j h,Int.min_eq_left (Int.add_le_of_le_sub_right (by rw [Int.sub_self];exact Int.le_of_lt h)),Int.max_comm,<- Int.ofNat_toNat]
   ·have h0:=Int.not_lt.1 h
    rw [N0l h,N0l h,Int.max_eq_right (Int.le_min.2 ⟨h0,Int.natCast_nonneg n⟩)]
    by_cases q:i<=(n:Int)
    ·rw [Int.min_eq_left q,Nat.min_eq_left (Int.toNat_le.2 q),N26 h0]
    ·rw [Int.min_eq_right (Int.le_of_lt (Int.not_le.1 q)),Nat.min_eq_right (Int.le_toNat h0 |>.2 (Int.le_of_lt (Int.not_le.1 q)))]
 have h1:=e lo 0 (N1b _)
 have h2:=e hi n (N07 _)
 rw [<- sliceRange_one,<- h1,<- h2]
 rfl
set_option tactic.hygienic true in
theorem z3t (z:Str) (lo hi:Option Int):PySem.Txt.slice z lo hi=⟨(q5i z.cps.toList lo hi).toArray⟩:=by
 have hl:z.cps.toList.length=z.length:=by rw [N0g];rfl
 have h1:sIxD z.length 0 lo<=z.length:=q9D _ _ (N1b _) _
 have h2:sIxD z.length z.length hi<=z.length:=q9D _ _ (N07 _) _
 unfold Txt.slice q5i
 rw [z5u,hl]
 split
 ·rename_i h
  simp only [beq_self_eq_true,Bool.true_and,beq_iff_eq,N01,N17] at h
  by_cases e0:z.length=0
  ·have:z.cps.toList=[]:=List.eq_nil_of_length_eq_zero (by rw [hl];exact e0)
   rw [this]
   have:z.cps = #[]:=by rw [<- Array.toList_eq_nil_iff];exact this
   cases z
   simp_all
  ·have ha:sIxD z.length 0 lo=0:=by lia
   have hb:sIxD z.length z.length hi=z.length:=by simp_all
   rw [ha,hb,List.drop_zero,Nat.sub_zero,<- hl,N20]
 ·rw [pick_run]
theorem z3u {H:Hp}{S:Addr->Prop}{vs:List V}{ds:List D}(w:Ats K cl H S vs ds) (lo hi:Option Int):Ats K cl H S (cutV vs lo hi) (q5i ds lo hi):=by
 have e:cutV vs lo hi=(vs.drop (sIxD ds.length 0 lo)).take (sIxD ds.length ds.length hi - sIxD ds.length 0 lo):=by rw [<- w.length];rfl
 rw [e]
 exact (w.drop _).take _
theorem U4 {lo hi:Option Expr}{gl gh:DS->Rz (Option Int)}{p2:Pos}(ha:DE X C κ m fa a ga) (hl:DO X C κ lo gl) (hh:DO X C κ hi gh):DE X C κ m true (.Subscript a (.Slice lo hi none p2) pos) (gSl ga gl gh):=by
 obtain ⟨ta,pa,da⟩:=ha
 obtain ⟨tl,pl,dl⟩:=hl
 obtain ⟨th,ph,dh⟩:=hh
 refine ⟨_,z1c (SlR.or z32 z5b) pa pl ph,λ F σ H δ rx Q z=>da F σ H δ rx _ ?_⟩
 obtain ⟨d1,e1,z⟩:=Q3 z
 obtain ⟨d2,e2,z⟩:=Q3 z
 obtain ⟨d3,e3,z⟩:=Q3 z
 rw [e1]
 intro v H1 s1 a1 _
 refine dl F σ H1 δ (rx.same s1) _ ?_
 rw [e2]
 intro H2 s2
 refine dh F σ H2 δ (rx.same (s1.trans s2)) _ ?_
 rw [e3]
 intro H3 s3
 have s13:=(s1.trans s2).trans s3
 have a3:=a1.same (s2.trans s3)
 cases d1 with
 | lst xs =>
  rw [At] at a3
  obtain ⟨b,vs,rfl,sb,hb,w⟩:=a3
  refine .inl ⟨b,vs,rfl,.inl hb,λ q hq=>?_⟩
  obtain ⟨q1,q2⟩:=q0l hq (z3u w d2 d3) ((rx.same s13).new m hq)
  exact z _ _ (s13.trans (Q5 hq _)) q1 λ o_=>q2.back s13
 | str x =>
  rw [At] at a3
  subst a3
  obtain ⟨hz,z⟩:=x6 z
  refine .inr ⟨x,rfl,hz,?_⟩
  rw [z3t]
  exact z _ H3 s13 (by rw [At]) λ o_=>Nw.small rfl
 | _=>exact z.elim
end
end
end Dl
namespace Dl
open PySem L2
section
variable {X:Cx}{C:Dc}{L:List Kd×List Nat}{κ κ':List Kd}{m kx:Kd}{fr fa fb fe:Bool}{a b e elt iter:Expr}{ifs:List Expr}{es:List Expr}{ga gb ge:GE}{gi:GI}{gt:GT}{gs:GA}{pos p px:Pos}{x:Str}{caps:q49}{sc:Scope}
noncomputable def z5v (X:Cx) (C:Dc) (κ:List Kd) (ifs:List Expr) (g:GT):Prop :=
 ∃ t,z38 X ifs t/\∀ F σ H δ,Rx X.K C κ F σ H δ->∀ Q,PostT H Q (g δ)->t σ H Q
theorem U5:z5v X C κ [] gYes:=⟨_,z1j,λ F σ H δ r Q z=>z H (Same.refl H)⟩
theorem q1F {c:Expr}(h:DT X C κ c gt):z5v X C κ [c] gt:=let ⟨t,p,q⟩:=h;⟨t,z1k p,q⟩
noncomputable def capK (caps:q49) (κ:List Kd):List Kd:=caps.map λ c=>(κ[c.2]?).getD .v
theorem Rx.comp {K:W.Frag}{F:Addr->Prop}{σ:St}{H:Hp}{δ:DS}{v:V}{d:D}(r:Rx K C κ F σ H δ) (a:At K C.cl H (Sk C F kx) v d):Rx K C (kx::capK caps κ) F (some v::capσ caps σ) H (some d::capD (caps.map (·.2)) δ):=by
 refine ⟨λ i d' e=>?_,r.old,r.ow,r.tk⟩
 cases i with
 | zero =>
  have e:d=d':=N0b (N0b e)
  subst e
  exact ⟨v,kx,rfl,rfl,a⟩
 | succ i =>
  have e:(capD (caps.map (·.2)) δ)[i]? = some (some d'):=e
  unfold capD at e
  rw [N1m,N0i] at e
  cases q:caps[i]? with
  | none=>rw [q] at e;cases e
  | some c =>
   rw [q] at e
   have e:(δ[c.2]?).join=some d':=N0b e
   have e2:δ[c.2]? = some (some d'):=by
    cases q2:δ[c.2]? with
    | none=>rw [q2] at e;cases e
    | some o=>rw [q2] at e;have e:o=some d':=e;rw [e]
   obtain ⟨u,k,h1,h2,h3⟩:=r.sl _ _ e2
   refine ⟨u,k,?_,?_,h3⟩
   ·show (capσ caps σ)[i]? = _
    unfold capσ
    rw [N0i,q]
    show some ((σ[c.2]?).join)=_
    rw [h1]
    rfl
   ·show (capK caps κ)[i]? = _
    unfold capK
    rw [N0i,q]
    show some ((κ[c.2]?).getD .v)=_
    rw [h2]
    rfl
theorem q5q (cap:DS):compL cap gt ge []=.ok []:=by rw [compL]
theorem q0R {F:Addr->Prop}{σ:St}{H1 H:Hp}{δ:DS}{tt:TT}{te:TE}{all rest:List D}{d:D}{v:V}{ys:List V}{N:List V->Hp->Prop}
 (dt:∀ F σ H δ,Rx X.K C (kx::capK caps κ) F σ H δ->∀ Q,PostT H Q (gt δ)->tt σ H Q) (de:∀ F σ H δ,Rx X.K C (kx::capK caps κ) F σ H δ->∀ Q,Post X.K C F m fe H Q (ge δ)->te σ H Q)
 (r:Rx X.K C κ F σ H1 δ) (s:Same H1 H) (av:At X.K C.cl H (Sk C F kx) v d){ds:List D}(w:Ats X.K C.cl H (Sk C F m) ys ds) (hall:all.length<=sizeLine)
 (hc:∃ q,compL (capD (caps.map (·.2)) δ) gt ge (d::rest)=.ok q/\ds++q=all)
 (hN:∀ ys' H' ds',Same H1 H'->Ats X.K C.cl H' (Sk C F m) ys' ds'->(∃ q,compL (capD (caps.map (·.2)) δ) gt ge rest=.ok q/\ds'++q=all)->N ys' H') :
 tt (some v::capσ caps σ) H λ b H3=>if b=true then te (some v::capσ caps σ) H3 λ u H4=>ys.length<sizeLine/\N (ys++[u]) H4 else N ys H3:=by
 obtain ⟨q,hq,hall'⟩:=hc
 rw [compL] at hq
 have r2:Rx X.K C (kx::capK caps κ) F (some v::capσ caps σ) H (some d::capD (caps.map (·.2)) δ):=(r.same s).comp av
 obtain ⟨k,e1,hq⟩:=Q1 (T:=λ r=>r=Rz.ok q) (λ o_ o_ z=>by cases z) (λ z=>by cases z) hq
 refine dt F _ H _ r2 _ ?_
 rw [e1]
 intro H3 s3
 cases k with
 | false =>
  exact z1h (hN ys H3 ds (s.trans s3) (w.same s3) ⟨q,hq,hall'⟩)
 | true =>
  refine z1i ?_
  have hq:((ge (some d::capD (caps.map (·.2)) δ)).bind λ y=>(compL (capD (caps.map (·.2)) δ) gt ge rest).bind λ ys=>Rz.ok (y::ys))=Rz.ok q:=hq
  obtain ⟨y,e2,hq⟩:=Z7 (T:=λ r=>r=Rz.ok q) (λ o_ o_ z=>by cases z) (λ z=>by cases z) hq
  obtain ⟨q',e3,hq⟩:=Q1 (T:=λ r=>r=Rz.ok q) (λ o_ o_ z=>by cases z) (λ z=>by cases z) hq
  cases hq
  refine de F _ H3 _ (r2.same s3) _ ?_
  rw [e2]
  intro u H4 s4 a4 _
  refine ⟨?_,hN _ H4 (ds++[y]) ((s.trans s3).trans s4) ((w.same (s3.trans s4)).append (Ats.cons a4 Ats.nil)) ⟨q',e3,by rw [N1w];exact hall'⟩⟩
  have h1:(ds++y::q').length<=sizeLine:=by rw [hall'];exact hall
  rw [N06,N0h] at h1
  rw [w.length]
  lia
theorem q7j {wi:TI}{tt:CArg->TT}{te:CArg->TE}(dw:∀ F σ H δ,Rx X.K C κ F σ H δ->∀ R,q4g X.K C F kx H R (gi δ)->wi σ H R)
 (dt:∀ z F σ H δ,Rx X.K C (kx::capK caps κ) F σ H δ->∀ Q,PostT H Q (gt δ)->tt z σ H Q) (de:∀ z F σ H δ,Rx X.K C (kx::capK caps κ) F σ H δ->∀ Q,Post X.K C F m fe H Q (ge δ)->te z σ H Q) :
 ∀ F σ H δ,Rx X.K C κ F σ H δ->∀ Q,Post X.K C F m true H Q (U2 gi (caps.map (·.2)) gt ge δ)->z39 caps wi tt te σ H Q:=by
 intro F σ H δ r Q z
 refine dw F σ H δ r _ ?_
 obtain ⟨xs,e1,z⟩:=Q3 z
 obtain ⟨all,e2,z⟩:=Q3 z
 obtain ⟨hall,z⟩:=x6 z
 rw [e1]
 intro J H1 s1 w
 have r1:=r.same s1
 have fin:∀ (ys:List V) (H2:Hp),(Same H1 H2/\∃ ds,Ats X.K C.cl H2 (Sk C F m) ys ds/\∃ q,compL (capD (caps.map (·.2)) δ) gt ge []=.ok q/\ds++q=all)->∀ p,H2 p=none->Q (.ref p) (upd H2 p (.lst ys)):=by
  rintro ys H2 ⟨s2,ds,wd,q,hq,hall'⟩ p hp
  rw [q5q] at hq
  cases hq
  rw [N10] at hall'
  subst hall'
  have s12:=s1.trans s2
  obtain ⟨q1,q2⟩:=q0l hp wd ((r.same s12).new m hp)
  exact z _ _ (s12.trans (Q5 hp _)) q1 λ o_=>q2.back s12
 rcases w with ⟨a,vs,rfl,sa,ha,wa⟩ | ⟨a,vs,rfl,ha,wa⟩ | ⟨lo,n,rfl,rfl⟩ | ⟨zz,rfl,rfl⟩
 ·refine q9l (K:=X.K) (a:=a) (xs:=vs) (λ j ys H'=>Same H1 H'/\∃ ds,Ats X.K C.cl H' (Sk C F m) ys ds/\∃ q,compL (capD (caps.map (·.2)) δ) gt ge (xs.drop j)=.ok q/\ds++q=all)
   ⟨Same.refl H1,[],Ats.nil,all,e2,rfl⟩ (λ j ys H' o1_ ⟨s,o2_⟩=>.inl (s.rd ha)) ?_ ?_
  ·rintro c j v ys H' hj ⟨s,ds,wd,hc⟩
   obtain ⟨d,hd,ad⟩:=(wa.same s).get' hj
   rw [X6 hd] at hc
   exact q0R (N:=λ ys H'=>Same H1 H'/\∃ ds,Ats X.K C.cl H' (Sk C F m) ys ds/\∃ q,compL (capD (caps.map (·.2)) δ) gt ge (xs.drop (j+1))=.ok q/\ds++q=all) (dt c) (de c) r1 s ad wd hall hc λ ys' H' ds' s' w' h'=>⟨s',ds',w',h'⟩
  ·rintro ys H' ⟨s,ds,wd,hc⟩
   rw [wa.length,N1h] at hc
   exact fin ys H' ⟨s,ds,wd,hc⟩
 ·refine z1m (K:=X.K) (a:=a) (xs:=vs) (λ j ys H'=>Same H1 H'/\∃ ds,Ats X.K C.cl H' (Sk C F m) ys ds/\∃ q,compL (capD (caps.map (·.2)) δ) gt ge (xs.drop j)=.ok q/\ds++q=all)
   ⟨Same.refl H1,[],Ats.nil,all,e2,rfl⟩ (λ j ys H' o1_ ⟨s,o2_⟩=>SqT.of (s _ _ ha)) ?_ ?_
  ·rintro c j v ys H' hj ⟨s,ds,wd,hc⟩
   obtain ⟨d,hd,ad⟩:=(wa.same s).get' hj
   rw [X6 hd] at hc
   exact q0R (N:=λ ys H'=>Same H1 H'/\∃ ds,Ats X.K C.cl H' (Sk C F m) ys ds/\∃ q,compL (capD (caps.map (·.2)) δ) gt ge (xs.drop (j+1))=.ok q/\ds++q=all) (dt c) (de c) r1 s ad wd hall hc λ ys' H' ds' s' w' h'=>⟨s',ds',w',h'⟩
  ·rintro ys H' ⟨s,ds,wd,hc⟩
   rw [wa.length,N1h] at hc
   exact fin ys H' ⟨s,ds,wd,hc⟩
 ·have hl:(rangeD lo n).length=n:=by unfold rangeD;rw [N01,N17]
  refine q85 (lo:=lo) (n:=n) (λ j ys H'=>Same H1 H'/\∃ ds,Ats X.K C.cl H' (Sk C F m) ys ds/\∃ q,compL (capD (caps.map (·.2)) δ) gt ge ((rangeD lo n).drop j)=.ok q/\ds++q=all)
   ⟨Same.refl H1,[],Ats.nil,all,e2,rfl⟩ ?_ ?_
  ·rintro c j ys H' hj ⟨s,ds,wd,hc⟩
   have hd:(rangeD lo n)[j]? = some (.int (lo+(j:Int))):=by unfold rangeD;rw [N0i,N1j hj];rfl
   rw [X6 hd] at hc
   exact q0R (N:=λ ys H'=>Same H1 H'/\∃ ds,Ats X.K C.cl H' (Sk C F m) ys ds/\∃ q,compL (capD (caps.map (·.2)) δ) gt ge ((rangeD lo n).drop (j+1))=.ok q/\ds++q=all) (dt c) (de c) r1 s (by rw [At]) wd hall hc λ ys' H' ds' s' w' h'=>⟨s',ds',w',h'⟩
  ·rintro ys H' ⟨s,ds,wd,hc⟩
   rw [show (rangeD lo n).drop n=[] by rw [N1c];simp_all] at hc
   exact fin ys H' ⟨s,ds,wd,hc⟩
 ·have hl:(signsD zz).length=zz.cps.size:=by unfold signsD;rw [N01,N0g]
  refine z1o (z:=zz) (λ j ys H'=>Same H1 H'/\∃ ds,Ats X.K C.cl H' (Sk C F m) ys ds/\∃ q,compL (capD (caps.map (·.2)) δ) gt ge ((signsD zz).drop j)=.ok q/\ds++q=all)
   ⟨Same.refl H1,[],Ats.nil,all,e2,rfl⟩ ?_ ?_
  ·rintro c j ch ys H' hj ⟨s,ds,wd,hc⟩
   have hd:(signsD zz)[j]? = some (.str ⟨#[ch]⟩):=by unfold signsD;rw [N0i,Array.getElem?_toList,hj];rfl
   rw [X6 hd] at hc
   exact q0R (N:=λ ys H'=>Same H1 H'/\∃ ds,Ats X.K C.cl H' (Sk C F m) ys ds/\∃ q,compL (capD (caps.map (·.2)) δ) gt ge ((signsD zz).drop (j+1))=.ok q/\ds++q=all) (dt c) (de c) r1 s (by rw [At]) wd hall hc λ ys' H' ds' s' w' h'=>⟨s',ds',w',h'⟩
  ·rintro ys H' ⟨s,ds,wd,hc⟩
   rw [show (signsD zz).drop zz.cps.size=[] by rw [N1c];simp_all] at hc
   exact fin ys H' ⟨s,ds,wd,hc⟩
theorem q04 (caps:q49) (hk:q1k X.env.scope sc X.N x caps=true) (hc:X.calm=true) (hi:DI X C κ kx (.Name x px) iter gi) (ht:∀ z,z5v (cxC X x caps sc z) C (kx::capK caps κ) ifs gt) (he:∀ z,DE (cxC X x caps sc z) C (kx::capK caps κ) m fe elt ge)
 (hs:∀ v,foldedSetIterable iter X.env v=pure v:=by intro _;rfl):DE X C κ m true (.ListComp elt [⟨.Name x px,iter,ifs,0⟩] sc pos) (U2 gi (caps.map (·.2)) gt ge):=by
 obtain ⟨wi,pw,dw⟩:=hi
 obtain ⟨tt,htt⟩:=Classical.axiomOfChoice ht
 obtain ⟨te,hte⟩:=Classical.axiomOfChoice he
 exact ⟨_,q6f hk hc pw (λ z=>(htt z).1) (λ z=>(hte z).1) hs,q7j dw (λ z=>(htt z).2) (λ z=>(hte z).2)⟩
theorem z3v {i:Nat}{y:Str}{k:Kd}{py spos:Pos}{t:TE}{e:Expr}(hkk:k=.b\/k=.s) (hk:i<κ.length) (ps:PS X (.Assign [.Name y py] e spos) (z6h t (q7S i))) (dt:∀ F σ H δ,Rx X.K C κ F σ H δ->∀ Q,Post X.K C F k fr H Q (ge δ)->t σ H Q) (hni:i∉C.io) :
 DSt X C L κ (κ.set i k) (.Assign [.Name y py] e spos) (X4 i ge):=by
 refine ⟨_,ps,λ φ σ H δ r D p=>dt (Fo φ) σ H δ r.rx _ ?_⟩
 obtain ⟨d,e1,p⟩:=Z4 p
 rw [e1]
 intro v H1 s1 a n
 have so:SlOk X.K C (Fo (φset φ i [])) H1 [] v d k:=by
  rcases hkk with rfl | rfl
  ·exact At.sub a λ b z o_ f=>z (q0A f)
  ·exact At.sub a λ b z o_=>⟨z.1,λ f=>z.2 (q0A f)⟩
 obtain ⟨r2,kp⟩:=r.put s1 hk so (λ a m=>absurd m (by simp)) hni
 exact p _ _ _ r2 kp
theorem z7 {n:Nat}{gs:GA}(h:∀ δ ds,gs δ=.ok ds->ds.length=n):∀ δ ds,gCons ga gs δ=.ok ds->ds.length=n+1:=λ δ ds e=>by
 obtain ⟨d,_,e⟩:=Z7 (T:=λ r=>r=Rz.ok ds) (λ o_ o_ z=>by cases z) (λ z=>by cases z) e
 obtain ⟨ds',e2,e⟩:=Q1 (T:=λ r=>r=Rz.ok ds) (λ o_ o_ z=>by cases z) (λ z=>by cases z) e
 cases e
 rw [N0h,h δ ds' e2]
theorem j4:∀ δ ds,gNil δ=.ok ds->ds.length=0:=λ δ ds e=>by cases e;rfl
noncomputable def q6p (K:W.Frag) (cl:Nat->Addr) (r:List V->Hp->VK->Prop) (p:List D->Rz D):Prop :=
 ∀ (H:Hp) (S:Addr->Prop) (vs:List V) (ds:List D) (Q:VK),Ats K cl H S vs ds->(match p ds with | .ok d=>∀ v,(∀ S',At K cl H S' v d)->Q v H | _=>False)->r vs H Q
theorem Q6 {id:String}{r:List V->Hp->VK->Prop}{p:List D->Rz D}{pp:Pos}(hc:V2 X (.builtin id) r) (hp:q6p X.K C.cl r p) (hi:∀ ds d,p ds=.ok d->d.big=false) (hg:Gl X x) (hm:X.mg x=none) (hv:bootBuiltins x=some (.builtin id)) (ha:DA X C κ .v (e::es) gs) (hn:x≠"__name__":=by decide) (hdb:(x==("__debug__" : Str))=false:=by decide)
 (he:starEach (e::es) X.env=(false,eval e X.env)::starEach es X.env:=by rfl) (hpl:(backTo pos (starEach es X.env)).any (·.1)=false:=by rfl):DE X C κ m true (.Call (.Name x pp) (e::es) [] pos) (gCall p gs):=by
 obtain ⟨t,pt,dt⟩:=ha
 refine ⟨_,q70 hc hg hm hv pt hn hdb he hpl,λ F σ H δ rx Q z=>dt F σ H δ rx _ ?_⟩
 obtain ⟨ds,e1,z⟩:=Q3 z
 rw [e1]
 intro vs H1 s1 a1
 refine hp H1 _ vs ds Q a1 ?_
 cases q:p ds with
 | ok d=>rw [q] at z;exact λ v av=>z v H1 s1 (av _) λ o_=>Nw.small (hi ds d q)
 | er c s=>rw [q] at z;exact z
 | un=>rw [q] at z;exact z
theorem q9E {id:String}{r:List V->Hp->VK->Prop}{p:List D->Rz D}{pp:Pos}(hc:V2 X (.type id) r) (hp:q6p X.K C.cl r p) (hi:∀ ds d,p ds=.ok d->d.big=false) (hg:Gl X x) (hm:X.mg x=none) (hv:bootBuiltins x=some (.type id)) (ha:DA X C κ .v (e::es) gs) (hn:x≠"__name__":=by decide) (hdb:(x==("__debug__" : Str))=false:=by decide)
 (he:starEach (e::es) X.env=(false,eval e X.env)::starEach es X.env:=by rfl) (hpl:(backTo pos (starEach es X.env)).any (·.1)=false:=by rfl):DE X C κ m true (.Call (.Name x pp) (e::es) [] pos) (gCall p gs):=by
 obtain ⟨t,pt,dt⟩:=ha
 refine ⟨_,q55 hc hg hm hv pt hn hdb he hpl,λ F σ H δ rx Q z=>dt F σ H δ rx _ ?_⟩
 obtain ⟨ds,e1,z⟩:=Q3 z
 rw [e1]
 intro vs H1 s1 a1
 refine hp H1 _ vs ds Q a1 ?_
 cases q:p ds with
 | ok d=>rw [q] at z;exact λ v av=>z v H1 s1 (av _) λ o_=>Nw.small (hi ds d q)
 | er c s=>rw [q] at z;exact z
 | un=>rw [q] at z;exact z
theorem q1G {id:String}{r:List V->Hp->VK->Prop}{p:List D->Rz D}{pp:Pos}(hc:V2 X (.type id) r) (hp:z3m X.K C.cl r p) (hg:Gl X x) (hm:X.mg x=none) (hv:bootBuiltins x=some (.type id)) (ha:DA X C κ m (e::es) gs) (hn:x≠"__name__":=by decide) (hdb:(x==("__debug__" : Str))=false:=by decide)
 (he:starEach (e::es) X.env=(false,eval e X.env)::starEach es X.env:=by rfl) (hpl:(backTo pos (starEach es X.env)).any (·.1)=false:=by rfl):DE X C κ m true (.Call (.Name x pp) (e::es) [] pos) (gCall p gs):=by
 obtain ⟨t,pt,dt⟩:=ha
 refine ⟨_,q55 hc hg hm hv pt hn hdb he hpl,λ F σ H δ rx Q z=>dt F σ H δ rx _ ?_⟩
 obtain ⟨ds,e1,z⟩:=Q3 z
 rw [e1]
 intro vs H1 s1 a1
 exact hp H1 _ vs ds Q (λ a h=>(rx.same s1).new m h) a1 (q7e s1 z)
theorem W3:∀ ds d,pLen ds=.ok d->d.big=false:=λ ds d h=>by
 match ds,h with
 | [x],h=>cases x<;>first | (cases h;rfl) | (have q:=(U3 h).2;cases q;rfl) | cases h
 | [],h=>cases h
 | _::_::_,h=>cases h
theorem Q7 {K:W.Frag}{cl:Nat->Addr}:q6p K cl (λ xs H Q=>(∃ p ys,xs=[.ref p]/\(SqL K H p ys\/SqT K H p ys)/\Q (.int ys.length) H)\/(∃ z,xs=[.str z]/\z.length<=sizeLine/\Q (.int z.length) H)\/∃ a kvs,xs=[V.ref a]/\H a=some (.dK kvs)/\Q (.int kvs.length) H) pLen:=by
 intro H S vs ds Q w z
 match vs,ds,w,z with
 | [v],[d],w,z =>
  rw [Ats] at w
  have a:=w.1
  cases d with
  | lst xs =>
   rw [At] at a
   obtain ⟨b,us,rfl,sb,hb,wb⟩:=a
   refine .inl ⟨b,us,rfl,.inl (.inl hb),?_⟩
   rw [wb.length]
   exact z _ λ S'=>by rw [At]
  | tup xs =>
   rw [At] at a
   obtain ⟨b,us,rfl,hb,wb⟩:=a
   refine .inl ⟨b,us,rfl,.inr (SqT.of hb),?_⟩
   rw [wb.length]
   exact z _ λ S'=>by rw [At]
  | str x =>
   rw [At] at a
   subst a
   by_cases h:x.length<=sizeLine
   ·simp only [pLen,z7q,j8 h] at z
    exact .inr (.inl ⟨x,rfl,h,z _ λ S'=>by rw [At]⟩)
   ·simp only [pLen,z7q,Rz.guard,N0l h] at z
  | dct ks xs =>
   rw [At] at a
   obtain ⟨b,us,rfl,sb,hb,l,wb⟩:=a
   refine .inr (.inr ⟨b,_,rfl,hb,?_⟩)
   rw [List.length_zip,wb.length,l,Nat.min_self,<- l]
   exact z _ λ S'=>by rw [At]
  | _=>exact z.elim
 | [],[],_,z=>exact z.elim
 | _::_::_,[],w,_=>rw [Ats] at w;exact w.elim
 | [_],[],w,_=>rw [Ats] at w;exact w.elim
 | [],_::_,w,_=>rw [Ats] at w;exact w.elim
 | [_],_::_::_,w,z=>exact z.elim
 | _::_::_,[_],w,_=>rw [Ats,Ats] at w;exact w.2.elim
 | _::_::_,_::_::_,w,z=>exact z.elim
theorem Q8:V2 X (.builtin "len") (λ xs H Q=>(∃ p ys,xs=[.ref p]/\(SqL X.K H p ys\/SqT X.K H p ys)/\Q (.int ys.length) H)\/(∃ z,xs=[.str z]/\z.length<=sizeLine/\Q (.int z.length) H)\/∃ a kvs,xs=[V.ref a]/\H a=some (.dK kvs)/\Q (.int kvs.length) H) :=
 V2.or q59 (V2.or q5a q9h)
end
end Dl
namespace Dl
open PySem L2 PyProof.Rows
structure Df (K:W.Frag) (mg:Str->Option Value) (x:Str) (st:Stmt) (ps:List Str) (f:Addr) (fd:FuncData):Prop where
 F:Fun K x x st f fd
 b:y9 K fd ps []
 m:mg x=some (.ref f)
section
variable {X:Cx}{C:Dc}{L:List Kd×List Nat}{κ κ':List Kd}{m kx:Kd}{fr fa fb fe:Bool}{a b e elt iter:Expr}{es:List Expr}{ga gb ge:GE}{gs:GA}{pos p:Pos}{x:Str}
theorem Q0 {st:Stmt}{ps:List Str}{f:Addr}{fd:FuncData}{k n:Nat}{F:PF}(D:Df X.K X.mg x st ps f fd) (G:FnOk X.prog X.w X.K X.mg X.base CX0 k f fd ps (spD X.K C.cl n F)) (hr:Room k X.A) (hg:Gl X x) (hlen:∀ δ ds,gs δ=.ok ds->ds.length=n) (ha:DA X C κ .v (e::es) gs)
 (hdb:(x==("__debug__" : Str))=false:=by decide) (hst:starEach (e::es) X.env=(false,eval e X.env)::starEach es X.env:=by rfl) (hpl:(backTo pos (starEach es X.env)).any (·.1)=false:=by rfl):DE X C κ m true (.Call (.Name x p) (e::es) [] pos) (gCall F gs):=by
 obtain ⟨t,pt,dt⟩:=ha
 exact z1y (n:=n) (q43 G hr hg D.m D.F.kp D.b .nil q5e pt hdb hst hpl) hlen dt
theorem z2r (h:DE X C κ .v true e ge):DE X C κ m true e (q9x ge):=by
 obtain ⟨t,pt,dt⟩:=h
 refine ⟨t,pt,λ F σ H δ r Q p=>dt F σ H δ r Q ?_⟩
 obtain ⟨d,e1,p⟩:=Q3 p
 obtain ⟨hi,p⟩:=x6 p
 rw [e1]
 intro v H1 s1 a n
 have n:=n rfl
 cases d with
 | lst xs =>
  obtain ⟨l,⟨b,vs,rfl,rfl,hb,w⟩,hl⟩:=n rfl
  have w2:∀ S,Ats X.K C.cl H1 S vs xs:=λ S=>w.imm TupK.refl hi
  have nb:=hl b N00
  refine p _ H1 s1 ?_ λ o_ o_=>⟨[b],⟨b,vs,rfl,rfl,hb,w2 _⟩,hl⟩
  rw [At]
  exact ⟨b,vs,rfl,r.new m nb,.inl hb,w2 _⟩
 | dct ks xs =>
  obtain ⟨l,⟨b,vs,rfl,rfl,hb,kl,w⟩,hl⟩:=n rfl
  have w2:∀ S,Ats X.K C.cl H1 S vs xs:=λ S=>w.imm TupK.refl hi
  have nb:=hl b N00
  refine p _ H1 s1 ?_ λ o_ o_=>⟨[b],⟨b,vs,rfl,rfl,hb,kl,w2 _⟩,hl⟩
  rw [At]
  exact ⟨b,vs,rfl,r.new m nb,hb,kl,w2 _⟩
 | obj _ _ _=>exact absurd hi (by simp [D.imI,D.imm])
 | xt _=>exact absurd hi (by simp [D.imI,D.imm])
 | tup xs=>exact p _ H1 s1 (At.imm TupK.refl hi a) λ o_=>Nw.small rfl
 | non=>exact p _ H1 s1 (At.imm TupK.refl hi a) λ o_=>Nw.small rfl
 | bl _=>exact p _ H1 s1 (At.imm TupK.refl hi a) λ o_=>Nw.small rfl
 | int _=>exact p _ H1 s1 (At.imm TupK.refl hi a) λ o_=>Nw.small rfl
 | str _=>exact p _ H1 s1 (At.imm TupK.refl hi a) λ o_=>Nw.small rfl
theorem q2V (h:DE X C κ .v fr e ge):DE X C κ m true e (gIm ge):=by
 obtain ⟨t,pt,dt⟩:=h
 refine ⟨t,pt,λ F σ H δ r Q p=>dt F σ H δ r Q ?_⟩
 obtain ⟨d,e1,p⟩:=Q3 p
 obtain ⟨hi,p⟩:=x6 p
 rw [e1]
 intro v H1 s1 a n
 refine p _ H1 s1 (At.imm TupK.refl hi a) λ o_=>Nw.small ?_
 cases d<;>first | rfl | (rw [D.imm] at hi;cases hi)
end
section
variable {P:Program}{w:World}{K:W.Frag}{mg:Str->Option Value}{base:Heap}
theorem q9F {N:List Str}{vs:List V}{ds:List D}{cl:Nat->Addr}{H:Hp}{S:Addr->Prop}(a:Ats K cl H S vs ds){i:Nat}{d:D}(e:(startD N.length ds)[i]? = some (some d)):i<ds.length/\∃ v,(L2.start N vs)[i]? = some (some v)/\At K cl H S v d:=by
 unfold startD at e
 by_cases h:i<ds.length
 ·rw [N0x (by simpa using h),N0i] at e
  cases q:ds[i]? with
  | none=>rw [q] at e;cases e
  | some x =>
   rw [q] at e
   have e:x=d:=N0b (N0b e)
   subst e
   obtain ⟨v,h1,h2⟩:=a.get q
   refine ⟨h,v,?_,h2⟩
   unfold L2.start
   rw [N0x (by rw [N01,a.length];exact h),N0i,h1]
   rfl
 ·rw [N19 (by simpa using h),List.getElem?_replicate] at e
  split at e<;>cases e
theorem q1H {x qual:Str}{st:Stmt}{f:Addr}{fd:FuncData}{N ps:List Str}{k n:Nat}{cl:Nat->Addr}{κ κ':List Kd}{g:GS}(F:Fun K x qual st f fd) (S:FnScope N ps (defScope st)) (hn:ps.length=n) (hκ:∀ i:Nat,i<n->κ[i]? = some .b)
 (hbody:∀ (cdv:Value) (A:Around) (outer:List Env) (s:Shared) (H:Hp) (E:XK) (hsn:Sun cl H),Room k (A.deeper (envOfC qual (defScope st) s.heap.objs.size f cdv)) ->
  DSs (cxOf CX0 P w K mg base N qual (defScope st) f cdv A outer s H E).nox ⟨cl,H,λ o_=>False,[],λ o_=>.non,λ o_=>[],hsn⟩ ([],[]) κ κ' (defBody st) g):FnOk P w K mg base CX0 (k+1) f fd ps (spD K cl n (K2 N.length g)):=by
 refine F.ok S (λ vs H Q E h=>by rw [z3n h,hn]) (λ cdv A outer s H vs Q E hr h=>?_)
 obtain ⟨ds,d,⟨hl,hsn⟩,wa,he,q⟩:=h
 obtain ⟨t,pt,dt⟩:=hbody cdv A outer s H E hsn hr
 refine ⟨t,pt,dt (λ o_=>[]) (L2.start N vs) H (startD N.length ds) ?_ _ ?_⟩
 ·refine ⟨λ i d e=>?_,λ i j a m=>absurd m (by simp),λ a f=>?_,λ a f=>?_,λ a o e o_=>e,λ a z=>z.elim,TupK.refl,λ j hj=>absurd hj (by simp),?_⟩
  ·obtain ⟨hi,v,h1,h2⟩:=q9F wa e
   refine ⟨v,.b,h1,hκ i (by simp_all),h2.sub λ b o_ o_ f=>?_⟩
   obtain ⟨j,hj⟩:=f
   exact absurd hj (by simp)
  ·obtain ⟨j,hj⟩:=f
   exact absurd hj (by simp)
  ·obtain ⟨j,hj⟩:=f
   exact absurd hj (by simp)
  ·unfold L2.start startD
   rw [N06,N06,N01,N01,N13,N13,wa.length]
 ·have he:(g (startD N.length ds)).bind _=Rz.ok d:=he
  cases e:g (startD N.length ds) with
  | ok o =>
   rw [e] at he
   cases o with
   | nx δ' =>
    cases he
    intro φ' σ' H' r _
    exact q .non H' (λ b u e=>r.fr b u e (λ z=>z)) (by rw [At]) (Nw.small rfl)
   | rt d' δ' =>
    cases he
    intro v κr φ' σ' H' _ r a nw
    exact q v H' (λ b u e=>r.fr b u e (λ z=>z)) a nw
   | bk δ'=>cases he
   | ct δ'=>cases he
  | er c s=>rw [e] at he;cases he
  | un=>rw [e] at he;cases he
end
mutual
noncomputable def toP:D->PyData
 | .non=>.none
 | .bl b=>.bool b
 | .int i=>.int i
 | .str x=>.str x
 | .tup xs=>.tuple (q64 xs)
 | .lst xs=>.list (q64 xs)
 | .dct _ _=>.dict []
 | .xt _=>.dict []
 | .obj _ _ _=>.dict []
noncomputable def q64:List D->List PyData
 | []=>[]
 | x::xs=>toP x::q64 xs
end
mutual
theorem q2W:∀ d:D,okS d=true->(toP d).canLay0=true
 | .non,_=>by rw [toP];rfl
 | .bl _,_=>by rw [toP];rfl
 | .int _,_=>by rw [toP];rfl
 | .str x,h=>by rw [toP];rw [okS] at h;exact h
 | .tup xs,h=>by rw [toP,PyData.canLay0];rw [okS] at h;exact q4n xs h
 | .lst xs,h=>by rw [toP,PyData.canLay0];rw [okS] at h;exact q4n xs h
 | .dct _ _,h=>by rw [okS] at h;cases h
 | .xt _,h=>by rw [okS] at h;cases h
 | .obj _ _ _,h=>by rw [okS] at h;cases h
theorem q4n:∀ ds:List D,q7c ds=true->PyData.canLayAll0 (q64 ds)=true
 | [],_=>by rw [q64];rfl
 | d::ds,h=>by
  rw [q7c,N0q] at h
  rw [q64,PyData.canLayAll0,q2W d h.1,q4n ds h.2];rfl
end
mutual
theorem q2X:∀ d:D,okS d=true->(toP d).depth=q5j d
 | .non,_=>by rw [toP,q5j];rfl
 | .bl _,_=>by rw [toP,q5j];rfl
 | .int _,_=>by rw [toP,q5j];rfl
 | .str x,h=>by rw [toP,q5j];rfl
 | .tup xs,h=>by rw [toP,PyData.depth,q5j];rw [okS] at h;rw [q4o xs h]
 | .lst xs,h=>by rw [toP,PyData.depth,q5j];rw [okS] at h;rw [q4o xs h]
 | .dct _ _,h=>by rw [okS] at h;cases h
 | .xt _,h=>by rw [okS] at h;cases h
 | .obj _ _ _,h=>by rw [okS] at h;cases h
theorem q4o:∀ ds:List D,q7c ds=true->PyData.depthAll (q64 ds)=q4c ds
 | [],_=>by rw [q64,q4c];rfl
 | d::ds,h=>by
  rw [q7c,N0q] at h
  rw [q64,PyData.depthAll,q4c,q2X d h.1,q4o ds h.2]
end
mutual
theorem q6q:∀ x y:D,okS x=true->okS y=true->PyData.eqv (toP x) (toP y)=eqD x y
 | .tup xs,y,hx,hy=>by
  cases y with
  | tup ys=>exact q4p xs ys hx hy
  | _=>first | rfl | exact Bool.noConfusion hy
 | .lst xs,y,hx,hy=>by
  cases y with
  | lst ys=>exact q4p xs ys hx hy
  | _=>first | rfl | exact Bool.noConfusion hy
 | .dct _ _,_,h,_=>Bool.noConfusion h
 | .xt _,_,h,_=>Bool.noConfusion h
 | .obj _ _ _,_,h,_=>Bool.noConfusion h
 | .non,y,_,hy=>by cases y<;>first | rfl | exact Bool.noConfusion hy
 | .bl _,y,_,hy=>by cases y<;>first | rfl | exact Bool.noConfusion hy
 | .int _,y,_,hy=>by cases y<;>first | rfl | exact Bool.noConfusion hy
 | .str _,y,_,hy=>by cases y<;>first | rfl | exact Bool.noConfusion hy
theorem q4p:∀ xs ys:List D,q7c xs=true->q7c ys=true->PyData.eqvAll (q64 xs) (q64 ys)=q9v xs ys
 | [],[],_,_=>rfl
 | [],_::_,_,_=>rfl
 | _::_,[],_,_=>rfl
 | x::xs,y::ys,hx,hy=>by
  have hx:=(N0q _ _).mp hx
  have hy:=(N0q _ _).mp hy
  show (PyData.eqv (toP x) (toP y)&&PyData.eqvAll (q64 xs) (q64 ys))=(eqD x y&&q9v xs ys)
  rw [q6q x y hx.1 hy.1,q4p xs ys hx.2 hy.2]
end
section
variable {P:Program}{w:World}{K:PySem.W.Frag}{cl:Nat->Addr}{H:Hp}{h:Heap}{S:Addr->Prop}
mutual
theorem At.reads (ok:HOk P w H h):∀ {d:D}{v:V}{u:Value},okS d=true->At K cl H S v d->y3 v u->∃ as,Reads h u (toP d) as
 | .non,v,u,_,a,r=>by rw [At] at a;subst a;cases r;rw [toP];exact ⟨_,.none⟩
 | .bl b,v,u,_,a,r=>by rw [At] at a;subst a;cases r;rw [toP];exact ⟨_,.bool b⟩
 | .int i,v,u,_,a,r=>by rw [At] at a;subst a;obtain ⟨t,rfl⟩:=r;rw [toP];exact ⟨_,.int i t⟩
 | .str x,v,u,_,a,r=>by rw [At] at a;subst a;obtain ⟨t,rfl⟩:=r;rw [toP];exact ⟨_,.str x t⟩
 | .tup ds,v,u,o,a,r=>by
  rw [At] at a
  rw [okS] at o
  obtain ⟨b,vs,rfl,hb,wb⟩:=a
  cases r
  obtain ⟨_,its,rv,p⟩:=ok b _ hb
  obtain ⟨ob,e1,e2,n,e3⟩:=p
  obtain ⟨as,q⟩:=Ats.reads ok o wb rv
  rw [toP]
  exact ⟨_,.tuple e1 e2 e3 q⟩
 | .lst ds,v,u,o,a,r=>by
  rw [At] at a
  rw [okS] at o
  obtain ⟨b,vs,rfl,_,hb,wb⟩:=a
  cases r
  obtain ⟨_,its,n,rv,e1⟩:=hb.ok ok
  obtain ⟨as,q⟩:=Ats.reads ok o wb rv
  rw [toP]
  exact ⟨_,.list e1 rfl rfl q⟩
 | .dct _ _,_,_,o,_,_=>by rw [okS] at o;cases o
 | .xt _,_,_,o,_,_=>by rw [okS] at o;cases o
 | .obj _ _ _,_,_,o,_,_=>by rw [okS] at o;cases o
theorem Ats.reads (ok:HOk P w H h):∀ {ds:List D}{vs:List V}{us:List Value},q7c ds=true->Ats K cl H S vs ds->Vals vs us->∃ as,ReadsAll h us (q64 ds) as
 | [],[],_,_,_,.nil=>by rw [q64];exact ⟨_,.nil⟩
 | d::ds,v::vs,u::us,o,a,.cons r t=>by
  rw [q7c,N0q] at o
  rw [Ats] at a
  obtain ⟨as,q⟩:=At.reads ok o.1 a.1 r
  obtain ⟨bs,q2⟩:=Ats.reads ok o.2 a.2 t
  rw [q64]
  exact ⟨_,.cons q q2⟩
 | [],_::_,_,_,z,_=>by rw [Ats] at z;exact z.elim
 | _::_,[],_,_,z,_=>by rw [Ats] at z;exact z.elim
end
end
noncomputable def z4v (K:PySem.W.Frag) (cl:Nat->Addr) (neg:Bool):R2:=λ x y H Q=>∃ S dx dy,At K cl H S x dx/\At K cl H S y dy/\okS dx=true/\okS dy=true/\q5j dx<=64/\q5j dy<=64/\Q (.bl (if neg then !eqD dx dy else eqD dx dy)) H
section
variable {X:Cx}{cl:Nat->Addr}{K:PySem.W.Frag}{C:Dc}
theorem z5w (hu:X.A.units+64<cLine):OpR X (compareOp .Eq) (z4v X.K cl false):=by
 intro pins s σ H x y v u Q I rx ry h
 obtain ⟨S,dx,dy,ax,ay,ox,oy,ex,ey,q⟩:=h
 obtain ⟨as,ra⟩:=ax.reads I.hok ox rx
 obtain ⟨bs,rb⟩:=ay.reads I.hok oy ry
 refine eq_dataH ra rb ?_ ?_ hu ?_
 ·unfold SeqAt.shaped;rw [q2W dx ox,q2X dx ox,N0o ex];rfl
 ·unfold SeqAt.shaped;rw [q2W dy oy,q2X dy oy,N0o ey];rfl
 ·rw [q6q dx dy ox oy];exact ⟨.bl _,H,I,rfl,q⟩
theorem z5x (hu:X.A.units+64<cLine):OpR X (compareOp .NotEq) (z4v X.K cl true):=by
 intro pins s σ H x y v u Q I rx ry h
 obtain ⟨S,dx,dy,ax,ay,ox,oy,ex,ey,q⟩:=h
 obtain ⟨as,ra⟩:=ax.reads I.hok ox rx
 obtain ⟨bs,rb⟩:=ay.reads I.hok oy ry
 refine ne_dataH ra rb ?_ ?_ hu ?_
 ·unfold SeqAt.shaped;rw [q2W dx ox,q2X dx ox,N0o ex];rfl
 ·unfold SeqAt.shaped;rw [q2W dy oy,q2X dy oy,N0o ey];rfl
 ·rw [q6q dx dy ox oy];exact ⟨.bl _,H,I,rfl,q⟩
theorem X8 (hu:X.A.units+64<cLine):OpR X (compareOp .Eq) (λ x y H Q=>rEq x y H Q\/z4v X.K cl false x y H Q):=OpR.or z78 (z5w hu)
theorem q2c (hu:X.A.units+64<cLine):OpR X (compareOp .NotEq) (λ x y H Q=>rNe x y H Q\/z4v X.K cl true x y H Q):=OpR.or z79 (z5x hu)
theorem q9G {H:Hp}{S:Addr->Prop}{x y:V}{dx dy:D}(ax:At K cl H S x dx) (ay:At K cl H S y dy) (h:z5i dx dy=true):z77 x y=true/\decide (x=y)=eqD dx dy:=by
 cases dx<;>cases dy<;>first | exact Bool.noConfusion h | (cases ax;cases ay;exact ⟨rfl,by first | rfl | exact dec_str | exact dec_int | exact dec_bl⟩)
theorem X9:OpS K cl (λ x y H Q=>rEq x y H Q\/z4v K cl false x y H Q) dEq:=by
 intro H S x y dx dy Q ax ay p
 unfold dEq at p
 by_cases c:cmpOk dx dy=true
 ·rw [j8 c] at p
  have q:=p.2 (.bl (eqD dx dy)) H (Same.refl H) λ S'=>by rw [At]
  unfold cmpOk at c
  rw [Bool.or_eq_true] at c
  rcases c with c | c
  ·obtain ⟨h1,h2⟩:=q9G ax ay c
   exact .inl ⟨h1,by rw [h2];exact q⟩
  ·simp only [N0q,decide_eq_true_eq] at c
   exact .inr ⟨S,dx,dy,ax,ay,c.1.1.1,c.1.1.2,c.1.2,c.2,q⟩
 ·unfold Rz.guard at p
  rw [N0l c] at p
  exact p.elim
theorem q2d:OpS K cl (λ x y H Q=>rNe x y H Q\/z4v K cl true x y H Q) dNe:=by
 intro H S x y dx dy Q ax ay p
 unfold dNe at p
 by_cases c:cmpOk dx dy=true
 ·rw [j8 c] at p
  have q:=p.2 (.bl (!eqD dx dy)) H (Same.refl H) λ S'=>by rw [At]
  unfold cmpOk at c
  rw [Bool.or_eq_true] at c
  rcases c with c | c
  ·obtain ⟨h1,h2⟩:=q9G ax ay c
   exact .inl ⟨h1,by rw [h2];exact q⟩
  ·simp only [N0q,decide_eq_true_eq] at c
   exact .inr ⟨S,dx,dy,ax,ay,c.1.1.1,c.1.1.2,c.1.2,c.2,q⟩
 ·unfold Rz.guard at p
  rw [N0l c] at p
  exact p.elim
theorem v4:∀ x y d,dEq x y=.ok d->d.imm=true:=λ x y d h=>by have q:=(U3 h).2;cases q;rfl
theorem q2e:∀ x y d,dNe x y=.ok d->d.imm=true:=λ x y d h=>by have q:=(U3 h).2;cases q;rfl
theorem q4q {H:Hp}{S:Addr->Prop}{x:V}{d:D}(a:At K cl H S x d) (f:flatD d=true):q2m x=true/\∀ {y:V}{e:D},At K cl H S y e->flatD e=true->eqV y x=eqD e d:=by
 cases d<;>first | exact Bool.noConfusion f | (cases a;refine ⟨rfl,λ {y e} b g=>?_⟩;cases e<;>first | exact Bool.noConfusion g | (cases b;rfl))
theorem q4r {H:Hp}{S:Addr->Prop}{x:V}{d:D}(a:At K cl H S x d) (f:flatD d=true):∀ {vs:List V}{ds:List D},Ats K cl H S vs ds->ds.all flatD=true->vs.all q2m=true/\inV x vs=ds.any λ y=>eqD y d
 | [],[],_,_=>⟨rfl,rfl⟩
 | v::vs,e::ds,w,g=>by
  rw [Ats] at w
  rw [List.all_cons,N0q] at g
  obtain ⟨h1,h2⟩:=q4r a f w.2 g.2
  unfold inV at h2 ⊢
  rw [List.all_cons,N1i,N1i,h1,h2,(q4q w.1 g.1).1,(q4q a f).2 w.1 g.1]
  exact ⟨rfl,rfl⟩
 | [],_::_,z,_=>by rw [Ats] at z;exact z.elim
 | _::_,[],z,_=>by rw [Ats] at z;exact z.elim
theorem z5y (hu:X.A.units+64<cLine):OpR X (compareOp .In) (λ x y H Q=>∃ a o,y=.ref a/\q3y H a x o/\Q (.bl o.isSome) H):=by
 intro pins s σ H x y v u Q I rx ry h
 obtain ⟨a,o,rfl,g,q⟩:=h
 cases ry
 exact d_in (by lia) I g rx λ s3 I3=>⟨.bl o.isSome,H,I3,rfl,q⟩
theorem q9H (hu:X.A.units+64<cLine):OpR X (compareOp .NotIn) (λ x y H Q=>∃ a o,y=.ref a/\q3y H a x o/\Q (.bl (!o.isSome)) H):=by
 intro pins s σ H x y v u Q I rx ry h
 obtain ⟨a,o,rfl,g,q⟩:=h
 cases ry
 exact z36 (by lia) I g rx λ s3 I3=>⟨.bl (!o.isSome),H,I3,rfl,q⟩
theorem q0S (hu:X.A.units+64<cLine):OpR X (compareOp .In) (λ x y H Q=>rIn X.K false x y H Q\/∃ a o,y=.ref a/\q3y H a x o/\Q (.bl o.isSome) H):=OpR.or q57 (z5y hu)
theorem v5 (hu:X.A.units+64<cLine):OpR X (compareOp .NotIn) (λ x y H Q=>rIn X.K true x y H Q\/∃ a o,y=.ref a/\q3y H a x o/\Q (.bl (!o.isSome)) H):=OpR.or q58 (q9H hu)
theorem q4s (k:Ky):∀ (ks:List Ky) (vs:List V),ks.length=vs.length->(valD k ks vs).isSome=ks.any λ j=>decide (j=k)
 | [],[],_=>rfl
 | [],_::_,h=>by simp at h
 | _::_,[],h=>by simp at h
 | x::ks,v::vs,h=>by
  rw [z3c,N1i]
  by_cases e:x=k
  ·rw [N0j e,N0o e];rfl
  ·rw [N0l e,N0e e,Bool.false_or,q4s k ks vs (by simpa using h)]
theorem in_all {H:Hp}{S:Addr->Prop}{x y:V}{dx dy:D}{b:Bool}(ax:At K cl H S x dx) (ay:At K cl H S y dy) (h:inD dx dy=.ok b) :
 (∃ p xs,y=.ref p/\(SqL K H p xs\/SqT K H p xs)/\q2m x=true/\xs.all q2m=true/\inV x xs=b)\/∃ a o,y=.ref a/\q3y H a x o/\o.isSome=b:=by
 cases dy with
 | lst ys =>
  obtain ⟨c,e⟩:=U3 h
  cases e
  rw [N0q] at c
  rw [At] at ay
  obtain ⟨p,vs,rfl,_,hp,w⟩:=ay
  obtain ⟨h1,h2⟩:=q4r ax c.1 w c.2
  exact .inl ⟨p,vs,rfl,.inl (.inl hp),(q4q ax c.1).1,h1,h2⟩
 | tup ys =>
  obtain ⟨c,e⟩:=U3 h
  cases e
  rw [N0q] at c
  rw [At] at ay
  obtain ⟨p,vs,rfl,hp,w⟩:=ay
  obtain ⟨h1,h2⟩:=q4r ax c.1 w c.2
  exact .inl ⟨p,vs,rfl,.inr (SqT.of hp),(q4q ax c.1).1,h1,h2⟩
 | dct ks ds =>
  have h:(match keyD dx with | some k=>Rz.ok (ks.any λ j=>decide (j=k)) | none=>.un)=.ok b:=h
  cases e:keyD dx with
  | none=>rw [e] at h;cases h
  | some k =>
   rw [e] at h
   cases h
   have hk:=q7f ax e
   subst hk
   rw [At] at ay
   obtain ⟨p,vs,rfl,_,hp,l,w⟩:=ay
   refine .inr ⟨p,valV (ks.zip vs) k,rfl,q3y.k hp,?_⟩
   rw [q4h,q4s k ks vs (by rw [w.length];exact l)]
 | xt u =>
  cases u with
  | rc r =>
   have h:(match dPl dx with | some p=>Rz.ok (lkP r p).isSome | none=>.un)=.ok b:=h
   cases e:dPl dx with
   | none=>rw [e] at h;cases h
   | some p =>
    rw [e] at h
    cases h
    rw [q07 e] at ax
    obtain ⟨c,rfl,hc⟩:=q08 ax
    rw [At] at ay
    obtain ⟨l,⟨a,vs,rfl,_,hl,ha,hv⟩,_⟩:=ay
    refine .inr ⟨a,_,rfl,.inr ⟨_,plK p,c,ha,rfl,hc,rfl⟩,?_⟩
    rcases lk_zip p r vs hl with ⟨z1,z2⟩ | ⟨i,e',u,_,_,z1,z2⟩
    ·rw [z1,z2];rfl
    ·rw [z1,z2];rfl
  | rm R=>cases h
 | _=>cases h
theorem q0T:OpS K cl (λ x y H Q=>rIn K false x y H Q\/∃ a o,y=.ref a/\q3y H a x o/\Q (.bl o.isSome) H) dIn:=by
 intro H S x y dx dy Q ax ay p
 unfold dIn at p
 cases e:inD dx dy with
 | ok b =>
  rw [e] at p
  have q:=p.2 (.bl b) H (Same.refl H) λ S'=>by rw [At]
  rcases in_all ax ay e with ⟨r,xs,h1,h2,h3,h4,h5⟩ | ⟨a,o,h1,h2,h3⟩
  ·exact .inl ⟨r,xs,h1,h2,h3,h4,by rw [N0l N0d,h5];exact q⟩
  ·exact .inr ⟨a,o,h1,h2,by rw [h3];exact q⟩
 | er c s=>rw [e] at p;exact p.elim
 | un=>rw [e] at p;exact p.elim
theorem v6:OpS K cl (λ x y H Q=>rIn K true x y H Q\/∃ a o,y=.ref a/\q3y H a x o/\Q (.bl (!o.isSome)) H) dNotIn:=by
 intro H S x y dx dy Q ax ay p
 unfold dNotIn at p
 cases e:inD dx dy with
 | ok b =>
  rw [e] at p
  have q:=p.2 (.bl (!b)) H (Same.refl H) λ S'=>by rw [At]
  rcases in_all ax ay e with ⟨r,xs,h1,h2,h3,h4,h5⟩ | ⟨a,o,h1,h2,h3⟩
  ·exact .inl ⟨r,xs,h1,h2,h3,h4,by rw [N0j rfl,h5];exact q⟩
  ·exact .inr ⟨a,o,h1,h2,by rw [h3];exact q⟩
 | er c s=>rw [e] at p;exact p.elim
 | un=>rw [e] at p;exact p.elim
theorem q0U:∀ x y d,dIn x y=.ok d->d.imm=true:=λ x y d h=>by
 obtain ⟨b,_,h⟩:=Q1 (T:=λ r=>r=Rz.ok d) (λ o_ o_ z=>by cases z) (λ z=>by cases z) h
 cases h;rfl
theorem v7:∀ x y d,dNotIn x y=.ok d->d.imm=true:=λ x y d h=>by
 obtain ⟨b,_,h⟩:=Q1 (T:=λ r=>r=Rz.ok d) (λ o_ o_ z=>by cases z) (λ z=>by cases z) h
 cases h;rfl
theorem z2s {H:Hp}{S:Addr->Prop}{x:V}{d:D}(a:At K cl H S x d):decide (x=.non)=q1z d:=by
 cases d<;>(rw [At] at a)
 case tup=>obtain ⟨_,_,rfl,_⟩:=a;rfl
 case lst=>obtain ⟨_,_,rfl,_⟩:=a;rfl
 case dct=>obtain ⟨_,_,rfl,_⟩:=a;rfl
 case obj=>obtain ⟨_,_,_,rfl,_⟩:=a;rfl
 case xt=>obtain ⟨_,x,_⟩:=a;obtain ⟨_,rfl⟩:=x.ref;rfl
 all_goals (subst a;rfl)
theorem z5z:OpR X (compareOp .Is) (λ x y H Q=>(y=.non/\Q (.bl (decide (x=.non))) H)\/∃ a b,x=.bl a/\y=.bl b/\Q (.bl (a==b)) H):=by
 intro pins s σ H x y v u Q I rx ry h
 rcases h with h | ⟨a,b,rfl,rfl,q⟩
 ·exact z4R pins s σ H x y v u Q I rx ry h
 ·cases rx
  cases ry
  exact PySem.wpAny_is_plain rfl (fin_bl I q (by cases a<;>cases b<;>rfl))
theorem q9I:OpR X (compareOp .IsNot) (λ x y H Q=>(y=.non/\Q (.bl (!decide (x=.non))) H)\/∃ a b,x=.bl a/\y=.bl b/\Q (.bl (!(a==b))) H):=by
 intro pins s σ H x y v u Q I rx ry h
 rcases h with h | ⟨a,b,rfl,rfl,q⟩
 ·exact z2O pins s σ H x y v u Q I rx ry h
 ·cases rx
  cases ry
  exact PySem.wpAny_isNot_plain rfl (fin_bl I q (by cases a<;>cases b<;>rfl))
theorem z3w:OpS K cl (λ x y H Q=>(y=.non/\Q (.bl (decide (x=.non))) H)\/∃ a b,x=.bl a/\y=.bl b/\Q (.bl (a==b)) H) z6m:=by
 intro H S x y dx dy Q ax ay p
 cases dy with
 | non=>rw [At] at ay;exact .inl ⟨ay,by rw [z2s ax];exact p.2 _ H (Same.refl H) λ S'=>by rw [At]⟩
 | bl c =>
  cases dx with
  | bl b=>rw [At] at ax ay;exact .inr ⟨b,c,ax,ay,p.2 _ H (Same.refl H) λ S'=>by rw [At]⟩
  | _=>exact p.elim
 | _=>exact p.elim
theorem q7k:OpS K cl (λ x y H Q=>(y=.non/\Q (.bl (!decide (x=.non))) H)\/∃ a b,x=.bl a/\y=.bl b/\Q (.bl (!(a==b))) H) q6h:=by
 intro H S x y dx dy Q ax ay p
 cases dy with
 | non=>rw [At] at ay;exact .inl ⟨ay,by rw [z2s ax];exact p.2 _ H (Same.refl H) λ S'=>by rw [At]⟩
 | bl c =>
  cases dx with
  | bl b=>rw [At] at ax ay;exact .inr ⟨b,c,ax,ay,p.2 _ H (Same.refl H) λ S'=>by rw [At]⟩
  | _=>exact p.elim
 | _=>exact p.elim
theorem q9J {f:D->Bool}{g:Bool->Bool->Bool}:∀ (x y d:D),(match y with | .non=>(.ok (.bl (f x)):Rz D) | .bl c=>(match x with | .bl b=>.ok (.bl (g b c)) | _=>.un) | _=>.un)=.ok d->d.imm=true:=λ x y d h=>by
 cases y with
 | non=>exact q0O rfl h
 | bl c=>cases x with
  | bl b=>exact q0O rfl h
  | _=>cases h
 | _=>cases h
theorem z3x:∀ x y d,z6m x y=.ok d->d.imm=true:=q9J (f:=q1z) (g:=λ b c=>b==c)
theorem q7l:∀ x y d,q6h x y=.ok d->d.imm=true:=q9J (f:=λ x=>!q1z x) (g:=λ b c=>!(b==c))
theorem z3y:∀ x d,z6l x=.ok d->d.imm=true:=λ x d h=>by cases x<;>first | (cases h;rfl) | cases h
theorem z3z:∀ (H:Hp) (S:Addr->Prop) (x:V) (dx:D) (Q:VK),At K cl H S x dx->(match z6l dx with | .ok d=>d.imm=true/\∀ v,(∀ S',At K cl H S' v d)->Q v H | _=>False)->rU (λ i=>.int (-i)) x H Q:=by
 intro H S x dx Q ax p
 cases dx with
 | int i=>rw [At] at ax;exact ⟨i,ax,p.2 _ λ S'=>by rw [At]⟩
 | _=>exact p.elim
theorem W4:OpR X (binaryOp .Add) (λ x y H Q=>rI0 (λ i j=>.int (i+j)) x y H Q\/∃ i j,x=.str i/\y=.str j/\i.length+j.length<=sizeLine/\Q (.str (i++j)) H):=OpR.or z2d q3v
theorem z3A:OpR X (binaryOp .Add) (λ x y H Q=>(rI0 (λ i j=>.int (i+j)) x y H Q\/∃ i j,x=.str i/\y=.str j/\i.length+j.length<=sizeLine/\Q (.str (i++j)) H) \/
 (∃ l b xs zs,x=.ref l/\y=.ref b/\Rd H l (.lst xs)/\Rd H b (.lst zs)/\xs.length+zs.length<=sizeLine/\∀ p,H p=none->Q (.ref p) (upd H p (.lst (xs++zs))))\/z2Y X.K x y H Q):=OpR.or (OpR.or z2d q3v) (OpR.or z3q z2Z)
theorem q1Y {H:Hp}{S:Addr->Prop}{vs:List V}{ds:List D}{r:Prop}(w:Ats K cl H S vs ds) (h1:∀ v d,vs=[v]->ds=[d]->At K cl H S v d->r) (h2:(∀ d,ds≠[d])->r):r:=by
 match vs,ds,w with
 | [v],[d],w=>rw [Ats] at w;exact h1 v d rfl rfl w.1
 | _,[],_=>exact h2 λ d z=>by cases z
 | _,_::_::_,_=>exact h2 λ d z=>by cases z
 | [],[_],w=>rw [Ats] at w;exact w.elim
 | _::_::_,[_],w=>rw [Ats,Ats] at w;exact w.2.elim
theorem q6r {H:Hp}{S:Addr->Prop}:∀ {vs:List V}{ds:List D}{bs:List Bool},Ats K cl H S vs ds->blsD ds=some bs->vs=bs.map V.bl
 | [],[],bs,_,e=>by cases e;rfl
 | v::vs,d::ds,bs,w,e=>by
  rw [Ats] at w
  cases d with
  | bl b =>
   rw [blsD] at e
   cases q:blsD ds with
   | none=>rw [q] at e;cases e
   | some r =>
    rw [q] at e
    cases e
    have w1:=w.1
    rw [At] at w1
    rw [N09,w1,q6r w.2 q]
  | _=>cases e
 | [],_::_,_,z,_=>by rw [Ats] at z;exact z.elim
 | _::_,[],_,z,_=>by rw [Ats] at z;exact z.elim
theorem q7m {H:Hp}{S:Addr->Prop}:∀ {vs:List V}{ds:List D}{bs:List Int},Ats K cl H S vs ds->intsD ds=some bs->vs=bs.map V.int
 | [],[],bs,_,e=>by cases e;rfl
 | v::vs,d::ds,bs,w,e=>by
  rw [Ats] at w
  cases d with
  | int b =>
   rw [intsD] at e
   cases q:intsD ds with
   | none=>rw [q] at e;cases e
   | some r =>
    rw [q] at e
    cases e
    have w1:=w.1
    rw [At] at w1
    rw [N09,w1,q7m w.2 q]
  | _=>cases e
 | [],_::_,_,z,_=>by rw [Ats] at z;exact z.elim
 | _::_,[],_,z,_=>by rw [Ats] at z;exact z.elim
theorem q1I:q6p K cl (λ xs H Q=>∃ (a:Addr) (bs:List Bool),xs=[.ref a]/\SqL K H a (bs.map V.bl)/\Q (.bl (bs.all id)) H) z3f:=by
 intro H S vs ds Q w z
 refine q1Y w (λ v d e1 e2 a=>?_) (λ n=>?_)
 ·subst e1 e2
  cases d with
  | lst xs =>
   rw [At] at a
   obtain ⟨b,us,rfl,_,hb,wb⟩:=a
   have z:match (optR (blsD xs)).bind λ bs=>Rz.ok (D.bl (bs.all id)) with | .ok d=>∀ v,(∀ S',At K cl H S' v d)->Q v H | _=>False:=z
   cases e:blsD xs with
   | none=>rw [e] at z;exact z.elim
   | some bs =>
    rw [e] at z
    refine ⟨b,bs,rfl,?_,z _ λ S'=>by rw [At]⟩
    rw [<- q6r wb e]
    exact .inl hb
  | _=>exact z.elim
 ·match ds,n,z with
  | [],_,z=>exact z.elim
  | [d],n,_=>exact absurd rfl (n d)
  | _::_::_,_,z=>exact z.elim
theorem q9K:q6p K cl (λ xs H Q=>∃ (a:Addr) (bs:List Bool),xs=[.ref a]/\SqL K H a (bs.map V.bl)/\Q (.bl (bs.any id)) H) z5j:=by
 intro H S vs ds Q w z
 refine q1Y w (λ v d e1 e2 a=>?_) (λ n=>?_)
 ·subst e1 e2
  cases d with
  | lst xs =>
   rw [At] at a
   obtain ⟨b,us,rfl,_,hb,wb⟩:=a
   have z:match (optR (blsD xs)).bind λ bs=>Rz.ok (D.bl (bs.any id)) with | .ok d=>∀ v,(∀ S',At K cl H S' v d)->Q v H | _=>False:=z
   cases e:blsD xs with
   | none=>rw [e] at z;exact z.elim
   | some bs =>
    rw [e] at z
    refine ⟨b,bs,rfl,?_,z _ λ S'=>by rw [At]⟩
    rw [<- q6r wb e]
    exact .inl hb
  | _=>exact z.elim
 ·match ds,n,z with
  | [],_,z=>exact z.elim
  | [d],n,_=>exact absurd rfl (n d)
  | _::_::_,_,z=>exact z.elim
theorem q9L:q6p K cl (λ xs H Q=>∃ (a:Addr) (ns:List Int),xs=[.ref a]/\SqL K H a (ns.map V.int)/\Q (.int ns.sum) H) pSum:=by
 intro H S vs ds Q w z
 refine q1Y w (λ v d e1 e2 a=>?_) (λ n=>?_)
 ·subst e1 e2
  cases d with
  | lst xs =>
   rw [At] at a
   obtain ⟨b,us,rfl,_,hb,wb⟩:=a
   have z:match (optR (intsD xs)).bind λ bs=>Rz.ok (D.int bs.sum) with | .ok d=>∀ v,(∀ S',At K cl H S' v d)->Q v H | _=>False:=z
   cases e:intsD xs with
   | none=>rw [e] at z;exact z.elim
   | some bs =>
    rw [e] at z
    refine ⟨b,bs,rfl,?_,z _ λ S'=>by rw [At]⟩
    rw [<- q7m wb e]
    exact .inl hb
  | _=>exact z.elim
 ·match ds,n,z with
  | [],_,z=>exact z.elim
  | [d],n,_=>exact absurd rfl (n d)
  | _::_::_,_,z=>exact z.elim
theorem q9M:q6p K cl (λ xs H Q=>(∃ i,xs=[.int i]/\Q (.int i) H)\/∃ k,xs=[.bl k]/\Q (.int (if k then 1 else 0)) H) z5k:=by
 intro H S vs ds Q w z
 refine q1Y w (λ v d e1 e2 a=>?_) (λ n=>?_)
 ·subst e1 e2
  cases d with
  | int i=>rw [At] at a;subst a;exact .inl ⟨i,rfl,z _ λ S'=>by rw [At]⟩
  | bl i=>rw [At] at a;subst a;exact .inr ⟨i,rfl,z _ λ S'=>by rw [At]⟩
  | _=>exact z.elim
 ·match ds,n,z with
  | [],_,z=>exact z.elim
  | [d],n,_=>exact absurd rfl (n d)
  | _::_::_,_,z=>exact z.elim
theorem q4t {f:D->Rz D}(h:∀ x d,f x=.ok d->d.big=false):∀ ds d,z3e f ds=.ok d->d.big=false:=λ ds d e=>by
 match ds,e with
 | [x],e=>exact h x d e
 | [],e=>cases e
 | _::_::_,e=>cases e
theorem q4u:∀ ds d,z3f ds=.ok d->d.big=false:=q4t λ x d h=>by
 cases x<;>first | (cases h;done) | skip
 obtain ⟨b,_,h⟩:=Q1 (T:=λ r=>r=Rz.ok d) (λ o_ o_ z=>by cases z) (λ z=>by cases z) h
 cases h;rfl
theorem z3B:∀ ds d,z5j ds=.ok d->d.big=false:=q4t λ x d h=>by
 cases x<;>first | (cases h;done) | skip
 obtain ⟨b,_,h⟩:=Q1 (T:=λ r=>r=Rz.ok d) (λ o_ o_ z=>by cases z) (λ z=>by cases z) h
 cases h;rfl
theorem z3C:∀ ds d,pSum ds=.ok d->d.big=false:=q4t λ x d h=>by
 cases x<;>first | (cases h;done) | skip
 obtain ⟨b,_,h⟩:=Q1 (T:=λ r=>r=Rz.ok d) (λ o_ o_ z=>by cases z) (λ z=>by cases z) h
 cases h;rfl
theorem z3D:∀ ds d,z5k ds=.ok d->d.big=false:=q4t λ x d h=>by
 cases x<;>first | (cases h;rfl) | (cases h;done)
theorem q3K (hc:X.calm=true):V2 X (.type "list") (λ xs H Q=>(∃ p ys,xs=[.ref p]/\(SqL X.K H p ys\/SqT X.K H p ys)/\∀ l,H l=none->Q (.ref l) (upd H l (.lst ys)))\/∃ a kvs,xs=[.ref a]/\H a=some (.dK kvs)/\∀ l,H l=none->Q (.ref l) (upd H l (.lst (keysV kvs)))) :=
 V2.or q5b (q3q hc)
theorem q7n {H:Hp}{S:Addr->Prop}:∀ (ks:List Ky) (vs:List V),ks.length=vs.length->Ats K cl H S (keysV (ks.zip vs)) (ks.map kyD)
 | [],[],_=>Ats.nil
 | [],_::_,h=>by simp at h
 | _::_,[],h=>by simp at h
 | k::ks,v::vs,h=>by
  have e:keysV ((k::ks).zip (v::vs))=kV k::keysV (ks.zip vs):=rfl
  rw [e,N09]
  refine Ats.cons ?_ (q7n ks vs (by simpa using h))
  cases k<;>(show At K cl H S _ _;unfold kyD kV;rw [At])
theorem q3L:z3m K cl (λ xs H Q=>(∃ p ys,xs=[.ref p]/\(SqL K H p ys\/SqT K H p ys)/\∀ l,H l=none->Q (.ref l) (upd H l (.lst ys)))\/∃ a kvs,xs=[.ref a]/\H a=some (.dK kvs)/\∀ l,H l=none->Q (.ref l) (upd H l (.lst (keysV kvs)))) pList:=by
 intro H S vs ds Q cs w z
 refine q1Y w (λ v d e1 e2 a=>?_) (λ n=>?_)
 ·subst e1 e2
  cases d with
  | lst xs =>
   rw [At] at a
   obtain ⟨b,us,rfl,_,hb,wb⟩:=a
   refine .inl ⟨b,us,rfl,.inl (.inl hb),λ l hl=>?_⟩
   obtain ⟨q1,q2⟩:=q0l hl wb (cs l hl)
   exact z _ _ (Q5 hl _) q1 q2
  | tup xs =>
   rw [At] at a
   obtain ⟨b,us,rfl,hb,wb⟩:=a
   refine .inl ⟨b,us,rfl,.inr (SqT.of hb),λ l hl=>?_⟩
   obtain ⟨q1,q2⟩:=q0l hl wb (cs l hl)
   exact z _ _ (Q5 hl _) q1 q2
  | dct ks xs =>
   rw [At] at a
   obtain ⟨b,us,rfl,_,hb,kl,wb⟩:=a
   refine .inr ⟨b,_,rfl,hb,λ l hl=>?_⟩
   obtain ⟨q1,q2⟩:=q0l hl (q7n (K:=K) (cl:=cl) (H:=H) (S:=S) ks us (by rw [wb.length];exact kl)) (cs l hl)
   exact z _ _ (Q5 hl _) q1 q2
  | _=>exact z.elim
 ·match ds,n,z with
  | [],_,z=>exact z.elim
  | [d],n,_=>exact absurd rfl (n d)
  | _::_::_,_,z=>exact z.elim
theorem q1o:z3m K cl (λ xs H Q=>∃ p ys,xs=[.ref p]/\((SqL K H p ys/\∀ l,H l=none->Q (.ref l) (upd H l (.tup ys)))\/(SqT K H p ys/\Q (.ref p) H))) pTuple:=by
 intro H S vs ds Q cs w z
 refine q1Y w (λ v d e1 e2 a=>?_) (λ n=>?_)
 ·subst e1 e2
  cases d with
  | lst xs =>
   rw [At] at a
   obtain ⟨b,us,rfl,_,hb,wb⟩:=a
   refine ⟨b,us,rfl,.inl ⟨.inl hb,λ l hl=>z _ _ (Q5 hl _) ?_ (Nw.small rfl)⟩⟩
   rw [At]
   exact ⟨l,us,rfl,j0,wb.same (Q5 hl _)⟩
  | tup xs =>
   have a':=a
   rw [At] at a
   obtain ⟨b,us,rfl,hb,wb⟩:=a
   exact ⟨b,us,rfl,.inr ⟨SqT.of hb,z _ H (Same.refl H) a' (Nw.small rfl)⟩⟩
  | _=>exact z.elim
 ·match ds,n,z with
  | [],_,z=>exact z.elim
  | [d],n,_=>exact absurd rfl (n d)
  | _::_::_,_,z=>exact z.elim
theorem z7A {H:Hp}{S:Addr->Prop}{x:V}{d:D}{t:String}(a:At K cl H S x d) (e:tyD d=some t):TyOf K H x (.type t):=by
 cases d<;>cases e<;>(rw [At] at a)
 ·subst a;exact .non
 ·subst a;exact .bl _
 ·subst a;exact .int _
 ·subst a;exact .str _
 ·obtain ⟨b,vs,rfl,hb,_⟩:=a;exact .tup hb
 ·obtain ⟨b,vs,rfl,_,hb,_⟩:=a
  rcases hb with hb | ⟨o,hb⟩
  ·exact .lst hb
  ·exact .frz hb
 ·obtain ⟨b,vs,rfl,_,hb,_⟩:=a;exact .dK hb
noncomputable def tys:List String:=["NoneType","bool","int","str","tuple","list","dict"]
theorem z5A {d:D}{t:String}(e:tyD d=some t):t∈tys:=by
 cases d<;>cases e<;>decide
theorem q1p {κ:List Kd}{m:Kd}{fa:Bool}{a:Expr}{ga:GE}{T:String}{Tx:Str}{pos p1 p2:Pos}(hg:Gl X "isinstance") (hm:X.mg "isinstance" = none) (hv:bootBuiltins "isinstance" = some (.builtin "isinstance")) (hgT:Gl X Tx) (hmT:X.mg Tx=none) (hvT:bootBuiltins Tx=some (.type T)) (ha:DE X C κ .v fa a ga)
 (hk:∀ t∈tys,PySem.W.kitOne X.K (.type t) (.type T)=some (t==T || (t=="bool"&&T=="int")))
 (hn:Tx≠"__name__":=by decide) (hdb:(Tx==("__debug__" : Str))=false:=by decide)
 (he:starEach [a,.Name Tx p2] X.env=(false,eval a X.env)::starEach [.Name Tx p2] X.env:=by rfl) (he2:starEach [.Name Tx p2] X.env=(false,eval (.Name Tx p2) X.env)::starEach [] X.env:=by rfl) (hpl:(backTo pos (starEach [.Name Tx p2] X.env)).any (·.1)=false:=by rfl) :
 DE X C κ m true (.Call (.Name "isinstance" p1) [a,.Name Tx p2] [] pos) (gUn (dIsTy T) ga):=by
 obtain ⟨ta,pa,da⟩:=ha
 refine ⟨_,q70 q6g hg hm hv (Y5 pa (Y5 (z2I (v:=.ty T) hgT hmT hvT rfl hn hdb) q1v he2) he) (by decide) (by decide) he hpl,λ F σ H δ rx Q z=>da F σ H δ rx _ ?_⟩
 obtain ⟨d1,e1,z⟩:=Q3 z
 rw [e1]
 intro v H1 s1 a1 _
 unfold dIsTy at z
 cases e:tyD d1 with
 | none=>rw [e] at z;exact z.elim
 | some t =>
  rw [e] at z
  exact ⟨v,T,.type t,_,rfl,z7A a1 e,hk t (z5A e),z _ H1 s1 (by rw [At]) λ o_=>Nw.small rfl⟩
end
section
variable {X:Cx}{C:Dc}{L:List Kd×List Nat}{κ:List Kd}{kx:Kd}{fe:Bool}{elt iter:Expr}{ifs:List Expr}{ge:GE}{gi:GI}{gt:GT}{pos px:Pos}{x:Str}{sc:Scope}
theorem z3E {t:TE}{m:Kd}(dt:∀ F σ H δ,Rx X.K C κ F σ H δ->∀ Q,Post X.K C F .v true H Q (ge δ)->t σ H Q):∀ F σ H δ,Rx X.K C κ F σ H δ->∀ Q,Post X.K C F m true H Q (q9x ge δ)->t σ H Q:=by
 intro F σ H δ r Q p
 refine dt F σ H δ r Q ?_
 obtain ⟨d,e1,p⟩:=Q3 p
 obtain ⟨hi,p⟩:=x6 p
 rw [e1]
 intro v H1 s1 a n
 have n:=n rfl
 cases d with
 | lst xs =>
  obtain ⟨l,⟨b,vs,rfl,rfl,hb,w⟩,hl⟩:=n rfl
  have w2:∀ S,Ats X.K C.cl H1 S vs xs:=λ S=>w.imm TupK.refl hi
  have nb:=hl b N00
  refine p _ H1 s1 ?_ λ o_ o_=>⟨[b],⟨b,vs,rfl,rfl,hb,w2 _⟩,hl⟩
  rw [At]
  exact ⟨b,vs,rfl,r.new m nb,.inl hb,w2 _⟩
 | dct ks xs =>
  obtain ⟨l,⟨b,vs,rfl,rfl,hb,kl,w⟩,hl⟩:=n rfl
  have w2:∀ S,Ats X.K C.cl H1 S vs xs:=λ S=>w.imm TupK.refl hi
  have nb:=hl b N00
  refine p _ H1 s1 ?_ λ o_ o_=>⟨[b],⟨b,vs,rfl,rfl,hb,kl,w2 _⟩,hl⟩
  rw [At]
  exact ⟨b,vs,rfl,r.new m nb,hb,kl,w2 _⟩
 | obj _ _ _=>exact absurd hi (by simp [D.imI,D.imm])
 | xt _=>exact absurd hi (by simp [D.imI,D.imm])
 | tup xs=>exact p _ H1 s1 (At.imm TupK.refl hi a) λ o_=>Nw.small rfl
 | non=>exact p _ H1 s1 (At.imm TupK.refl hi a) λ o_=>Nw.small rfl
 | bl _=>exact p _ H1 s1 (At.imm TupK.refl hi a) λ o_=>Nw.small rfl
 | int _=>exact p _ H1 s1 (At.imm TupK.refl hi a) λ o_=>Nw.small rfl
 | str _=>exact p _ H1 s1 (At.imm TupK.refl hi a) λ o_=>Nw.small rfl
theorem q7o {i:Nat}{y:Str}{k:Kd}{py spos:Pos}(caps:q49) (hkk:k=.b\/k=.s) (hkl:i<κ.length) (hN:X.N.Nodup) (hi':X.N[i]? = some y) (hy:Loc X.env.scope y) (hk:q1k X.env.scope sc X.N x caps=true) (hc:X.calm=true) (hi:DI X C κ kx (.Name x px) iter gi)
 (ht:∀ z,z5v (cxC X x caps sc z) C (kx::capK caps κ) ifs gt) (he:∀ z,DE (cxC X x caps sc z) C (kx::capK caps κ) .v fe elt ge)
 (hsw:swapsWith (.ListComp elt [⟨.Name x px,iter,ifs,0⟩] sc pos) (some (.Name y py)) spos.line X.env=pure true:=by rfl)
 (hs:∀ v,foldedSetIterable iter X.env v=pure v:=by intro _;rfl) (hf:X.fn y=true\/X.env.scope.names.lookup y=some .local:=by nofun) (hni:C.io.contains i=false:=by rfl) :
 DSt X C L κ (κ.set i k) (.Assign [.Name y py] (.ListComp elt [⟨.Name x px,iter,ifs,0⟩] sc pos) spos) (X4 i (q9x (U2 gi (caps.map (·.2)) gt ge))):=by
 obtain ⟨wi,pw,dw⟩:=hi
 obtain ⟨tt,htt⟩:=Classical.axiomOfChoice ht
 obtain ⟨te,hte⟩:=Classical.axiomOfChoice he
 exact z3v hkk hkl (z3a hN hi' hy hk hc pw (λ z=>(htt z).1) (λ z=>(hte z).1) hsw hs hf) (z3E (q7j dw (λ z=>(htt z).2) (λ z=>(hte z).2))) (q09 hni)
end
theorem q4v {X:Cx}{C:Dc}{κ:List Kd}{m:Kd}{x:Str}{i:Int}{t:Tok}{pos:Pos}(hg:Gl X x) (hm:X.mg x=some (.int i t)) (hd:(x==("__debug__" : Str))=false:=by decide):DE X C κ m true (.Name x pos) (gC (.int i)) :=
 ⟨_,q68 (v:=.int i) hg hm ⟨t,rfl⟩ hd,λ F σ H δ r Q p=>p _ H (Same.refl H) (by rw [At]) λ o_=>Nw.small rfl⟩
theorem z1z {X:Cx}{C:Dc}{κ:List Kd}{m:Kd}{fa fb fc:Bool}{a b c:Expr}{ga gb gc:GE}{pos:Pos}{op op':CmpOp}{r r':R2}{p p':D->D->Rz D}(ho:OpR X (compareOp op) r) (ho':OpR X (compareOp op') r') (hp:OpS X.K C.cl r p) (hp':OpS X.K C.cl r' p') (hi:∀ x y d,p x y=.ok d->d.imm=true) (hi':∀ x y d,p' x y=.ok d->d.imm=true)
 (ha:DE X C κ .v fa a ga) (hb:DE X C κ .v fb b gb) (hc:DE X C κ .v fc c gc) (hm:lastMarks [op,op'] [b,c]=false:=by with_unfolding_all rfl):DE X C κ m true (.Compare a [op,op'] [b,c] pos) (gChain p p' ga gb gc):=by
 obtain ⟨ta,pa,da⟩:=ha
 obtain ⟨tb,pb,db⟩:=hb
 obtain ⟨tc,pc,dc⟩:=hc
 refine ⟨_,z15 ho ho' pa pb pc hm,λ F σ H δ rx Q z=>da F σ H δ rx _ ?_⟩
 obtain ⟨d1,e1,z⟩:=Q3 z
 obtain ⟨d2,e2,z⟩:=Q3 z
 obtain ⟨d3,e3,z⟩:=Q3 z
 rw [e1]
 intro v H1 s1 a1 _
 refine db F σ H1 δ (rx.same s1) _ ?_
 rw [e2]
 intro u H2 s2 a2 _
 refine hp H2 _ v u d1 d2 _ (a1.same s2) a2 ?_
 rw [e3]
 refine ⟨hi _ _ _ e3,λ w H3 s3 aw=>?_⟩
 have s13:=(s1.trans s2).trans s3
 cases d3 with
 | bl k =>
  have q:=aw (λ o_=>True)
  rw [At] at q
  refine ⟨k,q,?_⟩
  cases k with
  | false=>exact z1h (z _ H3 s13 (by rw [At]) λ o_=>Nw.small rfl)
  | true =>
   refine z1i (dc F σ H3 δ (rx.same s13) _ ?_)
   obtain ⟨d4,e4,z⟩:=Q3 z
   rw [e4]
   intro w4 H4 s4 a4 _
   refine hp' H4 _ u w4 d2 d4 Q (a2.same (s3.trans s4)) a4 ?_
   cases q5:p' d2 d4 with
   | ok d5 =>
    rw [q5] at z
    have im:=hi' _ _ _ q5
    exact ⟨im,λ w5 H5 s5 a5=>z w5 H5 ((s13.trans s4).trans s5) (a5 _) λ o_=>Nw.small (by cases d5<;>first | rfl | (rw [D.imm] at im;cases im))⟩
   | er c s=>rw [q5] at z;exact z.elim
   | un=>rw [q5] at z;exact z.elim
 | _=>exact z.elim
theorem z5B {X:Cx}{C:Dc}{κ:List Kd}{fa:Bool}{a:Expr}{ga:GE}{x:Str}{pos p2:Pos}{ad:Addr}{ob:Obj}{its:Array Value}{n:Nat}{ws:List Str}(hg:Gl X x) (hm:X.mg x=some (.ref ad)) (hk:X.K.lookup ad=some ob) (hc:ob.cls=.type "tuple") (hd:ob.data=.seq its n) (hz:its.size<=sizeLine) (hv:Vals (ws.map V.str) its.toList)
 (ha:DE X C κ .v fa a ga) (hmk:behindInMarks .In (.Name x p2)=false:=by rfl) (hdb:(x==("__debug__" : Str))=false:=by decide):DT X C κ (.Compare a [.In] [.Name x p2] pos) (gB (gUn (dInW ws) ga)):=by
 obtain ⟨ta,pa,da⟩:=ha
 refine ⟨_,q8Y q57 pa (q68 (v:=.ref ad) hg hm rfl hdb) hmk,λ F σ H δ rx Q z=>da F σ H δ rx _ ?_⟩
 have z:PostT H Q (((ga δ).bind (dInW ws)).bind λ x=>match x with | .bl c=>.ok c | _=>.un):=z
 obtain ⟨d0,e0,z⟩:=Z7 (T:=PostT H Q) (λ o_ o_ q=>q) (λ q=>q) z
 obtain ⟨d1,e1,e0⟩:=Z7 (T:=λ r=>r=Rz.ok d0) (λ o_ o_ z=>by cases z) (λ z=>by cases z) e0
 rw [e1]
 intro v H1 s1 a1 _
 cases d1 with
 | str y =>
  cases e0
  rw [At] at a1
  subst a1
  refine ⟨ad,ws.map V.str,rfl,.inr (.inr ⟨ob,its,n,hk,hc,hd,hz,hv⟩),rfl,by rw [List.all_map,N21];intro _ _;rfl,?_⟩
  have e:inV (.str y) (ws.map V.str)=decide (y∈ws):=by
   unfold inV
   rw [List.any_map,N1y,List.any_eq_true,N1l]
   constructor
   ·rintro ⟨q,hq,e⟩
    have e:(q==y)=true:=e
    rw [<- eq_of_beq e]
    exact hq
   ·intro h
    exact ⟨y,h,beq_self_eq_true y⟩
  rw [N0l N0d,e]
  exact ⟨_,rfl,z H1 s1⟩
 | _=>cases e0
theorem q0m:bootBuiltins "tuple" = some (.type "tuple"):=by decide +kernel
theorem V9:bootBuiltins "list" = some (.type "list"):=by decide +kernel
theorem q5r:bootBuiltins "str" = some (.type "str"):=by decide +kernel
theorem q9N:bootBuiltins "int" = some (.type "int"):=by decide +kernel
theorem J8:bootBuiltins "isinstance" = some (.builtin "isinstance"):=by decide +kernel
theorem q1J:bootBuiltins "all" = some (.builtin "all"):=by decide +kernel
theorem q9O:bootBuiltins "any" = some (.builtin "any"):=by decide +kernel
theorem q9P:bootBuiltins "sum" = some (.builtin "sum"):=by decide +kernel
theorem q2Y {K:PySem.W.Frag}{T:String}(hT:T∈tys):∀ t∈tys,PySem.W.kitOne K (.type t) (.type T)=some (t==T || (t=="bool"&&T=="int")):=by
 intro t ht
 simp only [tys,N0c,N1d,or_false] at ht hT
 rcases ht with rfl | rfl | rfl | rfl | rfl | rfl | rfl<;>rcases hT with rfl | rfl | rfl | rfl | rfl | rfl | rfl<;>rfl
section
variable {X:Cx}{C:Dc}{L:List Kd×List Nat}{κ κ':List Kd}{m:Kd}{fr fa fb fk:Bool}{a b e o:Expr}{es:List Expr}{ga gb ge gk:GE}{gs:GA}{pos p apos:Pos}{x:Str}{c:Nat}{f:Str}
set_option tactic.hygienic true in
theorem q5s (cls:Cls X.K (C.cl c)) (na:Y1 X.K (C.cl c) f) (ha:DE X C κ m fa e ga) (hb:attributeBase e f X.env (eval e X.env)=eval e X.env:=by rfl):DE X C κ m false (.Attribute e f pos) (gUn (z1x c f) ga):=by
 obtain ⟨t,pt,dt⟩:=ha
 refine ⟨_,q92 pt hb,λ F σ H δ r Q z=>dt F σ H δ r _ ?_⟩
 obtain ⟨d,e1,z⟩:=Q3 z
 rw [e1]
 intro v H1 s1 a1 _
 cases d with
 | obj c' f' d =>
  have z:Post X.K C F m false H Q (Rz.guard (c'=c/\f'=f) (.ok d)):=z
  obtain ⟨hh,z2⟩:=x6 z
  clear z
  obtain ⟨rfl,rfl⟩:=hh
  rw [At] at a1
  obtain ⟨a,dx,u,rfl,sa,ha,wu⟩:=a1
  exact ⟨a,_,dx,_,u,rfl,ha,cls,na,by simp [List.lookup],z2 u H1 s1 wu (λ z=>by cases z)⟩
 | _=>exact z.elim
theorem q7p {K:PySem.W.Frag}{cl:Nat->Addr}{H:Hp}{S:Addr->Prop}{v:V}{d:D}{mm:Str}(a:At K cl H S v d) (i:isObj c mm d=true):∃ q dx fs,v=.ref q/\H q=some (.ins (cl c) dx fs)/\fs.lookup mm=none:=by
 cases d with
 | obj c' f' d =>
  simp only [isObj,N0q,decide_eq_true_eq,Bool.not_eq_true',decide_eq_false_iff_not] at i
  obtain ⟨rfl,ne⟩:=i
  rw [At] at a
  obtain ⟨q,dx,u,rfl,_,h,_⟩:=a
  refine ⟨q,dx,_,rfl,h,?_⟩
  have e:(mm==f')=false:=by
   cases h:mm==f' with
   | false=>rfl
   | true=>exact absurd (eq_of_beq h).symm ne
  simp only [List.lookup,e]
 | _=>cases i
theorem q7q {F:PF}{n:Nat}{mm:Str}{ta:TE}{t:TA}(hlen:∀ δ ds,gs δ=.ok ds->ds.length+1=n) (da:∀ F σ H δ,Rx X.K C κ F σ H δ->∀ Q,Post X.K C F .v fa H Q (ga δ)->ta σ H Q)
 (dt:∀ F σ H δ,Rx X.K C κ F σ H δ->∀ Q,q9z X.K C F .v H Q (gs δ)->t σ H Q):∀ Fo σ H δ,Rx X.K C κ Fo σ H δ->∀ Q,Post X.K C Fo m true H Q (u5 c mm F ga gs δ)->z2T (C.cl c) mm (spD X.K C.cl n F) [] E0 ta t σ H Q:=by
 intro Fo σ H δ r Q z
 refine da Fo σ H δ r _ ?_
 obtain ⟨d,e1,z⟩:=Q3 z
 obtain ⟨ds,e2,z⟩:=Q3 z
 obtain ⟨hi,z⟩:=x6 z
 rw [e1]
 intro v H1 s1 a1 _
 obtain ⟨q,dx,fs,rfl,hq,hl⟩:=q7p a1 hi
 refine ⟨q,dx,fs,rfl,hq,hl,dt Fo σ H1 δ (r.same s1) _ ?_⟩
 rw [e2]
 intro vs H2 s2 a2
 rw [N10]
 have s12:=s1.trans s2
 cases q':F (d::ds) with
 | ok d' =>
  rw [q'] at z
  refine ⟨d::ds,d',⟨by rw [N0h];exact hlen δ ds e2,(r.same s12).sun⟩,Ats.cons ((a1.same s2).sub λ o_ o_ o_=>trivial) (a2.sub λ o_ o_ o_=>trivial),q',λ v H' s' a n=>z v H' (s12.trans s') (a.sub λ b h o_=>(r.same s12).new m h) λ o_=>?_⟩
  intro hb
  obtain ⟨l,o,hn⟩:=n hb
  exact ⟨l,o.mono TupK.refl (λ o_ o_ o_ e=>e) (λ o_ o_ o_ e=>e) λ b h o_=>(r.same s12).new m h,λ b mb=>s12.free (hn b mb)⟩
 | er c s=>rw [q'] at z;exact z.elim
 | un=>rw [q'] at z;exact z.elim
theorem q1Z {ps:List Str}{fx:Addr}{fd:FuncData}{k n:Nat}{F:PF}{mm:Str}{pl:Sem Bool}(cls:Cls X.K (C.cl c)) (hm:Meth X.K (C.cl c) mm fx) (G:FnOk X.prog X.w X.K X.mg X.base CX0 k fx fd ps (spD X.K C.cl n F)) (hr:Room k X.A) (hb:y9 X.K fd ps []) (hlen:∀ δ ds,gs δ=.ok ds->ds.length+1=n)
 (ho:DE X C κ .v fa o ga) (ha:DA X C κ .v (e::es) gs) (hst:starEach (e::es) X.env=(false,eval e X.env)::starEach es X.env:=by rfl) (hpl:(backTo pos (starEach es X.env)).any (·.1)=false:=by rfl)
 (ht:eval (.Call (.Attribute o mm apos) (e::es) [] pos) X.env=(do
  let ov <- eval o X.env
  standAt apos.atName
  let (f,first) <- holding [ov] (getMethod ov mm pl)
  callWith pos f first (backTo pos (starEach (e::es) X.env)) (backToKw pos (keywordEach [] X.env))):=by rfl):DE X C κ m true (.Call (.Attribute o mm apos) (e::es) [] pos) (u5 c mm F ga gs):=by
 obtain ⟨ta,pa,da⟩:=ho
 obtain ⟨t,pt,dt⟩:=ha
 exact ⟨_,q95 pa cls hm G hr hb .nil q5e pt hst hpl ht,q7q hlen da dt⟩
theorem q17 {ps:List Str}{fx:Addr}{fd:FuncData}{k:Nat}{F:PF}{mm:Str}{pl:Sem Bool}(cls:Cls X.K (C.cl c)) (hm:Meth X.K (C.cl c) mm fx) (G:FnOk X.prog X.w X.K X.mg X.base CX0 k fx fd ps (spD X.K C.cl 1 F)) (hr:Room k X.A) (hb:y9 X.K fd ps [])
 (ho:DE X C κ .v fa o ga)
 (ht:eval (.Call (.Attribute o mm apos) [] [] pos) X.env=(do
  let ov <- eval o X.env
  standAt apos.atName
  let (f,first) <- holding [ov] (getMethod ov mm pl)
  callWith pos f first (backTo pos (starEach [] X.env)) (backToKw pos (keywordEach [] X.env))):=by rfl):DE X C κ m true (.Call (.Attribute o mm apos) [] [] pos) (u5 c mm F ga gNil):=by
 obtain ⟨ta,pa,da⟩:=ho
 exact ⟨_,z19 pa cls hm G hr hb .nil q5e ht,q7q (λ δ ds h=>by rw [j4 δ ds h]) da λ F σ H δ r Q z=>z [] H (Same.refl H) Ats.nil⟩
noncomputable def spInit (C:Addr) (f:Str):Sp:=λ vs H Q o_=>∃ (q dx:Addr),vs=[.ref q]/\H q=some (.ins C dx [])/\∀ (d:Addr),H d=none->Q .non (upd (upd H d (.dK [])) q (.ins C dx [(f,.ref d)]))
theorem z3F {ps:List Str}{fx:Addr}{fd:FuncData}{k:Nat}{x:Str}(M:Mk X.K (C.cl c) fx) (G:FnOk X.prog X.w X.K X.mg X.base CX0 k fx fd ps (spInit (C.cl c) f)) (hr:Room (k+1) X.A) (hg:Gl X x) (hm:X.mg x=some (.ref (C.cl c))) (hb:y9 X.K fd ps []) (hdb:(x==("__debug__" : Str))=false:=by decide) :
 DE X C κ m true (.Call (.Name x p) [] [] pos) (gC (.obj c f (.dct [] []))):=by
 refine ⟨_,z1b M G hr hg hm hb .nil q5e hdb,λ F σ H δ r Q z q dx hq hdx ne=>?_⟩
 refine ⟨q,dx,rfl,j0,λ d hd=>⟨rfl,?_⟩⟩
 have s0:Same H (upd (upd H dx (.own q)) q (.ins (C.cl c) dx [])):=(Q5 hdx _).trans (Q5 (by rw [upd_ne (N1f ne)];exact hq) _)
 have nqd:q≠d:=λ z=>by rw [<- z,j0] at hd;cases hd
 have hd0:H d=none:=s0.free hd
 have s1:Same H (upd (upd (upd (upd H dx (.own q)) q (.ins (C.cl c) dx [])) d (.dK [])) q (.ins (C.cl c) dx [(f,.ref d)])):=λ b u e=>by
  rw [upd_ne (J4 e hq),upd_ne (J4 e hd0)]
  exact s0 b u e
 refine z _ _ s1 ?_ λ o_ o_=>⟨[q,d],⟨q,dx,d,[],rfl,rfl,nqd,j0,by rw [upd_ne (N1f nqd),j0];rfl,rfl,Ats.nil⟩,λ b mb=>?_⟩
 ·rw [At]
  refine ⟨q,dx,.ref d,rfl,r.new m hq,j0,?_⟩
  rw [At]
  exact ⟨d,[],rfl,r.new m hd0,by rw [upd_ne (N1f nqd),j0];rfl,rfl,Ats.nil⟩
 ·rcases N0c.mp mb with rfl | mb
  ·exact hq
  ·rw [N0f.mp mb];exact hd0
noncomputable def q9Q:List Nat->TGs
 | []=>L2.gNil
 | i::r=>L2.gCons (L2.q7S i) (q9Q r)
noncomputable def setKs (κ:List Kd) (is:List Nat):List Kd:=is.foldl (λ κ i=>κ.set i .s) κ
theorem q9R {K:PySem.W.Frag}:∀ {is:List Nat}{κ:List Kd}{φ:Nat->List Addr}{σ:L2.St}{H:Hp}{δ δ':DS}{vs:List V}{ds:List D}{Q:L2.St->Hp->Prop}{F0:Addr->Prop}{H0:Hp},Rs K C κ φ σ H δ->(∀ i∈is,i<κ.length/\i∉C.io)->Ats K C.cl H (Sk C (Fo φ) .s) vs ds->setT is ds δ=some δ'->Kp F0 H0 (Fo φ) H ->
 (∀ φ' σ',Rs K C (setKs κ is) φ' σ' H δ'->Kp F0 H0 (Fo φ') H->Q σ' H)->q9Q is vs σ H Q
 | [],κ,φ,σ,H,δ,δ',vs,ds,Q,F0,H0,r,_,w,e,kp,q=>by
  match vs,ds,w with
  | [],[],_=>cases e;exact ⟨rfl,q φ σ r kp⟩
  | _::_,[],w=>rw [Ats] at w;exact w.elim
  | _,_::_,_=>cases e
 | i::is,κ,φ,σ,H,δ,δ',vs,ds,Q,F0,H0,r,hi,w,e,kp,q=>by
  match vs,ds,w with
  | v::vs,d::ds,w =>
   rw [Ats] at w
   have e:setT is ds (δ.set i (some d))=some δ':=e
   obtain ⟨h1,h2⟩:=hi i N00
   obtain ⟨r2,kp2⟩:=r.put (k:=.s) (l:=[]) (Same.refl H) h1 (show SlOk K C (Fo (φset φ i [])) H [] v d .s from w.1.sub λ b z o_=>⟨z.1,λ f=>z.2 (q0A f)⟩) (λ a m=>absurd m (by simp)) h2
   refine ⟨v,vs,rfl,?_⟩
   exact q9R r2 (λ j hj=>by rw [N1g];exact hi j (N02 _ hj)) (w.2.sub λ b z o_=>⟨z.1,λ f=>z.2 (q0A f)⟩) e (kp.trans kp2) q
  | _,[],_=>cases e
  | [],_::_,w=>rw [Ats] at w;exact w.elim
theorem z5C {is:List Nat}{k:Nat}{tpos:Pos}(his:∀ i∈is,i<κ.length/\C.io.contains i=false) (hc:X.calm=true) (hg:PGs X es (q9Q is)) (hn:(assignEach es X.env).length=is.length) (h:DE X C κ .s fr e ge)
 (hst:(assignEach es X.env).findIdx? (·.1)=none:=by rfl) (hs:swapsWithSole [.Tuple es k tpos] e pos.line X.env=pure false:=by rfl) (hw:swappedStores [.Tuple es k tpos] e X.env=pure none:=by rfl)
 (h1:(assignEach [.Tuple es k tpos] X.env).map (·.2)=[assign (.Tuple es k tpos) X.env]:=by rfl):DSt X C L κ (setKs κ is) (.Assign [.Tuple es k tpos] e pos) (z4t is ge):=by
 obtain ⟨t,pt,dt⟩:=h
 refine ⟨_,z2c pt (z4L hc hg hn hst) hs hw h1,λ φ σ H δ r D p=>dt (Fo φ) σ H δ r.rx _ ?_⟩
 obtain ⟨d,e1,p⟩:=Z4 p
 rw [e1]
 intro v H1 s1 a1 _
 cases d with
 | tup ds =>
  have p:FinS X.K C L (setKs κ is) (Fo φ) H D ((optR (setT is ds δ)).bind λ δ'=>.ok (.nx δ')):=p
  cases e2:setT is ds δ with
  | none=>rw [e2] at p;exact p.elim
  | some δ' =>
   rw [e2] at p
   rw [At] at a1
   obtain ⟨q,vs,rfl,hq,w⟩:=a1
   have hl:∀ {is:List Nat}{ds:List Dl.D}{δ δ':DS},setT is ds δ=some δ'->ds.length=is.length:=by
    intro is
    induction is with
    | nil=>intro ds δ δ' h;cases ds with
     | nil=>rfl
     | cons _ _=>cases h
    | cons i is ih=>intro ds δ δ' h;cases ds with
     | nil=>cases h
     | cons d ds=>have h:setT is ds (δ.set i (some d))=some δ':=h;rw [N0h,N0h,ih h]
   exact ⟨q,vs,rfl,SqT.of hq,by rw [w.length];exact hl e2,q9R (r.same s1) (λ i hi=>⟨(his i hi).1,q09 (his i hi).2⟩) w e2 (Kp.of s1 λ a f=>.inl f) λ φ' σ' r' kp'=>p φ' σ' H1 r' kp'⟩
 | _=>exact p.elim
end
end Dl
namespace Dl
open PySem L2
noncomputable def z5D (K:W.Frag) (cl:Nat->Addr) (p:Nat) (l:Nat->List Addr) (vs:List V) (H:Hp) (Q:VK):Rz (D×List D)->Prop
 | .ok (d,es)=>∀ v H',(∀ a o,H a=some o->(∀ j,j<p->a∉l j)->H' a=some o)->TupK H H'->(∀ a,H a≠none->H' a≠none)->(∀ (j:Nat) e,j<p->es[j]? = some e->∃ u,vs[j]? = some u/\Own K cl H' (λ o_=>False) (l j) u e) ->
  At K cl H' (λ a=>H a=none) v d->Nw K cl H H' (λ a=>H a=none) v d->Q v H'
 | _=>False
noncomputable def spI (K:W.Frag) (cl:Nat->Addr) (n p:Nat) (F:PFI):Sp:=λ vs H Q o_=>∃ (ds:List D) (l:Nat->List Addr),(ds.length=n/\Sun cl H)/\vs.length=n /\
 (∀ (i:Nat) d,ds[i]? = some d->∃ v,vs[i]? = some v/\(i<p->Own K cl H (λ o_=>False) (l i) v d)/\(p<=i->At K cl H (λ a=>∀ j,j<p->a∉l j) v d)) /\
 (∀ i j a,i<p->j<p->a∈l i->a∈l j->i=j)/\z5D K cl p l vs H Q (F ds)
section
variable {K:W.Frag}{cl:Nat->Addr}{H H':Hp}{S S':Addr->Prop}
theorem Own.imO {l:List Addr}{v:V}{d:D}(i:d.imO=true) (h:Own K cl H S l v d):Own K cl H S' l v d:=by
 refine q5k h (λ ds=>?_) (λ ks ds=>?_) (λ c f ks ds=>?_) λ u=>?_
 ·rintro rfl ⟨a,vs,e,el,q,r⟩;exact ⟨a,vs,e,el,q,r.imm TupK.refl i⟩
 ·rintro rfl ⟨a,vs,e,el,q,k,r⟩;exact ⟨a,vs,e,el,q,k,r.imm TupK.refl i⟩
 ·rintro rfl ⟨a,dx,b,vs,e,el,ne,q,qb,k,r⟩;exact ⟨a,dx,b,vs,e,el,ne,q,qb,k,r.imm TupK.refl i⟩
 ·rintro rfl x;exact x
set_option tactic.hygienic true in
theorem q20:∀ {is:List Nat}{δ:DS}{es:List D},q3D is δ=.ok es->es.length=is.length/\∀ (k i:Nat),is[k]? = some i->∃ e,δ[i]? = some (some e)/\es[k]? = some e/\e.imO=true
 | [],δ,es,h=>by cases h;exact ⟨rfl,λ k i e=>by simp at e⟩
 | i::is,δ,es,h=>by
  rw [q3D] at h
  split at h
  ·rename_i d q
   obtain ⟨hi,h⟩:=U3 h
   obtain ⟨ds,h1,h⟩:=Q1 (T:=λ r=>r=Rz.ok es) (λ o_ o_ z=>by cases z) (λ z=>by cases z) h
   cases h
   obtain ⟨hl,hs⟩:=q20 h1
   refine ⟨by rw [N0h,N0h,hl],λ k j e=>?_⟩
   cases k with
   | zero =>
    have e:i=j:=N0b e
    subst e
    exact ⟨d,q,rfl,hi⟩
   | succ k=>exact hs k j e
  ·cases h
theorem q7r:∀ (is:List Nat) (es:List D) (δ:DS),(setS is es δ).length=δ.length
 | [],_,δ=>rfl
 | _::_,[],δ=>rfl
 | i::is,e::es,δ=>(q7r is es _).trans N1g
theorem setS_get:∀ {is:List Nat}{es:List D}{δ:DS}{j:Nat}{d:D},is.Nodup->es.length=is.length->(setS is es δ)[j]? = some (some d)->(∃ k:Nat,is[k]? = some j/\es[k]? = some d)\/(j∉is/\δ[j]? = some (some d))
 | [],[],δ,j,d,_,_,h=>.inr ⟨by simp,h⟩
 | [],_::_,_,_,_,_,l,_=>by simp at l
 | _::_,[],_,_,_,_,l,_=>by simp at l
 | i::is,e::es,δ,j,d,nd,l,h=>by
  have h:(setS is es (δ.set i (some e)))[j]? = some (some d):=h
  obtain ⟨n1,n2⟩:=N1s.mp nd
  rcases setS_get n2 (by simpa using l) h with ⟨k,h1,h2⟩ | ⟨h1,h2⟩
  ·exact .inl ⟨k+1,h1,h2⟩
  ·rcases get_set h2 with ⟨rfl,e',_⟩ | ⟨ne,e'⟩
   ·cases e'
    exact .inl ⟨0,rfl,rfl⟩
   ·exact .inr ⟨λ m=>(N0c.mp m).elim (λ z=>ne z.symm) h1,e'⟩
end
section
variable {P:Program}{w:World}{K:W.Frag}{mg:Str->Option Value}{base:Heap}
theorem q8a {n:Nat}{ds:List D}{i:Nat}{d:D}(e:(startD n ds)[i]? = some (some d)):ds[i]? = some d:=by
 unfold startD at e
 by_cases h:i<ds.length
 ·rw [N0x (by simpa using h),N0i] at e
  cases q:ds[i]? with
  | none=>rw [q] at e;cases e
  | some x=>rw [q] at e;exact N0b e
 ·rw [N19 (by simpa using h),List.getElem?_replicate] at e
  split at e<;>cases e
theorem q7s {N:List Str}{vs:List V}{i:Nat}{v:V}(e:vs[i]? = some v):(L2.start N vs)[i]? = some (some v):=by
 have h:=(N04.mp e).1
 unfold L2.start
 rw [N0x (by rw [N01];exact h),N0i,e]
 rfl
end
noncomputable def PostX (K:W.Frag) (C:Dc) (κ:List Kd) (φ:Nat->List Addr) (σ:St) (m:Kd) (fr:Bool) (H:Hp) (Q:VK):Rz (D×DS)->Prop
 | .ok (d,δ')=>∀ v H',Rs K C κ φ σ H' δ'->Kp (Fo φ) H (Fo φ) H'->At K C.cl H' (Sk C (Fo φ) m) v d->(fr=true->Nw K C.cl H H' (Sk C (Fo φ) m) v d)->Q v H'
 | _=>False
noncomputable def DX (X:Cx) (C:Dc) (κ:List Kd) (m:Kd) (fr:Bool) (e:Expr) (g:GX):Prop :=
 ∃ t,PE X e t/\∀ φ σ H δ,Rs X.K C κ φ σ H δ->∀ Q,PostX X.K C κ φ σ m fr H Q (g δ)->t σ H Q
section
variable {X:Cx}{C:Dc}{L:List Kd×List Nat}{κ κ':List Kd}{m:Kd}{fr fa fb fk:Bool}{a b e o:Expr}{es:List Expr}{ga gb ge gk:GE}{gs:GA}{gx:GX}{pos p apos:Pos}{x:Str}{c:Nat}{f:Str}{is:List Nat}
theorem Rs.io {K:W.Frag}{φ:Nat->List Addr}{σ:St}{H H':Hp}{δ:DS}{es:List D}(r:Rs K C κ φ σ H δ) (nd:is.Nodup) (hk:∀ i∈is,κ[i]? = some .o\/κ[i]? = some .i) (hb:∀ (k i:Nat),is[k]? = some i->∃ d,δ[i]? = some (some d)) (hl:es.length=is.length)
 (fr:∀ a o,H a=some o->(∀ i∈is,a∉φ i)->H' a=some o) (tk:TupK H H') (ex:∀ a,H a≠none->H' a≠none) (ow:∀ (k i:Nat) e,is[k]? = some i->es[k]? = some e->∃ u,σ[i]? = some (some u)/\Own K C.cl H' (λ o_=>False) (φ i) u e) :
 Rs K C κ φ σ H' (setS is es δ)/\Kp (Fo φ) H (Fo φ) H':=by
 have kp:Kp (Fo φ) H (Fo φ) H':=⟨λ a o e n=>fr a o e λ i o_ m=>n ⟨i,m⟩,tk,λ a f=>.inl f,ex⟩
 refine ⟨⟨λ j d e=>?_,r.dj,λ a f=>ex a (r.ow a f),r.fi,λ a o e x=>fr a o (r.fr a o e x) λ i o_ m=>?_,λ a x=>ex a (r.xo a x),r.tk.trans tk,r.ii,by rw [q7r];exact r.len⟩,kp⟩
 ·rcases setS_get nd hl e with ⟨k,h1,h2⟩ | ⟨h1,h2⟩
  ·obtain ⟨u,hu,o⟩:=ow k j d h1 h2
   obtain ⟨d0,hd0⟩:=hb k j h1
   obtain ⟨v,k',g1,g2,g3⟩:=r.sl j d0 hd0
   rw [hu] at g1
   cases g1
   refine ⟨u,k',hu,g2,?_⟩
   have o':Own K C.cl H' (Sk C (Fo φ) .s) (φ j) u d:=o.mono TupK.refl (λ o_ o_ z=>z.elim) (λ o_ o_ o_ e=>e) λ o_ z=>z.elim
   rcases hk j (N0u h1) with q | q
   ·rw [q] at g2;cases g2;exact ⟨o',g3.2⟩
   ·rw [q] at g2;cases g2;exact o'
  ·obtain ⟨v,k',g1,g2,g3⟩:=r.sl j d h2
   refine ⟨v,k',g1,g2,g3.mono kp λ a m o e=>fr a o e λ i hi m'=>?_⟩
   have:=r.dj j i a m m'
   subst this
   exact h1 hi
 ·rcases r.fi a ⟨i,m⟩ with q | q
  ·rw [q] at e;cases e
  ·exact x q
theorem z3G {α:Type}{l:List α}(nd:l.Nodup){i j:Nat}{a:α}(h1:l[i]? = some a) (h2:l[j]? = some a):i=j:=by
 obtain ⟨li,ei⟩:=N04.mp h1
 obtain ⟨lj,ej⟩:=N04.mp h2
 have q:=List.pairwise_iff_getElem.mp nd
 rcases Nat.lt_trichotomy i j with c | c | c
 ·exact absurd (ei.trans ej.symm) (q i j li lj c)
 ·exact c
 ·exact absurd (ej.trans ei.symm) (q j i lj li c)
theorem q6s {F:PFI}{n:Nat}{φ:Nat->List Addr}{σ:St}{H H1:Hp}{δ:DS}{us vs:List V}{ds os:List D}{Q:VK}{E:XK}(r:Rs X.K C κ φ σ H δ) (nd:is.Nodup) (hk:∀ i∈is,κ[i]? = some .o\/κ[i]? = some .i) (hn:os.length+ds.length=n) (ho:q3D is δ=.ok os)
 (s1:Same H H1) (hul:us.length=is.length) (hu:∀ (k i:Nat),is[k]? = some i->∃ u,us[k]? = some u/\σ[i]? = some (some u)) (w:Ats X.K C.cl H1 (Sk C (Fo φ) .b) vs ds)
 (z:PostX X.K C κ φ σ m true H Q ((F (os++ds)).bind λ r=>Rz.guard (r.2.length=is.length) (.ok (r.1,setS is r.2 δ)))):spI X.K C.cl n is.length F (us++vs) H1 Q E:=by
 obtain ⟨hol,hoa⟩:=q20 ho
 have r1:=r.same s1
 have lk:∀ {k i:Nat},is[k]? = some i->(λ k=>match is[k]? with | some i=>φ i | none=>[]) k=φ i:=λ {k i} e=>by show (match is[k]? with | some i=>φ i | none=>[])=φ i;rw [e]
 have isome:∀ {k:Nat},k<is.length->∃ i,is[k]? = some i:=λ {k} h=>⟨_,N08 h⟩
 refine ⟨os++ds,λ k=>match is[k]? with | some i=>φ i | none=>[],⟨by rw [N06];exact hn,r1.rx.sun⟩,by rw [N06,hul,w.length,<- hol];exact hn,λ i d e=>?_,λ i j a hi hj mi mj=>?_,?_⟩
 ·by_cases c:i<is.length
  ·obtain ⟨j,hj⟩:=isome c
   obtain ⟨d',h1,h2,h3⟩:=hoa i j hj
   rw [N0x (by simp_all),h2] at e
   cases e
   obtain ⟨u,g1,g2⟩:=hu i j hj
   refine ⟨u,by rw [N0x (by simp_all)];exact g1,λ o_=>?_,λ h=>absurd c (by lia)⟩
   rw [lk hj]
   have hk':=hk j (N0u hj)
   rcases hk' with q | q
   ·obtain ⟨v,hv,ov⟩:=r1.own (.inl rfl) q h1
    rw [g2] at hv
    cases hv
    exact ov.imO h3
   ·obtain ⟨v,hv,ov⟩:=r1.own (.inr rfl) q h1
    rw [g2] at hv
    cases hv
    exact ov.imO h3
  ·rw [N19 (by simp_all)] at e
   obtain ⟨v,g1,g2⟩:=w.get e
   refine ⟨v,by rw [N19 (by simp_all),hul,<- hol];exact g1,λ h=>absurd h c,λ o_=>g2.sub λ a z o_ j hj m=>?_⟩
   obtain ⟨i',hi'⟩:=isome hj
   rw [lk hi'] at m
   exact z ⟨i',m⟩
 ·obtain ⟨i',hi'⟩:=isome hi
  obtain ⟨j',hj'⟩:=isome hj
  rw [lk hi'] at mi
  rw [lk hj'] at mj
  have:=r.dj i' j' a mi mj
  subst this
  exact z3G nd hi' hj'
 ·cases q:F (os++ds) with
  | ok res =>
   obtain ⟨d,es⟩:=res
   rw [q] at z
   have z:PostX X.K C κ φ σ m true H Q (Rz.guard (es.length=is.length) (.ok (d,setS is es δ))):=z
   obtain ⟨hel,z⟩:=Z9 (T:=PostX X.K C κ φ σ m true H Q) (λ z=>z) z
   intro v H' fr tk ex ow a nw
   have hb:∀ (k i:Nat),is[k]? = some i->∃ d,δ[i]? = some (some d):=λ k i e=>let ⟨d,h,_⟩:=hoa k i e;⟨d,h⟩
   obtain ⟨r2,kp⟩:=r1.io nd hk hb hel (λ a o e n=>fr a o e λ j hj m=>by
    obtain ⟨i',hi'⟩:=isome hj
    rw [lk hi'] at m
    exact n i' (N0u hi') m) tk ex (λ k i e hi he=>by
    have c:k<is.length:=(N04.mp hi).1
    obtain ⟨u,g1,g2⟩:=ow k e c he
    rw [lk hi] at g2
    rw [N0x (by simp_all)] at g1
    obtain ⟨u',h1,h2⟩:=hu k i hi
    rw [g1] at h1
    cases h1
    exact ⟨u,h2,g2⟩)
   refine z v H' r2 ((Kp.of s1 λ a f=>.inl f).trans kp) (a.sub λ b h o_=>r1.rx.new m h) λ o_ hbig=>?_
   obtain ⟨l,o,hn'⟩:=nw hbig
   exact ⟨l,o.mono TupK.refl (λ o_ o_ o_ e=>e) (λ o_ o_ o_ e=>e) λ b h o_=>r1.rx.new m h,λ b mb=>s1.free (hn' b mb)⟩
  | er c s=>rw [q] at z;exact z.elim
  | un=>rw [q] at z;exact z.elim
theorem hkB {is:List Nat}{κ:List Kd}(h:(is.all λ i=>decide (κ[i]? = some Kd.o) || decide (κ[i]? = some Kd.i))=true):∀ i∈is,κ[i]? = some .o\/κ[i]? = some .i:=λ i m=>by
 have q:=N21.mp h i m
 rw [Bool.or_eq_true] at q
 exact q.elim (λ z=>.inl (of_decide_eq_true z)) λ z=>.inr (of_decide_eq_true z)
theorem q9S {ps:List Str}{fx:Addr}{fd:FuncData}{k n:Nat}{F:PFI}{mm:Str}{pl:Sem Bool}(i:Nat) (cls:Cls X.K (C.cl c)) (hm:Meth X.K (C.cl c) mm fx) (hk:([i].all λ i=>decide (κ[i]? = some Kd.o) || decide (κ[i]? = some Kd.i))=true) (G:FnOk X.prog X.w X.K X.mg X.base CX0 k fx fd ps (spI X.K C.cl n 1 F)) (hr:Room k X.A) (hb:y9 X.K fd ps []) (hlen:∀ δ ds,gs δ=.ok ds->1+ds.length=n) (ha:DA X C κ .b (e::es) gs)
 (hN:X.N[i]? = some x:=by rfl) (hv:Vis X.env.scope x:=by nofun) (hd:(x==("__debug__" : Str))=false:=by decide)
 (hcd:(x==("__classdict__" : Str))=false:=by decide) (hst:starEach (e::es) X.env=(false,eval e X.env)::starEach es X.env:=by rfl) (hpl:(backTo pos (starEach es X.env)).any (·.1)=false:=by rfl)
 (ht:eval (.Call (.Attribute (.Name x p) mm apos) (e::es) [] pos) X.env=(do
  let ov <- eval (.Name x p) X.env
  standAt apos.atName
  let (f,first) <- holding [ov] (getMethod ov mm pl)
  callWith pos f first (backTo pos (starEach (e::es) X.env)) (backToKw pos (keywordEach [] X.env))):=by rfl):DX X C κ m true (.Call (.Attribute (.Name x p) mm apos) (e::es) [] pos) (q2P c mm F i gs):=by
 obtain ⟨t,pt,dt⟩:=ha
 refine ⟨_,q95 (Y7 hN hv hd hcd) cls hm G hr hb .nil q5e pt hst hpl ht,λ φ σ H δ r Q z=>?_⟩
 obtain ⟨ds,e1,z⟩:=Q1 (T:=PostX X.K C κ φ σ m true H Q) (λ o_ o_ q=>q) (λ q=>q) z
 obtain ⟨os,e2,z⟩:=Q1 (T:=PostX X.K C κ φ σ m true H Q) (λ o_ o_ q=>q) (λ q=>q) z
 obtain ⟨hob,z⟩:=Z9 (T:=PostX X.K C κ φ σ m true H Q) (λ z=>z) z
 obtain ⟨hol,hoa⟩:=q20 e2
 obtain ⟨d,h1,h2,h3⟩:=hoa 0 i rfl
 have hi:isObj c mm d=true:=N21.mp hob d (N0u h2)
 obtain ⟨v,k',g1,g2,a0⟩:=r.rx.sl i d h1
 obtain ⟨q,dx,fs,rfl,hq,hl⟩:=q7p a0 hi
 refine ⟨.ref q,g1,q,dx,fs,rfl,hq,hl,dt (Fo φ) σ H δ r.rx _ ?_⟩
 rw [e1]
 intro vs H1 s1 w
 rw [N10]
 refine q6s (is:=[i]) (us:=[.ref q]) r (by simp) (hkB hk) (by rw [hol];exact hlen δ ds e1) e2 s1 rfl (λ k j e=>?_) w z
 cases k with
 | zero =>
  have e:i=j:=N0b e
  subst e
  exact ⟨.ref q,rfl,g1⟩
 | succ k=>simp at e
theorem q18 (h:DX X C κ .v fr e gx) (hs:swapsWith e none pos.line X.env=pure false:=by rfl):DSt X C L κ κ (.Expr e pos) (V4 gx):=by
 obtain ⟨t,pt,dt⟩:=h
 refine ⟨_,q1V pt hs,λ φ σ H δ r D p=>dt φ σ H δ r _ ?_⟩
 obtain ⟨⟨d,δ'⟩,e1,p⟩:=Z4 p
 rw [e1]
 exact λ v H1 r1 kp o_ o_=>p φ σ H1 r1 kp
variable {gt:GTX}{g1 g2:GS}
end
section
variable {X:Cx}{C:Dc}{L:List Kd×List Nat}{κ κ':List Kd}{m:Kd}{fr fa fb fk:Bool}{e ek:Expr}{ge gk:GE}{pos p p1 apos cpos pf pos':Pos}{x:Str}{c:Nat}{f:Str}
theorem q7t {K:W.Frag}{φ:Nat->List Addr}{H:Hp}{a:Addr}{i:Nat}{o o':HO}{vs:List V}{ds:List D}(fa:a∈φ i) (hH:H a=some o) (nt:∀ xs,o≠.tup xs) (w:Ats K C.cl H (Sk C (Fo φ) .s) vs ds):Ats K C.cl (upd H a o') (λ b=>Sk C (Fo φ) .s b/\b∉φ i) vs ds :=
 w.mono (λ b xs e=>by
  rw [upd_ne];exact e
  intro z;subst z;rw [hH] at e;exact nt xs (N0b e)) (λ b u z e=>by rw [upd_ne (λ q=>z.2 ⟨i,by rw [q];exact fa⟩)];exact e) λ b z o_=>⟨z,λ m=>z.2 ⟨i,m⟩⟩
theorem z3H {K:W.Frag}{cl:Nat->Addr}{H:Hp}{S:Addr->Prop}{ks:List Ky}{vs:List V}{ds:List D}{kk:Ky}{vv:V}{d:D}(kl:ks.length=ds.length) (w:Ats K cl H S vs ds) (a1:At K cl H S vv d) :
 ∃ ks' vs' ds',putK (ks.zip vs) kk vv=ks'.zip vs'/\putD ks ds kk d=.dct ks' ds'/\ks'.length=ds'.length/\Ats K cl H S vs' ds':=by
 have wl:=w.length
 unfold putD putK
 rw [q6m kk ks vs (by simp_all)]
 by_cases c:(ks.any λ x=>decide (x=kk))=true
 ·rw [N0j c,N0j c,q6n]
  exact ⟨_,_,_,rfl,rfl,by rw [q4j];exact kl,w.setK a1⟩
 ·rw [N0l c,N0l c]
  refine ⟨ks++[kk],vs++[vv],ds++[d],?_,rfl,by rw [N06,N06,kl];rfl,w.append (Ats.cons a1 Ats.nil)⟩
  rw [List.zip_append (by simp_all)]
  rfl
set_option tactic.hygienic true in
theorem z3I (i:Nat){k:Kd}(cls:Cls X.K (C.cl c)) (na:Y1 X.K (C.cl c) f) (ho:k=.o\/k=.i) (hk:κ[i]? = some k) (hu:X.A.units+64<cLine) (hkey:DE X C κ .v fk ek gk) (h:DE X C κ .s fr e ge) (hN:X.N[i]? = some x:=by rfl) (hv:Vis X.env.scope x:=by nofun) (hd:(x==("__debug__" : Str))=false:=by decide)
 (hcd:(x==("__classdict__" : Str))=false:=by decide) (hb:attributeBase (.Name x p1) f X.env (eval (.Name x p1) X.env)=eval (.Name x p1) X.env:=by rfl) (hs:swapsWith e (some (.Subscript (.Attribute (.Name x p1) f pf) ek pos')) pos.line X.env=pure false:=by rfl) :
 DSt X C L κ κ (.Assign [.Subscript (.Attribute (.Name x p1) f pf) ek pos'] e pos) (z3i i c f gk ge):=by
 obtain ⟨t,pt,dt⟩:=h
 obtain ⟨u,pu,du⟩:=hkey
 refine ⟨_,q46 (by lia) (q92 (Y7 hN hv hd hcd) hb) pu pt hs,λ φ σ H δ r D p=>?_⟩
 obtain ⟨d,e1,p⟩:=Z4 p
 obtain ⟨dk,e2,p⟩:=Z4 p
 split at p
 ·rename_i c' f' dx q
  obtain ⟨hh,p2⟩:=X5 p
  clear p
  obtain ⟨rfl,rfl⟩:=hh
  have p:=p2
  cases dx with
  | dct ks ds =>
   obtain ⟨y,e3,p⟩:=Z4 p
   have e3:(match keyD dk with | some k=>Rz.guard (ks.length<sizeLine) (.ok (putD ks ds k d)) | none=>.un)=.ok y:=e3
   cases ek':keyD dk with
   | none=>rw [ek'] at e3;cases e3
   | some kk =>
    rw [ek'] at e3
    obtain ⟨hz,e3⟩:=U3 e3
    cases e3
    obtain ⟨v,hvv,a,ax,b,vs,rfl,hl,nab,hH,hB,kl,w⟩:=r.own ho hk q
    have hbm:b∈φ i:=by rw [hl];simp
    refine dt (Fo φ) σ H δ r.rx _ ?_
    rw [e1]
    intro vv H1 s1 a1 _
    refine ⟨.ref a,hvv,a,_,ax,_,.ref b,rfl,s1 _ _ hH,cls,na,by simp [List.lookup],du (Fo φ) σ H1 δ (r.same s1).rx _ ?_⟩
    rw [e2]
    intro vk H2 s2 a2 _
    have hvk:=q7f a2 ek'
    subst hvk
    have s12:=s1.trans s2
    have r2:=r.same s12
    have hB2:=s12 _ _ hB
    have wl:=w.length
    refine ⟨b,_,rfl,q9a.k (k:=kk) hB2 (by rw [List.length_zip,kl,wl,Nat.min_self,<- kl];exact hz),?_⟩
    have nt:∀ xs,HO.dK (ks.zip vs)≠.tup xs:=λ o_ z=>by cases z
    have w2:=(w.same s12).sub (S':=Sk C (Fo φ) .s) λ b z o_=>z.1
    obtain ⟨ks',vs',ds',q1,q2,q3,q4⟩:=z3H (kk:=kk) kl w2 (a1.same s2)
    rw [q1]
    rw [q2] at p
    obtain ⟨r3,kp⟩:=r2.write (o':=.dK (ks'.zip vs')) (d':=.obj c' f' (.dct ks' ds')) ho hk hvv q hbm hB2 nt
     ⟨a,ax,b,vs',rfl,hl,nab,by rw [upd_ne nab];exact s12 _ _ hH,j0,q3,q7t hbm hB2 nt q4⟩
    exact p φ σ _ r3 ((Kp.of s12 λ a f=>.inl f).trans kp)
  | _=>exact p.elim
 ·exact p.elim
set_option tactic.hygienic true in
theorem z3J (i:Nat){k:Kd}(cls:Cls X.K (C.cl c)) (na:Y1 X.K (C.cl c) f) (ho:k=.o\/k=.i) (hk:κ[i]? = some k) (hkey:DE X C κ .v fk ek gk) (hN:X.N[i]? = some x:=by rfl) (hv:Vis X.env.scope x:=by nofun) (hd:(x==("__debug__" : Str))=false:=by decide)
 (hcd:(x==("__classdict__" : Str))=false:=by decide) (hb:attributeBase (.Name x p1) f X.env (eval (.Name x p1) X.env)=eval (.Name x p1) X.env:=by rfl) (hm:M1 X (.Attribute (.Name x p1) f pf) "pop" apos ek cpos)
 (hs:swapsWith (.Call (.Attribute (.Attribute (.Name x p1) f pf) "pop" apos) [ek] [] cpos) none pos.line X.env=pure false:=by rfl) :
 DSt X C L κ κ (.Expr (.Call (.Attribute (.Attribute (.Name x p1) f pf) "pop" apos) [ek] [] cpos) pos) (z3j i c f gk):=by
 obtain ⟨u,pu,du⟩:=hkey
 refine ⟨_,q1V (z1g (q92 (Y7 hN hv hd hcd) hb) pu hm) hs,λ φ σ H δ r D p=>?_⟩
 obtain ⟨dk,e2,p⟩:=Z4 p
 split at p
 ·rename_i c' f' dx q
  obtain ⟨hh,p2⟩:=X5 p
  clear p
  obtain ⟨rfl,rfl⟩:=hh
  have p:=p2
  split at p
  ·rename_i _ _ ks ds kk ek'
   obtain ⟨hin,p⟩:=X5 p
   obtain ⟨v,hvv,a,ax,b,vs,rfl,hl,nab,hH,hB,kl,w⟩:=r.own ho hk q
   have hbm:b∈φ i:=by rw [hl];simp
   have wl:=w.length
   refine ⟨.ref a,hvv,a,_,ax,_,.ref b,rfl,hH,cls,na,by simp [List.lookup],b,rfl,.inl ⟨_,.inl hB⟩,du (Fo φ) σ H δ r.rx _ ?_⟩
   rw [e2]
   intro vk H2 s2 a2 _
   have hvk:=q7f a2 ek'
   subst hvk
   have r2:=r.same s2
   have hB2:=s2 _ _ hB
   have hsome:(valV (ks.zip vs) kk).isSome=true:=by rw [q4h,q4s kk ks vs (by lia)];exact hin
   obtain ⟨vv,hvv'⟩:=Option.isSome_iff_exists.mp hsome
   refine ⟨_,kk,vv,hB2,rfl,hvv',?_⟩
   have nt:∀ xs,HO.dK (ks.zip vs)≠.tup xs:=λ o_ z=>by cases z
   have w2:=(w.same s2).sub (S':=Sk C (Fo φ) .s) λ b z o_=>z.1
   rw [q4i kk ks vs (by lia)]
   obtain ⟨r3,kp⟩:=r2.write (o':=.dK ((ks.filter λ x=>decide (x≠kk)).zip (dropV kk ks vs))) (d':=.obj c' f' (.dct (ks.filter λ x=>decide (x≠kk)) (dropV kk ks ds))) ho hk hvv q hbm hB2 nt
    ⟨a,ax,b,_,rfl,hl,nab,by rw [upd_ne nab];exact s2 _ _ hH,j0,q2R kk ks ds kl,q7t hbm hB2 nt w2.dropV⟩
   exact p φ σ _ r3 ((Kp.of s2 λ a f=>.inl f).trans kp)
  ·exact p.elim
 ·exact p.elim
end
end Dl
namespace Dl
open PySem L2 PyProof.Rows
structure KindOk (K:W.Frag) (ce:Nat->Addr) (FE:Addr) (c:Nat):Prop where
 lt:c<7
 xc:W.XCls K (ce c)
 k0:W.kitOne K (.ref (ce c)) (.ref (ce 0))=some (c==0)
 k1:W.kitOne K (.ref (ce c)) (.ref (ce 1))=some (c==1)
 k2:W.kitOne K (.ref (ce c)) (.ref (ce 2))=some (c==2)
 k3:W.kitOne K (.ref (ce c)) (.ref (ce 3))=some (c==3)
 k4:W.kitOne K (.ref (ce c)) (.ref (ce 4))=some (c==4)
 k5:W.kitOne K (.ref (ce c)) (.ref (ce 5))=some (c==5)
 k6:W.kitOne K (.ref (ce c)) (.ref (ce 6))=some (c==6)
 kv:W.kitOne K (.ref (ce c)) (.type "ValueError")=some true
 xm:W.exmOne K (.ref (ce c)) (.ref FE)=some true
end Dl
namespace Dl
open PySem
noncomputable def gPopL (i j:Nat):GS:=λ δ=>match δ[i]? with
 | some (some (.lst ds))=>match ds.getLast? with
  | some d=>.guard (d.imm=true) (.ok (.nx ((δ.set i (some (.lst ds.dropLast))).set j (some d))))
  | none=>.un
 | _=>.un
noncomputable def z6n (n:Nat) (body:GS):PFI:=λ ds=>match ds with
 | [d1,d0]=>(body (startD n [d0,d1])).bind λ o=>match o with
  | .nx δ=>(q3D [1] δ).bind λ es=>.ok (.non,es)
  | .rt d δ=>(q3D [1] δ).bind λ es=>.ok (d,es)
  | _=>.un
 | _=>.un
noncomputable def dRm2:D->D->D->Rz D
 | .xt (.rm R),x,y=>match dPl x,dPl y with
  | some a,some b=>optR (((lkP R a).bind λ row=>lkP row b).map D.int)
  | _,_=>.un
 | _,_,_=>.un
noncomputable def q8b (gr ga gb:GE):GE:=λ δ=>(gr δ).bind λ d=>(ga δ).bind λ x=>(gb δ).bind λ y=>dRm2 d x y
noncomputable def z8F (gk gv:GE):GE:=λ δ=>(gk δ).bind λ k=>(gv δ).bind λ v=>match dPl k,dOpl v with
 | some p,some o=>.ok (.xt (.rc [(p,o)]))
 | _,_=>.un
noncomputable def q2Z (i:Nat) (ga:GE):GS:=λ δ=>(ga δ).bind λ x=>match δ[i]? with
 | some (some (.xt (.rm R)))=>match dPl x with
  | some a=>.guard (R.length<sizeLine/\lkP R a=none) (.ok (.nx (δ.set i (some (.xt (.rm (R++[(a,[])])))))))
  | none=>.un
 | _=>.un
noncomputable def z6o (ga gb:GE):GE:=λ δ=>(ga δ).bind λ x=>(gb δ).bind λ y=>match dPl x,dPl y with
 | some a,some b=>.guard (a≠b) (.ok (.xt (.rm [(a,[]),(b,[])])))
 | _,_=>.un
noncomputable def z1A {α:Type}:List (Pl×α)->Pl->α->List (Pl×α)
 | [],_,_=>[]
 | e::r,p,x=>if e.1=p then (e.1,x)::r else e::z1A r p x
noncomputable def q0B (i:Nat) (ga gb gv:GE):GS:=λ δ=>(gv δ).bind λ v=>(ga δ).bind λ x=>(gb δ).bind λ y=>match δ[i]? with
 | some (some (.xt (.rm R)))=>match dPl x,dPl y,v with
  | some a,some b,.int n=>match lkP R a with
   | some row=>.guard (row.length<sizeLine) (.ok (.nx (δ.set i (some (.xt (.rm (z1A R a (putP row b n))))))))
   | none=>.un
  | _,_,_=>.un
 | _=>.un
noncomputable abbrev rowK (row:List (Pl×Int)):List D:=row.map λ q=>plD q.1
noncomputable def dKeys:D->D->Rz (List D)
 | .xt (.rm R),x=>match dPl x with
  | some p=>optR ((lkP R p).map rowK)
  | none=>.un
 | _,_=>.un
noncomputable def gKeys (gr ga:GE):GI:=λ δ=>(gr δ).bind λ d=>(ga δ).bind λ x=>dKeys d x
noncomputable def z1B (it:GI) (i:Nat) (fg:List Nat) (body:GS):GS:=λ δ=>(q1B it i fg body δ).bind λ o=>match o with
 | .nx δ'=>.ok (.nx δ')
 | _=>.un
noncomputable def z6p (n:Nat) (g:GS):PFI:=λ ds=>match ds with
 | [d3,d0,d1,d2]=>(g (startD n [d0,d1,d2,d3])).bind λ o=>match o with
  | .nx δ=>(q3D [3] δ).bind λ es=>.ok (.non,es)
  | .rt d δ=>(q3D [3] δ).bind λ es=>.ok (d,es)
  | _=>.un
 | _=>.un
noncomputable def q5t (i:Nat) (ga gb:GE):GS:=λ δ=>(ga δ).bind λ o_=>match δ[i]? with
 | some (some (.tup [.lst xs,.lst ys]))=>.guard (xs.length+2<sizeLine/\ys.length+2<sizeLine) ((gb (δ.set i none)).bind λ o_=>.ok (.nx (δ.set i none)))
 | _=>.un
end Dl
namespace Dl
open PySem L2 PyProof.Rows
noncomputable def rowI (ns:List Int):D:=.lst (ns.map D.int)
theorem z3K {K:W.Frag}{cl:Nat->Addr}{H:Hp}{S:Addr->Prop}{d1 d2:D}:∀ {vs:List V},Ats K cl H S vs [d1,d2]->∃ v1 v2,vs=[v1,v2]/\At K cl H S v1 d1/\At K cl H S v2 d2
 | [],h=>by rw [Ats] at h;exact h.elim
 | [_],h=>by rw [Ats,Ats] at h;exact h.2.elim
 | [v1,v2],h=>by rw [Ats,Ats] at h;exact ⟨v1,v2,rfl,h.1,h.2.1⟩
 | _::_::_::_,h=>by rw [Ats,Ats,Ats] at h;exact h.2.2.elim
section
variable {K:W.Frag}{cl:Nat->Addr}{H:Hp}{S:Addr->Prop}
mutual
theorem At.region:∀ {d:D}{v:V},At K cl H S v d->∃ l:List Addr,(∀ a∈l,S a/\H a≠none)/\At K cl H (λ a=>a∈l) v d
 | .non,v,z=>⟨[],λ a m=>(by cases m),by rw [At] at z ⊢;exact z⟩
 | .bl _,v,z=>⟨[],λ a m=>(by cases m),by rw [At] at z ⊢;exact z⟩
 | .int _,v,z=>⟨[],λ a m=>(by cases m),by rw [At] at z ⊢;exact z⟩
 | .str _,v,z=>⟨[],λ a m=>(by cases m),by rw [At] at z ⊢;exact z⟩
 | .tup ds,v,z=>by
  rw [At] at z
  obtain ⟨a,vs,rfl,h,w⟩:=z
  obtain ⟨l,hl,wl⟩:=Ats.region w
  refine ⟨l,hl,?_⟩
  rw [At]
  exact ⟨a,vs,rfl,h,wl⟩
 | .lst ds,v,z=>by
  rw [At] at z
  obtain ⟨a,vs,rfl,sa,h,w⟩:=z
  obtain ⟨l,hl,wl⟩:=Ats.region w
  refine ⟨a::l,λ b m=>?_,?_⟩
  ·rcases N0c.1 m with rfl | m
   ·refine ⟨sa,?_⟩
    rcases h with h | ⟨o,h⟩
    ·rw [h];exact λ z=>by cases z
    ·rw [h];exact λ z=>by cases z
   ·exact hl b m
  ·rw [At]
   exact ⟨a,vs,rfl,N00 ..,h,wl.sub λ b m o_=>N02 _ m⟩
 | .dct ks ds,v,z=>by
  rw [At] at z
  obtain ⟨a,vs,rfl,sa,h,hk,w⟩:=z
  obtain ⟨l,hl,wl⟩:=Ats.region w
  refine ⟨a::l,λ b m=>?_,?_⟩
  ·rcases N0c.1 m with rfl | m
   ·exact ⟨sa,by rw [h];exact λ z=>by cases z⟩
   ·exact hl b m
  ·rw [At]
   exact ⟨a,vs,rfl,N00 ..,h,hk,wl.sub λ b m o_=>N02 _ m⟩
 | .obj c f d,v,z=>by
  rw [At] at z
  obtain ⟨a,dx,u,rfl,sa,h,w⟩:=z
  obtain ⟨l,hl,wl⟩:=At.region w
  refine ⟨a::l,λ b m=>?_,?_⟩
  ·rcases N0c.1 m with rfl | m
   ·exact ⟨sa,by rw [h];exact λ z=>by cases z⟩
   ·exact hl b m
  ·rw [At]
   exact ⟨a,dx,u,rfl,N00 ..,h,wl.sub λ b m o_=>N02 _ m⟩
 | .xt u,v,z=>by
  rw [At] at z
  obtain ⟨l,x,s⟩:=z
  refine ⟨l,λ a m=>⟨s a m,x.ex m⟩,?_⟩
  rw [At]
  exact ⟨l,x,λ a m=>m⟩
theorem Ats.region:∀ {ds:List D}{vs:List V},Ats K cl H S vs ds->∃ l:List Addr,(∀ a∈l,S a/\H a≠none)/\Ats K cl H (λ a=>a∈l) vs ds
 | [],[],_=>⟨[],λ a m=>(by cases m),by rw [Ats];trivial⟩
 | d::ds,v::vs,z=>by
  rw [Ats] at z
  obtain ⟨l1,h1,w1⟩:=At.region z.1
  obtain ⟨l2,h2,w2⟩:=Ats.region z.2
  refine ⟨l1++l2,λ a m=>?_,?_⟩
  ·rcases N0a.1 m with m | m
   ·exact h1 a m
   ·exact h2 a m
  ·rw [Ats]
   exact ⟨w1.sub λ b m o_=>N0w _ m,w2.sub λ b m o_=>N05 _ m⟩
 | [],_::_,z=>by rw [Ats] at z;exact z.elim
 | _::_,[],z=>by rw [Ats] at z;exact z.elim
end
end
noncomputable def DEF (X:Cx) (C:Dc) (κ:List Kd) (e:Expr) (g:GE):Prop :=
 ∃ t,PE X e t/\∀ F σ H δ,Rx X.K C κ F σ H δ->∀ Q,(match g δ with | .ok d=>∀ v H',Same H H'->At X.K C.cl H' (λ a=>H a=none) v d->Q v H' | _=>False)->t σ H Q
section
variable {X:Cx}{C:Dc}{L:List Kd×List Nat}{κ κ' κ1:List Kd}{ge go:GE}{gs:GA}{e o:Expr}{es:List Expr}{fr:Bool}{pos p apos:Pos}{x:Str}
theorem q7u {st:Stmt}{ps:List Str}{f:Addr}{fd:FuncData}{k n:Nat}{F:PF}(D:Df X.K X.mg x st ps f fd) (G:FnOk X.prog X.w X.K X.mg X.base CX0 k f fd ps (spD X.K C.cl n F)) (hr:Room k X.A) (hg:Gl X x) (hlen:∀ δ ds,gs δ=.ok ds->ds.length=n) (ha:DA X C κ .v (e::es) gs)
 (hdb:(x==("__debug__" : Str))=false:=by decide) (hst:starEach (e::es) X.env=(false,eval e X.env)::starEach es X.env:=by rfl) (hpl:(backTo pos (starEach es X.env)).any (·.1)=false:=by rfl):DEF X C κ (.Call (.Name x p) (e::es) [] pos) (gCall F gs):=by
 obtain ⟨t,pt,dt⟩:=ha
 refine ⟨_,q43 G hr hg D.m D.F.kp D.b .nil q5e pt hdb hst hpl,λ Fo σ H δ rx Q z=>dt Fo σ H δ rx _ ?_⟩
 unfold gCall at z
 cases e1:gs δ with
 | er c s=>rw [e1] at z;exact z.elim
 | un=>rw [e1] at z;exact z.elim
 | ok ds =>
  rw [e1] at z
  have z:(match F ds with | .ok d=>∀ v H',Same H H'->At X.K C.cl H' (λ a=>H a=none) v d->Q v H' | _=>False):=z
  intro vs H1 s1 a1
  rw [N10]
  cases q:F ds with
  | ok d =>
   rw [q] at z
   exact ⟨ds,d,⟨hlen δ ds e1,(rx.same s1).sun⟩,a1.sub λ o_ o_ o_=>trivial,q,λ v H' s' a n=>z v H' (s1.trans s') (a.sub λ b h o_=>s1.free h)⟩
  | er c s=>rw [q] at z;exact z.elim
  | un=>rw [q] at z;exact z.elim
theorem q9T {i:Nat}{px:Pos}(hk:i<κ.length) (hN:X.N.Nodup) (hi:X.N[i]? = some x) (hx:Loc X.env.scope x) (h:DEF X C κ e ge) (hs:swapsWith e (some (.Name x px)) pos.line X.env=pure false:=by rfl)
 (hf:X.fn x=true\/X.env.scope.names.lookup x=some .local:=by nofun) (hni:C.io.contains i=false:=by rfl):DSt X C L κ (κ.set i .v) (.Assign [.Name x px] e pos) (X4 i ge):=by
 obtain ⟨t,pt,dt⟩:=h
 refine ⟨_,q6W hN hi hx pt hs hf,λ φ σ H δ r D p=>dt (Fo φ) σ H δ r.rx _ ?_⟩
 obtain ⟨d,e1,p⟩:=Z4 p
 rw [e1]
 intro v H1 s1 a
 obtain ⟨l,hl,wl⟩:=a.region
 have so:SlOk X.K C (Fo (φset φ i l)) H1 l v d .v:=⟨wl,λ a m=>r.old (hl a m).1⟩
 obtain ⟨r2,kp⟩:=r.put s1 hk so (λ a m=>⟨(hl a m).1,(hl a m).2⟩) (q09 hni)
 exact p _ _ _ r2 kp
theorem Rs.spoil {φ:Nat->List Addr}{σ:L2.St}{H H':Hp}{δ:DS}{i:Nat}{l:List Addr}(r:Rs X.K C κ φ σ H δ) (hl:∀ a∈l,a∈φ i) (hold:∀ a∈l,C.H₀ a=none) (st:∀ a o,H a=some o->a∉l->H' a=some o) (tk:TupK H H') (ex:∀ a,H a≠none->H' a≠none) (hxl:∀ a∈l,C.X a->False) :
 Rs X.K C κ φ σ H' (δ.set i none)/\Kp (Fo φ) H (Fo φ) H':=by
 have kp:Kp (Fo φ) H (Fo φ) H':=⟨λ a o e n=>st a o e λ m=>n ⟨i,hl a m⟩,tk,λ a f=>.inl f,ex⟩
 refine ⟨⟨λ j d e=>?_,r.dj,λ a f=>ex a (r.ow a f),r.fi,λ a o e x=>st a o (r.fr a o e x) λ m=>?_,λ a x=>ex a (r.xo a x),r.tk.trans tk,r.ii,by rw [N1g];exact r.len⟩,kp⟩
 ·rcases get_set e with ⟨_,h,_⟩ | ⟨hij,e⟩
  ·cases h
  ·obtain ⟨v,k,h1,h2,h3⟩:=r.sl j d e
   exact ⟨v,k,h1,h2,h3.mono kp λ a m o q=>st a o q λ z=>hij (r.dj i j a (hl a z) m)⟩
 ·rw [hold a m] at e;cases e
end
end Dl
namespace L2
open PySem PySem.Spec PyProof.Rows PySem.W
noncomputable def z5E (H:Hp):List V->List (List Int)->List Value->Prop
 | [],[],[]=>True
 | x::xs,ns::nss,u::us=>(∃ a p,x=.ref a/\u=.ref p/\Rd H a (.lst (ns.map V.int))/\H p=some (.tup [.int ns.length,.ref a]))/\z5E H xs nss us
 | _,_,_=>False
section
variable {X:Cx}
noncomputable abbrev Cx.inn (X:Cx):Cx:={ X with A:=X.A.in1.in1 }
end
end L2
namespace Dl
open PySem L2 PyProof.Rows
end Dl
namespace L2
open PySem PySem.Spec PyProof.Rows
end L2
namespace Dl
open PySem L2 PyProof.Rows
section
variable {X:Cx}{C:Dc}{L:List Kd×List Nat}{κ κ' κ1:List Kd}{m:Kd}{ge gk gv:GE}{e ek ev:Expr}{fr fk fv:Bool}{pos p:Pos}{x y:Str}
set_option tactic.hygienic true in
theorem z3L {i j:Nat}{k:Kd}{px p1 apos cpos:Pos}(hkk:k=.b\/k=.s) (hk:κ[i]? = some .o) (hj:j<κ.length) (hij:i≠j) (hNd:X.N.Nodup) (hNj:X.N[j]? = some y) (hy:Loc X.env.scope y) (hN:X.N[i]? = some x:=by rfl) (hv:Vis X.env.scope x:=by nofun) (hd:(x==("__debug__" : Str))=false:=by decide)
 (hcd:(x==("__classdict__" : Str))=false:=by decide) (hbase:attributeBase (.Name x p1) "pop" X.env (eval (.Name x p1) X.env)=eval (.Name x p1) X.env:=by rfl) (hline:(apos.endLine==cpos.line)=true:=by rfl)
 (hs:swapsWith (.Call (.Attribute (.Name x p1) "pop" apos) [] [] cpos) (some (.Name y px)) pos.line X.env=pure false:=by rfl)
 (hf:X.fn y=true\/X.env.scope.names.lookup y=some .local:=by nofun) (hni:C.io.contains j=false:=by rfl) :
 DSt X C L κ (κ.set j k) (.Assign [.Name y px] (.Call (.Attribute (.Name x p1) "pop" apos) [] [] cpos) pos) (gPopL i j):=by
 refine ⟨_,q6W hNd hNj hy (z51 F.plainAttrs_list F.slot_list_pop F.type_list_pop z52 (Y7 hN hv hd hcd) hbase hline) hs hf,λ φ σ H δ r D p=>?_⟩
 unfold gPopL at p
 split at p
 ·rename_i ds q
  split at p
  ·rename_i d hlast
   obtain ⟨him,p⟩:=X5 p
   obtain ⟨v,hvv,a,us,rfl,hl,hH,w⟩:=r.own (.inl rfl) hk q
   have ha:a∈φ i:=by rw [hl];exact N00
   have wl:=w.length
   have hd0:ds[ds.length - 1]? = some d:=by rw [<- List.getLast?_eq_getElem?];exact hlast
   obtain ⟨u,hu,au⟩:=w.get hd0
   refine ⟨.ref a,hvv,.inl ⟨rfl,us,SqL.of hH⟩,a,us,u,rfl,rfl,hH,by rw [wl];exact hu,?_⟩
   have nt:∀ xs,HO.lst us≠.tup xs:=λ o_ z=>by cases z
   have w1:Ats X.K C.cl H (Sk C (Fo φ) .s) us.dropLast ds.dropLast:=by
    rw [List.dropLast_eq_take,List.dropLast_eq_take,wl]
    exact (w.sub λ b z o_=>z.1).take _
   obtain ⟨r2,kp⟩:=r.write (o':=.lst us.dropLast) (d':=.lst ds.dropLast) (.inl rfl) hk hvv q ha hH nt ⟨a,_,rfl,hl,j0,q2S ha hl hH nt w1⟩
   have au2:∀ S,At X.K C.cl (upd H a (.lst us.dropLast)) S u d:=λ S=>au.imm (λ b zs e=>by
    have hb:b≠a:=λ z=>by rw [z,hH] at e;cases e
    rw [upd_ne hb];exact e) him
   have so:SlOk X.K C (Fo (φset φ j [])) (upd H a (.lst us.dropLast)) [] u d k:=by
    rcases hkk with rfl | rfl
    ·exact au2 _
    ·exact au2 _
   obtain ⟨r3,kp2⟩:=r2.put (Same.refl _) hj so (λ c m=>by cases m) (q09 hni)
   exact p _ _ _ r3 (kp.trans kp2)
  ·exact p.elim
 ·exact p.elim
end
end Dl
namespace L2
open PySem PySem.Spec PyProof.Rows
end L2
namespace Dl
open PySem L2 PyProof.Rows
end Dl
namespace L2
open PySem PySem.Spec PyProof.Rows
end L2
namespace Dl
open PySem L2 PyProof.Rows
end Dl
namespace L2
open PySem PySem.Spec PyProof.Rows PySem.Builtin PySem.Builtin.Str
section
variable {X:Cx}
noncomputable def r1 (r:R2):V->List V->Hp->VK->Prop:=λ x vs H Q=>∃ y,vs=[y]/\r x y H Q
end
end L2
namespace Dl
open PySem L2 PyProof.Rows
end Dl
namespace Dl
open PySem L2
noncomputable def spJ (K:W.Frag) (cl:Nat->Addr) (F:PFI):Sp:=λ vs H Q E=>∃ u0 u1,vs=[u0,u1]/\spI K cl 2 1 F [u1,u0] H Q E
section
variable {X:Cx}{C:Dc}{κ:List Kd}{m:Kd}{fr:Bool}{e0:Expr}{g0:GE}{pos p pv:Pos}{x y:Str}
theorem z1C {st:Stmt}{ps:List Str}{fx:Addr}{fd:FuncData}{k:Nat}{F:PFI}(i:Nat) (D:Df X.K X.mg y st ps fx fd) (hk:([i].all λ i=>decide (κ[i]? = some Kd.o) || decide (κ[i]? = some Kd.i))=true) (G:FnOk X.prog X.w X.K X.mg X.base CX0 k fx fd ps (spJ X.K C.cl F)) (hr:Room k X.A) (hg:Gl X y) (h:DE X C κ .b fr e0 g0)
 (hN:X.N[i]? = some x:=by rfl) (hv:Vis X.env.scope x:=by nofun) (hd:(x==("__debug__" : Str))=false:=by decide)
 (hcd:(x==("__classdict__" : Str))=false:=by decide) (hs:starEach [.Name x pv] X.env=(false,eval (.Name x pv) X.env)::starEach [] X.env:=by rfl)
 (hdb:(y==("__debug__" : Str))=false:=by decide) (hst:starEach [e0,.Name x pv] X.env=(false,eval e0 X.env)::starEach [.Name x pv] X.env:=by rfl) (hpl:(backTo pos (starEach [.Name x pv] X.env)).any (·.1)=false:=by rfl):DX X C κ m true (.Call (.Name y p) [e0,.Name x pv] [] pos) (q0y F [i] (gCons g0 gNil)):=by
 obtain ⟨t,pt,dt⟩:=h
 refine ⟨_,q43 G hr hg D.m D.F.kp D.b .nil q5e (Y5 pt (Y5 (Y7 hN hv hd hcd) q1v hs) hst) hdb hst hpl,λ φ σ H δ r Q z=>?_⟩
 obtain ⟨ds,e1,z⟩:=Q1 (T:=PostX X.K C κ φ σ m true H Q) (λ o_ o_ q=>q) (λ q=>q) z
 obtain ⟨os,e2,z⟩:=Q1 (T:=PostX X.K C κ φ σ m true H Q) (λ o_ o_ q=>q) (λ q=>q) z
 obtain ⟨d0,e3,e1⟩:=Z7 (T:=λ r=>r=Rz.ok ds) (λ o_ o_ z=>by cases z) (λ z=>by cases z) e1
 cases e1
 obtain ⟨hol,hoa⟩:=q20 e2
 obtain ⟨d,g1,g2,g3⟩:=hoa 0 i rfl
 obtain ⟨v,k',f1,f2,_⟩:=r.rx.sl i d g1
 refine dt (Fo φ) σ H δ r.rx _ ?_
 rw [e3]
 intro u H1 s1 a1 _
 refine ⟨v,f1,?_⟩
 show spJ X.K C.cl F _ H1 _ _
 refine ⟨u,v,rfl,?_⟩
 exact q6s (is:=[i]) (us:=[v]) (vs:=[u]) r (by simp) (hkB hk) (by rw [hol];rfl) e2 s1 rfl (λ k j e=>by
  cases k with
  | zero =>
   have e:i=j:=N0b e
   subst e
   exact ⟨v,rfl,f1⟩
  | succ k=>simp at e) (Ats.cons a1 Ats.nil) z
end
end Dl
namespace L2
open PySem PySem.Spec PyProof.Rows
end L2
namespace Dl
open PySem L2
end Dl
namespace L2
open PySem PySem.Spec PyProof.Rows
end L2
namespace Dl
open PySem L2
end Dl
namespace Dl
open PySem L2 PyProof.Rows
noncomputable def scV:D->V
 | .str x=>.str x
 | .int i=>.int i
 | _=>.non
structure KDict (P:Program) (w:World) (K:W.Frag) (ad:Addr) (tb:List (Str×List D)):Prop where
 sys:(ad==sysModules)=false
 ex:∃ ob vs,K.lookup ad=some ob/\ob.IsDictOf (K3 P w) vs/\∀ z,match tb.lookup z with
  | some ds=>∃ b o its n,valueAt vs (.inr z)=some (.ref b)/\K.lookup b=some o/\o.cls=.type "tuple"/\o.data=.seq its n/\its.size<=sizeLine/\Vals (ds.map scV) its.toList
  | none=>valueAt vs (.inr z)=none
end Dl
namespace Dl
open PySem L2
end Dl
namespace Dl
open PySem L2 PyProof.Rows
end Dl
namespace Dl
open PySem L2
theorem z2t {α:Type}:∀ {l:List α}{i:Nat}{x:α},l[i]? = some x->l.set i x=l
 | _::_,0,_,e=>by cases e;rfl
 | y::l,i+1,x,e=>by show y::l.set i x=_;rw [z2t (l:=l) (i:=i) e]
 | [],_,_,e=>by simp at e
theorem q9U {α:Type}(p:Pl):∀ (r:List (Pl×α)) (us:List V),us.length=r.length ->
 (lkP r p=none)\/∃ (i:Nat) (e:Pl×α) (u:V),r[i]? = some e/\us[i]? = some u/\lkP r p=some e.2/\valV ((r.map λ e=>plK e.1).zip us) (plK p)=some u/\∀ x,z1A r p x=r.set i (e.1,x)
 | [],[],_=>.inl rfl
 | e::r,u::us,h=>by
  rw [N09,N1r]
  by_cases q:e.1=p
  ·refine .inr ⟨0,e,u,rfl,rfl,?_,q0g (by rw [q]),λ x=>N0j q⟩
   unfold lkP
   rw [List.find?_cons_of_pos (by simp [q])]
   rfl
  ·rw [q0h (λ z=>q (q0L z))]
   have e2:lkP (e::r) p=lkP r p:=by unfold lkP;rw [List.find?_cons_of_neg (by simp [q])]
   rw [e2]
   rcases q9U p r us (by simpa using h) with z | ⟨i,e',u',z1,z2,z3,z4,z5⟩
   ·exact .inl z
   ·exact .inr ⟨i+1,e',u',z1,z2,z3,z4,λ x=>(N0l q).trans (by rw [z5];rfl)⟩
 | [],_::_,h=>by simp at h
 | _::_,[],h=>by simp at h
section
variable {X:Cx}{C:Dc}{L:List Kd×List Nat}{κ κ' κ1:List Kd}{m:Kd}{fr fa fb:Bool}{e a b:Expr}{ga gb gr:GE}{pos p1:Pos}
theorem q7v (hu:X.A.units+64<cLine) (hr:DE X C κ .v fr e gr) (ha:DE X C κ .v fa a ga) (hb:DE X C κ .v fb b gb) (hs:z2h a:=by intro _ _;rfl) (hs2:z2h b:=by intro _ _;rfl):DE X C κ m false (.Subscript (.Subscript e a p1) b pos) (q8b gr ga gb):=by
 obtain ⟨tr,pr,dr⟩:=hr
 obtain ⟨ta,pa,da⟩:=ha
 obtain ⟨tb,pb,db⟩:=hb
 refine ⟨_,q1W (by lia) (q1W (by lia) pr pa hs) pb hs2,λ F σ H δ rx Q z=>dr F σ H δ rx _ ?_⟩
 obtain ⟨d1,e1,z⟩:=Q3 z
 obtain ⟨d2,e2,z⟩:=Q3 z
 obtain ⟨d3,e3,z⟩:=Q3 z
 rw [e1]
 intro v1 H1 s1 a1 _
 refine da F σ H1 δ (rx.same s1) _ ?_
 rw [e2]
 intro v2 H2 s2 a2 _
 cases d1 with
 | xt u =>
  cases u with
  | rm R =>
   have z:Post X.K C F m false H Q (match dPl d2,dPl d3 with | some a,some b=>optR (((lkP R a).bind λ row=>lkP row b).map D.int) | _,_=>.un):=z
   cases q2:dPl d2 with
   | none=>rw [q2] at z;exact z.elim
   | some pa' =>
    cases q3:dPl d3 with
    | none=>rw [q2,q3] at z;exact z.elim
    | some pb' =>
     rw [q2,q3] at z
     have z:Post X.K C F m false H Q (optR (((lkP R pa').bind λ row=>lkP row pb').map D.int)):=z
     rw [q07 q2] at a2
     obtain ⟨c2,rfl,hc2⟩:=q08 a2
     have a1:=a1.same s2
     rw [At] at a1
     obtain ⟨l,⟨a0,bs,rfl,_,hl,hA,hrow⟩,_⟩:=a1
     rcases lk_zip pa' R (bs.map V.ref) (by rw [N01];exact hl) with ⟨z1,_⟩ | ⟨i,e',u,g1,g2,z1,z2⟩
     ·rw [z1] at z;exact z.elim
     ·rw [z1] at z
      rw [N0i] at g2
      obtain ⟨b0,g3,rfl⟩:=N1x.mp g2
      refine ⟨a0,.ref b0,rfl,.inr ⟨_,plK pa',c2,hA,rfl,hc2,z2.symm⟩,?_⟩
      refine db F σ H2 δ (rx.same (s1.trans s2)) _ ?_
      rw [e3]
      intro v3 H3 s3 a3 _
      rw [q07 q3] at a3
      obtain ⟨c3,rfl,hc3⟩:=q08 a3
      have hb0:=s3.rd (hrow i b0 e' g3 g1)
      cases q4:lkP e'.2 pb' with
      | none =>
       have z:Post X.K C F m false H Q (optR ((lkP e'.2 pb').map D.int)):=z
       rw [q4] at z
       exact z.elim
      | some n =>
       have z:Post X.K C F m false H Q (optR ((lkP e'.2 pb').map D.int)):=z
       rw [q4] at z
       refine ⟨b0,.int n,rfl,.inr ⟨_,plK pb',c3,hb0,rfl,hc3,by rw [lk_row,q4];rfl⟩,?_⟩
       exact z (.int n) H3 ((s1.trans s2).trans s3) (by rw [At]) (λ z=>by cases z)
  | rc r=>exact z.elim
 | _=>exact z.elim
theorem z5F (hu:X.A.units+64<cLine) (ha:DE X C κ .v fa a ga) (hb:DE X C κ .v fb b gb):DE X C κ m true (.Dict [some a] [b] pos) (z8F ga gb):=by
 obtain ⟨t,pt,dt⟩:=ha
 obtain ⟨u,pu,du⟩:=hb
 refine ⟨_,q78 (by lia) (q48 pt pu q9e) rfl rfl (by simp) (by simp),λ F σ H δ rx Q z p hp=>?_⟩
 obtain ⟨d1,e1,z⟩:=Q3 z
 obtain ⟨d2,e2,z⟩:=Q3 z
 have s0:Same H (upd H p (.dT [])):=Q5 hp _
 refine dt F σ _ δ (rx.same s0) _ ?_
 rw [e1]
 intro v H1 s1 a1 _
 refine du F σ H1 δ (rx.same (s0.trans s1)) _ ?_
 rw [e2]
 intro w H2 s2 a2 _
 have hp2:H2 p=some (.dT []):=s2 _ _ (s1 _ _ j0)
 cases q1:dPl d1 with
 | none=>rw [q1] at z;exact z.elim
 | some pp =>
  cases q2:dOpl d2 with
  | none=>rw [q1,q2] at z;exact z.elim
  | some oo =>
   rw [q1,q2] at z
   rw [q07 q1] at a1
   obtain ⟨c,rfl,hc⟩:=q08 (a1.same s2)
   refine ⟨hp2,[(plK pp,w)],.cons ⟨⟨c,rfl,hc⟩,rfl⟩ .nil,by simp,?_⟩
   have e:mergeT [] [(plK pp,w)]=([(pp,oo)].map λ e=>plK e.1).zip [w]:=rfl
   rw [e]
   have s3:Same H (upd H2 p (.dT (([(pp,oo)].map λ e=>plK e.1).zip [w]))):=λ b o q=>by
    have hb:b≠p:=λ z=>by rw [z,hp] at q;cases q
    rw [upd_ne hb]
    exact s2 _ _ (s1 _ _ (s0 _ _ q))
   have x:XOn (upd H2 p (.dT (([(pp,oo)].map λ e=>plK e.1).zip [w]))) [p] (.ref p) (.rc [(pp,oo)]):=by
    refine ⟨p,[w],rfl,rfl,rfl,j0,λ i u e q1' q2'=>?_⟩
    cases i with
    | zero =>
     cases q1';cases q2'
     exact q2t (λ b xs eb=>by rw [upd_ne (λ z=>by rw [z,hp2] at eb;cases eb)];exact eb) (at_opl a2 q2)
    | succ i=>simp at q1'
   refine z (.ref p) _ s3 ?_ λ o_ o_=>⟨[p],x,λ b mb=>by rw [N0f.mp mb];exact hp⟩
   rw [At]
   exact ⟨[p],x.xr,λ b mb=>by rw [N0f.mp mb];exact rx.new m hp⟩
theorem Rs.turnO {K:W.Frag}{φ:Nat->List Addr}{σ:L2.St}{H H':Hp}{δ:DS}{i:Nat}{v:V}{d d':D}{l:List Addr}(r:Rs K C κ φ σ H δ) (hk:κ[i]? = some .o) (hv:σ[i]? = some (some v)) (hd:δ[i]? = some (some d)) (st:∀ c o,H c=some o->c∉φ i->H' c=some o) (tk:TupK H H')
 (ex:∀ c,H c≠none->H' c≠none) (hl:∀ c∈l,(c∈φ i\/H c=none)/\H' c≠none) (hs:Own K C.cl H' (Sk C (Fo (φset φ i l)) .s) l v d') (h0:∀ c∈l,C.H₀ c=none) (hni:i∉C.io):Rs K C κ (φset φ i l) σ H' (δ.set i (some d'))/\Kp (Fo φ) H (Fo (φset φ i l)) H':=by
 obtain ⟨v0,k0,q1,q2,q3⟩:=r.sl i d hd
 rw [hk] at q2
 cases q2
 have kp:Kp (Fo φ) H (Fo (φset φ i l)) H':=⟨λ c o e n=>st c o e λ m=>n ⟨i,m⟩,tk,λ c f=>by
  obtain ⟨j,hj⟩:=f
  by_cases hji:j=i
  ·subst hji
   rw [φset_same] at hj
   rcases (hl c hj).1 with z | z
   ·exact .inl ⟨j,z⟩
   ·exact .inr z
  ·rw [φset_ne hji] at hj
   exact .inl ⟨j,hj⟩,ex⟩
 refine ⟨⟨λ j d0 e=>?_,λ j1 j2 c m1 m2=>?_,λ c f=>?_,λ c f=>?_,λ c o e nx=>?_,λ c x=>ex c (r.xo c x),r.tk.trans tk,λ j m=>?_,by rw [N1g];exact r.len⟩,kp⟩
 ·rcases get_set e with ⟨rfl,e,_⟩ | ⟨ne,e⟩
  ·cases e
   refine ⟨v,.o,hv,hk,?_⟩
   rw [φset_same]
   exact ⟨hs,h0⟩
  ·obtain ⟨u,k',g1,g2,g3⟩:=r.sl j d0 e
   refine ⟨u,k',g1,g2,?_⟩
   rw [φset_ne (N1f ne)]
   exact g3.mono kp λ c m o e'=>st c o e' λ m'=>ne (r.dj i j c m' m)
 ·by_cases a1:j1=i<;>by_cases a2:j2=i
  ·rw [a1,a2]
  ·exfalso
   subst a1
   rw [φset_same] at m1
   rw [φset_ne a2] at m2
   rcases (hl c m1).1 with z | z
   ·exact a2 (r.dj j2 j1 c m2 z)
   ·exact r.ow c ⟨j2,m2⟩ z
  ·exfalso
   subst a2
   rw [φset_same] at m2
   rw [φset_ne a1] at m1
   rcases (hl c m2).1 with z | z
   ·exact a1 (r.dj j1 j2 c m1 z)
   ·exact r.ow c ⟨j1,m1⟩ z
  ·rw [φset_ne a1] at m1
   rw [φset_ne a2] at m2
   exact r.dj j1 j2 c m1 m2
 ·obtain ⟨j,hj⟩:=f
  by_cases hji:j=i
  ·subst hji;rw [φset_same] at hj;exact (hl c hj).2
  ·rw [φset_ne hji] at hj;exact ex c (r.ow c ⟨j,hj⟩)
 ·obtain ⟨j,hj⟩:=f
  by_cases hji:j=i
  ·subst hji;rw [φset_same] at hj;exact .inl (h0 c hj)
  ·rw [φset_ne hji] at hj;exact r.fi c ⟨j,hj⟩
 ·exact st c o (r.fr c o e nx) λ m=>by have:=q3.2 c m;rw [e] at this;cases this
 ·obtain ⟨g1,g2⟩:=r.ii j m
  exact ⟨g1,by
   have hji:j≠i:=λ z=>hni (by rw [<- z];exact m)
   rw [φset_ne hji];exact g2⟩
theorem q7w (i:Nat){x:Str}{p0 p2 pl:Pos}(hk:κ[i]? = some .o) (hu:X.A.units+64<cLine) (ha:DE X C κ .v fa a ga)
 (hN:X.N[i]? = some x:=by rfl) (hvx:Vis X.env.scope x:=by nofun) (hd:(x==("__debug__" : Str))=false:=by decide) (hcd:(x==("__classdict__" : Str))=false:=by decide)
 (hs:swapsWith (.Dict [] [] pl) (some (.Subscript (.Name x p0) a p2)) pos.line X.env=pure false:=by rfl) (hni:C.io.contains i=false:=by rfl) :
 DSt X C L κ κ (.Assign [.Subscript (.Name x p0) a p2] (.Dict [] [] pl) pos) (q2Z i ga):=by
 obtain ⟨ta,pa,da⟩:=ha
 refine ⟨_,q46 (by lia) (Y7 hN hvx hd hcd) pa q47 hs,λ φ σ H δ r D p=>λ pl' hp=>?_⟩
 obtain ⟨d2,e2,p⟩:=Z4 p
 obtain ⟨R,pa',q,q2,hz,hn,p⟩:∃ R pa',δ[i]? = some (some (.xt (.rm R)))/\dPl d2=some pa'/\R.length<sizeLine/\lkP R pa'=none/\FinS X.K C L κ (Fo φ) H D (.ok (.nx (δ.set i (some (.xt (.rm (R++[(pa',[])]))))))):=by
  split at p
  ·split at p
   ·obtain ⟨hz,p⟩:=X5 p
    exact ⟨_,_,by assumption,by assumption,hz.1,hz.2,p⟩
   ·exact p.elim
  ·exact p.elim
 obtain ⟨v,hvv,a0,bs,rfl,hl,nd,hlen,hH,hrow⟩:=r.own (.inl rfl) hk q
 obtain ⟨_,k0,g1,g2,g3⟩:=r.sl i _ q
 rw [hk] at g2
 cases g2
 have s1:Same H (upd H pl' (.dT [])):=Q5 hp _
 refine ⟨.ref a0,hvv,da (Fo φ) σ _ δ (r.same s1).rx _ ?_⟩
 rw [e2]
 intro v2 H2 s2 a2 _
 rw [q07 q2] at a2
 obtain ⟨c2,rfl,hc2⟩:=q08 a2
 have s12:=s1.trans s2
 have hA:=s12 _ _ hH
 have hpl:H2 pl'=some (.dT []):=s2 _ _ j0
 have h0:H a0≠none:=by rw [hH];exact λ z=>by cases z
 have nap:a0≠pl':=λ z=>h0 (by rw [z];exact hp)
 refine ⟨a0,_,rfl,q9a.t hA hc2 (by rw [List.length_zip,N01,N01,hlen,Nat.min_self];exact hz),?_⟩
 have ek:putK ((R.map λ e=>plK e.1).zip (bs.map V.ref)) (plK pa') (.ref pl')=((R++[(pa',([]:List (Pl×Int)))]).map λ e=>plK e.1).zip ((bs++[pl']).map V.ref):=by
  unfold putK
  rw [q9y pa' R (bs.map V.ref) (by rw [N01];exact hlen),N0l (by
   intro z
   obtain ⟨e,me,he⟩:=List.any_eq_true.mp z
   have:(R.find? λ e=>decide (e.1=pa'))≠none:=λ w=>by
    have:=List.find?_eq_none.mp w e me
    exact this he
   unfold lkP at hn
   cases w:R.find? λ e=>decide (e.1=pa') with
   | none=>exact this w
   | some e=>rw [w] at hn;cases hn)]
  rw [N14,N14,List.zip_append (by rw [N01,N01];exact hlen.symm)]
  rfl
 rw [ek]
 have hbn:∀ b∈bs,H b≠none:=λ b mb=>by
  obtain ⟨j,hj,e⟩:=List.getElem_of_mem mb
  have:=hrow j b _ (by rw [N08 hj,e]) (N08 (by rw [<- hlen];exact hj))
  rw [this];exact λ z=>by cases z
 rw [hl] at nd
 have nd2:=N1s.mp nd
 have nbp:pl'∉bs:=λ m=>hbn _ m hp
 have nd3:(a0::(bs++[pl'])).Nodup:=by
  refine N1s.mpr ⟨λ m=>?_,?_⟩
  ·rcases N0a.mp m with m | m
   ·exact nd2.1 m
   ·exact nap (N0f.mp m)
  ·refine N1t.mpr ⟨nd2.2,by simp,λ b mb c mc z=>?_⟩
   rw [N0f.mp mc] at z
   exact nbp (by rw [<- z];exact mb)
 have hst:∀ c o,H c=some o->c∉φ i->upd H2 a0 (.dT (((R++[(pa',([]:List (Pl×Int)))]).map λ e=>plK e.1).zip ((bs++[pl']).map V.ref))) c=some o:=λ c o e n=>by
  rw [upd_ne (λ z=>n (by rw [hl,z];exact N00))]
  exact s12 _ _ e
 have own:∀ S,Own X.K C.cl (upd H2 a0 (.dT (((R++[(pa',([]:List (Pl×Int)))]).map λ e=>plK e.1).zip ((bs++[pl']).map V.ref)))) S (a0::(bs++[pl'])) (.ref a0) (.xt (.rm (R++[(pa',[])]))):=λ S=>by
  refine ⟨a0,bs++[pl'],rfl,rfl,nd3,by simp [hlen],j0,λ j b e h1 h2=>?_⟩
  rcases Nat.lt_or_ge j bs.length with l | l
  ·rw [N0x l] at h1
   rw [N0x (by simp_all)] at h2
   rw [upd_ne (λ z=>nd2.1 (by rw [<- z];exact N0u h1))]
   exact s12 _ _ (hrow j b e h1 h2)
  ·rw [N19 l] at h1
   rw [N19 (by simp_all),<- hlen] at h2
   cases z:j - bs.length with
   | zero =>
    rw [z] at h1 h2
    cases h1;cases h2
    rw [upd_ne (N1f nap)]
    exact hpl
   | succ n=>rw [z] at h1;simp at h1
 obtain ⟨r3,kp⟩:=Rs.turnO r hk hvv q hst (λ c xs e=>by
  rw [upd_ne (λ z=>by rw [z,hH] at e;cases e)];exact s12 _ _ e) (λ c e z=>by
  by_cases w:c=a0
  ·rw [w,j0] at z;cases z
  ·rw [upd_ne w] at z;exact e (s12.free z)) (l:=a0::(bs++[pl'])) (λ c m=>by
  rcases N0c.mp m with z | m
  ·exact ⟨.inl (by rw [hl,z];exact N00),by rw [z,j0];exact λ z=>by cases z⟩
  ·rcases N0a.mp m with m' | m'
   ·exact ⟨.inl (by rw [hl];exact N02 _ m'),by
     rw [upd_ne (λ z=>nd2.1 (by rw [<- z];exact m'))]
     exact λ z=>hbn c m' (s12.free z)⟩
   ·rw [N0f.mp m']
    exact ⟨.inr hp,by rw [upd_ne (N1f nap),hpl];exact λ z=>by cases z⟩) (own _) (λ c m=>by
  rcases N0c.mp m with z | m
  ·exact g3.2 c (by rw [hl,z];exact N00)
  ·rcases N0a.mp m with m' | m'
   ·exact g3.2 c (by rw [hl];exact N02 _ m')
   ·rw [N0f.mp m'];exact r.old hp) (q09 hni)
 exact p _ _ _ r3 kp
theorem q2v (i:Nat){x:Str}{k:Kd}{p0 p2:Pos}{gv:GE}{fv:Bool}(ho:k=.o\/k=.i) (hk:κ[i]? = some k) (hu:X.A.units+64<cLine) (ha:DE X C κ .v fa a ga) (hb:DE X C κ .v fb b gb) (hv:DE X C κ .v fv e gv) (hsa:z2h a)
 (hN:X.N[i]? = some x:=by rfl) (hvx:Vis X.env.scope x:=by nofun) (hd:(x==("__debug__" : Str))=false:=by decide) (hcd:(x==("__classdict__" : Str))=false:=by decide)
 (hs:swapsWith e (some (.Subscript (.Subscript (.Name x p0) a p1) b p2)) pos.line X.env=pure false:=by rfl) :
 DSt X C L κ κ (.Assign [.Subscript (.Subscript (.Name x p0) a p1) b p2] e pos) (q0B i ga gb gv):=by
 obtain ⟨ta,pa,da⟩:=ha
 obtain ⟨tb,pb,db⟩:=hb
 obtain ⟨tv,pv,dv⟩:=hv
 refine ⟨_,q46 (by lia) (q1W (by lia) (Y7 hN hvx hd hcd) pa hsa) pb pv hs,λ φ σ H δ r D p=>dv (Fo φ) σ H δ r.rx _ ?_⟩
 obtain ⟨d1,e1,p⟩:=Z4 p
 obtain ⟨d2,e2,p⟩:=Z4 p
 obtain ⟨d3,e3,p⟩:=Z4 p
 obtain ⟨R,pa',pb',n,row,q,q2,q3,rfl,q4,hz,p⟩:∃ R pa' pb' n row,δ[i]? = some (some (.xt (.rm R)))/\dPl d2=some pa'/\dPl d3=some pb'/\d1=.int n/\lkP R pa'=some row/\row.length<sizeLine /\
  FinS X.K C L κ (Fo φ) H D (.ok (.nx (δ.set i (some (.xt (.rm (z1A R pa' (putP row pb' n)))))))):=by
  split at p
  ·split at p
   ·split at p
    ·obtain ⟨hz,p⟩:=X5 p
     exact ⟨_,_,_,_,_,by assumption,by assumption,by assumption,rfl,by assumption,hz,p⟩
    ·exact p.elim
   ·exact p.elim
  ·exact p.elim
 rw [e1]
 intro vv H1 s1 a1 _
 rw [At] at a1
 subst a1
 obtain ⟨v,hvv,a0,bs,rfl,hl,nd,hlen,hH,hrow⟩:=r.own ho hk q
 refine ⟨.ref a0,hvv,da (Fo φ) σ H1 δ (r.same s1).rx _ ?_⟩
 rw [e2]
 intro v2 H2 s2 a2 _
 rw [q07 q2] at a2
 obtain ⟨c2,rfl,hc2⟩:=q08 a2
 rcases q9U pa' R (bs.map V.ref) (by rw [N01];exact hlen) with z1 | ⟨j,e',u,g1,g2,z1,z2,z3⟩
 ·rw [z1] at q4;cases q4
 ·rw [z1] at q4
  cases q4
  rw [N0i] at g2
  obtain ⟨b0,g3,rfl⟩:=N1x.mp g2
  refine ⟨a0,.ref b0,rfl,.inr ⟨_,plK pa',c2,.inl ((s1.trans s2) _ _ hH),rfl,hc2,z2.symm⟩,?_⟩
  refine db (Fo φ) σ H2 δ (r.same (s1.trans s2)).rx _ ?_
  rw [e3]
  intro v3 H3 s3 a3 _
  rw [q07 q3] at a3
  obtain ⟨c3,rfl,hc3⟩:=q08 a3
  have s13:=(s1.trans s2).trans s3
  have hb0:=s13 _ _ (hrow j b0 e' g3 g1)
  have hA:=s13 _ _ hH
  have mb:b0∈φ i:=by rw [hl];exact N02 _ (N0u g3)
  refine ⟨b0,_,rfl,q9a.t hb0 hc3 (by rw [N01];exact hz),?_⟩
  rw [put_row]
  have nt:∀ xs,HO.dT (e'.2.map λ q=>(plK q.1,V.int q.2))≠.tup xs:=λ o_ z=>by cases z
  rw [hl] at nd
  have nd2:=N1s.mp nd
  have nab:a0≠b0:=λ z=>nd2.1 (by rw [z];exact N0u g3)
  have own:Own X.K C.cl (upd H3 b0 (.dT ((putP e'.2 pb' n).map λ q=>(plK q.1,V.int q.2)))) (Sk C (Fo φ) .s) (φ i) (.ref a0) (.xt (.rm (z1A R pa' (putP e'.2 pb' n)))):=by
   refine ⟨a0,bs,rfl,hl,by rw [hl];exact nd,by rw [z3,N1g];exact hlen,?_,λ j' b' e2' h1 h2=>?_⟩
   ·rw [upd_ne nab,hA,z3]
    have:(R.set j (e'.1,putP e'.2 pb' n)).map (λ e=>plK e.1)=R.map λ e=>plK e.1:=by
     rw [List.map_set]
     exact z2t (by rw [N0i,g1];rfl)
    rw [this]
   ·rw [z3] at h2
    by_cases hj:j'=j
    ·subst hj
     rw [g3] at h1
     cases h1
     rw [List.getElem?_set_self (by exact (N04.mp g1).1)] at h2
     cases h2
     exact j0
    ·rw [List.getElem?_set_ne (N1f hj)] at h2
     have hb':b'≠b0:=λ z=>hj (by
      rw [z] at h1
      exact (List.getElem?_inj (N04.mp h1).1 nd2.2).mp (h1.trans g3.symm))
     rw [upd_ne hb']
     exact s13 _ _ (hrow j' b' e2' h1 h2)
  obtain ⟨r3,kp⟩:=(r.same s13).write ho hk hvv q mb hb0 nt own
  exact p φ σ _ r3 ((Kp.of s13 λ a f=>.inl f).trans kp)
theorem z5G {q1 q2:Pos}(hu:X.A.units+64<cLine) (ha:DE X C κ .v fa a ga) (hb:DE X C κ .v fb b gb):DE X C κ m true (.Dict [some a,some b] [.Dict [] [] q1,.Dict [] [] q2] pos) (z6o ga gb):=by
 obtain ⟨t,pt,dt⟩:=ha
 obtain ⟨u,pu,du⟩:=hb
 refine ⟨_,q78 (by lia) (q48 pt q47 (q48 pu q47 q9e)) rfl rfl (by simp) (by simp),λ F σ H δ rx Q z p hp=>?_⟩
 obtain ⟨d1,e1,z⟩:=Q3 z
 obtain ⟨d2,e2,z⟩:=Q3 z
 have s0:Same H (upd H p (.dT [])):=Q5 hp _
 refine dt F σ _ δ (rx.same s0) _ ?_
 rw [e1]
 intro v1 H1 s1 a1 _ b1 hb1
 have s01:=s0.trans s1
 have t1:Same H1 (upd H1 b1 (.dT [])):=Q5 hb1 _
 refine du F σ _ δ (rx.same (s01.trans t1)) _ ?_
 rw [e2]
 intro v2 H2 s2 a2 _ b2 hb2
 have t2:Same H2 (upd H2 b2 (.dT [])):=Q5 hb2 _
 obtain ⟨pa',pb',q1',q2',hne,z⟩:∃ pa' pb',dPl d1=some pa'/\dPl d2=some pb'/\pa'≠pb'/\Post X.K C F m true H Q (.ok (.xt (.rm [(pa',[]),(pb',[])]))):=by
  split at z
  ·obtain ⟨hz,z⟩:=x6 z
   exact ⟨_,_,by assumption,by assumption,hz,z⟩
  ·exact z.elim
 rw [q07 q1'] at a1
 rw [q07 q2'] at a2
 have s1e:=(t1.trans s2).trans t2
 obtain ⟨c1,rfl,hc1⟩:=q08 (a1.same s1e)
 obtain ⟨c2,rfl,hc2⟩:=q08 (a2.same t2)
 have hpH1:H1 p=some (.dT []):=s1 _ _ j0
 have hpE:=s1e _ _ hpH1
 have h1E:upd H2 b2 (.dT []) b1=some (.dT []):=t2 _ _ (s2 _ _ j0)
 have h2E:upd H2 b2 (.dT []) b2=some (.dT []):=j0
 have n1:p≠b1:=λ w=>by rw [<- w,hpH1] at hb1;cases hb1
 have n2:p≠b2:=λ w=>by rw [<- w,s2 _ _ (t1 _ _ hpH1)] at hb2;cases hb2
 have n3:b1≠b2:=λ w=>by rw [<- w,s2 _ _ (j0 (H:=H1) (a:=b1))] at hb2;cases hb2
 have sE:=(s01.trans s1e)
 generalize upd H2 b2 (.dT [])=HE at *
 refine ⟨hpE,[(plK pa',.ref b1),(plK pb',.ref b2)],.cons ⟨⟨c1,rfl,hc1⟩,rfl⟩ (.cons ⟨⟨c2,rfl,hc2⟩,rfl⟩ .nil),by simp,?_⟩
 have em:mergeT [] [(plK pa',.ref b1),(plK pb',.ref b2)]=([(pa',([]:List (Pl×Int))),(pb',[])].map λ e=>plK e.1).zip ([b1,b2].map V.ref):=by
  show putK (putK [] (plK pa') (.ref b1)) (plK pb') (.ref b2)=_
  have:plK pa'≠plK pb':=λ w=>hne (q0L w)
  simp [putK,this]
 rw [em]
 have s3:Same H (upd HE p (.dT (([(pa',([]:List (Pl×Int))),(pb',[])].map λ e=>plK e.1).zip ([b1,b2].map V.ref)))):=λ c o q=>by
  rw [upd_ne (λ w=>by rw [w,hp] at q;cases q)]
  exact sE _ _ q
 have hf1:H b1=none:=s01.free hb1
 have hf2:H b2=none:=((s01.trans t1).trans s2).free hb2
 have x:XOn (upd HE p (.dT (([(pa',([]:List (Pl×Int))),(pb',[])].map λ e=>plK e.1).zip ([b1,b2].map V.ref)))) [p,b1,b2] (.ref p) (.rm [(pa',[]),(pb',[])]):=by
  refine ⟨p,[b1,b2],rfl,rfl,by simp [n1,n2,n3],rfl,j0,λ i b e g1 g2=>?_⟩
  match i,g1,g2 with
  | 0,g1,g2=>cases g1;cases g2;rw [upd_ne (N1f n1)];exact h1E
  | 1,g1,g2=>cases g1;cases g2;rw [upd_ne (N1f n2)];exact h2E
  | i+2,g1,_=>simp at g1
 have fresh:∀ c∈[p,b1,b2],H c=none:=λ c mc=>by
  simp only [N0c,N1d,or_false] at mc
  rcases mc with rfl | rfl | rfl
  ·exact hp
  ·exact hf1
  ·exact hf2
 refine z (.ref p) _ s3 ?_ λ o_ o_=>⟨_,x,fresh⟩
 rw [At]
 exact ⟨_,x.xr,λ c mc=>rx.new m (fresh c mc)⟩
theorem q5u {x:Str}(hg:Gl X x) (h98:C.cl 98=1) (hm:X.mg x=some (.ref (C.cl 99))) (hd:(x==("__debug__" : Str))=false:=by decide):DE X C κ m true (.Name x pos) (gC (plD ("sun","in"))) :=
 ⟨_,q68 (v:=.ref (C.cl 99)) hg hm rfl hd,λ F σ H δ rx Q z=>z _ H (Same.refl H) (q7d rfl (rx.sun h98)) λ o_=>Nw.small rfl⟩
end
noncomputable abbrev rowV (row:List (Pl×Int)):List (List Key×V):=row.map λ q=>(plK q.1,V.int q.2)
section
variable {X:Cx}{C:Dc}{L:List Kd×List Nat}{κ κ' κ1:List Kd}{m:Kd}{fr fa fb:Bool}{e a b:Expr}{ga gr:GE}{gb:GS}{pos p1:Pos}
theorem Rs.fz {K:W.Frag}{φ:Nat->List Addr}{σ:St}{H H' h0:Hp}{δ:DS}(r:Rs K C κ φ σ H δ) (z:Fz H H') (ho:∀ b,Fo φ b->H' b=H b) (hX:∀ b,¬ C.X b) (nn:∀ b,h0 b=none↔C.H₀ b=none) (fr':∀ b o,h0 b=some o->H' b=some o)
 (tk:TupK h0 H') (hs0:Sun C.cl h0):Rs K { C with H₀:=h0,sn:=hs0 } κ φ σ H' δ:=by
 refine ⟨λ i d e=>?_,r.dj,λ a f=>by rw [ho a f];exact r.ow a f,λ a f=>(r.fi a f).imp (nn a).2 id,λ a o e o_=>fr' a o e,λ a x=>absurd x (hX a),tk,r.ii,r.len⟩
 obtain ⟨v,k,h1,h2,h3⟩:=r.sl i d e
 refine ⟨v,k,h1,h2,?_⟩
 have hl:∀ a∈φ i,H' a=H a:=λ a m=>ho a ⟨i,m⟩
 have sk:∀ a,Sk C (Fo φ) .s a->Sk { C with H₀:=h0,sn:=hs0 } (Fo φ) .s a:=λ a z=>⟨(nn a).2 z.1,z.2⟩
 cases k with
 | o=>exact ⟨(h3.1.fz z hl).mono TupK.refl (λ o_ o_ o_ e=>e) (λ o_ o_ o_ e=>e) λ a q o_=>sk a q,λ a m=>(nn a).2 (h3.2 a m)⟩
 | i=>exact (Own.fz z hl h3).mono TupK.refl (λ o_ o_ o_ e=>e) (λ o_ o_ o_ e=>e) λ a q o_=>sk a q
 | v=>exact ⟨At.fz z h3.1,λ a m=>(nn a).2 (h3.2 a m)⟩
 | w=>exact ⟨h3.1.mono λ a m o e=>by rw [hl a m];exact e,λ a m=>(nn a).2 (h3.2 a m)⟩
 | b=>exact At.fz z h3
 | s=>exact (At.fz z h3).sub λ a q o_=>sk a q
theorem z5H {H:Hp}{a:Addr}{o:Obj}{kvs:List (List Key×V)}(h:H a=some (.dT kvs)):Fz H (upd H a (.frz o (.dT kvs))):=λ b u e=>by
 by_cases q:b=a
 ·subst q
  rw [h] at e
  cases e
  exact .inr ⟨kvs,.inl ⟨rfl,o,j0⟩⟩
 ·exact .inl (by rw [upd_ne q];exact e)
theorem q9V {H:Hp}{a:Addr}{o:Obj}{kvs:List (List Key×V)}(h:H a=some (.frz o (.dT kvs))):Fz H (upd H a (.dT kvs)):=λ b u e=>by
 by_cases q:b=a
 ·subst q
  rw [h] at e
  cases e
  exact .inr ⟨kvs,.inr ⟨o,rfl,j0⟩⟩
 ·exact .inl (by rw [upd_ne q];exact e)
theorem q5v {i:Nat}{k:Kd}{fg:List Nat}{tb:TS}{D:Ends}(hkk:k=.b\/k=.s) (hk:i<κ.length) (hni:i∉C.io) (ok:okK κ1 κ fg=true)
 (db:∀ φ σ H δ,Rs X.K C (κ.set i k) φ σ H δ->∀ D,FinS X.K C (κ,fg) κ1 (Fo φ) H D (gb δ)->tb D σ H)
 {a:Addr}{o:Obj}{row:List (Pl×Int)}{φ:Nat->List Addr}{σ:St}{H1:Hp}{δ1:DS}(r1:Rs X.K C κ φ σ H1 δ1) (na:¬ Fo φ a) (hH:H1 a=some (.frz o (.dT (rowV row))))
 (p:FinS X.K C L κ (Fo φ) H1 D (W6 i fg gb (rowK row) δ1)) :
 ∃ W:Nat->Nat->St->Hp->Prop,(∃ m,W 0 m σ H1)/\∀ j m σ H,W j m σ H ->
  ((Itd a o (rowV row)).stop j H/\D.nx σ H)\/((Itd a o (rowV row)).go j H/\∃ N:St->Hp->Prop,(∀ σ' H',N σ' H'->∃ m',m'<m/\W (j+1) m' σ' H')/\∀ x H',(Itd a o (rowV row)).yld j H x H'->q7S i x σ H' λ σ2 H2=>tb { D with nx:=N,ct:=N,bk:=D.nx } σ2 H2):=by
 refine z1s (λ j σ' H'=>∃ φ' δ',Rs X.K C κ φ' σ' H' δ'/\Kp (Fo φ) H1 (Fo φ') H'/\FinS X.K C L κ (Fo φ) H1 D (W6 i fg gb ((rowK row).drop j) δ'))
  ⟨φ,δ1,r1,Kp.refl,p⟩ (λ j σ' H' o1_ ⟨φ',δ',r',kp,o2_⟩=>kp.st _ _ hH na) ?_ ?_
 ·rintro j kk b σ' H' hj hb ⟨φ',δ',r',kp,q⟩
  rw [N1m,N0i] at hj
  obtain ⟨q0,hq0,hk0⟩:=N1x.mp hj
  have hk0:plK q0.1=kk:=hk0
  subst hk0
  rw [X6 (x:=plD q0.1) (xs:=rowK row) (by rw [N0i,hq0];rfl)] at q
  exact q1E (x:=Str.empty) hkk hk hni ok db r' kp (q7d rfl hb) q λ φ2 σ2 H2 δ2 r2 kp2 q2=>⟨φ2,δ2,r2,kp2,q2⟩
 ·rintro σ' H' ⟨φ',δ',r',kp,q⟩
  rw [show (rowV row).length=(rowK row).length by rw [N01,N01],N1h,q0N] at q
  exact q φ' σ' H' r' kp
noncomputable def hz (H0:Hp) (b0:Addr) (w:HO):Hp:=λ b=>if b=b0 then (if H0 b0=none then none else some w) else H0 b
theorem q9W {H0:Hp}{b0 b:Addr}{w:HO}(n:b≠b0):hz H0 b0 w b=H0 b:=N0l n
theorem z3M {H0:Hp}{b0:Addr}{w:HO}(b:Addr):hz H0 b0 w b=none↔H0 b=none:=by
 by_cases z:b=b0
 ·subst z
  refine Iff.trans (iff_of_eq (congrArg (· = none) (N0j rfl))) ?_
  by_cases q:H0 b=none
  ·rw [N0j q,q]
  ·rw [N0l q]
   exact ⟨(λ q=>nomatch q),λ y=>absurd y q⟩
 ·rw [q9W z]
theorem hz_some {H0:Hp}{b0 b:Addr}{w u:HO}(z:hz H0 b0 w b=some u):b=b0/\u=w\/b≠b0/\H0 b=some u:=by
 by_cases q:b=b0
 ·refine .inl ⟨q,?_⟩
  rw [hz,N0j q] at z
  by_cases y:H0 b0=none
  ·rw [N0j y] at z;cases z
  ·rw [N0l y] at z;cases z;rfl
 ·rw [q9W q] at z
  exact .inr ⟨q,z⟩
theorem q9X {K:W.Frag}{φ:Nat->List Addr}{σ:St}{H:Hp}{δ:DS}{ir:Nat}{R:List (Pl×List (Pl×Int))}{pp:Pl}{row:List (Pl×Int)}{d2:Dl.D}(r:Rs K C κ φ σ H δ) (hkr:κ[ir]? = some .b) (q1:δ[ir]? = some (some (.xt (.rm R)))) (q2:dPl d2=some pp) (q3:lkP R pp=some row) :
 ∃ a0 b0,σ[ir]? = some (some (.ref a0))/\¬ Fo φ b0/\Rd H b0 (.dT (rowV row))/\∀ {H1:Hp}{S:Addr->Prop}{v2:V},Same H H1->At K C.cl H1 S v2 d2->q3y H1 a0 v2 (some (.ref b0)):=by
 obtain ⟨v,kr,hv1,hv2,a1⟩:=r.sl ir _ q1
 rw [hkr] at hv2
 cases hv2
 have a1:At K C.cl H (Sk C (Fo φ) .b) v (.xt (.rm R)):=a1
 rw [At] at a1
 obtain ⟨l,⟨a0,bs,rfl,hl,hlen,hA,hrow⟩,nS⟩:=a1
 obtain ⟨j,e',u,g1,g2,z1,z2⟩:∃ (i:Nat) (e:Pl×List (Pl×Int)) (u:V),R[i]? = some e/\(bs.map V.ref)[i]? = some u/\lkP R pp=some e.2/\valV ((R.map λ e=>plK e.1).zip (bs.map V.ref)) (plK pp)=some u:=by
  rcases lk_zip pp R (bs.map V.ref) (by rw [N01];exact hlen) with ⟨z1,_⟩ | z
  ·rw [z1] at q3;cases q3
  ·exact z
 rw [z1] at q3
 cases q3
 rw [N0i] at g2
 obtain ⟨b0,g3,rfl⟩:=N1x.mp g2
 refine ⟨a0,b0,hv1,nS b0 (by rw [hl];exact N02 _ (N0u g3)),hrow j b0 e' g3 g1,λ {H1 S v2} s1 a2=>?_⟩
 rw [q07 q2] at a2
 obtain ⟨c2,rfl,hc2⟩:=q08 a2
 exact .inr ⟨_,plK pp,c2,s1.rd hA,rfl,hc2,z2.symm⟩
theorem q9Y {δ:DS}{ir:Nat}{xs:List Dl.D}(e:gKeys (gVar ir) ga δ=.ok xs):∃ R pp row d2,δ[ir]? = some (some (.xt (.rm R)))/\ga δ=.ok d2/\dPl d2=some pp/\lkP R pp=some row/\xs=rowK row:=by
 obtain ⟨d1,e2,e1⟩:=Q1 (T:=λ q=>q=Rz.ok xs) (λ o_ o_ q=>nomatch q) (λ q=>nomatch q) e
 obtain ⟨d2,e3,e1⟩:=Q1 (T:=λ q=>q=Rz.ok xs) (λ o_ o_ q=>nomatch q) (λ q=>nomatch q) e1
 have g1:δ[ir]? = some (some d1):=by
  unfold gVar at e2
  split at e2
  ·cases e2;assumption
  ·cases e2
 cases d1 with
 | xt u =>
  cases u with
  | rm R =>
   have e1:(match dPl d2 with | some p=>optR ((lkP R p).map rowK) | none=>.un)=.ok xs:=e1
   cases q2:dPl d2 with
   | none=>rw [q2] at e1;cases e1
   | some pp =>
    rw [q2] at e1
    have e1:optR ((lkP R pp).map rowK)=.ok xs:=e1
    cases q3:lkP R pp with
    | none=>rw [q3] at e1;cases e1
    | some row =>
     rw [q3] at e1
     cases e1
     exact ⟨R,pp,row,d2,g1,e3,q2,q3,rfl⟩
  | rc r=>cases e1
 | _=>cases e1
theorem z3N (ir:Nat){i:Nat}{x y:Str}{k:Kd}{fg:List Nat}{body:List Stmt}{px pr':Pos}(hp:PassesOwn (model X.prog X.w) X.A X.env X.xe) (hc:X.calm=true) (hkk:k=.b\/k=.s) (hk:i<κ.length) (hN:X.N.Nodup) (hi:X.N[i]? = some x) (hx:Loc X.env.scope x)
 (hu:X.A.units+64<cLine) (hx0:∀ c,X.H₀ c=C.H₀ c) (hX:∀ c,¬ C.X c) (hkr:κ[ir]? = some .b) (ha:DE X C κ .v fa a ga) (hsl:z2h a)
 (hb:∀ (h0:Hp) (hs0:Sun C.cl h0),DSs X { C with H₀:=h0,sn:=hs0 } (κ,fg) (κ.set i k) κ1 body gb) (ok:okK κ1 κ fg=true) (hNr:X.N[ir]? = some y:=by rfl) (hvy:Vis X.env.scope y:=by nofun) (hd:(y==("__debug__" : Str))=false:=by decide) (hcd:(y==("__classdict__" : Str))=false:=by decide)
 (hs:∀ v,foldedSetIterable (.Subscript (.Name y pr') a p1) X.env v=pure v:=by intro _;rfl)
 (hf:X.fn x=true\/X.env.scope.names.lookup x=some .local:=by nofun) (hni:C.io.contains i=false:=by rfl) :
 DSt X C L κ κ (.For (.Name x px) (.Subscript (.Name y pr') a p1) body [] pos) (z1B (gKeys (gVar ir) ga) i fg gb):=by
 obtain ⟨ta,pa,da⟩:=ha
 have pb:PSs X body (λ D σ H=>∃ h0 hs0,(Classical.choose (hb h0 hs0)) D σ H):=λ pins s σ H D I ⟨h0,hs0,q⟩=>(Classical.choose_spec (hb h0 hs0)).1 pins s σ H D I q
 have pit:=q1W (pos:=p1) (by lia) (Y7 (pos:=pr') hNr hvy hd hcd) pa hsl
 refine ⟨_,z3r (z1t (q8U hp hc (q9r pit) (q0K hN hi hx hf) pb hs)) (q8U hp hc (q77 pit) (q0K hN hi hx hf) pb hs),λ φ σ H δ r D p=>?_⟩
 have dbs:∀ h0 hs0,∀ φ σ H δ,Rs X.K { C with H₀:=h0,sn:=hs0 } (κ.set i k) φ σ H δ->∀ D,FinS X.K { C with H₀:=h0,sn:=hs0 } (κ,fg) κ1 (Fo φ) H D (gb δ)->∃ h0 hs0,(Classical.choose (hb h0 hs0)) D σ H :=
  λ h0 hs0 φ σ H δ r D q=>⟨h0,hs0,(Classical.choose_spec (hb h0 hs0)).2 φ σ H δ r D q⟩
 obtain ⟨o0,e0,p⟩:=Z4 p
 obtain ⟨δ2,rfl,p⟩:∃ δ2,o0=.nx δ2/\FinS X.K C L κ (Fo φ) H D (.ok (.nx δ2)):=by
  cases o0 with
  | nx δ2=>exact ⟨δ2,rfl,p⟩
  | bk _=>exact p.elim
  | ct _=>exact p.elim
  | rt _ _=>exact p.elim
 obtain ⟨xs,e1,e0⟩:=Q1 (T:=λ q=>q=Rz.ok (Out.nx δ2)) (λ o_ o_ q=>nomatch q) (λ q=>nomatch q) e0
 obtain ⟨R,pp,row,d2,q1,e3,q2,q3,rfl⟩:=q9Y e1
 obtain ⟨a0,b0,hv1,nb,rd0,get⟩:=q9X r hkr q1 q2 q3
 have nio:=q09 hni
 rcases rd0 with h0 | ⟨oz,h0⟩
 ·
  refine .inl ⟨.ref a0,hv1,da (Fo φ) σ H δ r.rx _ ?_⟩
  rw [e3]
  intro v2 H1 s1 a2 _
  have hA1:=s1 _ _ h0
  refine ⟨a0,.ref b0,rfl,get s1 a2,b0,_,rfl,hA1,λ o=>?_⟩
  have r1:=(r.same s1).forget (q4f κ fg)
  have c0:∀ u,C.H₀ b0=some u->u=.dT (rowV row):=λ u z=>by
   have:=(r.same s1).fr b0 u z (hX b0)
   rw [hA1] at this
   exact (N0b this).symm
  have nn:=z3M (H0:=C.H₀) (b0:=b0) (w:=.frz o (.dT (rowV row)))
  have hs0':Sun C.cl (hz C.H₀ b0 (.frz o (.dT (rowV row)))):=λ f=>by
   have g:=C.sn f
   rw [q9W (λ z=>by rw [z] at g;cases c0 _ g)]
   exact g
  have r2:Rs X.K { C with H₀:=hz C.H₀ b0 (.frz o (.dT (rowV row))),sn:=hs0' } κ φ σ (upd H1 b0 (.frz o (.dT (rowV row)))) (forget fg δ):=by
   have hh:∀ b u,hz C.H₀ b0 (.frz o (.dT (rowV row))) b=some u->upd H1 b0 (.frz o (.dT (rowV row))) b=some u:=λ b u z=>by
    rcases hz_some z with ⟨rfl,rfl⟩ | ⟨w,z⟩
    ·exact j0
    ·rw [upd_ne w]
     exact (r.same s1).fr b u z (hX b)
   exact Rs.fz r1 (z5H hA1) (λ b f=>upd_ne (λ z=>nb (by rw [<- z];exact f))) hX nn hh (λ b xs z=>hh b _ z) hs0'
  refine q5v (L:=L) (C:={ C with H₀:=hz C.H₀ b0 (.frz o (.dT (rowV row))),sn:=hs0' }) hkk hk nio ok (dbs _ hs0') r2 nb j0 ?_
  rw [e0]
  intro φ' σ' H' r' kp
  have hF:H' b0=some (.frz o (.dT (rowV row))):=kp.st b0 _ j0 nb
  have nb':¬ Fo φ' b0:=λ f=>(kp.ow b0 f).elim nb (λ z=>by rw [j0] at z;cases z)
  refine ⟨b0,o,_,hF,λ ob w z=>?_,p φ' σ' _ ?_ ⟨λ b u z n=>?_,λ b xs z=>?_,λ b f=>?_,λ b z w=>?_⟩⟩
  ·rw [hx0] at z
   cases c0 _ z
  ·have:=Rs.fz (h0:=C.H₀) r' (q9V hF) (λ b f=>upd_ne (λ z=>nb' (by rw [<- z];exact f))) hX (λ b=>(nn b).symm) (λ b u z=>?_) (λ b xs z=>?_) C.sn
   ·exact this
   ·by_cases w:b=b0
    ·subst w;rw [j0,c0 _ z]
    ·rw [upd_ne w]
     exact r'.fr b u ((q9W w).trans z) (hX b)
   ·by_cases w:b=b0
    ·subst w;cases c0 _ z
    ·rw [upd_ne w]
     exact r'.tk b xs ((q9W w).trans z)
  ·by_cases w:b=b0
   ·subst w
    rw [j0]
    rw [h0] at z
    exact z
   ·rw [upd_ne w]
    exact kp.st b u (by rw [upd_ne w];exact s1 _ _ z) n
  ·by_cases w:b=b0
   ·subst w;rw [h0] at z;cases z
   ·rw [upd_ne w]
    exact kp.tk b xs (by rw [upd_ne w];exact s1 _ _ z)
  ·rcases kp.ow b f with z | z
   ·exact .inl z
   ·refine .inr (s1.free ?_)
    by_cases w:b=b0
    ·subst w;exact absurd f nb'
    ·rw [upd_ne w] at z;exact z
  ·by_cases q:b=b0
   ·subst q;rw [j0] at w;cases w
   ·rw [upd_ne q] at w
    refine kp.ex b ?_ w
    rw [upd_ne q]
    exact λ y=>z (s1.free y)
 ·
  refine .inr ⟨.ref a0,hv1,da (Fo φ) σ H δ r.rx _ ?_⟩
  rw [e3]
  intro v2 H1 s1 a2 _
  refine ⟨a0,.ref b0,rfl,get s1 a2,b0,oz,_,rfl,s1 _ _ h0,?_⟩
  have kp1:Kp (Fo φ) H (Fo φ) H1:=Kp.of s1 λ a f=>.inl f
  refine q5v (L:=L) (C:=C) hkk hk nio ok (dbs C.H₀ C.sn) ((r.same s1).forget (q4f κ fg)) nb (s1 _ _ h0) ?_
  rw [e0]
  exact K7 kp1 p
theorem Rx.fz {K:W.Frag}{F:Addr->Prop}{σ:St}{H H':Hp}{δ:DS}(r:Rx K C κ F σ H δ) (z:Fz H H') (zb:∀ b,H' b=none↔H b=none):Rx K C κ F σ H' δ :=
 ⟨λ i d e=>let ⟨v,k,h1,h2,h3⟩:=r.sl i d e;⟨v,k,h1,h2,At.fz z h3⟩,λ a h=>r.old a ((zb a).1 h),λ a f h=>r.ow a f ((zb a).1 h),r.tk.trans z.tup⟩
section
variable {kx:Kd}{fe:Bool}{elt:Expr}{ifs:List Expr}{gt:GT}{ge:GE}{px pr' posr:Pos}{x y:Str}{caps:q49}{sc:Scope}
theorem q3M {tt:CArg->TT}{te:CArg->TE}(dt:∀ z F σ H δ,Rx X.K C (kx::capK caps κ) F σ H δ->∀ Q,PostT H Q (gt δ)->tt z σ H Q) (de:∀ z F σ H δ,Rx X.K C (kx::capK caps κ) F σ H δ->∀ Q,Post X.K C F m fe H Q (ge δ)->te z σ H Q)
 {F:Addr->Prop}{σ:St}{H1:Hp}{δ:DS}{b0:Addr}{o:Obj}{row:List (Pl×Int)}{all:List Dl.D}{G:List V->Hp->Prop}(r1:Rx X.K C κ F σ H1 δ) (hH:H1 b0=some (.frz o (.dT (rowV row))))
 (e2:compL (capD (caps.map (·.2)) δ) gt ge (rowK row)=.ok all) (hall:all.length<=sizeLine) (fin:∀ ys H2,Same H1 H2->Ats X.K C.cl H2 (Sk C F m) ys all->G ys H2):q1y caps σ tt te (Itd b0 o (rowV row)) H1 G:=by
 refine q9s (λ j ys H'=>Same H1 H'/\∃ ds,Ats X.K C.cl H' (Sk C F m) ys ds/\∃ q,compL (capD (caps.map (·.2)) δ) gt ge ((rowK row).drop j)=.ok q/\ds++q=all)
  ⟨Same.refl H1,[],Ats.nil,all,e2,rfl⟩ (λ j ys H' o1_ ⟨s,o2_⟩=>s _ _ hH) ?_ ?_
 ·rintro c j kk b ys H' hj hb ⟨s,ds,wd,hc⟩
  rw [N1m,N0i] at hj
  obtain ⟨q0,hq0,hk0⟩:=N1x.mp hj
  have hk0:plK q0.1=kk:=hk0
  subst hk0
  rw [X6 (x:=plD q0.1) (xs:=rowK row) (by rw [N0i,hq0];rfl)] at hc
  exact q0R (N:=λ ys H'=>Same H1 H'/\∃ ds,Ats X.K C.cl H' (Sk C F m) ys ds/\∃ q,compL (capD (caps.map (·.2)) δ) gt ge ((rowK row).drop (j+1))=.ok q/\ds++q=all) (dt c) (de c) r1 s (q7d rfl hb) wd hall hc λ ys' H' ds' s' w' h'=>⟨s',ds',w',h'⟩
 ·rintro ys H' ⟨s,ds,wd,q,hq,hall'⟩
  rw [show (rowV row).length=(rowK row).length by rw [N01,N01],N1h,q5q] at hq
  cases hq
  rw [N10] at hall'
  subst hall'
  exact fin ys H' s wd
theorem z3O (ir:Nat) (caps:q49) (hk:q1k X.env.scope sc X.N x caps=true) (hc:X.calm=true) (hu:X.A.units+64<cLine) (hx0:∀ c,X.H₀ c=C.H₀ c) (hX:∀ c,¬ C.X c) (hkr:κ[ir]? = some .b) (ha:DE X C κ .v fa a ga) (hsl:z2h a)
 (ht:∀ z,z5v (cxC X x caps sc z) C (kx::capK caps κ) ifs gt) (he:∀ z,DE (cxC X x caps sc z) C (kx::capK caps κ) .o fe elt ge) (hio:∀ j:Nat,j∈C.io->κ[j]? = some .i)
 (hNr:X.N[ir]? = some y:=by rfl) (hvy:Vis X.env.scope y:=by nofun) (hd:(y==("__debug__" : Str))=false:=by decide) (hcd:(y==("__classdict__" : Str))=false:=by decide)
 (hs:∀ v,foldedSetIterable (.Subscript (.Name y pr') a p1) X.env v=pure v:=by intro _;rfl) :
 DSt X C L κ κ' (.Return (some (.ListComp elt [⟨.Name x px,.Subscript (.Name y pr') a p1,ifs,0⟩] sc pos)) posr) (y7 (U2 (gKeys (gVar ir) ga) (caps.map (·.2)) gt ge)):=by
 obtain ⟨ta,pa,da⟩:=ha
 obtain ⟨tt,htt⟩:=Classical.axiomOfChoice ht
 obtain ⟨te,hte⟩:=Classical.axiomOfChoice he
 have pit:=q1W (pos:=p1) (by lia) (Y7 (pos:=pr') hNr hvy hd hcd) pa hsl
 refine ⟨_,z3r (q4Y (z1u (q6f hk hc (q9r pit) (λ z=>(htt z).1) (λ z=>(hte z).1) hs))) (q4Y (q6f hk hc (q77 pit) (λ z=>(htt z).1) (λ z=>(hte z).1) hs)),λ φ σ H δ r D p=>?_⟩
 obtain ⟨d,e1,p⟩:=Z4 p
 obtain ⟨xs,e2,e1⟩:=Q1 (T:=λ q=>q=Rz.ok d) (λ o_ o_ q=>nomatch q) (λ q=>nomatch q) e1
 obtain ⟨all,e3,e1⟩:=Q1 (T:=λ q=>q=Rz.ok d) (λ o_ o_ q=>nomatch q) (λ q=>nomatch q) e1
 obtain ⟨hall,e1⟩:=Z9 (T:=λ q=>q=Rz.ok d) (λ q=>nomatch q) e1
 cases e1
 obtain ⟨R,pp,row,d2,q1,e4,q2,q3,rfl⟩:=q9Y e2
 obtain ⟨a0,b0,hv1,nb,rd0,get⟩:=q9X r hkr q1 q2 q3
 rcases rd0 with h0 | ⟨oz,h0⟩
 ·refine .inl ⟨.ref a0,hv1,da (Fo φ) σ H δ r.rx _ ?_⟩
  rw [e4]
  intro v2 H1 s1 a2 _
  have hA1:=s1 _ _ h0
  refine ⟨a0,.ref b0,rfl,get s1 a2,b0,_,rfl,hA1,λ o=>?_⟩
  have zb:∀ b,upd H1 b0 (.frz o (.dT (rowV row))) b=none↔H1 b=none:=λ b=>by
   by_cases z:b=b0
   ·subst z;rw [j0,hA1];exact ⟨(λ q=>nomatch q),λ q=>nomatch q⟩
   ·rw [upd_ne z]
  refine q3M (λ z=>(htt z).2) (λ z=>(hte z).2) ((r.same s1).rx.fz (z5H hA1) zb) j0 e3 hall λ ys H2 s2 w p' hp'=>?_
  have hF:H2 b0=some (.frz o (.dT (rowV row))):=s2 _ _ j0
  have np:b0≠p':=λ z=>by rw [z,hp'] at hF;cases hF
  refine ⟨b0,o,_,by rw [upd_ne np];exact hF,λ ob u z=>?_,?_⟩
  ·rw [hx0] at z
   have:=r.fr b0 _ z (hX b0)
   rw [h0] at this
   cases this
  ·have ec:upd (upd H2 p' (.lst ys)) b0 (.dT (rowV row))=upd (upd H2 b0 (.dT (rowV row))) p' (.lst ys):=by
    funext c
    by_cases z:c=b0
    ·subst z;rw [j0,upd_ne np,j0]
    ·rw [upd_ne z]
     by_cases w:c=p'
     ·subst w;rw [j0,j0]
     ·rw [upd_ne w,upd_ne w,upd_ne z]
   rw [ec]
   have sT:Same H (upd H2 b0 (.dT (rowV row))):=λ c u z=>by
    by_cases w:c=b0
    ·subst w;rw [j0];rw [h0] at z;exact z
    ·rw [upd_ne w]
     exact s2 _ _ (by rw [upd_ne w];exact s1 _ _ z)
   have hpT:upd H2 b0 (.dT (rowV row)) p'=none:=by rw [upd_ne (N1f np)];exact hp'
   obtain ⟨g1,g2⟩:=q0l hpT (w.fz (q9V hF)) ((r.same sT).rx.new .o hpT)
   exact p _ κ φ σ _ hio (r.same (sT.trans (Q5 hpT _))) g1 (q9B r (g2.back sT))
 ·refine .inr ⟨.ref a0,hv1,da (Fo φ) σ H δ r.rx _ ?_⟩
  rw [e4]
  intro v2 H1 s1 a2 _
  refine ⟨a0,.ref b0,rfl,get s1 a2,b0,oz,_,rfl,s1 _ _ h0,?_⟩
  refine q3M (λ z=>(htt z).2) (λ z=>(hte z).2) (r.same s1).rx (s1 _ _ h0) e3 hall λ ys H2 s2 w p' hp'=>?_
  have sT:=s1.trans s2
  obtain ⟨g1,g2⟩:=q0l hp' w ((r.same sT).rx.new .o hp')
  exact p _ κ φ σ _ hio (r.same (sT.trans (Q5 hp' _))) g1 (q9B r (g2.back sT))
end
end
noncomputable def spM (K:W.Frag) (cl:Nat->Addr) (F:PFI):Sp:=λ vs H Q E=>∃ u0 u1 u2 u3,vs=[u0,u1,u2,u3]/\spI K cl 4 1 F [u3,u0,u1,u2] H Q E
section
variable {X:Cx}{C:Dc}{κ:List Kd}{m:Kd}{fr0 fr1 fr2:Bool}{e0 e1 e2:Expr}{g0 g1 g2:GE}{pos p pv:Pos}{x y:Str}
theorem q4w {st:Stmt}{ps:List Str}{fx:Addr}{fd:FuncData}{k:Nat}{F:PFI}(i:Nat) (D:Df X.K X.mg y st ps fx fd) (hk:([i].all λ i=>decide (κ[i]? = some Kd.o) || decide (κ[i]? = some Kd.i))=true) (G:FnOk X.prog X.w X.K X.mg X.base CX0 k fx fd ps (spM X.K C.cl F)) (hr:Room k X.A) (hg:Gl X y)
 (h0:DE X C κ .b fr0 e0 g0) (h1:DE X C κ .b fr1 e1 g1) (h2:DE X C κ .b fr2 e2 g2)
 (hN:X.N[i]? = some x:=by rfl) (hv:Vis X.env.scope x:=by nofun) (hd:(x==("__debug__" : Str))=false:=by decide)
 (hcd:(x==("__classdict__" : Str))=false:=by decide) (hs3:starEach [.Name x pv] X.env=(false,eval (.Name x pv) X.env)::starEach [] X.env:=by rfl) (hs2:starEach [e2,.Name x pv] X.env=(false,eval e2 X.env)::starEach [.Name x pv] X.env:=by rfl)
 (hs1:starEach [e1,e2,.Name x pv] X.env=(false,eval e1 X.env)::starEach [e2,.Name x pv] X.env:=by rfl)
 (hdb:(y==("__debug__" : Str))=false:=by decide) (hst:starEach [e0,e1,e2,.Name x pv] X.env=(false,eval e0 X.env)::starEach [e1,e2,.Name x pv] X.env:=by rfl) (hpl:(backTo pos (starEach [e1,e2,.Name x pv] X.env)).any (·.1)=false:=by rfl) :
 DX X C κ m true (.Call (.Name y p) [e0,e1,e2,.Name x pv] [] pos) (q0y F [i] (gCons g0 (gCons g1 (gCons g2 gNil)))):=by
 obtain ⟨t0,p0,d0⟩:=h0
 obtain ⟨t1,p1,d1⟩:=h1
 obtain ⟨t2,p2,d2⟩:=h2
 refine ⟨_,q43 G hr hg D.m D.F.kp D.b .nil q5e (Y5 p0 (Y5 p1 (Y5 p2 (Y5 (Y7 hN hv hd hcd) q1v hs3) hs2) hs1) hst) hdb hst hpl,λ φ σ H δ r Q z=>?_⟩
 obtain ⟨ds,e1',z⟩:=Q1 (T:=PostX X.K C κ φ σ m true H Q) (λ o_ o_ q=>q) (λ q=>q) z
 obtain ⟨os,e2',z⟩:=Q1 (T:=PostX X.K C κ φ σ m true H Q) (λ o_ o_ q=>q) (λ q=>q) z
 obtain ⟨v0,q0,e1'⟩:=Z7 (T:=λ r=>r=Rz.ok ds) (λ o_ o_ z=>by cases z) (λ z=>by cases z) e1'
 obtain ⟨ds1,w1,e1'⟩:=Q1 (T:=λ r=>r=Rz.ok ds) (λ o_ o_ z=>by cases z) (λ z=>by cases z) e1'
 obtain ⟨v1,q1,w1⟩:=Z7 (T:=λ r=>r=Rz.ok ds1) (λ o_ o_ z=>by cases z) (λ z=>by cases z) w1
 obtain ⟨ds2,w2,w1⟩:=Q1 (T:=λ r=>r=Rz.ok ds1) (λ o_ o_ z=>by cases z) (λ z=>by cases z) w1
 obtain ⟨v2,q2,w2⟩:=Z7 (T:=λ r=>r=Rz.ok ds2) (λ o_ o_ z=>by cases z) (λ z=>by cases z) w2
 cases w2
 cases w1
 cases e1'
 obtain ⟨hol,hoa⟩:=q20 e2'
 obtain ⟨d,gg1,gg2,gg3⟩:=hoa 0 i rfl
 obtain ⟨v,k',f1,f2,_⟩:=r.rx.sl i d gg1
 refine d0 (Fo φ) σ H δ r.rx _ ?_
 rw [q0]
 intro u0 H1 s1 a0 _
 refine d1 (Fo φ) σ H1 δ (r.same s1).rx _ ?_
 rw [q1]
 intro u1 H2 s2 a1 _
 refine d2 (Fo φ) σ H2 δ (r.same (s1.trans s2)).rx _ ?_
 rw [q2]
 intro u2 H3 s3 a2 _
 refine ⟨v,f1,?_⟩
 show spM X.K C.cl F _ H3 _ _
 refine ⟨u0,u1,u2,v,rfl,?_⟩
 exact q6s (is:=[i]) (us:=[v]) (vs:=[u0,u1,u2]) r (by simp) (hkB hk) (by rw [hol];rfl) e2' ((s1.trans s2).trans s3) rfl (λ k j e=>by
  cases k with
  | zero =>
   have e:i=j:=N0b e
   subst e
   exact ⟨v,rfl,f1⟩
  | succ k=>simp at e) (Ats.cons (a0.same (s2.trans s3)) (Ats.cons (a1.same s3) (Ats.cons a2 Ats.nil))) z
end
end Dl
namespace Dl
open PySem L2 PyProof.Rows
noncomputable def DS2 (X:Cx) (C:Dc) (L:List Kd×List Nat) (κ κ':List Kd) (s1 s2:Stmt) (g:GS):Prop :=
 ∃ t1 t2,PS X s1 t1/\PS X s2 t2/\∀ φ σ H δ,Rs X.K C κ φ σ H δ->∀ D:Ends,FinS X.K C L κ' (Fo φ) H D (g δ)->t1 { D with nx:=t2 D } σ H
section
variable {X:Cx}{C:Dc}{L:List Kd×List Nat}{κ κ' κ1:List Kd}{x:Str}{e1 e2:Expr}{g1 g2:GE}{f1 f2:Bool}
theorem z1D {s1 s2:Stmt}{sts:List Stmt}{ga gb:GS}(h1:DS2 X C L κ κ1 s1 s2 ga) (h2:DSs X C L κ1 κ' sts gb):DSs X C L κ κ' (s1::s2::sts) (gSeq ga gb):=by
 obtain ⟨t1,t2,p1,p2,dt⟩:=h1
 obtain ⟨u,pu,du⟩:=h2
 refine ⟨_,q40 p1 (q40 p2 pu),λ φ σ H δ r D p=>dt φ σ H δ r { D with nx:=u D } ?_⟩
 have p:FinS X.K C L κ' (Fo φ) H D ((ga δ).bind _):=p
 cases q:ga δ with
 | ok o =>
  rw [q] at p
  cases o with
  | nx δ'=>exact λ φ' σ' H' r' k=>du φ' σ' H' δ' r' D (K7 k p)
  | bk δ'=>exact p
  | ct δ'=>exact p
  | rt d δ'=>exact p
 | er c s=>rw [q] at p;exact p.elim
 | un=>rw [q] at p;exact p.elim
theorem z5I {H:Hp}{a b:Addr}{us vs:List V}{o:HO}(h:Rd H b (.lst us)) (ho:o=.lst vs):∃ ws,Rd (upd H a o) b (.lst ws)/\(ws=us\/ws=vs):=by
 by_cases e:b=a
 ·exact ⟨vs,by rw [e,ho];exact .inl j0,.inr rfl⟩
 ·exact ⟨us,by unfold Rd;rw [upd_ne e];exact h,.inl rfl⟩
set_option tactic.hygienic true in
theorem z1E {i m n:Nat}{p1 p2 p3 a1 c1 x1 q1 q2 q3 a2 c2 x2:Pos}(hk:κ[i]? = some .v) (hx0:∀ a,X.H₀ a=C.H₀ a) (hX:∀ a,C.X a->C.H₀ a≠none) (h1:DE X C κ .v f1 e1 g1) (h2:DE X C κ .v f2 e2 g2)
 (hN:X.N[i]? = some x:=by rfl) (hv:Vis X.env.scope x:=by nofun) (hd:(x==("__debug__" : Str))=false:=by decide)
 (hcd:(x==("__classdict__" : Str))=false:=by decide)
 (hb1:attributeBase (.Subscript (.Name x p1) (.Constant (.int 0) m p2) p3) "append" X.env (eval (.Subscript (.Name x p1) (.Constant (.int 0) m p2) p3) X.env)=eval (.Subscript (.Name x p1) (.Constant (.int 0) m p2) p3) X.env:=by rfl)
 (hf1:((backTo c1 (starEach [e1] X.env)).all (λ x=>!x.1)&&(backToKw c1 (keywordEach [] X.env)).all (λ x=>x.1.isSome)
  && decide ([e1].length+([]:List Keyword).length+(if ([]:List Keyword).isEmpty then 0 else 1)<30))=true:=by rfl)
 (hl1:(a1.endLine==c1.line)=true:=by rfl) (hs1:starEach [e1] X.env=(false,eval e1 X.env)::starEach [] X.env:=by rfl) (hp1:(backTo c1 (starEach [] X.env)).any (·.1)=false:=by rfl)
 (hw1:swapsWith (.Call (.Attribute (.Subscript (.Name x p1) (.Constant (.int 0) m p2) p3) "append" a1) [e1] [] c1) none x1.line X.env=pure false:=by rfl)
 (hb2:attributeBase (.Subscript (.Name x q1) (.Constant (.int 1) n q2) q3) "append" X.env (eval (.Subscript (.Name x q1) (.Constant (.int 1) n q2) q3) X.env)=eval (.Subscript (.Name x q1) (.Constant (.int 1) n q2) q3) X.env:=by rfl)
 (hf2:((backTo c2 (starEach [e2] X.env)).all (λ x=>!x.1)&&(backToKw c2 (keywordEach [] X.env)).all (λ x=>x.1.isSome)
  && decide ([e2].length+([]:List Keyword).length+(if ([]:List Keyword).isEmpty then 0 else 1)<30))=true:=by rfl)
 (hl2:(a2.endLine==c2.line)=true:=by rfl) (hs2:starEach [e2] X.env=(false,eval e2 X.env)::starEach [] X.env:=by rfl) (hp2:(backTo c2 (starEach [] X.env)).any (·.1)=false:=by rfl)
 (hw2:swapsWith (.Call (.Attribute (.Subscript (.Name x q1) (.Constant (.int 1) n q2) q3) "append" a2) [e2] [] c2) none x2.line X.env=pure false:=by rfl) :
 DS2 X C L κ κ (.Expr (.Call (.Attribute (.Subscript (.Name x p1) (.Constant (.int 0) m p2) p3) "append" a1) [e1] [] c1) x1) (.Expr (.Call (.Attribute (.Subscript (.Name x q1) (.Constant (.int 1) n q2) q3) "append" a2) [e2] [] c2) x2) (q5t i g1 g2):=by
 obtain ⟨t1,pt1,dt1⟩:=h1
 obtain ⟨t2,pt2,dt2⟩:=h2
 refine ⟨_,_,q1V (z33 F.plainAttrs_list F.slot_list_append F.type_list_append q3A (z30 q99 (Y7 hN hv hd hcd) q8N (λ o_ o_=>rfl)) (Y5 pt1 q1v hs1) hb1 hf1 hl1 hs1 hp1) hw1,
  q1V (z33 F.plainAttrs_list F.slot_list_append F.type_list_append q3A (z30 q99 (Y7 hN hv hd hcd) q8N (λ o_ o_=>rfl)) (Y5 pt2 q1v hs2) hb2 hf2 hl2 hs2 hp2) hw2,λ φ σ H δ r D p=>?_⟩
 obtain ⟨d1,ed1,p⟩:=Z4 p
 split at p
 ·rename_i xs ys q
  obtain ⟨⟨hz1,hz2⟩,p⟩:=X5 p
  obtain ⟨d2,ed2,p⟩:=Z4 p
  obtain ⟨v,k',hσ,h2',h3⟩:=r.sl i _ q
  rw [hk] at h2'
  cases h2'
  obtain ⟨wa,hold⟩:=h3
  rw [At] at wa
  obtain ⟨tp,us,rfl,htp,wt⟩:=wa
  obtain ⟨v1,v2,rfl,A1,A2⟩:=z3K wt
  rw [At] at A1 A2
  obtain ⟨b1,us1,rfl,sb1,hB1,w1⟩:=A1
  obtain ⟨b2,us2,rfl,sb2,hB2,w2⟩:=A2
  have l1:=w1.length
  have l2:=w2.length
  have ntup:∀ {H:Hp}{b:Addr}{us:List V},Rd H b (.lst us)->∀ {c:Addr}{zs:List V},H c=some (.tup zs)->c≠b:=λ {H b us} hb {c zs} e z=>by
   rw [z] at e
   rcases hb with hb | ⟨o,hb⟩<;>rw [hb] at e<;>cases e
  have rds:∀ {H H':Hp}{b:Addr}{us:List V},Same H H'->Rd H b (.lst us)->Rd H' b (.lst us):=λ {H H' b us} s hb=>by
   rcases hb with hb | ⟨o,hb⟩
   ·exact .inl (s _ _ hb)
   ·exact .inr ⟨o,s _ _ hb⟩
  refine ⟨.ref tp,hσ,tp,[.ref b1,.ref b2],0,.ref b1,rfl,rfl,SqT.of htp,rfl,.inl ⟨rfl,us1,.inl hB1⟩,dt1 (Fo φ) σ H δ r.rx _ ?_⟩
  rw [ed1]
  intro u1 H1 s1 _ _
  refine ⟨b1,us1,u1,rfl,rfl,rds s1 hB1,by rw [hx0];exact hold b1 sb1,by lia,?_⟩
  have hB1':=rds s1 hB1
  have spo:∀ {H:Hp}{δ':DS}{b:Addr}{us ws:List V},Rs X.K C κ φ σ H δ'->b∈φ i->Rd H b (.lst us)->Rs X.K C κ φ σ (upd H b (.lst ws)) (δ'.set i none)/\Kp (Fo φ) H (Fo φ) (upd H b (.lst ws)):=λ {H δ' b us ws} r sb hb =>
   r.spoil (i:=i) (l:=[b]) (λ a m=>by rw [N0f.1 m];exact sb) (λ a m=>by rw [N0f.1 m];exact hold b sb) (λ a o e nm=>by rw [upd_ne (λ z=>nm (N0f.2 z))];exact e)
    (λ c zs e=>by rw [upd_ne (ntup hb e)];exact e) (λ a h=>by
     by_cases z:a=b
     ·rw [z,j0];exact λ z=>by cases z
     ·rw [upd_ne z];exact h) (λ a m hx=>by rw [N0f.1 m] at hx;exact hX b hx (hold b sb))
  obtain ⟨r2,kp2⟩:=spo (ws:=us1++[u1]) (r.same s1) sb1 hB1'
  have htp2:(upd H1 b1 (.lst (us1++[u1]))) tp=some (.tup [.ref b1,.ref b2]):=by rw [upd_ne (ntup hB1' (s1 _ _ htp))];exact s1 _ _ htp
  obtain ⟨ws2,hB2',hw2'⟩:=z5I (a:=b1) (vs:=us1++[u1]) (rds s1 hB2) rfl
  have hws:ws2.length<sizeLine:=by
   rcases hw2' with rfl | rfl
   ·lia
   ·rw [N06,N11];lia
  refine ⟨.ref tp,hσ,tp,[.ref b1,.ref b2],1,.ref b2,rfl,rfl,SqT.of htp2,rfl,.inl ⟨rfl,ws2,.inl hB2'⟩,dt2 (Fo φ) σ _ _ r2.rx _ ?_⟩
  rw [ed2]
  intro u2 H3 s3 _ _
  refine ⟨b2,ws2,u2,rfl,rfl,rds s3 hB2',by rw [hx0];exact hold b2 sb2,hws,?_⟩
  obtain ⟨r4,kp4⟩:=spo (ws:=ws2++[u2]) (r2.same s3) sb2 (rds s3 hB2')
  rw [List.set_set] at r4
  exact p φ σ _ r4 ((Kp.of s1 λ a f=>.inl f).trans (kp2.trans ((Kp.of s3 λ a f=>.inl f).trans kp4)))
 ·exact p.elim
end
end Dl
namespace Dl
open PySem L2
noncomputable def PostZ (K:W.Frag) (cl:Nat->Addr) (L:List Addr) (u:Option V) (H:Hp) (Q:VK):Rz (D×List D)->Prop
 | .ok (d,es)=>∀ v H',(∀ a o,H a=some o->a∉L->H' a=some o)->TupK H H'->(∀ a,H a≠none->H' a≠none)->(∀ e,es[0]? = some e->∃ u',u=some u'/\Own K cl H' (λ o_=>False) L u' e) ->
  At K cl H' (λ a=>H a=none) v d->Nw K cl H H' (λ a=>H a=none) v d->Q v H'
 | _=>False
noncomputable def z6q (n z:Nat) (g:GS) (ds:List D):Rz (D×List D):=(g (startD n ds)).bind λ o=>match o with
 | .nx δ=>(q3D [z] δ).bind λ es=>.ok (.non,es)
 | .rt d δ=>(q3D [z] δ).bind λ es=>.ok (d,es)
 | _=>.un
noncomputable def spZ (K:W.Frag) (cl:Nat->Addr) (n z:Nat) (F:PFI):Sp:=λ vs H Q o_=>∃ (ds:List D) (L:List Addr),(ds.length=n/\Sun cl H)/\vs.length=n /\
 (∀ (i:Nat) d,ds[i]? = some d->∃ v,vs[i]? = some v/\(i=z->Own K cl H (λ o_=>False) L v d)/\(i≠z->At K cl H (λ a=>a∉L) v d))/\PostZ K cl L (vs[z]?) H Q (F ds)
section
variable {P:Program}{w:World}{K:W.Frag}{mg:Str->Option Value}{base:Heap}
theorem z6r {x qual:Str}{st:Stmt}{f:Addr}{fd:FuncData}{N ps:List Str}{k n z:Nat}{cl:Nat->Addr}{κ κ':List Kd}{g:GS}(F:Fun K x qual st f fd) (S:FnScope N ps (defScope st)) (hn:ps.length=n) (hz:z<n) (hκ:∀ i:Nat,i<n->κ[i]? = some (if i=z then .i else .b)) (hend:κ'[z]? = some Kd.i)
 (hbody:∀ (cdv:Value) (A:Around) (outer:List Env) (s:Shared) (H:Hp) (E:XK) (iv:Nat->V) (L:List Addr) (hsn:Sun cl H),Room k (A.deeper (PyProof.Rows.envOfC qual (defScope st) s.heap.objs.size f cdv)) ->
  DSs (cxOf CX0 P w K mg base N qual (defScope st) f cdv A outer s H E).nox ⟨cl,H,λ a=>a∈L,[z],iv,λ o_=>L,hsn⟩ ([],[]) κ κ' (defBody st) g):FnOk P w K mg base CX0 (k+1) f fd ps (spZ K cl n z (z6q N.length z g)):=by
 refine F.ok S (λ vs H Q E h=>by obtain ⟨ds,l,h1,h2,_⟩:=h;rw [h2,hn]) (λ cdv A outer s H vs Q E hr h=>?_)
 obtain ⟨ds,L,⟨hl,hsn⟩,hvl,hs,q⟩:=h
 obtain ⟨t,pt,dt⟩:=hbody cdv A outer s H E (λ j=>(vs[j]?).getD .non) L hsn hr
 have Fif:∀ a i,a∈(if i=z then L else [])->i=z/\a∈L:=λ a i h=>by
  by_cases c:i=z
  ·rw [N0j c] at h;exact ⟨c,h⟩
  ·rw [N0l c] at h;cases h
 have Fiff:∀ a,Fo (λ j=>if j=z then L else []) a↔a∈L:=λ a=>⟨λ ⟨j,hj⟩=>(Fif a j hj).2,λ h=>⟨z,by show a∈(if z=z then L else []);rw [N0j rfl];exact h⟩⟩
 obtain ⟨v0,hv0,o0,_⟩:=hs z _ (N08 (by rw [hl];exact hz))
 have o0:=o0 rfl
 refine ⟨t,pt,dt (λ j=>if j=z then L else []) (L2.start N vs) H (startD N.length ds) ?_ _ ?_⟩
 ·refine ⟨λ i d e=>?_,λ i j a hi hj=>(Fif a i hi).1.trans (Fif a j hj).1.symm,λ a f=>o0.ex ((Fiff a).mp f),λ a f=>.inr ((Fiff a).mp f),λ a o e o_=>e,λ a m=>o0.ex m,TupK.refl,λ j hj=>?_,?_⟩
  ·have e:=q8a e
   have hi:i<n:=by rw [<- hl];exact (N04.mp e).1
   obtain ⟨v,h1,h2,h3⟩:=hs i d e
   refine ⟨v,_,q7s h1,hκ i hi,?_⟩
   show SlOk K _ _ H (if i=z then L else []) v d (if i=z then .i else .b)
   by_cases c:i=z
   ·rw [N0j c,N0j c]
    exact (h2 c).mono TupK.refl (λ a o y=>y.elim) (λ o_ o_ o_ e=>e) λ a y=>y.elim
   ·rw [N0l c,N0l c]
    exact At.sub (h3 c) λ a y o_ f=>y ((Fiff a).mp f)
  ·have c:j=z:=N0f.1 hj
   subst c
   refine ⟨?_,by show (if j=j then L else [])=L;rw [N0j rfl]⟩
   rw [q7s hv0]
   show some (some v0)=some (some ((vs[j]?).getD .non))
   rw [hv0];rfl
  ·unfold L2.start startD
   rw [N06,N06,N01,N01,N13,N13,hvl,hl]
 ·have fin:∀ {κr:List Kd}{φ':Nat->List Addr}{σ':L2.St}{H':Hp}{δ':DS}{v:V}{d:Dl.D},κr[z]? = some .i->Rs K ⟨cl,H,λ a=>a∈L,[z],λ j=>(vs[j]?).getD .non,λ o_=>L,hsn⟩ κr φ' σ' H' δ' ->
   PostZ K cl L (vs[z]?) H Q ((q3D [z] δ').bind λ es=>.ok (d,es))->At K cl H' (λ a=>H a=none) v d->Nw K cl H H' (λ a=>H a=none) v d->Q v H':=λ {κr φ' σ' H' δ' v d} hk r q a nw=>by
   obtain ⟨es,hg,q⟩:=Q1 (T:=PostZ K cl L (vs[z]?) H Q) (λ o_ o_ y=>y) (λ y=>y) q
   refine q v H' (λ a o e y=>r.fr a o e y) r.tk (λ a h=>?_) (λ e he=>?_) a nw
   ·by_cases y:a∈L
    ·exact r.xo a y
    ·cases eo:H a with
     | none=>exact absurd eo h
     | some o=>rw [r.fr a o eo y];exact λ y=>by cases y
   ·obtain ⟨e',h1,h2,h3⟩:=(q20 hg).2 0 z rfl
    rw [he] at h2
    cases h2
    obtain ⟨u,k',g1,g2,g3⟩:=r.sl z e h1
    rw [hk] at g2
    cases g2
    obtain ⟨i1,i2⟩:=r.ii z (N0f.2 rfl)
    rw [g1] at i1
    have i1:u=(vs[z]?).getD .non:=N0b (N0b i1)
    rw [hv0] at i1
    have i1:u=v0:=i1
    subst i1
    refine ⟨u,hv0,?_⟩
    have g3:Own K cl H' _ (φ' z) u e:=g3
    rw [i2] at g3
    exact g3.imO h3
  have q:PostZ K cl L (vs[z]?) H Q ((g (startD N.length ds)).bind _):=q
  cases e:g (startD N.length ds) with
  | ok o =>
   rw [e] at q
   cases o with
   | nx δ'=>exact λ φ' σ' H' r o_=>fin hend r q (by rw [At]) (Nw.small rfl)
   | rt d' δ'=>exact λ v κr φ' σ' H' hk r a nw=>fin (hk z (N0f.2 rfl)) r q a nw
   | bk δ'=>exact q.elim
   | ct δ'=>exact q.elim
  | er c s=>rw [e] at q;exact q.elim
  | un=>rw [e] at q;exact q.elim
theorem q9Z {cl:Nat->Addr}{n z:Nat}{F G:PFI}{vs us:List V}{H:Hp}{Q:VK}{E:XK}(π:Nat->Nat) (hz:π z=0) (hπ:∀ i,i≠z->1<=π i) (hv:vs.length=n) (hu:∀ i:Nat,i<n->vs[i]? = us[π i]?) (hz2:z<n)
 (hd:∀ ds:List D,ds.length=n->∃ es:List D,es.length=n/\(∀ i:Nat,i<n->es[i]? = ds[π i]?)/\G es=F ds) (h:spI K cl n 1 F us H Q E):spZ K cl n z G vs H Q E:=by
 obtain ⟨ds,l,⟨hl,hsn⟩,_,hs,_,q⟩:=h
 obtain ⟨es,h1,h2,h3⟩:=hd ds hl
 refine ⟨es,l 0,⟨h1,hsn⟩,hv,λ i d e=>?_,?_⟩
 ·have hi:i<n:=by rw [<- h1];exact (N04.mp e).1
  obtain ⟨v,g1,g2,g3⟩:=hs (π i) d (by rw [<- h2 i hi];exact e)
  refine ⟨v,by rw [hu i hi];exact g1,λ c=>?_,λ c=>At.sub (g3 (hπ i c)) λ a y o_=>y 0 (by decide)⟩
  have:=g2 (by rw [c,hz];decide)
  rw [c,hz] at this
  exact this
 ·rw [h3]
  cases e:F ds with
  | ok r =>
   rw [e] at q
   obtain ⟨d,fs⟩:=r
   intro v H' a1 a2 a3 a4 a5 a6
   refine q v H' (λ a o y m=>a1 a o y (m 0 (by decide))) a2 a3 (λ j e' hj he=>?_) a5 a6
   have hj0:j=0:=by simp_all
   subst hj0
   obtain ⟨u',y1,y2⟩:=a4 e' he
   refine ⟨u',?_,y2⟩
   rw [hu z hz2,hz] at y1
   exact y1
  | er c s=>rw [e] at q;exact q.elim
  | un=>rw [e] at q;exact q.elim
end
section
variable {P:Program}{w:World}{K:W.Frag}{mg:Str->Option Value}{base:Heap}{f:Addr}{fd:FuncData}{N ps:List Str}{k n:Nat}{cl:Nat->Addr}{g:GS}
theorem z8G (h:FnOk P w K mg base CX0 k f fd ps (spZ K cl n 0 (z6q N.length 0 g))) (hn:0<n):FnOk P w K mg base CX0 k f fd ps (spI K cl n 1 (z3h N.length 1 g)) :=
 h.imp λ vs H Q E y=>q9Z (us:=vs) id rfl (λ i c=>Nat.pos_of_ne_zero c) (by obtain ⟨_,_,_,q,_⟩:=y;exact q) (λ o_ o_=>rfl) hn (λ ds e=>⟨ds,e,λ o_ o_=>rfl,rfl⟩) y
theorem z8H {z i:Nat}(c:i≠z):1<=if i=z then 0 else i+1:=by rw [N0l c];exact Nat.succ_pos i
theorem fz_J (h:FnOk P w K mg base CX0 k f fd ps (spZ K cl 2 1 (z6q N.length 1 g))):FnOk P w K mg base CX0 k f fd ps (spJ K cl (z6n N.length g)) :=
 h.imp λ vs H Q E ⟨u0,u1,e,y⟩=>q9Z (λ i=>if i=1 then 0 else i+1) rfl (λ i c=>z8H c) (by rw [e];rfl) (λ i hi=>by
  subst e
  match i with
  | 0=>rfl
  | 1=>rfl) (by decide) (λ ds e=>by
  match ds,e with
  | [a,b],_=>exact ⟨[b,a],rfl,λ i hi=>(match i with | 0=>rfl | 1=>rfl),rfl⟩) y
theorem fz_M (h:FnOk P w K mg base CX0 k f fd ps (spZ K cl 4 3 (z6q N.length 3 g))):FnOk P w K mg base CX0 k f fd ps (spM K cl (z6p N.length g)) :=
 h.imp λ vs H Q E ⟨u0,u1,u2,u3,e,y⟩=>q9Z (λ i=>if i=3 then 0 else i+1) rfl (λ i c=>z8H c) (by rw [e];rfl) (λ i hi=>by
  subst e
  match i with
  | 0=>rfl
  | 1=>rfl
  | 2=>rfl
  | 3=>rfl) (by decide) (λ ds e=>by
  match ds,e with
  | [a,b,c,d],_=>exact ⟨[b,c,d,a],rfl,λ i hi=>(match i with | 0=>rfl | 1=>rfl | 2=>rfl | 3=>rfl),rfl⟩) y
end
end Dl
namespace Dl
open PySem
noncomputable def ifK {α:Type}(s r:DS->Rz α) (δ:DS):Bool->Rz α:=λ c=>if c=true then s δ else r δ
noncomputable def z6s (r:GS):Out->Rz Out:=λ o=>match o with | .nx δ'=>r δ' | o=>.ok o
@[simp] theorem z6t {α:Type}(s r:DS->Rz α) (δ:DS):ifK s r δ true=s δ:=rfl
@[simp] theorem z5J {α:Type}(s r:DS->Rz α) (δ:DS):ifK s r δ false=r δ:=rfl
@[simp] theorem z3P (r:GS) (δ:DS):z6s r (.nx δ)=r δ:=rfl
@[simp] theorem z7B (r:GS) (d:D) (δ:DS):z6s r (.rt d δ)=.ok (.rt d δ):=rfl
noncomputable def itD:D->Rz (List D):=λ x=>match x with | .lst xs=>.ok xs | .tup xs=>.ok xs | .str z=>.guard (z.cps.all (· < 128)=true) (.ok (signsD z)) | _=>.un
@[simp] theorem z7C (xs:List D):itD (.lst xs)=.ok xs:=rfl
@[simp] theorem z7D (xs:List D):itD (.tup xs)=.ok xs:=rfl
@[simp] theorem z7E (z:Str):itD (.str z)=.guard (z.cps.all (· < 128)=true) (.ok (signsD z)):=rfl
section
variable (δ:DS) (a b:GE) (ga:GA) (t u:GT) (s r:GS) (x:GX) (i:Nat)
@[simp] theorem z7F:gVar i δ=(match δ[i]? with | some (some d)=>.ok d | _=>.un):=rfl
@[simp] theorem z6u:gVarI i δ=(match δ[i]? with | some (some d)=>.guard (d.imm=true) (.ok d) | _=>.un):=rfl
@[simp] theorem z7G (d:D):gC d δ=.ok d:=rfl
@[simp] theorem z5K (f:D->D->Rz D):gOp f a b δ=(a δ).bind λ x=>(b δ).bind λ y=>f x y:=rfl
@[simp] theorem z8I (f:D->Rz D):gUn f a δ=(a δ).bind f:=rfl
@[simp] theorem z8J:gIf t a b δ=(t δ).bind (ifK a b δ):=rfl
@[simp] theorem z7H:z7s a b δ=(a δ).bind λ x=>match x with | .bl true=>b δ | .bl false=>.ok (.bl false) | _=>.un:=rfl
@[simp] theorem z8K:gOr a b δ=(a δ).bind λ x=>match x with | .bl true=>.ok (.bl true) | .bl false=>b δ | _=>.un:=rfl
@[simp] theorem gB_ap:gB a δ=(a δ).bind λ x=>match x with | .bl c=>.ok c | _=>.un:=rfl
@[simp] theorem z7I:gTru a δ=(a δ).bind z7r:=rfl
@[simp] theorem z6v:q0I t u δ=(t δ).bind (ifK u (λ o_=>.ok false) δ):=rfl
@[simp] theorem z7J:q1U t u δ=(t δ).bind (ifK (λ o_=>.ok true) u δ):=rfl
@[simp] theorem z6w:q03 t δ=(t δ).bind λ c=>.ok (!c):=rfl
@[simp] theorem z7K:gYes δ=.ok true:=rfl
@[simp] theorem z7L:gNil δ=.ok []:=rfl
@[simp] theorem q1K:gCons a ga δ=(a δ).bind λ x=>(ga δ).bind λ xs=>.ok (x::xs):=rfl
@[simp] theorem z7M:gTup ga δ=(ga δ).bind λ xs=>.guard (xs.length<=sizeLine) (.ok (.tup xs)):=rfl
@[simp] theorem z7N:gLst ga δ=(ga δ).bind λ xs=>.guard (xs.length<=sizeLine) (.ok (.lst xs)):=rfl
@[simp] theorem z6x (F:PF):gCall F ga δ=(ga δ).bind F:=rfl
@[simp] theorem z8L:gOI a δ=(a δ).bind λ x=>match x with | .int i=>.ok (some i) | _=>.un:=rfl
@[simp] theorem z8M:gON δ=.ok none:=rfl
@[simp] theorem z8N (lo hi:DS->Rz (Option Int)):gSl a lo hi δ=(a δ).bind λ x=>(lo δ).bind λ l=>(hi δ).bind λ h=>dCut x l h:=rfl
@[simp] theorem z7O:gItS a δ=(a δ).bind itD:=rfl
@[simp] theorem z6y:q1A a δ=(a δ).bind λ x=>match x with | .int j=>.guard (Rng j) (.ok (rangeD 0 j.toNat)) | _=>.un:=rfl
@[simp] theorem z6z:z3g a b δ=(a δ).bind λ x=>(b δ).bind λ y=>match x,y with | .int i,.int j=>.guard (Rng i/\Rng j) (.ok (rangeD i (j - i).toNat)) | _,_=>.un:=rfl
@[simp] theorem z6A (it:GI) (caps:List Nat):U2 it caps t a δ=(it δ).bind λ xs=>(compL (capD caps δ) t a xs).bind λ ys=>.guard (ys.length<=sizeLine) (.ok (.lst ys)):=rfl
@[simp] theorem z6B:Z6 δ=.ok (.nx δ):=rfl
@[simp] theorem z3Q:gSeq s r δ=(s δ).bind (z6s r):=rfl
@[simp] theorem z7P:Y9 t s r δ=(t δ).bind (ifK s r δ):=rfl
@[simp] theorem z7Q:y7 a δ=(a δ).bind λ d=>.ok (.rt d δ):=rfl
@[simp] theorem z6C:q86 a δ=(a δ).bind λ d=>.guard (d.big=false) (.ok (.rt d δ)):=rfl
@[simp] theorem z6D:q6i a δ=(a δ).bind λ o_=>.ok (.nx δ):=rfl
@[simp] theorem z7R:X4 i a δ=(a δ).bind λ d=>.ok (.nx (δ.set i (some d))):=rfl
@[simp] theorem z6E:gSetO i a δ=(a δ).bind λ d=>.guard (d.big=true) (.ok (.nx (δ.set i (some d)))):=rfl
@[simp] theorem z7S:q4d i a δ=(a δ).bind λ d=>match δ[i]? with | some (some (.lst xs))=>.guard (xs.length<sizeLine) (.ok (.nx (δ.set i (some (.lst (xs++[d])))))) | _=>.un:=rfl
@[simp] theorem z7T:gPut i b a δ=(a δ).bind λ d=>(b δ).bind λ k=>match δ[i]? with | some (some x)=>(dPut x k d).bind λ y=>.ok (.nx (δ.set i (some y))) | _=>.un:=rfl
@[simp] theorem z7U (it:GI) (fg:List Nat):q1B it i fg s δ=(it δ).bind λ xs=>W6 i fg s xs (forget fg δ):=rfl
@[simp] theorem z7V:q9x a δ=(a δ).bind λ d=>.guard (d.imI=true) (.ok d):=rfl
@[simp] theorem z8O:gIm a δ=(a δ).bind λ d=>.guard (d.imm=true) (.ok d):=rfl
@[simp] theorem z6F (c:Nat) (m:Str) (F:PF):u5 c m F a ga δ=(a δ).bind λ x=>(ga δ).bind λ ds=>.guard (isObj c m x=true) (F (x::ds)):=rfl
@[simp] theorem z5L (F:PFI) (is:List Nat):q0y F is ga δ=(ga δ).bind λ ds=>(q3D is δ).bind λ os=>(F (os++ds)).bind λ r=>.guard (r.2.length=is.length) (.ok (r.1,setS is r.2 δ)):=rfl
@[simp] theorem z5M (c:Nat) (m:Str) (F:PFI):q2P c m F i ga δ=(ga δ).bind λ ds=>(q3D [i] δ).bind λ os=>.guard ((os.all (isObj c m))=true) ((F (os++ds)).bind λ r=>.guard (r.2.length=[i].length) (.ok (r.1,setS [i] r.2 δ))):=rfl
@[simp] theorem z5N:V4 x δ=(x δ).bind λ r=>.ok (.nx r.2):=rfl
@[simp] theorem z6G (c:Nat) (f:Str):z3i i c f b a δ=(a δ).bind λ d=>(b δ).bind λ k=>match δ[i]? with
 | some (some (.obj c' f' x))=>.guard (c'=c/\f'=f) (match x with
  | .dct ks vs=>(dPut (.dct ks vs) k d).bind λ y=>.ok (.nx (δ.set i (some (.obj c' f' y))))
  | _=>.un)
 | _=>.un:=rfl
@[simp] theorem z7W (is:List Nat):z4t is a δ=(a δ).bind λ d=>match d with | .tup ds=>(optR (setT is ds δ)).bind λ δ'=>.ok (.nx δ') | _=>.un:=rfl
@[simp] theorem z5O (f g:D->D->Rz D) (c:GE):gChain f g a b c δ=(a δ).bind λ x=>(b δ).bind λ y=>(f x y).bind λ z=>match z with
 | .bl true=>(c δ).bind λ w=>g y w
 | .bl false=>.ok (.bl false)
 | _=>.un:=rfl
@[simp] theorem z7X (ws:List Str) (x:Str):dInW ws (.str x)=.ok (.bl (decide (x∈ws))):=rfl
@[simp] theorem z4w:forget [] δ=δ:=rfl
@[simp] theorem z3R (r:List Nat):forget (i::r) δ=forget r (δ.set i none):=rfl
end
@[simp] theorem z1F {α:Type}(c:Prop) [Decidable c] (r:Rz α):Rz.guard c r=if c then r else .un:=rfl
@[simp] theorem W5:sizeLine=16777216:=by decide
theorem z00 {a b:String}:Str.ofString a=Str.ofString b↔a=b:=by
 constructor
 ·intro h
  rw [Str.ofString_eq_toList,Str.ofString_eq_toList] at h
  injection h with h
  have h2:a.toList.map Char.toNat=b.toList.map Char.toNat:=by
   have:=congrArg Array.toList h
   simpa using this
  have inj:∀ (l m:List Char),l.map Char.toNat=m.map Char.toNat->l=m:=by
   intro l
   induction l with
   | nil=>intro m h;cases m with
    | nil=>rfl
    | cons _ _=>simp at h
   | cons c l ih=>intro m h;cases m with
    | nil=>simp at h
    | cons d m =>
     simp only [N09,List.cons.injEq] at h
     have:c=d:=by
      have h1:c.toNat=d.toNat:=h.1
      exact Char.ext (UInt32.toNat_inj.mp h1)
     rw [this,ih m h.2]
  have:=inj _ _ h2
  exact String.toList_inj.mp this
 ·rintro rfl;rfl
@[simp] theorem q4x (a b:String):(Str.ofString a==Str.ofString b)=(a==b):=by
 rw [N1y]
 simp [z00]
@[simp] theorem q6t (a b:Str):eqD (.str a) (.str b)=(a==b):=rfl
@[simp] theorem q4y (a b:Int):eqD (.int a) (.int b)=(a==b):=rfl
@[simp] theorem q30 (a b:Str):cmpOk (.str a) (.str b)=true:=rfl
@[simp] theorem q4z (a b:Int):cmpOk (.int a) (.int b)=true:=rfl
@[simp] theorem q31 (x y:D):dEq x y=.guard (cmpOk x y=true) (.ok (.bl (eqD x y))):=rfl
@[simp] theorem q5w (x y:D):dNe x y=.guard (cmpOk x y=true) (.ok (.bl (!eqD x y))):=rfl
@[simp] theorem z5P (i j:Int):J3 (.int i) (.int j)=.ok (.int (i+j)):=rfl
@[simp] theorem z5Q (x y:Str):J3 (.str x) (.str y)=.guard (x.length+y.length<=sizeLine) (.ok (.str (x++y))):=rfl
@[simp] theorem z3S (i j:Int):q8G (.int i) (.int j)=.ok (.int (i - j)):=rfl
@[simp] theorem z3T (i j:Int):q79 (.int i) (.int j)=.guard ((-(2 ^ 64)<i/\i<2 ^ 64)\/(-(2 ^ 64)<j/\j<2 ^ 64)) (.ok (.int (i * j))):=rfl
@[simp] theorem z7Y (i j:Int):q3B (.int i) (.int j)=.guard (0<j/\j<1073741824) (.ok (.int (i / j))):=rfl
@[simp] theorem z7Z (i j:Int):q0J (.int i) (.int j)=.guard (0<j) (.ok (.int (i % j))):=rfl
@[simp] theorem z80 (i:Int):z6l (.int i)=.ok (.int (-i)):=rfl
@[simp] theorem z2u (i j:Int):dLt (.int i) (.int j)=.ok (.bl (decide (i<j))):=rfl
@[simp] theorem z8P (i j:Int):dGt (.int i) (.int j)=.ok (.bl (decide (j<i))):=rfl
@[simp] theorem z8Q (i j:Int):dGe (.int i) (.int j)=.ok (.bl (decide (j<=i))):=rfl
@[simp] theorem q4A (xs:List D) (i:Int):dIx (.lst xs) (.int i)=optR (atD xs i):=rfl
@[simp] theorem z81 (xs:List D) (i:Int):dIx (.tup xs) (.int i)=optR (atD xs i):=rfl
@[simp] theorem z82 (z:Str) (i:Int):dIx (.str z) (.int i)=.guard (z.length<=sizeLine) ((optR (atD z.cps.toList i)).bind λ c=>.ok (.str ⟨#[c]⟩)):=rfl
@[simp] theorem z01 (ks:List Ky) (vs:List D) (x:Str):dIx (.dct ks vs) (.str x)=optR (valD (.inr x) ks vs):=rfl
@[simp] theorem z1G (xs:List D):pLen [.lst xs]=.ok (.int xs.length):=rfl
@[simp] theorem z1H (xs:List D):pLen [.tup xs]=.ok (.int xs.length):=rfl
@[simp] theorem z6H (z:Str):pLen [.str z]=.guard (z.length<=sizeLine) (.ok (.int z.length)):=rfl
@[simp] theorem z6I (ks:List Ky) (vs:List D):pLen [.dct ks vs]=.ok (.int ks.length):=rfl
@[simp] theorem z02 (xs:List D):z3f [.lst xs]=(optR (blsD xs)).bind λ bs=>.ok (.bl (bs.all id)):=rfl
@[simp] theorem z3U (xs:List D):z5j [.lst xs]=(optR (blsD xs)).bind λ bs=>.ok (.bl (bs.any id)):=rfl
@[simp] theorem z3V (xs:List D):pSum [.lst xs]=(optR (intsD xs)).bind λ bs=>.ok (.int bs.sum):=rfl
@[simp] theorem z83 (b:Bool):z5k [.bl b]=.ok (.int (if b then 1 else 0)):=rfl
@[simp] theorem q5x (ks:List Ky) (vs:List D):pList [.dct ks vs]=.ok (.lst (ks.map kyD)):=rfl
@[simp] theorem z4x (xs:List D):pTuple [.lst xs]=.ok (.tup xs):=rfl
@[simp] theorem z84 (b:Bool):z7r (.bl b)=.ok b:=rfl
@[simp] theorem z6J (T:String) (d:D):dIsTy T d=(match tyD d with | some t=>.ok (.bl (t==T || (t=="bool"&&T=="int"))) | none=>.un):=rfl
@[simp] theorem z85 (xs:List D):tyD (.lst xs)=some "list":=rfl
@[simp] theorem z86 (xs:List D):tyD (.tup xs)=some "tuple":=rfl
@[simp] theorem z87 (x:Str):tyD (.str x)=some "str":=rfl
@[simp] theorem z8R (x y:D):dIn x y=(inD x y).bind λ b=>.ok (.bl b):=rfl
@[simp] theorem z03 (x y:D):dNotIn x y=(inD x y).bind λ b=>.ok (.bl (!b)):=rfl
@[simp] theorem z6K (x:D):q6h x .non=.ok (.bl (!q1z x)):=rfl
@[simp] theorem z88 (x:D):z6m x .non=.ok (.bl (q1z x)):=rfl
@[simp] theorem q19 (xs:List D) (lo hi:Option Int):dCut (.lst xs) lo hi=.ok (.lst (q5i xs lo hi)):=rfl
@[simp] theorem z6L (z:Str) (lo hi:Option Int):dCut (.str z) lo hi=.guard (z.length<=sizeLine) (.ok (.str ⟨(q5i z.cps.toList lo hi).toArray⟩)):=rfl
@[simp] theorem z04 (i:Int):(D.int i).imm=true:=by rw [D.imm]
@[simp] theorem q6u (i:Str):(D.str i).imm=true:=by rw [D.imm]
@[simp] theorem z05 (xs:List D):(D.tup xs).imm=xs.all D.imm:=by rw [D.imm,q2s]
@[simp] theorem z3W (xs:List D):(D.lst xs).imI=xs.all D.imm:=by unfold D.imI;exact q2s xs
@[simp] theorem z8S (i:Bool):(D.bl i).big=false:=rfl
@[simp] theorem z89 (i:List D):(D.lst i).big=true:=rfl
@[simp] theorem z8a (k:List Ky) (i:List D):(D.dct k i).big=true:=rfl
theorem q0a {α:Type}(xs:List α) (k:Nat):atD xs (k:Int)=xs[k]?:=by
 unfold atD ixD
 rw [N0j (by simp)]
 by_cases h:(k:Int)<(xs.length:Int)
 ·rw [N0j h];simp
 ·rw [N0l h];simp;simp_all
theorem z06 {α:Type}(xs:List α) (i:Int) (h:0<=i):atD xs i=xs[i.toNat]?:=by
 have:=q0a xs i.toNat
 rwa [show ((i.toNat:Nat):Int)=i by lia] at this
@[simp] theorem q6v {α:Type}(x:α) (xs:List α):atD (x::xs) 0=some x:=q0a (x::xs) 0
@[simp] theorem z8T {α:Type}(x y:α) (xs:List α):atD (x::y::xs) 1=some y:=q0a (x::y::xs) 1
@[simp] theorem z8U {α:Type}(x y z:α) (xs:List α):atD (x::y::z::xs) 2=some z:=q0a (x::y::z::xs) 2
@[simp] theorem z5R {α:Type}(x y:α):atD [x,y] (-1)=some y:=rfl
@[simp] theorem z3X {α:Type}(x y z:α):atD [x,y,z] (-1)=some z:=rfl
theorem z07 {i:Nat}{fg:List Nat}{body:GS}:∀ {xs:List D}{δ:DS}(J:Nat->DS),J 0=δ->(∀ k x,xs[k]? = some x->∃ δ',(body ((J k).set i (some x))=.ok (.nx δ')\/body ((J k).set i (some x))=.ok (.ct δ'))/\forget fg δ'=J (k+1))->W6 i fg body xs δ=.ok (.nx (J xs.length))
 | [],δ,J,h0,_=>by rw [W6,<- h0];rfl
 | x::xs,δ,J,h0,h=>by
  obtain ⟨δ',h1,h2⟩:=h 0 x rfl
  rw [h0] at h1
  have ih:=z07 (i:=i) (fg:=fg) (body:=body) (xs:=xs) (δ:=forget fg δ') (λ k=>J (k+1)) h2.symm (λ k y e=>h (k+1) y e)
  rw [W6]
  rcases h1 with h1 | h1<;>(rw [h1];exact ih)
theorem q3N {α:Type}:∀ l:List α,l.filter (λ o_=>true)=l
 | []=>rfl
 | x::r=>by rw [N1e,N0j rfl,q3N r]
theorem q1q {α:Type}{g:α->D}{cap:DS}{t:GT}{e:GE}{p:α->Bool}{f:α->D}:∀ {l:List α},(∀ x∈l,t (some (g x)::cap)=.ok (p x)/\(p x=true->e (some (g x)::cap)=.ok (f x)))->compL cap t e (l.map g)=.ok ((l.filter p).map f)
 | [],_=>by rw [List.map_nil,compL];rfl
 | x::xs,h=>by
  obtain ⟨h1,h2⟩:=h x N00
  have ih:=q1q (g:=g) (cap:=cap) (t:=t) (e:=e) (p:=p) (f:=f) (l:=xs) λ y hy=>h y (N02 _ hy)
  rw [N09,compL,h1,Z3]
  cases q:p x with
  | true=>rw [N0j rfl,h2 q,Z3,ih,Z3,N1e,N0j q];rfl
  | false=>rw [N0l N0d,ih,N1e,N0l (by rw [q];exact N0d)]
theorem q0n {α:Type}{g:α->D}{cap:DS}{e:GE}{f:α->D}{l:List α}(h:∀ x∈l,e (some (g x)::cap)=.ok (f x)):compL cap gYes e (l.map g)=.ok (l.map f):=by
 have:=q1q (g:=g) (cap:=cap) (t:=gYes) (e:=e) (p:=λ o_=>true) (f:=f) (l:=l) λ x hx=>⟨rfl,λ o_=>h x hx⟩
 rwa [q3N] at this
theorem z1I {cap:DS}{e:GE}{f:Nat->D}{lo:Int}{n:Nat}(h:∀ k,k<n->e (some (.int (lo+(k:Int)))::cap)=.ok (f k)):compL cap gYes e (rangeD lo n)=.ok ((List.range n).map f) :=
 q0n λ k hk=>h k (List.mem_range.mp hk)
theorem q32 {α:Type}{g:α->D}{i:Nat}{fg:List Nat}{body:GS}{l:List α}{δ:DS}(J:Nat->DS) (h0:J 0=δ) (h:∀ k x,l[k]? = some x->∃ δ',(body ((J k).set i (some (g x)))=.ok (.nx δ')\/body ((J k).set i (some (g x)))=.ok (.ct δ'))/\forget fg δ'=J (k+1)):W6 i fg body (l.map g) δ=.ok (.nx (J l.length)):=by
 have:=z07 (i:=i) (fg:=fg) (body:=body) (xs:=l.map g) J h0 λ k x e=>by
  rw [N0i] at e
  cases q:l[k]? with
  | none=>rw [q] at e;cases e
  | some y=>rw [q] at e;cases e;exact h k y q
 rwa [N01] at this
theorem q1a {i:Nat}{fg:List Nat}{body:GS}{lo:Int}{n:Nat}{δ:DS}(J:Nat->DS) (h0:J 0=δ) (h:∀ k,k<n->∃ δ',(body ((J k).set i (some (.int (lo+(k:Int)))))=.ok (.nx δ')\/body ((J k).set i (some (.int (lo+(k:Int)))))=.ok (.ct δ'))/\forget fg δ'=J (k+1)):W6 i fg body (rangeD lo n) δ=.ok (.nx (J n)):=by
 have:=q32 (g:=λ k:Nat=>D.int (lo+(k:Int))) (i:=i) (fg:=fg) (body:=body) (l:=List.range n) J h0 λ k x e=>by
  have hk:k<n:=by have:=(N04.mp e).1;rwa [N17] at this
  rw [N1j hk] at e
  cases e
  exact h k hk
 rwa [N17] at this
@[simp] theorem q21 (n:Nat):Rng (n:Int)↔n<4611686018427387904:=by unfold Rng;omega
@[simp] theorem z8b:Rng 1:=by unfold Rng;lia
@[simp] theorem q4B (i j:Int):(i==j)=decide (i=j):=by
 by_cases h:i=j
 ·simp [h]
 ·rw [N0e h];exact N18.mpr h
theorem z08 (n d k:Nat):sIxD n d (some (k:Int))=min k n:=by
 show (if (k:Int)<0 then ((k:Int)+(n:Int)).toNat else min (Int.toNat (k:Int)) n)=_
 rw [N0l (by simp),Int.toNat_natCast]
@[simp] theorem q7x {α:Type}(xs:List α) (k:Nat):q5i xs none (some (k:Int))=xs.take k:=by
 unfold q5i
 rw [z08]
 show List.take (min k xs.length - 0) (List.drop 0 xs)=_
 rw [List.drop_zero,Nat.sub_zero,Nat.min_def]
 split
 ·rfl
 ·rw [N20,List.take_of_length_le (by lia)]
@[simp] theorem q2w {α:Type}(xs:List α) (k:Nat):q5i xs (some (k:Int)) none=xs.drop k:=by
 unfold q5i
 rw [z08]
 show List.take (xs.length - min k xs.length) (List.drop (min k xs.length) xs)=_
 rw [Nat.min_def]
 split
 ·exact List.take_of_length_le (by rw [N1k];simp)
 ·rw [N1h,List.take_nil,List.drop_of_length_le (by lia)]
theorem z3Y (xs:List D) (i:Int) (v:D) (h:0<=i) (h2:i<(xs.length:Int)):dPut (.lst xs) (.int i) v=.ok (.lst (xs.set i.toNat v)):=by
 have:ixD xs.length i=some i.toNat:=by unfold ixD;rw [N0j h,N0j h2]
 show (match ixD xs.length i with | some j=>Rz.ok (D.lst (xs.set j v)) | none=>.un)=_
 rw [this]
@[simp] theorem q6w (ks:List Ky) (vs:List D) (x:Str) (v:D):dPut (.dct ks vs) (.str x) v=.guard (ks.length<sizeLine) (.ok (putD ks vs (.inr x) v)):=rfl
@[simp] theorem q4C {α:Type}(f:α->Bool):∀ l:List α,blsD (l.map λ x=>D.bl (f x))=some (l.map f)
 | []=>rfl
 | x::r=>by
  show (blsD (r.map λ x=>D.bl (f x))).map (f x :: ·)=_
  rw [q4C f r];rfl
@[simp] theorem z6M (c:Nat) (f:Str) (ks:List Ky) (vs:List D):(D.obj c f (.dct ks vs)).imO=vs.all D.imm:=by rw [D.imO,q2s]
@[simp] theorem z6N (δ:DS):q3D [] δ=.ok []:=rfl
@[simp] theorem z5S (i:Nat) (r:List Nat) (δ:DS):q3D (i::r) δ=match δ[i]? with | some (some d)=>.guard (d.imO=true) ((q3D r δ).bind λ ds=>.ok (d::ds)) | _=>.un:=rfl
@[simp] theorem z6O (ds:List D) (δ:DS):setS [] ds δ=δ:=by rw [setS];exact λ o_ o_ o_ o_ h=>nomatch h
@[simp] theorem z5T (i:Nat) (r:List Nat) (d:D) (ds:List D) (δ:DS):setS (i::r) (d::ds) δ=setS r ds (δ.set i (some d)):=rfl
@[simp] theorem z5U (c c':Nat) (m f:Str) (d:D):isObj c m (.obj c' f d)=(decide (c'=c) && !decide (f=m)):=rfl
@[simp] theorem z8V (a b:String):(Str.ofString a=Str.ofString b)↔a=b:=⟨λ h=>by
 have:=q4x a b
 rw [h,beq_self_eq_true] at this
 exact beq_iff_eq.1 this.symm,λ h=>by rw [h]⟩
theorem q7y {i:Nat}{fg:List Nat}{body:GS}(P:Rz Out->Prop):∀ {xs:List D}{δ:DS}(J:Nat->DS),J 0=δ ->
 (∀ k x,xs[k]? = some x->(∃ δ',(body ((J k).set i (some x))=.ok (.nx δ')\/body ((J k).set i (some x))=.ok (.ct δ'))/\forget fg δ'=J (k+1))\/(∃ d δ',body ((J k).set i (some x))=.ok (.rt d δ')/\P (.ok (.rt d δ')))\/(∃ δ',body ((J k).set i (some x))=.ok (.bk δ')/\P (.ok (.nx (forget fg δ'))))) ->
 P (.ok (.nx (J xs.length)))->P (W6 i fg body xs δ)
 | [],δ,J,h0,_,hp=>by rw [W6,<- h0];exact hp
 | x::xs,δ,J,h0,h,hp=>by
  rcases h 0 x rfl with ⟨δ',h1,h2⟩ | ⟨d,δ',h1,h2⟩ | ⟨δ',h1,h2⟩
  ·rw [h0] at h1
   have ih:=q7y (i:=i) (fg:=fg) (body:=body) P (xs:=xs) (δ:=forget fg δ') (λ k=>J (k+1)) h2.symm (λ k y e=>h (k+1) y e) hp
   rw [W6]
   rcases h1 with h1 | h1<;>(rw [h1];exact ih)
  ·rw [h0] at h1
   rw [W6,h1];exact h2
  ·rw [h0] at h1
   rw [W6,h1];exact h2
theorem z09 {i:Nat}{fg:List Nat}{body:GS}(P:Rz Out->Prop){lo:Int}{n:Nat}{δ:DS}(J:Nat->DS) (h0:J 0=δ)
 (h:∀ k,k<n->(∃ δ',(body ((J k).set i (some (.int (lo+(k:Int)))))=.ok (.nx δ')\/body ((J k).set i (some (.int (lo+(k:Int)))))=.ok (.ct δ'))/\forget fg δ'=J (k+1))\/(∃ d δ',body ((J k).set i (some (.int (lo+(k:Int)))))=.ok (.rt d δ')/\P (.ok (.rt d δ')))\/(∃ δ',body ((J k).set i (some (.int (lo+(k:Int)))))=.ok (.bk δ')/\P (.ok (.nx (forget fg δ')))))
 (hp:P (.ok (.nx (J n)))):P (W6 i fg body (rangeD lo n) δ):=by
 have hl:(rangeD lo n).length=n:=by unfold rangeD;rw [N01,N17]
 refine q7y P J h0 (λ k x e=>?_) (by rw [hl];exact hp)
 unfold rangeD at e
 rw [N0i] at e
 have hk:k<n:=by
  have:=(N04.mp (show ((List.range n).map λ k:Nat=>D.int (lo+(k:Int)))[k]? = some x by rw [N0i];exact e)).1
  rwa [N01,N17] at this
 rw [N1j hk] at e
 cases e
 exact h k hk
@[simp] theorem z6P (δ:DS):setT [] [] δ=some δ:=rfl
@[simp] theorem z5V (i:Nat) (r:List Nat) (d:D) (ds:List D) (δ:DS):setT (i::r) (d::ds) δ=setT r ds (δ.set i (some d)):=rfl
theorem W7 {i:Nat}{g:GE}{δ:DS}{v:D}(h:g δ=.ok v):X4 i g δ=.ok (.nx (δ.set i (some v))):=by unfold X4;rw [h];rfl
theorem j5 {f:D->D->Rz D}{a b:GE}{δ:DS}{x y r:D}(ha:a δ=.ok x) (hb:b δ=.ok y) (h:f x y=.ok r):gOp f a b δ=.ok r:=by unfold gOp;rw [ha];show (b δ).bind _=_;rw [hb];exact h
section
variable {s r:GS}{δ δ':DS}{o:Rz Out}{n:Nat}{ds:List D}{d x:D}{a c:GE}{g:GA}{F:PF}{q:Rz D}{t u:GT}{b:Bool}{xs:List D}
theorem j6 (h:s δ=.ok (.nx δ')) (h2:r δ'=o):gSeq s r δ=o:=by unfold gSeq;rw [h];exact h2
theorem W1 (h:s (startD n ds)=.ok (.rt d δ)):K2 n s ds=.ok d:=by unfold K2;rw [h];rfl
theorem Z8 (h:a δ=.ok d):y7 a δ=.ok (.rt d δ):=by unfold y7;rw [h];rfl
theorem w6 (h:g δ=.ok ds) (h2:F ds=q):gCall F g δ=q:=by unfold gCall;rw [h];exact h2
theorem Q2 (h:a δ=.ok x) (h2:g δ=.ok xs):gCons a g δ=.ok (x::xs):=by unfold gCons;rw [h,Z3,h2];rfl
theorem ifN (h:t δ=.ok false) (h2:r δ=o):Y9 t s r δ=o:=by unfold Y9;rw [h];exact h2
theorem ifY (h:t δ=.ok true) (h2:s δ=o):Y9 t s r δ=o:=by unfold Y9;rw [h];exact h2
theorem Y3 (h:a δ=.ok (.bl b)):gTru a δ=.ok b:=by unfold gTru;rw [h];rfl
theorem x5 (h:a δ=.ok (.bl b)):gB a δ=.ok b:=by unfold gB;rw [h];rfl
theorem z0a (h:t δ=.ok true):q03 t δ=.ok false:=by unfold q03;rw [h];rfl
theorem orN (h:t δ=.ok false) (h2:u δ=.ok b):q1U t u δ=.ok b:=by unfold q1U;rw [h];exact h2
theorem q0C (h:a δ=.ok (.lst xs)):gItS a δ=.ok xs:=by unfold gItS;rw [h];rfl
theorem u9 {it:GI}{i:Nat}{fg:List Nat}(h:it δ=.ok xs) (h2:W6 i fg s xs (forget fg δ)=o):q1B it i fg s δ=o:=by unfold q1B;rw [h];exact h2
theorem q0D {k:Nat}{m:Str}(h:a δ=.ok x) (h2:g δ=.ok xs) (h3:isObj k m x=true) (h4:F (x::xs)=q):u5 k m F a g δ=q:=by unfold u5;rw [h,Z3,h2,Z3,j8 h3];exact h4
theorem V3 {i:Nat}(h:a δ=.ok d) (h2:d.big=true):gSetO i a δ=.ok (.nx (δ.set i (some d))):=by unfold gSetO;rw [h,Z3,j8 h2]
theorem V7 {it:GI}{cs:List Nat}{ys:List D}(h:it δ=.ok xs) (h2:compL (capD cs δ) t a xs=.ok ys) (h3:ys.length<=1000):U2 it cs t a δ=.ok (.lst ys):=by unfold U2;rw [h,Z3,h2,Z3,j8 (by rw [W5];omega)]
theorem q33 {i:Int}(h:a δ=.ok (.int i)) (h2:Rng i):q1A a δ=.ok (rangeD 0 i.toNat):=by unfold q1A;rw [h];exact j8 h2
theorem q4D {i:Nat}{y z:D}(h:a δ=.ok d) (h2:c δ=.ok x) (h3:δ[i]? = some (some y)) (h4:dPut y d x=.ok z):gPut i a c δ=.ok (.nx (δ.set i (some z))):=by unfold gPut;rw [h2,Z3,h,Z3,h3];show Rz.bind (dPut y d x) _=_;rw [h4];rfl
theorem q5y (h:a δ=.ok d) (h2:d.imm=true):gIm a δ=.ok d:=by unfold gIm;rw [h];exact j8 h2
theorem q3O {i:Nat}(h:a δ=.ok d) (h3:δ[i]? = some (some (.lst xs))) (h4:xs.length<16777216):q4d i a δ=.ok (.nx (δ.set i (some (.lst (xs++[d]))))):=by unfold q4d;rw [h,Z3,h3];exact j8 (by rw [W5];exact h4)
theorem x9 (h:s δ=.ok (.rt d δ')):gSeq s r δ=.ok (.rt d δ'):=by unfold gSeq;rw [h];rfl
theorem z5W {is:List Nat}(h:a δ=.ok (.tup xs)) (h2:setT is xs δ=some δ'):z4t is a δ=.ok (.nx δ'):=by unfold z4t;rw [h];show Rz.bind (optR (setT is xs δ)) _=_;rw [h2];rfl
theorem q8c {lo hi:DS->Rz (Option Int)}{l k:Option Int}(h:a δ=.ok d) (h2:lo δ=.ok l) (h3:hi δ=.ok k) (h4:dCut d l k=q):gSl a lo hi δ=q:=by unfold gSl;rw [h,Z3,h2,Z3,h3];exact h4
theorem z5X {k i:Nat}{m:Str}{P:PFI}{y z:D}(h:g δ=.ok ds) (h2:δ[i]? = some (some y)) (h3:y.imO=true) (h4:isObj k m y=true) (h5:P (y::ds)=.ok (.non,[z])):V4 (q2P k m P i g) δ=.ok (.nx (δ.set i (some z))):=by simp [h,h2,h3,h4,h5]
theorem z0b (h:t δ=.ok true) (h2:u δ=.ok b):q0I t u δ=.ok b:=by unfold q0I;rw [h];exact h2
theorem z4y (h:t δ=.ok false):q0I t u δ=.ok false:=by unfold q0I;rw [h];rfl
theorem q6x (h:a δ=.ok d):q6i a δ=.ok (.nx δ):=by unfold q6i;rw [h];rfl
theorem q4E {i:Nat}(h:δ[i]? = some (some d)) (h2:d.imm=true):gVarI i δ=.ok d:=by unfold gVarI;rw [h];exact j8 h2
theorem z0c (h:a δ=.ok d) (h2:d.imI=true):q9x a δ=.ok d:=by unfold q9x;rw [h];exact j8 h2
theorem niF {y:D}(h:inD x y=.ok false):dNotIn x y=.ok (.bl true):=by unfold dNotIn;rw [h];rfl
theorem z3Z {f:D->Rz D}(h:a δ=.ok x) (h2:f x=q):gUn f a δ=q:=by unfold gUn;rw [h];exact h2
theorem z5Y (h:s (startD n ds)=.ok (.nx δ)):K2 n s ds=.ok .non:=by unfold K2;rw [h];rfl
theorem q0E {i j:Int}(h:0<j/\j<1073741824):q3B (.int i) (.int j)=.ok (.int (i / j)):=j8 h
theorem z0d (i j:Int) (h1 : -100000<=i) (h2:i<=100000):q79 (.int i) (.int j)=.ok (.int (i * j)):=by
 rw [z3T]
 exact N0j (.inl (by lia))
theorem q0o (h:g δ=.ok ds) (h2:ds.length<=1000):gTup g δ=.ok (.tup ds):=by unfold gTup;rw [h];exact j8 (by rw [W5];omega)
theorem z0e (i j:Int):dEq (.int i) (.int j)=.ok (.bl (decide (i=j))):=by rw [q31,j8 (q4z _ _),q4y,q4B]
theorem orY (h:t δ=.ok true):q1U t u δ=.ok true:=by unfold q1U;rw [h];rfl
theorem eqT {i j:Int}(h:i=j):dEq (.int i) (.int j)=.ok (.bl true):=by rw [z0e,N0o h]
theorem eqF {i j:Int}(h:¬ i=j):dEq (.int i) (.int j)=.ok (.bl false):=by rw [z0e,N0e h]
theorem ltT {i j:Int}(h:i<j):dLt (.int i) (.int j)=.ok (.bl true):=by rw [z2u,N0o h]
theorem ltF {i j:Int}(h:¬ i<j):dLt (.int i) (.int j)=.ok (.bl false):=by rw [z2u,N0e h]
theorem z0f (h:a δ=.ok (.tup xs)):gItS a δ=.ok xs:=by unfold gItS;rw [h];rfl
theorem z8c (h:t δ=.ok true) (h2:a δ=q):gIf t a c δ=q:=by unfold gIf;rw [h];exact h2
theorem z5Z (h:t δ=.ok false) (h2:c δ=q):gIf t a c δ=q:=by unfold gIf;rw [h];exact h2
theorem z0g:gLst gNil δ=.ok (.lst []):=by unfold gLst gNil;exact j8 (show 0<=sizeLine from N1b _)
theorem z8d (h:a δ=.ok d):gLst (gCons a gNil) δ=.ok (.lst [d]):=by unfold gLst;rw [Q2 h rfl];exact j8 (show 1<=sizeLine by rw [W5];decide)
theorem q34 (h:a δ=.ok d) (h2:c δ=.ok x):gTup (gCons a (gCons c gNil)) δ=.ok (.tup [d,x]):=by unfold gTup;rw [Q2 h (Q2 h2 rfl)];exact j8 (show 2<=sizeLine by rw [W5];decide)
theorem q35 {y:D}(h:inD x y=.ok b):dIn x y=.ok (.bl b):=by unfold dIn;rw [h];rfl
theorem niT {y:D}(h:inD x y=.ok true):dNotIn x y=.ok (.bl false):=by unfold dNotIn;rw [h];rfl
theorem x0 {i j:Int}(h:0<j):q0J (.int i) (.int j)=.ok (.int (i % j)):=j8 h
end
end Dl
namespace Fw
open PySem
inductive Nd where
 | sun
 | eats (x:Str)
 | any (ps:List Nd)
 | all (ps:List Nd)
 | some (n:Int) (ps:List Nd)
noncomputable def Nd.parts:Nd->List Nd
 | .sun=>[]
 | .eats _=>[]
 | .any ps=>ps
 | .all ps=>ps
 | .some _ ps=>ps
mutual
noncomputable def Nd.depth:Nd->Nat
 | .sun=>1
 | .eats _=>1
 | .any ps=>depthL ps+1
 | .all ps=>depthL ps+1
 | .some _ ps=>depthL ps+1
noncomputable def depthL:List Nd->Nat
 | []=>0
 | d::r=>max d.depth (depthL r)
end
mutual
noncomputable def Nd.leaves:Nd->Nat
 | .sun=>0
 | .eats _=>1
 | .any ps=>K1 ps
 | .all ps=>K1 ps
 | .some _ ps=>K1 ps
noncomputable def K1:List Nd->Nat
 | []=>0
 | d::r=>d.leaves+K1 r
end
theorem x3 {d e:Nd}{n:Nat}(h:d.depth<=n+1) (m:e∈d.parts):e.depth<=n:=by
 have key:∀ l:List Nd,e∈l->e.depth<=depthL l:=by
  intro l
  induction l with
  | nil=>intro m;cases m
  | cons a r ih =>
   intro m
   have q:depthL (a::r)=max a.depth (depthL r):=by rw [depthL]
   rcases N0c.mp m with rfl | m
   ·lia
   ·have:=ih m;lia
 cases d with
 | sun=>cases m
 | eats x=>cases m
 | any ps =>
  have q:(Nd.any ps).depth=depthL ps+1:=by rw [Nd.depth]
  have:=key ps m;lia
 | all ps =>
  have q:(Nd.all ps).depth=depthL ps+1:=by rw [Nd.depth]
  have:=key ps m;lia
 | some k ps =>
  have q:(Nd.some k ps).depth=depthL ps+1:=by rw [Nd.depth]
  have:=key ps m;lia
theorem x4 (d:Nd) (h:∀ x,d≠.eats x):d.leaves=K1 d.parts:=by
 cases d with
 | sun=>rw [Nd.leaves,Nd.parts,K1]
 | eats x=>exact absurd rfl (h x)
 | any ps=>rw [Nd.leaves,Nd.parts]
 | all ps=>rw [Nd.leaves,Nd.parts]
 | some k ps=>rw [Nd.leaves,Nd.parts]
theorem q0b:∀ {l:List Nd}{e:Nd},e∈l->e.leaves<=K1 l
 | a::r,e,m=>by
  rw [K1]
  rcases N0c.mp m with rfl | m
  ·simp
  ·have:=q0b m;lia
theorem U0 (d:Nd):1<=d.depth:=by
 cases d<;>rw [Nd.depth]<;>simp
noncomputable def q5z (acc:List Str) (x:Str):List Str:=if x∈acc then acc else acc++[x]
noncomputable def y0 (acc:List Str) (ns:List Str):List Str:=ns.foldl q5z acc
mutual
noncomputable def Nd.names:Nd->List Str
 | .sun=>[]
 | .eats x=>[x]
 | .any ps=>namesL ps []
 | .all ps=>namesL ps []
 | .some _ ps=>namesL ps []
noncomputable def namesL:List Nd->List Str->List Str
 | [],acc=>acc
 | d::r,acc=>namesL r (y0 acc d.names)
end
theorem q36 (d:Nd) (h:∀ x,d≠.eats x):d.names=namesL d.parts []:=by
 cases d with
 | sun=>rw [Nd.names,Nd.parts,namesL]
 | eats x=>exact absurd rfl (h x)
 | any ps=>rw [Nd.names,Nd.parts]
 | all ps=>rw [Nd.names,Nd.parts]
 | some k ps=>rw [Nd.names,Nd.parts]
theorem q37:∀ (l:List Nd) (d:Nd) (acc:List Str),namesL (l++[d]) acc=y0 (namesL l acc) d.names
 | [],d,acc=>by rw [N1v,namesL,namesL,namesL]
 | a::r,d,acc=>by rw [List.cons_append,namesL,namesL,q37 r d]
theorem q6y (acc ns:List Str) (x:Str):y0 acc (ns++[x])=q5z (y0 acc ns) x:=by
 unfold y0;rw [List.foldl_append];rfl
theorem q8d {acc:List Str}(h:acc.Nodup) (x:Str):(q5z acc x).Nodup:=by
 unfold q5z
 by_cases m:x∈acc
 ·rw [N0j m];exact h
 ·rw [N0l m];exact N1t.mpr ⟨h,by simp,λ a ha b hb=>by rintro rfl;exact m (by simpa using (N0f.mp hb)▸ha)⟩
theorem q2f:∀ (ns acc:List Str),acc.Nodup->(y0 acc ns).Nodup
 | [],acc,h=>h
 | x::r,acc,h=>q2f r (q5z acc x) (q8d h x)
theorem U6:∀ (l:List Nd) (acc:List Str),acc.Nodup->(namesL l acc).Nodup
 | [],acc,h=>by rw [namesL];exact h
 | d::r,acc,h=>by rw [namesL];exact U6 r _ (q2f _ _ h)
theorem q6z (d:Nd):d.names.Nodup:=by
 cases d with
 | sun=>rw [Nd.names];exact N27
 | eats x=>rw [Nd.names];simp
 | any ps=>rw [Nd.names];exact U6 _ _ N27
 | all ps=>rw [Nd.names];exact U6 _ _ N27
 | some k ps=>rw [Nd.names];exact U6 _ _ N27
theorem q6A (acc:List Str) (x:Str):(q5z acc x).length<=acc.length+1:=by
 unfold q5z;split<;>simp
theorem q0p:∀ (ns acc:List Str),(y0 acc ns).length<=acc.length+ns.length
 | [],acc=>by simp [y0]
 | x::r,acc=>by
  have:=q0p r (q5z acc x)
  have:=q6A acc x
  show (y0 (q5z acc x) r).length<=_
  rw [N0h];lia
mutual
theorem q0V:∀ d:Nd,d.names.length<=d.leaves
 | .sun=>by rw [Nd.names,Nd.leaves];exact N07 _
 | .eats x=>by rw [Nd.names,Nd.leaves];exact N07 _
 | .any ps=>by rw [Nd.names,Nd.leaves];have:=X0 ps [];simpa using this
 | .all ps=>by rw [Nd.names,Nd.leaves];have:=X0 ps [];simpa using this
 | .some _ ps=>by rw [Nd.names,Nd.leaves];have:=X0 ps [];simpa using this
theorem X0:∀ (l:List Nd) (acc:List Str),(namesL l acc).length<=acc.length+K1 l
 | [],acc=>by rw [namesL,K1];simp
 | d::r,acc=>by
  rw [namesL,K1]
  have h1:=X0 r (y0 acc d.names)
  have h2:=q0p d.names acc
  have h3:=q0V d
  lia
end
theorem q1L:∀ (ns acc:List Str),ns.Nodup->y0 acc ns=acc++ns.filter λ x=>!decide (x∈acc)
 | [],acc,_=>by simp [y0]
 | x::r,acc,h=>by
  obtain ⟨h1,h2⟩:=N1s.mp h
  show y0 (q5z acc x) r=_
  rw [q1L r (q5z acc x) h2]
  unfold q5z
  by_cases m:x∈acc
  ·rw [N0j m,N1e,N0l (by simp [m])]
  ·rw [N0l m,N1e,N0j (by simp [m]),N1w]
   congr 1
   show x::_=x::_
   congr 1
   apply List.filter_congr
   intro y hy
   have:y≠x:=λ e=>h1 (e▸hy)
   simp [this]
mutual
noncomputable def Nd.met (alive:List Str):Nd->Bool
 | .sun=>true
 | .eats x=>decide (x∈alive)
 | .any ps=>decide (1<=metL alive ps)
 | .all ps=>decide (ps.length<=metL alive ps)
 | .some n ps=>decide (n<=(metL alive ps:Int))
noncomputable def metL (alive:List Str):List Nd->Nat
 | []=>0
 | d::r=>(if d.met alive then 1 else 0)+metL alive r
end
mutual
noncomputable def Nd.ok (ss:List Str) (sm:Bool):Nd->Prop
 | .sun=>True
 | .eats x=>x∈ss
 | .any ps=>1<=ps.length/\ps.length<=4/\okL ss sm ps
 | .all ps=>sm=false/\1<=ps.length/\ps.length<=4/\okL ss sm ps
 | .some n ps=>sm=false/\1<=n/\n<=(ps.length:Int)/\ps.length<=4/\okL ss sm ps
noncomputable def okL (ss:List Str) (sm:Bool):List Nd->Prop
 | []=>True
 | d::r=>d.ok ss sm/\okL ss sm r
end
theorem q0q {ss:List Str}{sm:Bool}{d:Nd}(h:d.ok ss sm):d.parts.length<=4/\okL ss sm d.parts:=by
 cases d with
 | sun=>exact ⟨by decide,by rw [Nd.parts,okL];exact trivial⟩
 | eats x=>exact ⟨N1b _,by rw [Nd.parts,okL];exact trivial⟩
 | any ps=>rw [Nd.ok] at h;exact ⟨h.2.1,h.2.2⟩
 | all ps=>rw [Nd.ok] at h;exact ⟨h.2.2.1,h.2.2.2⟩
 | some k ps=>rw [Nd.ok] at h;exact ⟨h.2.2.2.1,h.2.2.2.2⟩
theorem q38 {ss:List Str}{sm:Bool}:∀ {l:List Nd}{d:Nd},okL ss sm l->d∈l->d.ok ss sm
 | a::r,d,h,m=>by
  rw [okL] at h
  rcases N0c.mp m with rfl | m
  ·exact h.1
  ·exact q38 h.2 m
theorem q22 {m:Nat}:∀ {l:List Nd},(∀ d∈l,d.leaves<=m)->K1 l<=l.length * m
 | [],_=>by rw [K1];exact N1b _
 | d::r,h=>by rw [K1,N0h,Nat.succ_mul,Nat.add_comm];exact Nat.add_le_add (q22 λ e m=>h e (N02 _ m)) (h d (N00 ..))
theorem q5A {ss:List Str}{sm:Bool}(n:Nat):∀ d:Nd,d.ok ss sm->d.depth<=n+1->d.leaves<=4 ^ n:=by
 induction n with
 | zero =>
  intro d h hd
  by_cases q:∃ x,d=.eats x
  ·obtain ⟨x,rfl⟩:=q;rw [Nd.leaves];exact N07 _
  ·rw [x4 d λ x z=>q ⟨x,z⟩]
   exact N0v (q22 (m:=0) λ e m=>absurd (N0v (U0 e) (x3 hd m)) (by decide)) (N0v (Nat.le_of_eq (Nat.mul_zero _)) (N1b _))
 | succ n ih =>
  intro d h hd
  by_cases q:∃ x,d=.eats x
  ·obtain ⟨x,rfl⟩:=q;rw [Nd.leaves];exact Nat.one_le_pow _ _ (by decide)
  ·rw [x4 d λ x z=>q ⟨x,z⟩]
   exact N0v (q22 λ e m=>ih e (q38 (q0q h).2 m) (x3 hd m)) (by rw [Nat.pow_succ,Nat.mul_comm];exact Nat.mul_le_mul_left _ (q0q h).1)
end Fw
namespace Fw
open PySem Dl
noncomputable def wKEPT_WORDS:List Str:=["any","all","of","sun"]
noncomputable def z40 (F_D:PF):GS :=
 (gSeq (Y9 (q03 (gTru (gCall F_D (gCons (gVar 1) gNil)))) q3C Z6)
  (gSeq (Y9 (gB (gOp dIn (gVar 1) (gUn (z1x 0 "need_by_name") (gVar 0)))) q3C Z6)
  (gSeq (Y9 (gB (gOp dGe (gCall pLen (gCons (gUn (z1x 0 "need_by_name") (gVar 0)) gNil)) (gC (.int 16)))) q3C Z6)
  (z3i 0 0 "need_by_name" (gVar 1) (gVarI 2)))))
noncomputable def z0h (F_a:PF):GS :=
 (gSeq (q6i (u5 0 "refuse_unknown" F_a (gVar 0) (gCons (gVar 1) gNil)))
  (z3j 0 0 "need_by_name" (gVar 1)))
noncomputable def z0i:GS :=
 (y7 (q9x (gCall pList (gCons (gUn (z1x 0 "need_by_name") (gVar 0)) gNil))))
noncomputable def q5B (F_a:PF):GS :=
 (gSeq (q6i (u5 0 "refuse_unknown" F_a (gVar 0) (gCons (gVar 1) gNil)))
  (y7 (gIm (gOp dIx (gUn (z1x 0 "need_by_name") (gVar 0)) (gVar 1)))))
noncomputable def q0F:GS :=
 (Y9 (gB (gOp dNotIn (gVar 1) (gUn (z1x 0 "need_by_name") (gVar 0)))) q3C Z6)
noncomputable def q3P:GS :=
 (y7 (gIf (gB (gOp dIn (gOp dIx (gVar 0) (gC (.int 0))) (gTup (gCons (gC (.str "any")) (gCons (gC (.str "all")) (gCons (gC (.str "some")) gNil)))))) (gIm (gOp dIx (gVar 0) (gUn z6l (gC (.int 1))))) (gTup gNil)))
noncomputable def q1b (F_r:PF) (F_h:PF):GS :=
 (gSeq (Y9 (gB (gOp dEq (gOp dIx (gVar 0) (gC (.int 0))) (gC (.str "eats")))) (y7 (gLst (gCons (gIm (gOp dIx (gVar 0) (gC (.int 1)))) gNil))) Z6)
  (gSeq (gSetO 1 (gC (.dct [] [])))
  (gSeq (q1B (gItS (gCall F_h (gCons (gVar 0) gNil))) 2 [2,3] (q1B (gItS (gCall F_r (gCons (gVar 2) gNil))) 3 [3] (gPut 1 (gVar 3) (gC (.bl true)))))
  (y7 (gCall pList (gCons (gVar 1) gNil))))))
noncomputable def q3Q (F_e:PF) (F_j:PF) (F_g:PF):GS :=
 (y7 (gCall z3f (gCons (U2 (gItS (u5 0 "kinds" F_j (gVar 0) gNil)) [0] gYes (gCall F_e (gCons (u5 0 "need_of" F_g (gVar 1) (gCons (gVar 0) gNil)) gNil))) gNil)))
noncomputable def q0W (F_e:PF) (F_h:PF):GS :=
 (gSeq (Y9 (gB (gOp dIn (gOp dIx (gVar 0) (gC (.int 0))) (gTup (gCons (gC (.str "all")) (gCons (gC (.str "some")) gNil))))) (y7 (gC (.bl false))) Z6)
  (y7 (gCall z3f (gCons (U2 (gItS (gCall F_h (gCons (gVar 0) gNil))) [] gYes (gCall F_e (gCons (gVar 0) gNil))) gNil))))
noncomputable def q5C (F_m:PF) (F_h:PF):GS :=
 (q86 (gOr (gOp dEq (gOp dIx (gVar 0) (gC (.int 0))) (gC (.str "sun"))) (gCall z5j (gCons (U2 (gItS (gCall F_h (gCons (gVar 0) gNil))) [] gYes (gCall F_m (gCons (gVar 0) gNil))) gNil))))
noncomputable def z60 (F_m:PF) (F_B:PF) (F_l:PF) (F_t:PF) (F_o:PFI) (F_z:PF) (F_j:PF) (F_g:PF) (F_a:PF):GS :=
 (gSeq (q6i (u5 0 "refuse_unknown" F_a (gVar 0) (gCons (gVar 1) gNil)))
  (gSeq (Y9 (q03 (gTru (gCall F_B (gCons (gVar 0) gNil)))) q3C Z6)
  (gSeq (Y9 (gTru (gCall F_m (gCons (u5 0 "need_of" F_g (gVar 0) (gCons (gVar 1) gNil)) gNil))) (y7 (gC .non)) Z6)
  (gSeq (X4 2 (gTup (gCons (gVarI 1) (gCons (gC (.str "out")) gNil))))
  (gSeq (gSetO 3 (gCall F_t (gCons (gVar 0) (gCons (gVar 1) gNil))))
  (gSeq (X4 4 (gCall F_l (gCons (gVar 2) (gCons (gVar 3) gNil))))
  (gSeq (y8 [] (gB (gOp dIn (gC (plD ("sun","in"))) (gVar 4))) (gSeq (V4 (q0y F_o [3] (gCons (gVar 4) gNil)))
  (X4 4 (gCall F_l (gCons (gVar 2) (gCons (gVar 3) gNil))))) 100)
  (gSeq (X4 5 (q9x (U2 (gItS (u5 0 "kinds" F_j (gVar 0) gNil)) [4] (q0I (gB (gOp dIn (gTup (gCons (gVar 0) (gCons (gC (.str "in")) gNil))) (gVar 1))) (gB (gOp dNotIn (gTup (gCons (gVar 0) (gCons (gC (.str "out")) gNil))) (gVar 1)))) (gVar 0))))
  (y7 (gTup (gCons (gVar 5) (gCons (gCall F_z (gCons (gVar 2) (gCons (gVar 3) gNil))) gNil))))))))))))
noncomputable def q0X (F_m:PF) (F_q:PFI) (F_r:PF) (F_j:PF) (F_g:PF):GS :=
 (gSeq (gSetO 2 (z6o (gTup (gCons (gVar 1) (gCons (gC (.str "out")) gNil))) (gC (plD ("sun","in")))))
  (gSeq (X4 3 (q9x (U2 (gItS (u5 0 "kinds" F_j (gVar 0) gNil)) [1] (gB (gOp dNe (gVar 0) (gVar 1))) (gVar 0))))
  (gSeq (q1B (gItS (gVar 3)) 4 [4] (gSeq (q2Z 2 (gTup (gCons (gVar 4) (gCons (gC (.str "in")) gNil))))
  (gSeq (q2Z 2 (gTup (gCons (gVar 4) (gCons (gC (.str "out")) gNil))))
  (V4 (q0y F_q [2] (gCons (gTup (gCons (gVar 4) (gCons (gC (.str "in")) gNil))) (gCons (gTup (gCons (gVar 4) (gCons (gC (.str "out")) gNil))) (gCons (gC (.int 1)) gNil))))))))
  (gSeq (q1B (gItS (u5 0 "kinds" F_j (gVar 0) gNil)) 4 [4,5,6] (gSeq (X4 5 (u5 0 "need_of" F_g (gVar 0) (gCons (gVar 4) gNil)))
  (gSeq (q1B (gItS (gCall F_r (gCons (gVar 5) gNil))) 6 [6] (Y9 (q0I (gB (gOp dIn (gVar 6) (gVar 3))) (gB (gOp dNe (gVar 6) (gVar 4)))) (V4 (q0y F_q [2] (gCons (gTup (gCons (gVar 4) (gCons (gC (.str "out")) gNil))) (gCons (gTup (gCons (gVar 6) (gCons (gC (.str "in")) gNil))) (gCons (gC (.int 100)) gNil))))) Z6))
  (Y9 (gTru (gCall F_m (gCons (gVar 5) gNil))) (V4 (q0y F_q [2] (gCons (gTup (gCons (gVar 4) (gCons (gC (.str "out")) gNil))) (gCons (gC (plD ("sun","in"))) (gCons (gC (.int 100)) gNil))))) Z6))))
  (y7 (gVar 2))))))
noncomputable def q1r:GS :=
 (gSeq (q0B 3 (gVar 0) (gVar 1) (gVar 2))
  (q0B 3 (gVar 1) (gVar 0) (gC (.int 0))))
noncomputable def q1j:GS :=
 (gSeq (gSetO 2 (z8F (gVar 0) (gC .non)))
  (gSeq (gSetO 3 (gLst (gCons (gVarI 0) gNil)))
  (gSeq (y8 [4,5] (gTru (gVar 3)) (gSeq (gPopL 3 4)
  (z1B (gKeys (gVar 1) (gVar 4)) 5 [5] (Y9 (q0I (gB (gOp dGt (q8b (gVar 1) (gVar 4) (gVar 5)) (gC (.int 0)))) (gB (gOp dNotIn (gVar 5) (gVar 2)))) (gSeq (gPut 2 (gVar 5) (gVar 4))
  (q4d 3 (gVar 5))) Z6))) 100)
  (y7 (gVar 2)))))
noncomputable def q05:GS :=
 (gSeq (X4 2 (gC (plD ("sun","in"))))
  (y8 [3] (gB (gOp q6h (gOp dIx (gVar 0) (gVar 2)) (gC .non))) (gSeq (X4 3 (gIm (gOp dIx (gVar 0) (gVar 2))))
  (gSeq (q0B 1 (gVar 3) (gVar 2) (gOp q8G (q8b (gVar 1) (gVar 3) (gVar 2)) (gC (.int 1))))
  (gSeq (q0B 1 (gVar 2) (gVar 3) (gOp J3 (q8b (gVar 1) (gVar 2) (gVar 3)) (gC (.int 1))))
  (X4 2 (gVar 3))))) 100))
noncomputable def q39 (F_y:PF) (F_C:PF):GS :=
 (y7 (U2 (gItS (gCall F_y (gCons (gVar 0) (gCons (gVar 1) gNil)))) [1] gYes (gCall F_C (gCons (gVar 0) (gCons (gVar 1) gNil)))))
noncomputable def q3R (F_y:PF):GS :=
 (gSeq (gSetO 2 (gLst gNil))
  (gSeq (X4 3 (gVarI 0))
  (gSeq (y8 [] (gB (gOp dNe (gVar 3) (gC (plD ("sun","in"))))) (gSeq (q4d 2 (gOp dIx (gVar 3) (gC (.int 0))))
  (X4 3 (gOp dIx (gCall F_y (gCons (gTup (gCons (gOp dIx (gVar 3) (gC (.int 0))) (gCons (gC (.str "out")) gNil))) (gCons (gVar 1) gNil))) (gC (.int 0))))) 100)
  (y7 (gVar 2)))))
noncomputable def q5D:GS :=
 (y7 (U2 (gKeys (gVar 1) (gVar 0)) [0,1] (q0I (gB (gOp dNe (gOp dIx (gVar 0) (gC (.int 0))) (gOp dIx (gVar 1) (gC (.int 0))))) (gB (gOp dGt (q8b (gVar 2) (gVar 0) (gVar 1)) (gC (.int 0))))) (gVar 0)))
noncomputable def q3a:GS :=
 (gSeq (Y9 (q1U (gB (gOp dLt (gCall pLen (gCons (gVar 0) gNil)) (gC (.int 1)))) (q1U (gB (gOp dGt (gCall pLen (gCons (gVar 0) gNil)) (gC (.int 8)))) (gB (gUn (dInW wKEPT_WORDS) (gVar 0))))) (y7 (gC (.bl false))) Z6)
  (y7 (gCall z3f (gCons (U2 (gItS (gVar 0)) [] gYes (gChain dLe dLe (gC (.str "a")) (gVar 0) (gC (.str "z")))) gNil))))
noncomputable def q06:GS :=
 (gSeq (Y9 (gB (gOp dLt (gVar 1) (gCall pLen (gCons (gVar 0) gNil)))) (y7 (gIm (gOp dIx (gVar 0) (gVar 1)))) Z6)
  (y7 (gC (.int 0))))
noncomputable def q1s:GS :=
 (gSeq (X4 0 (gOp q0J (gOp J3 (gVar 0) (gC (.int 7919))) (gC (.int 2147483647))))
  (y7 (gOp q0J (gOp J3 (gOp J3 (gOp q79 (gVar 0) (gVar 0)) (gOp q79 (gC (.int 48271)) (gVar 0))) (gC (.int 12345))) (gC (.int 2147483629)))))
noncomputable def q0Y:GS :=
 (gSeq (X4 2 (gOp dIx (gLst (gCons (gC (.str "z")) (gCons (gC (.str "qz")) (gCons (gC (.str "zab")) (gCons (gC (.str "mzk")) (gCons (gC (.str "zoozz")) (gCons (gC (.str "zoozzpa")) gNil))))))) (gOp q0J (gVar 0) (gC (.int 6)))))
  (gSeq (X4 3 (gOp q0J (gOp q3B (gVar 0) (gC (.int 6))) (gOp J3 (gCall pLen (gCons (gVar 2) gNil)) (gC (.int 1)))))
  (y7 (U2 (q1A (gVar 1)) [2,3,0] gYes (gOp J3 (gOp J3 (gSl (gVar 1) gON (gOI (gVar 2))) (gOp dIx (gC (.str "abcdefghijklmnopqrstuvwxyz")) (gOp q0J (gOp J3 (gVar 0) (gOp q3B (gVar 3) (gC (.int 97)))) (gC (.int 26))))) (gSl (gVar 1) (gOI (gVar 2)) gON))))))
noncomputable def q1t (F_n:PF) (F_k:PF):GS :=
 (gSeq (X4 4 (gOp q0J (gVar 0) (gC (.int 9))))
  (gSeq (Y9 (q1U (gB (gOp dEq (gVar 1) (gC (.int 0)))) (gB (gOp dLt (gVar 4) (gC (.int 4))))) (gSeq (Y9 (gB (gOp dEq (gOp q0J (gOp q3B (gVar 0) (gC (.int 9))) (gC (.int 6))) (gC (.int 0)))) (y7 (gTup (gCons (gC (.str "sun")) gNil))) Z6)
  (y7 (gTup (gCons (gC (.str "eats")) (gCons (gIm (gOp dIx (gVar 2) (gOp q0J (gOp q3B (gVar 0) (gC (.int 54))) (gCall pLen (gCons (gVar 2) gNil))))) gNil))))) Z6)
  (gSeq (gSetO 5 (gLst gNil))
  (gSeq (q1B (q1A (gOp J3 (gC (.int 1)) (gOp q0J (gOp q3B (gVar 0) (gC (.int 9))) (gC (.int 4))))) 6 [6] (q4d 5 (gCall F_n (gCons (gCall F_k (gCons (gOp J3 (gOp J3 (gVar 0) (gOp q79 (gC (.int 3)) (gVar 6))) (gC (.int 1))) gNil)) (gCons (gOp q8G (gVar 1) (gC (.int 1))) (gCons (gVar 2) (gCons (gVar 3) gNil)))))))
  (gSeq (Y9 (q1U (gB (gOp dLt (gVar 4) (gC (.int 6)))) (gTru (gVar 3))) (y7 (gTup (gCons (gC (.str "any")) (gCons (gCall pTuple (gCons (gVar 5) gNil)) gNil)))) Z6)
  (gSeq (Y9 (gB (gOp dLt (gVar 4) (gC (.int 8)))) (y7 (gTup (gCons (gC (.str "all")) (gCons (gCall pTuple (gCons (gVar 5) gNil)) gNil)))) Z6)
  (y7 (gTup (gCons (gC (.str "some")) (gCons (gOp J3 (gC (.int 1)) (gOp q0J (gOp q3B (gVar 0) (gC (.int 36))) (gCall pLen (gCons (gVar 5) gNil)))) (gCons (gCall pTuple (gCons (gVar 5) gNil)) gNil)))))))))))
noncomputable def q2g:GS :=
 (gSeq (Y9 (q1U (gB (gOp dEq (gOp dIx (gVar 0) (gC (.int 0))) (gC (.str "sun")))) (gB (gOp dEq (gOp dIx (gVar 0) (gC (.int 0))) (gC (.str "eats"))))) (y7 (gTup gNil)) Z6)
  (y7 (gIm (gOp dIx (gVar 0) (gOp q8G (gCall pLen (gCons (gVar 0) gNil)) (gC (.int 1)))))))
noncomputable def X1 (F_f:PF) (F_i:PF):GS :=
 (gSeq (Y9 (gB (gOp dEq (gOp dIx (gVar 0) (gC (.int 0))) (gC (.str "eats")))) (y7 (gLst (gCons (gIm (gOp dIx (gVar 0) (gC (.int 1)))) gNil))) Z6)
  (gSeq (gSetO 1 (gLst gNil))
  (gSeq (q1B (gItS (gCall F_i (gCons (gVar 0) gNil))) 2 [2] (gSetO 1 (q9x (gOp z6k (gVar 1) (U2 (gItS (gCall F_f (gCons (gVar 2) gNil))) [1] (gB (gOp dNotIn (gVar 0) (gVar 1))) (gVar 0))))))
  (y7 (gVar 1)))))
noncomputable def q23 (F_c:PF) (F_i:PF):GS :=
 (gSeq (Y9 (gB (gOp dEq (gOp dIx (gVar 0) (gC (.int 0))) (gC (.str "eats")))) (y7 (gOp dIn (gOp dIx (gVar 0) (gC (.int 1))) (gVar 1))) Z6)
  (gSeq (X4 2 (gCall F_i (gCons (gVar 0) gNil)))
  (gSeq (X4 3 (gCall pSum (gCons (U2 (gItS (gVar 2)) [1] gYes (gCall z5k (gCons (gCall F_c (gCons (gVar 0) (gCons (gVar 1) gNil))) gNil))) gNil)))
  (gSeq (X4 4 (gC (.int 1)))
  (gSeq (Y9 (gB (gOp dEq (gOp dIx (gVar 0) (gC (.int 0))) (gC (.str "sun")))) (X4 4 (gC (.int 0))) Z6)
  (gSeq (Y9 (gB (gOp dEq (gOp dIx (gVar 0) (gC (.int 0))) (gC (.str "all")))) (X4 4 (gCall pLen (gCons (gVar 2) gNil))) Z6)
  (gSeq (Y9 (gB (gOp dEq (gOp dIx (gVar 0) (gC (.int 0))) (gC (.str "some")))) (X4 4 (gIm (gOp dIx (gVar 0) (gC (.int 1))))) Z6)
  (y7 (gOp dGe (gVar 3) (gVar 4))))))))))
noncomputable def q0Z (F_b:PF) (F_w:PF) (F_n:PF) (F_k:PF):GS :=
 (gSeq (X4 2 (gOp J3 (gC (.int 1)) (gOp q0J (gCall F_b (gCons (gVar 0) (gCons (gC (.int 0)) gNil))) (gC (.int 7)))))
  (gSeq (Y9 (gB (gOp dEq (gOp q0J (gOp q3B (gCall F_b (gCons (gVar 0) (gCons (gC (.int 0)) gNil))) (gC (.int 7))) (gC (.int 4))) (gC (.int 1)))) (X4 2 (gOp J3 (gC (.int 1)) (gOp q0J (gOp q3B (gCall F_b (gCons (gVar 0) (gCons (gC (.int 0)) gNil))) (gC (.int 28))) (gC (.int 16))))) Z6)
  (gSeq (X4 3 (gCall F_w (gCons (gCall F_b (gCons (gVar 0) (gCons (gC (.int 1)) gNil))) (gCons (gOp J3 (gVar 2) (gC (.int 2))) gNil))))
  (gSeq (gSetO 4 (gLst gNil))
  (gSeq (q1B (q1A (gVar 2)) 5 [5,6] (gSeq (X4 6 (gCall F_k (gCons (gOp J3 (gCall F_b (gCons (gVar 0) (gCons (gOp J3 (gC (.int 2)) (gOp q0J (gVar 5) (gC (.int 12)))) gNil))) (gOp q79 (gC (.int 5003)) (gVar 5))) gNil)))
  (q4d 4 (gCall F_n (gCons (gVar 6) (gCons (gOp J3 (gC (.int 1)) (gOp q0J (gOp q3B (gVar 6) (gC (.int 7))) (gC (.int 2)))) (gCons (gVar 3) (gCons (gVar 1) gNil))))))))
  (gSeq (Y9 (gB (gOp dGt (gOp q0J (gOp q3B (gCall F_b (gCons (gVar 0) (gCons (gC (.int 1)) gNil))) (gC (.int 30))) (gC (.int 3))) (gC (.int 0)))) (gPut 4 (gOp q0J (gOp q3B (gCall F_b (gCons (gVar 0) (gCons (gC (.int 1)) gNil))) (gC (.int 90))) (gVar 2)) (gTup (gCons (gC (.str "sun")) gNil))) Z6)
  (y7 (gTup (gCons (gSl (gVar 3) gON (gOI (gVar 2))) (gCons (gVar 4) (gCons (gSl (gVar 3) (gOI (gVar 2)) gON) gNil)))))))))))
noncomputable def q10 (F_H:PFI):GS :=
 (gSeq (gSetO 2 (gC (.obj 0 "need_by_name" (.dct [] []))))
  (gSeq (q1B (q1A (gCall pLen (gCons (gVar 0) gNil))) 3 [3] (V4 (q2P 0 "add" F_H 2 (gCons (gOp dIx (gVar 0) (gVar 3)) (gCons (gOp dIx (gVar 1) (gVar 3)) gNil)))))
  (y7 (gVar 2))))
noncomputable def q0r (F_c:PF):GS :=
 (gSeq (gSetO 3 (gC (.dct [] [])))
  (gSeq (q1B (z3g (gC (.int 1)) (gOp J3 (gCall pLen (gCons (gVar 0) gNil)) (gC (.int 1)))) 4 [4,5,6,7] (gSeq (gSetO 5 (gLst gNil))
  (gSeq (q1B (q1A (gCall pLen (gCons (gVar 0) gNil))) 6 [6] (Y9 (q0I (gB (gOp dNotIn (gOp dIx (gVar 0) (gVar 6)) (gVar 2))) (q0I (gB (gOp dNotIn (gOp dIx (gVar 0) (gVar 6)) (gVar 3))) (gTru (gCall F_c (gCons (gOp dIx (gVar 1) (gVar 6)) (gCons (gVar 3) gNil)))))) (q4d 5 (gIm (gOp dIx (gVar 0) (gVar 6)))) Z6))
  (gSeq (Y9 (gB (gOp dEq (gVar 5) (gLst gNil))) (y7 (gVar 3)) Z6)
  (q1B (gItS (gVar 5)) 7 [7] (gPut 3 (gVar 7) (gVarI 4)))))))
  (y7 (gVar 3))))
noncomputable def q11:GS :=
 (gSeq (Y9 (q1U (q03 (gTru (gUn (dIsTy "list") (gVar 0)))) (gB (gOp dNe (gCall pLen (gCons (gVar 0) gNil)) (gCall pLen (gCons (gVar 1) gNil))))) (y7 (gC (.bl false))) Z6)
  (q86 (z7s (gCall z3f (gCons (U2 (gItS (gVar 0)) [] gYes (gUn (dIsTy "str") (gVar 0))) gNil)) (gOp dEq (gVar 0) (gVar 1)))))
noncomputable def q3S (F_c:PF) (F_f:PF):GS :=
 (gSeq (Y9 (q1U (q03 (gTru (gUn (dIsTy "list") (gVar 0)))) (gB (gOp dEq (gCall pLen (gCons (gVar 0) gNil)) (gC (.int 0))))) (y7 (gC (.bl false))) Z6)
  (gSeq (X4 3 (gVarI 1))
  (gSeq (q1B (gItS (gVar 0)) 4 [4] (gSeq (Y9 (q1U (q03 (gTru (gUn (dIsTy "str") (gVar 4)))) (q1U (gB (gOp dNotIn (gVar 4) (gVar 2))) (gB (gOp dNotIn (gVar 4) (gCall F_f (gCons (gOp dIx (gVar 2) (gVar 3)) gNil)))))) (y7 (gC (.bl false))) Z6)
  (X4 3 (gVarI 4))))
  (y7 (gCall F_c (gCons (gOp dIx (gVar 2) (gVar 3)) (gCons (gLst gNil) gNil)))))))
noncomputable def q2h (F_x:PF) (F_s:PF) (F_A:PF):GS :=
 (gSeq (gSetO 4 (gC (.dct [] [])))
  (gSeq (q1B (q1A (gCall pLen (gCons (gVar 2) gNil))) 5 [5] (gPut 4 (gOp dIx (gVar 2) (gVar 5)) (gIm (gOp dIx (gVar 3) (gVar 5)))))
  (gSeq (Y9 (q1U (q03 (gTru (gUn (dIsTy "tuple") (gVar 0)))) (q1U (gB (gOp dNe (gCall pLen (gCons (gVar 0) gNil)) (gC (.int 2)))) (q03 (gTru (gUn (dIsTy "list") (gOp dIx (gVar 0) (gC (.int 0)))))))) (y7 (gC (.bl false))) Z6)
  (gSeq (X4 6 (gOp dIx (gVar 0) (gC (.int 0))))
  (gSeq (Y9 (q1U (q03 (gTru (gCall F_x (gCons (gVar 6) (gCons (U2 (gItS (gVar 2)) [6] (gB (gOp dIn (gVar 0) (gVar 1))) (gVar 0)) gNil))))) (gB (gOp dIn (gVar 1) (gVar 6)))) (y7 (gC (.bl false))) Z6)
  (gSeq (Y9 (q1U (gB (gOp dIn (gVar 1) (gCall F_s (gCons (gVar 2) (gCons (gVar 3) (gCons (gVar 6) gNil)))))) (q1U (q03 (gTru (gUn (dIsTy "list") (gOp dIx (gVar 0) (gC (.int 1)))))) (gB (gOp dNe (gCall pLen (gCons (gOp dIx (gVar 0) (gC (.int 1))) gNil)) (gCall pLen (gCons (gVar 6) gNil)))))) (y7 (gC (.bl false))) Z6)
  (gSeq (gSetO 7 (gLst (gCons (gVarI 1) gNil)))
  (gSeq (q1B (gItS (gOp dIx (gVar 0) (gC (.int 1)))) 8 [8,9] (gSeq (Y9 (q03 (gTru (gCall F_A (gCons (gVar 8) (gCons (gVar 1) (gCons (gVar 4) gNil)))))) (y7 (gC (.bl false))) Z6)
  (q1B (gItS (gVar 8)) 9 [9] (gSeq (Y9 (gB (gOp dIn (gVar 9) (gVar 7))) (y7 (gC (.bl false))) Z6)
  (q4d 7 (gVarI 9))))))
  (y7 (gC (.bl true)))))))))))
noncomputable def z61 (F_u:PF) (F_b:PF) (F_v:PF) (F_c:PF) (F_p:PF) (F_G:PF) (F_E:PFI) (F_j:PF):GS :=
 (gSeq (z4t [1,2,3] (gCall F_v (gCons (gVar 0) (gCons (gC (.bl true)) gNil))))
  (gSeq (X4 1 (gSl (gVar 1) gON (gOI (gC (.int 10)))))
  (gSeq (X4 2 (gSl (gVar 2) gON (gOI (gC (.int 10)))))
  (gSeq (gSetO 4 (gCall F_u (gCons (gVar 1) (gCons (gVar 2) gNil))))
  (gSeq (q1B (q1A (gC (.int 2))) 5 [5,6,7] (gSeq (X4 6 (gOp q0J (gOp J3 (gCall F_b (gCons (gVar 0) (gCons (gC (.int 14)) gNil))) (gOp q79 (gVar 5) (gOp J3 (gC (.int 1)) (gOp q0J (gCall F_b (gCons (gVar 0) (gCons (gC (.int 15)) gNil))) (gC (.int 9)))))) (gCall pLen (gCons (gVar 1) gNil))))
  (gSeq (X4 7 (gCall F_G (gCons (gVar 4) (gCons (gOp dIx (gVar 1) (gVar 6)) gNil))))
  (Y9 (gTru (gCall F_c (gCons (gOp dIx (gVar 2) (gVar 6)) (gCons (gLst gNil) gNil)))) (Y9 (gB (gOp q6h (gVar 7) (gC .non))) (y7 (gC (.bl false))) Z6) (gSeq (Y9 (q03 (gTru (gCall F_p (gCons (gVar 7) (gCons (gOp dIx (gVar 1) (gVar 6)) (gCons (gVar 1) (gCons (gVar 2) gNil))))))) (y7 (gC (.bl false))) Z6)
  (gSeq (q5t 7 (gC (.str "x")) (gLst (gCons (gC (.str "x")) gNil)))
  (Y9 (q03 (gTru (gCall F_p (gCons (gCall F_G (gCons (gVar 4) (gCons (gOp dIx (gVar 1) (gVar 6)) gNil))) (gCons (gOp dIx (gVar 1) (gVar 6)) (gCons (gVar 1) (gCons (gVar 2) gNil))))))) (y7 (gC (.bl false))) Z6)))))))
  (gSeq (Y9 (q1U (gB (gOp dNe (u5 0 "kinds" F_j (gVar 4) gNil) (gVar 1))) (gB (gOp dEq (gCall pLen (gCons (gVar 1) gNil)) (gC (.int 1))))) (y7 (gOp dEq (u5 0 "kinds" F_j (gVar 4) gNil) (gVar 1))) Z6)
  (gSeq (V4 (q2P 0 "drop" F_E 4 (gCons (gOp dIx (gVar 1) (gC (.int 0))) gNil)))
  (gSeq (X4 6 (gOp J3 (gC (.int 1)) (gOp q0J (gCall F_b (gCons (gVar 0) (gCons (gC (.int 16)) gNil))) (gOp q8G (gCall pLen (gCons (gVar 1) gNil)) (gC (.int 1))))))
  (gSeq (X4 7 (gCall F_G (gCons (gVar 4) (gCons (gOp dIx (gVar 1) (gVar 6)) gNil))))
  (gSeq (Y9 (gTru (gCall F_c (gCons (gOp dIx (gVar 2) (gVar 6)) (gCons (gLst gNil) gNil)))) (y7 (gOp z6m (gVar 7) (gC .non))) Z6)
  (y7 (gCall F_p (gCons (gVar 7) (gCons (gOp dIx (gVar 1) (gVar 6)) (gCons (gSl (gVar 1) (gOI (gC (.int 1))) gON) (gCons (gSl (gVar 2) (gOI (gC (.int 1))) gON) gNil))))))))))))))))
noncomputable def F_D:PF:=K2 1 (q3a)
noncomputable def F_H:PFI:=z3h 3 1 (z40 F_D)
noncomputable def F_a:PF:=K2 2 (q0F)
noncomputable def F_E:PFI:=z3h 2 1 (z0h F_a)
noncomputable def F_j:PF:=K2 1 (z0i)
noncomputable def F_g:PF:=K2 2 (q5B F_a)
noncomputable def F_h:PF:=K2 1 (q3P)
noncomputable def F_r:Nat->PF
 | 0=>λ o_=>.un
 | n+1=>K2 4 (q1b (F_r n) F_h)
noncomputable def F_e:Nat->PF
 | 0=>λ o_=>.un
 | n+1=>K2 1 (q0W (F_e n) F_h)
noncomputable def F_B:PF:=K2 1 (q3Q (F_e 8) F_j F_g)
noncomputable def F_m:Nat->PF
 | 0=>λ o_=>.un
 | n+1=>K2 1 (q5C (F_m n) F_h)
noncomputable def F_l:PF:=K2 6 (q1j)
noncomputable def F_q:PFI:=z6p 4 (q1r)
noncomputable def F_t:PF:=K2 7 (q0X (F_m 8) F_q (F_r 8) F_j F_g)
noncomputable def F_o:PFI:=z6n 4 (q05)
noncomputable def F_y:PF:=K2 2 (q5D)
noncomputable def F_C:PF:=K2 4 (q3R F_y)
noncomputable def F_z:PF:=K2 2 (q39 F_y F_C)
noncomputable def F_G:PF:=K2 6 (z60 (F_m 8) F_B F_l F_t F_o F_z F_j F_g F_a)
noncomputable def F_b:PF:=K2 2 (q06)
noncomputable def F_k:PF:=K2 1 (q1s)
noncomputable def F_w:PF:=K2 4 (q0Y)
noncomputable def F_n:Nat->PF
 | 0=>λ o_=>.un
 | n+1=>K2 7 (q1t (F_n n) F_k)
noncomputable def F_i:PF:=K2 1 (q2g)
noncomputable def F_f:Nat->PF
 | 0=>λ o_=>.un
 | n+1=>K2 3 (X1 (F_f n) F_i)
noncomputable def F_c:Nat->PF
 | 0=>λ o_=>.un
 | n+1=>K2 5 (q23 (F_c n) F_i)
noncomputable def F_v:PF:=K2 7 (q0Z F_b F_w (F_n 8) F_k)
noncomputable def F_u:PF:=K2 4 (q10 F_H)
noncomputable def F_s:PF:=K2 8 (q0r (F_c 8))
noncomputable def F_x:PF:=K2 2 (q11)
noncomputable def F_A:PF:=K2 5 (q3S (F_c 8) (F_f 8))
noncomputable def F_p:PF:=K2 10 (q2h F_x F_s F_A)
noncomputable def F_K:PF:=K2 8 (z61 F_u F_b F_v (F_c 8) F_p F_G F_E F_j)
mutual
noncomputable def Nd.toD:Nd->D
 | .sun=>.tup [.str "sun"]
 | .eats x=>.tup [.str "eats",.str x]
 | .any ps=>.tup [.str "any",.tup (z0X ps)]
 | .all ps=>.tup [.str "all",.tup (z0X ps)]
 | .some n ps=>.tup [.str "some",.int n,.tup (z0X ps)]
noncomputable def z0X:List Nd->List D
 | []=>[]
 | d::r=>d.toD::z0X r
end
theorem q1M:∀ l:List Nd,z0X l=l.map Nd.toD
 | []=>by rw [z0X];rfl
 | d::r=>by rw [z0X,q1M r];rfl
@[simp] theorem q6B:Nd.sun.toD=.tup [.str "sun"]:=by rw [Nd.toD]
@[simp] theorem q4F (x:Str):(Nd.eats x).toD=.tup [.str "eats",.str x]:=by rw [Nd.toD]
@[simp] theorem q3b (ps:List Nd):(Nd.any ps).toD=.tup [.str "any",.tup (ps.map Nd.toD)]:=by rw [Nd.toD,q1M]
@[simp] theorem q3c (ps:List Nd):(Nd.all ps).toD=.tup [.str "all",.tup (ps.map Nd.toD)]:=by rw [Nd.toD,q1M]
@[simp] theorem q1c (n:Int) (ps:List Nd):(Nd.some n ps).toD=.tup [.str "some",.int n,.tup (ps.map Nd.toD)]:=by rw [Nd.toD,q1M]
mutual
theorem z0j:∀ d:Nd,d.toD.imm=true
 | .sun=>by simp
 | .eats x=>by simp
 | .any ps=>by rw [Nd.toD];simp [q1N ps]
 | .all ps=>by rw [Nd.toD];simp [q1N ps]
 | .some n ps=>by rw [Nd.toD];simp [q1N ps]
theorem q1N:∀ l:List Nd,(z0X l).all D.imm=true
 | []=>by rw [z0X];rfl
 | d::r=>by rw [z0X,List.all_cons,z0j d,q1N r];rfl
end
@[simp] theorem z2v (d:Nd):d.toD.imm=true:=z0j d
@[simp] theorem q6C (l:List Nd):(l.map Nd.toD).all D.imm=true:=by rw [<- q1M];exact q1N l
@[simp] theorem z2w (l:List Nd):l.all (D.imm ∘ Nd.toD)=true:=by rw [<- List.all_map];exact q6C l
noncomputable def strsL (l:List Str):D:=.lst (l.map D.str)
@[simp] theorem z6Q (l:List Str):itD (strsL l)=.ok (l.map D.str):=rfl
@[simp] theorem z6R (l:List Str):(strsL l).big=true:=rfl
@[simp] theorem z1J (l:List Str):(l.map D.str).all D.imm=true:=by rw [List.all_map,N21];intro _ _;rfl
@[simp] theorem q4G (l:List Str):(strsL l).imI=true:=by unfold strsL;rw [z3W,z1J]
theorem z1K (a b:List Str) (h:a.length+b.length<=1000):z6k (strsL a) (strsL b)=.ok (strsL (a++b)):=by
 unfold strsL
 show Rz.guard _ _=_
 rw [j8 (by rw [N01,N01,W5];omega),N14]
noncomputable def _root_.Fw.Nd.word:Nd->String
 | .sun=>"sun"
 | .eats _=>"eats"
 | .any _=>"any"
 | .all _=>"all"
 | .some _ _=>"some"
@[simp] theorem ix0 (d:Nd):dIx d.toD (.int 0)=.ok (.str (Str.ofString d.word)):=by
 cases d with
 | sun=>rw [q6B];rfl
 | eats _=>rw [q4F];rfl
 | any _=>rw [q3b];rfl
 | all _=>rw [q3c];rfl
 | some _ _=>rw [q1c];rfl
@[simp] theorem q7z (d:Nd):F_h [d.toD]=.ok (.tup (d.parts.map Nd.toD)):=by
 have T:∀ {b:Bool},(("any"==d.word) || (("all"==d.word) || ("some"==d.word)))=b->gB (gOp dIn (gOp dIx (gVar 0) (gC (.int 0))) (gTup (gCons (gC (.str "any")) (gCons (gC (.str "all")) (gCons (gC (.str "some")) gNil))))) [some d.toD]=.ok b:=λ h=>x5 (j5 (j5 rfl rfl (ix0 d)) (q0o rfl (show 3<=1000 by decide)) (q35 (by rw [<- h];simp [inD,flatD])))
 have G:(("any"==d.word) || (("all"==d.word) || ("some"==d.word)))=true->dIx d.toD (.int (-1))=.ok (.tup (d.parts.map Nd.toD))->F_h [d.toD]=.ok (.tup (d.parts.map Nd.toD)):=λ h1 h2 =>
  W1 (Z8 (z8c (T h1) (q5y (j5 rfl rfl h2) (by rw [z05];exact q6C _))))
 cases d with
 | sun=>exact W1 (Z8 (z5Z (T rfl) (q0o rfl (N1b _))))
 | eats x=>exact W1 (Z8 (z5Z (T rfl) (q0o rfl (N1b _))))
 | any ps=>exact G rfl (by rw [q3b];rfl)
 | all ps=>exact G rfl (by rw [q3c];rfl)
 | some k ps=>exact G rfl (by rw [q1c];rfl)
@[simp] theorem z0k (d:Nd):F_i [d.toD]=.ok (.tup (d.parts.map Nd.toD)):=by
 have W:∀ (w:String){b:Bool},(d.word==w)=b->gB (gOp dEq (gOp dIx (gVar 0) (gC (.int 0))) (gC (.str w))) [some d.toD]=.ok b:=λ w o_ h=>x5 (j5 (j5 rfl rfl (ix0 d)) rfl (by rw [q31,j8 (q30 _ _),q6t,q4x,h]))
 have G:∀ {j:Int},(d.word=="sun")=false->(d.word=="eats")=false->pLen [d.toD]=.ok (.int j)->dIx d.toD (.int (j - 1))=.ok (.tup (d.parts.map Nd.toD))->F_i [d.toD]=.ok (.tup (d.parts.map Nd.toD)):=λ h1 h2 h3 h4 =>
  W1 (j6 (ifN (orN (W "sun" h1) (W "eats" h2)) rfl) (Z8 (q5y (j5 rfl (j5 (w6 rfl h3) rfl rfl) h4) (by rw [z05];exact q6C _))))
 cases d with
 | sun=>exact W1 (x9 (ifY (orY (W "sun" rfl)) (Z8 (q0o rfl (N1b _)))))
 | eats x=>exact W1 (x9 (ifY (orN (W "sun" rfl) (W "eats" rfl)) (Z8 (q0o rfl (N1b _)))))
 | any ps=>exact G (j:=2) rfl rfl (by rw [q3b];rfl) (by rw [q3b];rfl)
 | all ps=>exact G (j:=2) rfl rfl (by rw [q3c];rfl) (by rw [q3c];rfl)
 | some k ps=>exact G (j:=3) rfl rfl (by rw [q1c];rfl) (by rw [q1c];rfl)
noncomputable def z1L (a:D) (al:List Str):Prop:=∀ x:Str,inD (.str x) a=.ok (decide (x∈al))
theorem q1d (al:List Str):z1L (strsL al) al:=λ x=>by
 have h1:(al.map D.str).all flatD=true:=by rw [List.all_map,N21];intro _ _;rfl
 have h2:((al.map D.str).any λ y=>eqD y (.str x))=decide (x∈al):=by
  rw [List.any_map,N1y,List.any_eq_true,N1l]
  constructor
  ·rintro ⟨y,hy,e⟩
   have e:(y==x)=true:=by simpa using e
   rw [<- eq_of_beq e];exact hy
  ·intro h;exact ⟨x,h,by simp⟩
 show (Rz.guard ((flatD (D.str x)&&(al.map D.str).all flatD)=true) (Rz.ok ((al.map D.str).any λ y=>eqD y (D.str x))):Rz Bool)=_
 rw [h1,h2]
 rfl
theorem q12 (ks:List Str) (vs:List D):z1L (.dct (ks.map Sum.inr) vs) ks:=λ x=>by
 show (Rz.ok _:Rz Bool)=_
 congr 1
 rw [List.any_map,N1y,List.any_eq_true,N1l]
 constructor
 ·rintro ⟨y,hy,e⟩
  have e:(Sum.inr y:Ky)=Sum.inr x:=of_decide_eq_true e
  cases e;exact hy
 ·intro h;exact ⟨x,h,N0o rfl⟩
noncomputable def Nd.asked:Nd->Int
 | .sun=>0
 | .eats _=>0
 | .any _=>1
 | .all ps=>(ps.length:Int)
 | .some n _=>n
theorem q5E {a:D}{al:List Str}(ha:z1L a al) (n:Nat) (d:Nd) (hl:d.parts.length<=1000) (ih:∀ e∈d.parts,F_c n [e.toD,a]=.ok (.bl (e.met al))):F_c (n+1) [d.toD,a]=.ok (.bl (d.met al)):=by
 have hc:compL [some a] gYes (gCall z5k (gCons (gCall (F_c n) (gCons (gVar 0) (gCons (gVar 1) gNil))) gNil)) (d.parts.map Nd.toD)=.ok ((d.parts.map λ e=>if e.met al then (1:Int) else 0).map D.int):=by
  clear hl
  generalize d.parts=l at ih
  induction l with
  | nil=>rw [List.map_nil,compL];rfl
  | cons e r hi =>
   have h1:=ih e N00
   have h2:=hi (λ e' he'=>ih e' (N02 _ he'))
   rw [N09,compL]
   simp [h1,h2]
 have hi:∀ l:List Int,intsD (l.map D.int)=some l:=by
  intro l
  induction l with
  | nil=>rfl
  | cons x r ih=>rw [N09,intsD,ih];rfl
 have hs:∀ l:List Nd,(l.map λ e=>if e.met al then (1:Int) else 0).sum=((metL al l:Nat):Int):=by
  intro l
  induction l with
  | nil=>rw [metL];rfl
  | cons e r ih=>rw [N09,List.sum_cons,ih,metL];cases e.met al<;>simp
 have hp:=z0k d
 have W:∀ (w:String){b:Bool}{o2 o3 o4:Option D},(d.word==w)=b->gB (gOp dEq (gOp dIx (gVar 0) (gC (.int 0))) (gC (.str w))) [some d.toD,some a,o2,o3,o4]=.ok b:=λ w o_ o_ o_ o_ h=>x5 (j5 (j5 rfl rfl (ix0 d)) rfl (by rw [q31,j8 (q30 _ _),q6t,q4x,h]))
 show K2 5 (q23 (F_c n) F_i) _=_
 by_cases he:∃ x,d=.eats x
 ·obtain ⟨x,rfl⟩:=he
  rw [Nd.met]
  exact W1 (x9 (ifY (W "eats" rfl) (Z8 (j5 (j5 rfl rfl (by rw [q4F];rfl)) rfl (q35 (ha x))))))
 ·have sm:pSum [.lst ((d.parts.map λ e=>if e.met al then (1:Int) else 0).map D.int)]=.ok (.int (metL al d.parts:Nat)):=by
   rw [z3V,hi,<- hs];rfl
  have ne:(d.word=="eats")=false:=by
   cases d with
   | eats x=>exact absurd ⟨x,rfl⟩ he
   | _=>rfl
  refine W1 (δ:=[some d.toD,some a,some (.tup (d.parts.map Nd.toD)),some (.int (metL al d.parts:Nat)),some (.int d.asked)]) (j6 (o:=.ok (.rt (.bl (d.met al)) _)) (ifN (W "eats" ne) rfl) (j6 (W7 (w6 rfl hp)) (j6 (W7 (w6 (Q2 (V7 (z0f rfl) hc (by rw [N01,N01];exact hl)) rfl) sm)) (j6 rfl ?_))))
  cases d with
  | eats x=>exact absurd ⟨x,rfl⟩ he
  | sun =>
   rw [Nd.met]
   exact j6 (ifY (W "sun" rfl) rfl) (j6 (ifN (W "all" rfl) rfl) (j6 (ifN (W "some" rfl) rfl) (Z8 (j5 rfl rfl (congrArg (λ b=>Rz.ok (D.bl b)) (N0o (Int.natCast_nonneg _)))))))
  | any ps =>
   rw [Nd.met]
   exact j6 (ifN (W "sun" rfl) rfl) (j6 (ifN (W "all" rfl) rfl) (j6 (ifN (W "some" rfl) rfl) (Z8 (j5 rfl rfl (congrArg (λ b=>Rz.ok (D.bl b)) (decide_eq_decide.2 (show (1:Int)<=(metL al ps:Nat)↔1<=metL al ps by omega)))))))
  | all ps =>
   rw [Nd.met]
   exact j6 (ifN (W "sun" rfl) rfl) (j6 (ifY (W "all" rfl) (W7 (w6 rfl (by rw [z1H,N01];rfl)))) (j6 (ifN (W "some" rfl) rfl) (Z8 (j5 rfl rfl (congrArg (λ b=>Rz.ok (D.bl b)) (decide_eq_decide.2 Int.ofNat_le))))))
  | some k ps =>
   rw [Nd.met]
   exact j6 (ifN (W "sun" rfl) rfl) (j6 (ifN (W "all" rfl) rfl) (j6 (ifY (W "some" rfl) (W7 (q5y (j5 rfl rfl (by rw [q1c];rfl)) (z04 _)))) (Z8 (j5 rfl rfl rfl))))
theorem q1e {a:D}{al:List Str}(ha:z1L a al){ss:List Str}{sm:Bool}:∀ (n:Nat) (d:Nd),d.ok ss sm->d.depth<=n->F_c n [d.toD,a]=.ok (.bl (d.met al))
 | 0,d,_,h=>by have:=U0 d;simp_all
 | n+1,d,ho,hd=>by
  obtain ⟨h4,hop⟩:=q0q ho
  exact q5E ha n d (by omega) λ e he=>q1e ha n e (q38 hop he) (x3 hd he)
noncomputable def intsL (ns:List Int):D:=.lst (ns.map D.int)
noncomputable def cellD (ns:List Int) (k:Nat):Int:=(ns[k]?).getD 0
theorem z41 (ns:List Int) (k:Nat):F_b [intsL ns,.int (k:Int)]=.ok (.int (cellD ns k)):=by
 unfold F_b K2 q06 cellD intsL
 by_cases h:k<ns.length
 ·simp [startD,h,q0a]
 ·simp [startD,h]
noncomputable def nextD (s:Int):Int:=(((s+7919) % 2147483647) * ((s+7919) % 2147483647)+48271 * ((s+7919) % 2147483647)+12345) % 2147483629
@[simp] theorem z0l (s:Int):F_k [.int s]=.ok (.int (nextD s)):=by
 have b1:0<=(s+7919) % 2147483647:=N0s _ (by decide)
 have b2:(s+7919) % 2147483647<2147483647:=N0t _ (by decide)
 unfold F_k K2 q1s nextD
 simp [startD]
 generalize (s+7919) % 2147483647=x at b1 b2
 rw [N0j (by lia)]
 simp
noncomputable def stubs:List Str:=["z","qz","zab","mzk","zoozz","zoozzpa"]
noncomputable def stubOf (c:Int):Str:=(stubs[(c % 6).toNat]?).getD "z"
noncomputable def atOf (c:Int):Int:=c / 6 % (((stubOf c).length:Int)+1)
noncomputable def letters:Str:="abcdefghijklmnopqrstuvwxyz"
noncomputable def q3T (j:Int):Nat:=(letters.cps.toList[(j % 26).toNat]?).getD 0
noncomputable def nameOf (c:Int) (k:Nat):Str:=(⟨(q5i (stubOf c).cps.toList none (some (atOf c))).toArray⟩++⟨#[q3T ((k:Int)+c / 97)]⟩:Str)++⟨(q5i (stubOf c).cps.toList (some (atOf c)) none).toArray⟩
theorem z0m (c:Int):stubOf c∈stubs:=by
 have b1:0<=c % 6:=N0s _ (by decide)
 have b2:c % 6<6:=N0t _ (by decide)
 unfold stubOf
 have hl:(c % 6).toNat<stubs.length:=by show (c % 6).toNat<6;simp_all
 rw [N08 hl]
 exact N0z hl
theorem q2x (c:Int):(stubOf c).length<=7:=by
 have:∀ s∈stubs,s.length<=7:=by decide +kernel
 exact this _ (z0m c)
theorem z42 (c:Int):atD (stubs.map D.str) (c % 6)=some (.str (stubOf c)):=by
 have b1:0<=c % 6:=N0s _ (by decide)
 have b2:c % 6<6:=N0t _ (by decide)
 rw [z06 _ _ b1,N0i]
 unfold stubOf
 have hl:(c % 6).toNat<stubs.length:=by show (c % 6).toNat<6;simp_all
 rw [N08 hl]
 rfl
theorem z43 (j:Int):atD letters.cps.toList (j % 26)=some (q3T j):=by
 have b1:0<=j % 26:=N0s _ (by decide)
 have b2:j % 26<26:=N0t _ (by decide)
 have hl:(j % 26).toNat<letters.cps.toList.length:=by
  have z:letters.cps.toList.length=26:=by decide +kernel
  simp_all
 rw [z06 _ _ b1]
 unfold q3T
 rw [N08 hl]
 rfl
theorem z0n {α:Type}(xs:List α) (lo hi:Option Int):(q5i xs lo hi).length<=xs.length:=by
 unfold q5i
 rw [N16,N1k]
 exact N0v (Nat.min_le_right _ _) (Nat.sub_le _ _)
theorem q4H (a b:Str):(a++b).length=a.length+b.length:=by
 show (a.cps++b.cps).size=_
 rw [Array.size_append];rfl
theorem z1M (c:Int) (k:Nat):(nameOf c k).length<=15:=by
 have hl:=q2x c
 have l1:=z0n (stubOf c).cps.toList none (some (atOf c))
 have l2:=z0n (stubOf c).cps.toList (some (atOf c)) none
 have l3:(stubOf c).cps.toList.length=(stubOf c).length:=by rw [N0g];rfl
 unfold nameOf
 rw [q4H,q4H]
 show (q5i (stubOf c).cps.toList none (some (atOf c))).toArray.size+1+(q5i (stubOf c).cps.toList (some (atOf c)) none).toArray.size<=15
 rw [N0m,N0m]
 lia
theorem z1N (c:Int) (k:Nat) (δ:DS) (h0:δ[0]? = some (some (.int (0+(k:Int))))) (h1:δ[1]? = some (some (.str (stubOf c)))) (h2:δ[2]? = some (some (.int (atOf c)))) (h3:δ[3]? = some (some (.int c))) :
 (gOp J3 (gOp J3 (gSl (gVar 1) gON (gOI (gVar 2))) (gOp dIx (gC (.str letters)) (gOp q0J (gOp J3 (gVar 0) (gOp q3B (gVar 3) (gC (.int 97)))) (gC (.int 26))))) (gSl (gVar 1) (gOI (gVar 2)) gON)) δ=.ok (.str (nameOf c k)):=by
 have hsg:=z43 ((k:Int)+c / 97)
 have h26:letters.length=26:=by decide +kernel
 have hn:=z1M c k
 have hl:=q2x c
 unfold nameOf at hn ⊢
 rw [q4H] at hn
 simp [h0,h1,h2,h3,W5,hsg,show letters.length<=16777216 by simp_all,show (stubOf c).length<=16777216 by omega]
 rw [N0j (by rw [q4H] at hn;lia)]
 simp [W5]
 omega
theorem z8e:[D.str "z",D.str "qz",D.str "zab",D.str "mzk",D.str "zoozz",D.str "zoozzpa"]=stubs.map D.str:=rfl
theorem hcx (c:Int) (n:Nat):compL [some (D.str (stubOf c)),some (D.int (atOf c)),some (D.int c)] gYes
 (gOp J3 (gOp J3 (gSl (gVar 1) gON (gOI (gVar 2))) (gOp dIx (gC (.str "abcdefghijklmnopqrstuvwxyz")) (gOp q0J (gOp J3 (gVar 0) (gOp q3B (gVar 3) (gC (.int 97)))) (gC (.int 26))))) (gSl (gVar 1) (gOI (gVar 2)) gON)) (rangeD 0 n)=.ok ((List.range n).map λ k=>D.str (nameOf c k)):=by
 refine z1I λ k hk=>?_
 exact z1N c k _ rfl rfl rfl rfl
theorem z1O (c:Int) (n:Nat) (hn:n<=1000):F_w [.int c,.int (n:Int)]=.ok (strsL ((List.range n).map (nameOf c))):=by
 have hs:=z42 c
 have hl:=q2x c
 have hc:=hcx c n
 have e6:stubs.length=6:=rfl
 unfold F_w K2 q0Y
 generalize hE:(gOp J3 (gOp J3 (gSl (gVar 1) gON (gOI (gVar 2))) (gOp dIx (gC (.str "abcdefghijklmnopqrstuvwxyz")) (gOp q0J (gOp J3 (gVar 0) (gOp q3B (gVar 3) (gC (.int 97)))) (gC (.int 26))))) (gSl (gVar 1) (gOI (gVar 2)) gON))=E at hc ⊢
 simp only [startD,K2]
 simp [z8e,hs,W5,e6]
 rw [N0j (by omega)]
 have hp:(0:Int)<((stubOf c).length:Int)+1:=by simp
 have ea:atOf c=c / 6 % (((stubOf c).length:Int)+1):=rfl
 rw [ea] at hc
 simp [hp,capD]
 rw [N0j (by lia)]
 simp [hc]
 rw [N0j (by omega)]
 simp [strsL]
noncomputable def q3d (ss:List Str) (s:Int):Nd:=if s / 9 % 6=0 then .sun else .eats ((ss[(s / 54 % (ss.length:Int)).toNat]?).getD "")
noncomputable def wideOf (s:Int):Nat:=(1+s / 9 % 4).toNat
noncomputable def U7 (ss:List Str) (sm:Bool):Nat->Int->Nd
 | 0,s=>q3d ss s
 | k+1,s=>if s % 9<4 then q3d ss s else
  let ps:=(List.range (wideOf s)).map λ j:Nat=>U7 ss sm k (nextD (s+3 * (j:Int)+1))
  if s % 9<6\/sm=true then .any ps else if s % 9<8 then .all ps else .some (1+s / 36 % (ps.length:Int)) ps
theorem z0o (s:Int):1<=wideOf s/\wideOf s<=4:=by
 have b1:0<=s / 9 % 4:=N0s _ (by decide)
 have b2:s / 9 % 4<4:=N0t _ (by decide)
 unfold wideOf
 generalize s / 9 % 4=z at b1 b2
 lia
theorem z0p (s:Int):((wideOf s:Nat):Int)=1+s / 9 % 4:=by
 have b1:0<=s / 9 % 4:=N0s _ (by decide)
 exact N26 (Int.add_nonneg (by decide) b1)
theorem q8e (l:List Str):pLen [strsL l]=.ok (.int (l.length:Int)):=by unfold strsL;simp
theorem z0q {F G:PF}(ss:List Str) (hs:ss≠[]) (hl:ss.length<=1000) (sm:Bool) (k s:Int) (h:k=0\/s % 9<4):K2 7 (q1t F G) [.int s,.int k,strsL ss,.bl sm]=.ok (q3d ss s).toD:=by
 have hp:0<ss.length:=List.length_pos_iff.2 hs
 have b1:0<=s / 54 % (ss.length:Int):=N0s _ (by simp_all)
 have b2:s / 54 % (ss.length:Int)<(ss.length:Int):=N0t _ (by simp_all)
 have hg:atD (ss.map D.str) (s / 54 % (ss.length:Int))=some (.str ((ss[(s / 54 % (ss.length:Int)).toNat]?).getD "")):=by
  rw [z06 _ _ b1,N0i,N08 (by simp_all)]
  rfl
 have t:q1U (gB (gOp dEq (gVar 1) (gC (.int 0)))) (gB (gOp dLt (gVar 4) (gC (.int 4)))) [some (.int s),some (.int k),some (strsL ss),some (.bl sm),some (.int (s % 9)),none,none]=.ok true:=by
  by_cases h0:k=0
  ·exact orY (x5 (j5 rfl rfl (eqT h0)))
  ·exact orN (x5 (j5 rfl rfl (eqF h0))) (x5 (j5 rfl rfl (ltT (h.resolve_left h0))))
 unfold q3d
 by_cases h6:s / 9 % 6=0
 ·rw [N0j h6,q6B]
  exact W1 (j6 (W7 (j5 rfl rfl (x0 (by decide)))) (x9 (ifY t (x9 (ifY (x5 (j5 (j5 (j5 rfl rfl (q0E (by decide))) rfl (x0 (by decide))) rfl (eqT h6))) (Z8 (q0o rfl (by decide))))))))
 ·rw [N0l h6,q4F]
  exact W1 (j6 (W7 (j5 rfl rfl (x0 (by decide)))) (x9 (ifY t (j6 (ifN (x5 (j5 (j5 (j5 rfl rfl (q0E (by decide))) rfl (x0 (by decide))) rfl (eqF h6))) rfl) (Z8 (q34 rfl (q5y (j5 rfl (j5 (j5 rfl rfl (q0E (by decide))) (w6 rfl (q8e ss)) (x0 (Int.ofNat_lt.2 hp))) (by unfold strsL;rw [q4A,hg];rfl)) (q6u _))))))))
theorem z0r (ss:List Str) (hs:ss≠[]) (hl:ss.length<=1000) (sm:Bool):∀ (n k:Nat) (s:Int),k<n->F_n n [.int s,.int (k:Int),strsL ss,.bl sm]=.ok (U7 ss sm k s).toD
 | n+1,0,s,_=>by
  rw [F_n,U7]
  exact z0q ss hs hl sm _ s (.inl rfl)
 | n+1,k+1,s,hkn=>by
  rw [F_n,U7]
  by_cases h4:s % 9<4
  ·rw [N0j h4]
   exact z0q ss hs hl sm _ s (.inr h4)
  rw [N0l h4]
  have ih:=λ s=>z0r ss hs hl sm n k s (by simp_all)
  have hw:=z0o s
  have hk0:¬ ((k:Int)+1=0):=by lia
  let ps:=λ m:Nat=>(List.range m).map λ j:Nat=>U7 ss sm k (nextD (s+3 * (j:Int)+1))
  have hps:∀ m,(ps m).length=m:=λ m=>by show ((List.range m).map _).length=m;rw [N01,N17]
  let J:Nat->DS:=λ m=>[some (.int s),some (.int ((k:Int)+1)),some (strsL ss),some (.bl sm),some (.int (s % 9)),some (.lst ((ps m).map Nd.toD)),none]
  have hloop:W6 6 [6] (q4d 5 (gCall (F_n n) (gCons (gCall F_k (gCons (gOp J3 (gOp J3 (gVar 0) (gOp q79 (gC (.int 3)) (gVar 6))) (gC (.int 1))) gNil)) (gCons (gOp q8G (gVar 1) (gC (.int 1))) (gCons (gVar 2) (gCons (gVar 3) gNil)))))) (rangeD 0 (wideOf s)) [some (D.int s),some (.int ((k:Int)+1)),some (strsL ss),some (.bl sm),some (.int (s % 9)),some (.lst []),none]=.ok (.nx [some (D.int s),some (.int ((k:Int)+1)),some (strsL ss),some (.bl sm),some (.int (s % 9)),some (.lst ((ps (wideOf s)).map Nd.toD)),none]):=by
   refine q1a (n:=wideOf s) J rfl λ m hm=>?_
   refine ⟨(J (m+1)).set 6 (some (.int (0+(m:Int)))),.inl ?_,rfl⟩
   have e:ps (m+1)=ps m++[U7 ss sm k (nextD (s+3 * (m:Int)+1))]:=by
    show (List.range (m+1)).map _=(List.range m).map _++_
    rw [List.range_succ,N14];rfl
   show q4d 5 _ ((J m).set 6 (some (.int (0+(m:Int)))))=_
   rw [show (0+(m:Int))=(m:Int) by simp]
   refine Eq.trans (q3O (w6 (Q2 (w6 (Q2 (j5 (j5 rfl (j5 rfl rfl (z0d _ _ (by decide) (by decide))) rfl) rfl rfl) rfl) (z0l _)) (Q2 (j5 rfl rfl (by rw [z3S,show (k:Int)+1 - 1=(k:Int) by simp])) rfl)) (ih _)) rfl (by rw [N01,hps];lia)) ?_
   show Rz.ok (Out.nx [_,_,_,_,_,some (.lst ((ps m).map Nd.toD++[_])),_])=Rz.ok (Out.nx [_,_,_,_,_,some (.lst ((ps (m+1)).map Nd.toD)),_])
   rw [e,N14];rfl
  have hq:((List.range (wideOf s)).map λ j:Nat=>U7 ss sm k (nextD (s+3 * (j:Int)+1)))=ps (wideOf s):=rfl
  rw [hq]
  have hpl:=hps (wideOf s)
  generalize ps (wideOf s)=P at hpl hloop ⊢
  have pre:∀ {q r:GS}{d:D}{δ:DS},r [some (D.int s),some (.int ((k:Int)+1)),some (strsL ss),some (.bl sm),some (.int (s % 9)),some (.lst (P.map Nd.toD)),none]=.ok (.rt d δ)->K2 7 (gSeq (X4 4 (gOp q0J (gVar 0) (gC (.int 9)))) (gSeq (Y9 (q1U (gB (gOp dEq (gVar 1) (gC (.int 0)))) (gB (gOp dLt (gVar 4) (gC (.int 4))))) q Z6) (gSeq (gSetO 5 (gLst gNil)) (gSeq (q1B (q1A (gOp J3 (gC (.int 1)) (gOp q0J (gOp q3B (gVar 0) (gC (.int 9))) (gC (.int 4))))) 6 [6] (q4d 5 (gCall (F_n n) (gCons (gCall F_k (gCons (gOp J3 (gOp J3 (gVar 0) (gOp q79 (gC (.int 3)) (gVar 6))) (gC (.int 1))) gNil)) (gCons (gOp q8G (gVar 1) (gC (.int 1))) (gCons (gVar 2) (gCons (gVar 3) gNil))))))) r)))) [.int s,.int ((k:Int)+1),strsL ss,.bl sm]=.ok d:=λ h =>
   W1 (j6 (W7 (j5 rfl rfl (x0 (by decide)))) (j6 (ifN (orN (x5 (j5 rfl rfl (eqF hk0))) (x5 (j5 rfl rfl (ltF h4)))) rfl) (j6 (V3 z0g rfl) (j6 (u9 (q33 (j5 rfl (j5 (j5 rfl rfl (q0E (by decide))) rfl (x0 (by decide))) rfl) (by rw [<- z0p];exact (q21 _).2 (by lia))) hloop) h))))
  have tu:gCall pTuple (gCons (gVar 5) gNil) [some (D.int s),some (.int ((k:Int)+1)),some (strsL ss),some (.bl sm),some (.int (s % 9)),some (.lst (P.map Nd.toD)),none]=.ok (.tup (P.map Nd.toD)):=w6 rfl rfl
  by_cases ha:s % 9<6\/sm=true
  ·rw [N0j ha,q3b]
   refine pre (x9 (ifY ?_ (Z8 (q34 rfl tu))))
   by_cases h6:s % 9<6
   ·exact orY (x5 (j5 rfl rfl (ltT h6)))
   ·exact orN (x5 (j5 rfl rfl (ltF h6))) (Y3 (by rw [ha.resolve_left h6];rfl))
  ·have h6:¬ s % 9<6:=λ z=>ha (.inl z)
   have hsm:sm=false:=by cases sm with
    | true=>exact absurd (.inr rfl) ha
    | false=>rfl
   subst hsm
   rw [N0l ha]
   have no:q1U (gB (gOp dLt (gVar 4) (gC (.int 6)))) (gTru (gVar 3)) [some (D.int s),some (.int ((k:Int)+1)),some (strsL ss),some (.bl false),some (.int (s % 9)),some (.lst (P.map Nd.toD)),none]=.ok false:=orN (x5 (j5 rfl rfl (ltF h6))) (Y3 rfl)
   by_cases h8:s % 9<8
   ·rw [N0j h8,q3c]
    exact pre (j6 (ifN no rfl) (x9 (ifY (x5 (j5 rfl rfl (ltT h8))) (Z8 (q34 rfl tu)))))
   ·rw [N0l h8,q1c]
    exact pre (j6 (ifN no rfl) (j6 (ifN (x5 (j5 rfl rfl (ltF h8))) rfl) (Z8 (q0o (Q2 rfl (Q2 (j5 rfl (j5 (j5 rfl rfl (q0E (by decide))) (w6 rfl (z1G _)) (by rw [N01];exact x0 (by lia))) rfl) (Q2 tu rfl))) (show 3<=1000 by decide)))))
theorem z2x {ss:List Str}{sm:Bool}:∀ {l:List Nd},(∀ e∈l,e.ok ss sm)->okL ss sm l
 | [],_=>by rw [okL];trivial
 | a::r,h=>by rw [okL];exact ⟨h a (N00 ..),z2x λ e m=>h e (N02 _ m)⟩
theorem q5F {n:Nat}:∀ {l:List Nd},(∀ e∈l,e.depth<=n)->depthL l<=n
 | [],_=>by rw [depthL];simp
 | a::r,h=>by
  rw [depthL]
  have h1:=h a (N00 ..)
  have h2:=q5F λ e m=>h e (N02 _ m)
  lia
theorem q4I (ss:List Str) (hs:ss≠[]) (sm:Bool) (s:Int):(q3d ss s).ok ss sm/\(q3d ss s).depth=1:=by
 have hp:0<ss.length:=List.length_pos_iff.2 hs
 have b1:0<=s / 54 % (ss.length:Int):=N0s _ (by simp_all)
 have b2:s / 54 % (ss.length:Int)<(ss.length:Int):=N0t _ (by simp_all)
 unfold q3d
 by_cases h6:s / 9 % 6=0
 ·rw [N0j h6,Nd.ok,Nd.depth];exact ⟨trivial,rfl⟩
 ·rw [N0l h6,Nd.ok,Nd.depth,N08 (by simp_all)]
  exact ⟨N0z _,rfl⟩
theorem z0s (ss:List Str) (hs:ss≠[]) (sm:Bool):∀ (k:Nat) (s:Int),(U7 ss sm k s).ok ss sm/\(U7 ss sm k s).depth<=k+1
 | 0,s=>by
  rw [U7]
  exact ⟨(q4I ss hs sm s).1,Nat.le_of_eq (q4I ss hs sm s).2⟩
 | k+1,s=>by
  rw [U7]
  by_cases h4:s % 9<4
  ·rw [N0j h4]
   refine ⟨(q4I ss hs sm s).1,?_⟩
   rw [(q4I ss hs sm s).2];simp
  rw [N0l h4]
  have ih:=z0s ss hs sm k
  have hw:=z0o s
  generalize hP:((List.range (wideOf s)).map λ j:Nat=>U7 ss sm k (nextD (s+3 * (j:Int)+1)))=P
  have hl:P.length=wideOf s:=by rw [<- hP,N01,N17]
  have hm:∀ e∈P,e.ok ss sm/\e.depth<=k+1:=λ e m=>by
   rw [<- hP] at m
   obtain ⟨j,_,rfl⟩:=N1z.1 m
   exact ih _
  have ho:=z2x λ e m=>(hm e m).1
  have hd:=q5F λ e m=>(hm e m).2
  dsimp only
  by_cases h6:s % 9<6\/sm=true
  ·rw [N0j h6,Nd.ok,Nd.depth]
   exact ⟨⟨by simp_all,by simp_all,ho⟩,by simp_all⟩
  rw [N0l h6]
  have hf:sm=false:=by cases sm;rfl;exact absurd (.inr rfl) h6
  by_cases h8:s % 9<8
  ·rw [N0j h8,Nd.ok,Nd.depth]
   exact ⟨⟨hf,by simp_all,by simp_all,ho⟩,by simp_all⟩
  ·have b1:0<=s / 36 % (P.length:Int):=N0s _ (by lia)
   have b2:s / 36 % (P.length:Int)<(P.length:Int):=N0t _ (by lia)
   rw [N0l h8,Nd.ok,Nd.depth]
   exact ⟨⟨hf,by lia,by lia,by simp_all,ho⟩,by simp_all⟩
noncomputable def cnt (ns:List Int):Nat:=(if cellD ns 0 / 7 % 4=1 then 1+cellD ns 0 / 28 % 16 else 1+cellD ns 0 % 7).toNat
theorem q5G (ns:List Int):1<=cnt ns/\cnt ns<=16:=by
 have b1:0<=cellD ns 0 / 28 % 16:=N0s _ (by decide)
 have b2:cellD ns 0 / 28 % 16<16:=N0t _ (by decide)
 have b3:0<=cellD ns 0 % 7:=N0s _ (by decide)
 have b4:cellD ns 0 % 7<7:=N0t _ (by decide)
 have k:∀ z:Int,0<=z->z<16->1<=(1+z).toNat/\(1+z).toNat<=16:=λ z o_ o_=>by lia
 unfold cnt
 split
 ·exact k _ b1 b2
 ·exact k _ b3 (Int.lt_trans b4 (by decide))
theorem z1P (ns:List Int):((cnt ns:Nat):Int)=if cellD ns 0 / 7 % 4=1 then 1+cellD ns 0 / 28 % 16 else 1+cellD ns 0 % 7:=by
 have b1:0<=cellD ns 0 / 28 % 16:=N0s _ (by decide)
 have b3:0<=cellD ns 0 % 7:=N0s _ (by decide)
 unfold cnt
 split
 ·exact N26 (Int.add_nonneg (by decide) b1)
 ·exact N26 (Int.add_nonneg (by decide) b3)
noncomputable def pool (ns:List Int):List Str:=(List.range (cnt ns+2)).map (nameOf (cellD ns 1))
theorem q2y (ns:List Int):(pool ns).length=cnt ns+2:=by unfold pool;rw [N01,N17]
theorem z0t (ns:List Int):pool ns≠[]:=by
 intro h
 have:=q2y ns
 rw [h] at this;simp at this
noncomputable def seedOf (ns:List Int) (i:Nat):Int:=nextD (cellD ns (2+i % 12)+5003 * (i:Int))
noncomputable def rawN (ns:List Int) (sm:Bool) (m:Nat):List Nd:=(List.range m).map λ i=>U7 (pool ns) sm (1+seedOf ns i / 7 % 2).toNat (seedOf ns i)
theorem q4J (ns:List Int) (sm:Bool) (m:Nat):(rawN ns sm m).length=m:=by unfold rawN;rw [N01,N17]
noncomputable def drawN (ns:List Int) (sm:Bool):List Nd:=if 0<cellD ns 1 / 30 % 3 then (rawN ns sm (cnt ns)).set (cellD ns 1 / 90 % (cnt ns:Int)).toNat .sun else rawN ns sm (cnt ns)
theorem z1Q (ns:List Int) (sm:Bool):(drawN ns sm).length=cnt ns:=by
 unfold drawN;split
 ·rw [N1g,q4J]
 ·rw [q4J]
noncomputable def z8f (ns:List Int) (sm:Bool):D:=.tup [strsL ((pool ns).take (cnt ns)),.lst ((drawN ns sm).map Nd.toD),strsL ((pool ns).drop (cnt ns))]
theorem q8f (ns:List Int) (i:Int) (h:0<=i):F_b [intsL ns,.int i]=.ok (.int (cellD ns i.toNat)):=by
 have:=z41 ns i.toNat
 rwa [N26 h] at this
theorem z8g (ns:List Int):F_b [intsL ns,.int 0]=.ok (.int (cellD ns 0)):=q8f ns 0 (by decide)
theorem z8h (ns:List Int):F_b [intsL ns,.int 1]=.ok (.int (cellD ns 1)):=q8f ns 1 (by decide)
theorem z1R (ns:List Int) (sm:Bool):F_v [intsL ns,.bl sm]=.ok (z8f ns sm):=by
 have hc:=q5G ns
 have c0:=z8g ns
 have c1:=z8h ns
 have hnm:F_w [.int (cellD ns 1),.int ((cnt ns:Int)+2)]=.ok (strsL (pool ns)):=by
  have:=z1O (cellD ns 1) (cnt ns+2) (by lia)
  rwa [show (((cnt ns+2:Nat)):Int)=(cnt ns:Int)+2 by simp] at this
 have hcc:=z1P ns
 unfold F_v K2 q0Z
 generalize hE:(gSeq (X4 6 (gCall F_k (gCons (gOp J3 (gCall F_b (gCons (gVar 0) (gCons (gOp J3 (gC (.int 2)) (gOp q0J (gVar 5) (gC (.int 12)))) gNil))) (gOp q79 (gC (.int 5003)) (gVar 5))) gNil)))
  (q4d 4 (gCall (F_n 8) (gCons (gVar 6) (gCons (gOp J3 (gC (.int 1)) (gOp q0J (gOp q3B (gVar 6) (gC (.int 7))) (gC (.int 2)))) (gCons (gVar 3) (gCons (gVar 1) gNil)))))))=E
 have hloop:W6 5 [5,6] E (rangeD 0 (cnt ns)) [some (intsL ns),some (.bl sm),some (.int (cnt ns:Int)),some (strsL (pool ns)),some (.lst []),none,none]=.ok (.nx [some (intsL ns),some (.bl sm),some (.int (cnt ns:Int)),some (strsL (pool ns)),some (.lst ((rawN ns sm (cnt ns)).map Nd.toD)),none,none]):=by
  refine q1a (n:=cnt ns) (λ m=>[some (intsL ns),some (.bl sm),some (.int (cnt ns:Int)),some (strsL (pool ns)),some (.lst ((rawN ns sm m).map Nd.toD)),none,none]) rfl λ m hm=>?_
  refine ⟨[some (intsL ns),some (.bl sm),some (.int (cnt ns:Int)),some (strsL (pool ns)),some (.lst ((rawN ns sm (m+1)).map Nd.toD)),some (.int (0+(m:Int))),some (.int (seedOf ns m))],.inl ?_,rfl⟩
  have e:rawN ns sm (m+1)=rawN ns sm m++[U7 (pool ns) sm (1+seedOf ns m / 7 % 2).toNat (seedOf ns m)]:=by
   unfold rawN;rw [List.range_succ,N14];rfl
  have b1:0<=seedOf ns m / 7 % 2:=N0s _ (by decide)
  have b2:seedOf ns m / 7 % 2<2:=N0t _ (by decide)
  have hn:=z0r (pool ns) (z0t ns) (by rw [q2y];lia) sm 8 (1+seedOf ns m / 7 % 2).toNat (seedOf ns m) (by lia)
  rw [N26 (by lia)] at hn
  have hi:=q8f ns (2+(m:Int) % 12) (by lia)
  rw [show (2+(m:Int) % 12).toNat=2+m % 12 from rfl] at hi
  have hs:nextD (cellD ns (2+m % 12)+5003 * (m:Int))=seedOf ns m:=rfl
  rw [<- hE,e,N14]
  have e0:(0+(m:Int))=(m:Int):=by simp
  rw [e0]
  refine j6 (W7 (w6 (Q2 (j5 (w6 (Q2 rfl (Q2 (j5 rfl (j5 rfl rfl (x0 (by decide))) rfl) rfl)) hi) (j5 rfl rfl (z0d _ _ (by decide) (by decide))) rfl) rfl) (z0l _))) ?_
  rw [hs]
  exact q3O (w6 (Q2 rfl (Q2 (j5 rfl (j5 (j5 rfl rfl (q0E (by decide))) rfl (x0 (by decide))) rfl) rfl)) hn) rfl (by rw [N01,q4J];lia)
 have b1:0<=cellD ns 1 / 90 % (cnt ns:Int):=N0s _ (by lia)
 have b2:cellD ns 1 / 90 % (cnt ns:Int)<(cnt ns:Int):=N0t _ (by lia)
 have b3:0<cnt ns:=hc.1
 have hput:=z3Y ((rawN ns sm (cnt ns)).map Nd.toD) (cellD ns 1 / 90 % (cnt ns:Int)) (.tup [.str "sun"]) b1 (by rw [N01,q4J];exact b2)
 have k1:=q7x (α:=D) ((pool ns).map D.str) (cnt ns)
 have k2:=q2w (α:=D) ((pool ns).map D.str) (cnt ns)
 rw [<- List.map_take] at k1
 rw [<- List.map_drop] at k2
 refine W1 (j6 (W7 (j5 rfl (j5 (w6 rfl c0) rfl (x0 (by decide))) rfl)) (j6 (δ':=[some (intsL ns),some (.bl sm),some (.int (cnt ns:Int)),none,none,none,none]) ?_ (j6 (W7 (w6 (Q2 (w6 rfl c1) (Q2 rfl rfl)) hnm)) (j6 (V3 z0g rfl) (j6 (u9 (q33 rfl ((q21 _).2 (by lia))) hloop) (j6 (δ':=[some (intsL ns),some (.bl sm),some (.int (cnt ns:Int)),some (strsL (pool ns)),some (.lst ((drawN ns sm).map Nd.toD)),none,none]) ?_ (Z8 (q0o (Q2 (q8c rfl rfl rfl (by unfold strsL;rw [q19,k1])) (Q2 rfl (Q2 (q8c rfl rfl rfl (by unfold strsL;rw [q19,k2])) rfl))) (show 3<=1000 by decide)))))))))
 ·have q:=z0e (cellD ns 0 / 7 % 4) 1
  by_cases h1:cellD ns 0 / 7 % 4=1
  ·rw [N0o h1] at q
   rw [N0j h1] at hcc
   rw [hcc]
   exact ifY (x5 (j5 (j5 (j5 (w6 rfl c0) rfl (q0E (by decide))) rfl (x0 (by decide))) rfl q)) (W7 (j5 rfl (j5 (j5 (w6 rfl c0) rfl (q0E (by decide))) rfl (x0 (by decide))) rfl))
  ·rw [N0e h1] at q
   rw [N0l h1] at hcc
   rw [hcc]
   exact ifN (x5 (j5 (j5 (j5 (w6 rfl c0) rfl (q0E (by decide))) rfl (x0 (by decide))) rfl q)) rfl
 ·unfold drawN
  have q:∀ {b:Bool},decide (0<cellD ns 1 / 30 % 3)=b->dGt (.int (cellD ns 1 / 30 % 3)) (.int 0)=.ok (.bl b):=λ e=>by rw [<- e];rfl
  by_cases h3:0<cellD ns 1 / 30 % 3
  ·rw [N0j h3,List.map_set,q6B]
   exact ifY (x5 (j5 (j5 (j5 (w6 rfl c1) rfl (q0E (by decide))) rfl (x0 (by decide))) rfl (q (N0o h3)))) (q4D (j5 (j5 (w6 rfl c1) rfl (q0E (by decide))) rfl (x0 (by lia))) (q0o rfl (by decide)) rfl hput)
  ·rw [N0l h3]
   exact ifN (x5 (j5 (j5 (j5 (w6 rfl c1) rfl (q0E (by decide))) rfl (x0 (by decide))) rfl (q (N0e h3)))) rfl
noncomputable def Nm (x:Str):Prop:=2<=x.length/\x.length<=8/\(∀ c∈x.cps.toList,97<=c/\c<=122)/\(122∈x.cps.toList\/x.length=4)
theorem q8g (c:Int):1<=(stubOf c).length/\(∀ d∈(stubOf c).cps.toList,97<=d/\d<=122)/\(122∈(stubOf c).cps.toList\/(stubOf c).length=3):=by
 have:∀ s∈stubs,1<=s.length/\(∀ d∈s.cps.toList,97<=d/\d<=122)/\(122∈s.cps.toList\/s.length=3):=by decide +kernel
 exact this _ (z0m c)
theorem z8i (c:Int):0<=atOf c/\atOf c<=((stubOf c).length:Int):=by
 have b1:0<=atOf c:=N0s _ (by lia)
 have b2:atOf c<((stubOf c).length:Int)+1:=N0t _ (by simp)
 lia
theorem q2z (c:Int) (k:Nat):(nameOf c k).cps.toList=(stubOf c).cps.toList.take (atOf c).toNat++q3T ((k:Int)+c / 97)::(stubOf c).cps.toList.drop (atOf c).toNat:=by
 have h:=z8i c
 have e:atOf c=(((atOf c).toNat:Nat):Int):=by lia
 unfold nameOf
 rw [e,q7x,q2w,<- e]
 show ((List.take _ _).toArray ++ #[_]++(List.drop _ _).toArray).toList=_
 simp
theorem q6D (i:Nat) (h:i<26):letters.cps.toList[i]? = some (97+i):=by
 have:∀ i:Fin 26,letters.cps.toList[i.val]? = some (97+i.val):=by decide +kernel
 exact this ⟨i,h⟩
theorem q4K (j:Int):q3T j=97+(j % 26).toNat:=by
 have b1:0<=j % 26:=N0s _ (by decide)
 have b2:j % 26<26:=N0t _ (by decide)
 unfold q3T
 rw [q6D _ (by simp_all)]
 rfl
theorem z44 (c:Int) (k:Nat):Nm (nameOf c k):=by
 obtain ⟨h1,h2,h3⟩:=q8g c
 have h4:=q2x c
 have hl:(nameOf c k).length=(stubOf c).length+1:=by
  show (nameOf c k).cps.size=(stubOf c).cps.size+1
  rw [<- N0g,q2z,<- N0g,N06,N0h,<- Nat.add_assoc,<- N06,List.take_append_drop]
 refine ⟨by simp_all,by simp_all,?_,?_⟩
 ·intro d m
  rw [q2z] at m
  rcases N0a.1 m with m | m
  ·exact h2 d (N28 m)
  ·rcases N0c.1 m with rfl | m
   ·rw [q4K]
    have b1:0<=((k:Int)+c / 97) % 26:=N0s _ (by decide)
    have b2:((k:Int)+c / 97) % 26<26:=N0t _ (by decide)
    generalize ((k:Int)+c / 97) % 26=z at b1 b2
    lia
   ·exact h2 d (List.mem_of_mem_drop m)
 ·rcases h3 with h3 | h3
  ·refine .inl ?_
   rw [q2z]
   rw [<- List.take_append_drop (atOf c).toNat (stubOf c).cps.toList] at h3
   rcases N0a.1 h3 with m | m
   ·exact N0a.2 (.inl m)
   ·exact N0a.2 (.inr (N02 _ m))
  ·exact .inr (by simp_all)
theorem z1S (c:Int){j k:Nat}(hj:j<26) (hk:k<26) (h:nameOf c j=nameOf c k):j=k:=by
 have h':=congrArg (λ s:Str=>s.cps.toList) h
 simp only [q2z] at h'
 have h2:=List.append_cancel_left h'
 have h3:=(List.cons.inj h2).1
 rw [q4K,q4K] at h3
 have b1:0<=((k:Int)+c / 97) % 26:=N0s _ (by decide)
 have b2:0<=((j:Int)+c / 97) % 26:=N0s _ (by decide)
 have h4:=congrArg (λ n:Nat=>(n:Int)) (Nat.add_left_cancel h3)
 simp only [N26 b1,N26 b2] at h4
 have h5:=(Int.emod_add_cancel_right (c / 97)).1 h4
 rw [Int.emod_eq_of_lt (Int.natCast_nonneg _) (show (j:Int)<26 from Int.ofNat_lt.2 hj),Int.emod_eq_of_lt (Int.natCast_nonneg _) (show (k:Int)<26 from Int.ofNat_lt.2 hk)] at h5
 exact Int.natCast_inj.1 h5
theorem q8h (ns:List Int):(pool ns).Nodup:=by
 have hc:=q5G ns
 unfold pool
 rw [List.nodup_iff_pairwise_ne,List.pairwise_map]
 refine List.Pairwise.imp_of_mem ?_ (List.nodup_iff_pairwise_ne.1 List.nodup_range)
 intro a b ha hb hne he
 exact hne (z1S _ (by have:=List.mem_range.1 ha;lia) (by have:=List.mem_range.1 hb;lia) he)
theorem z45 (ns:List Int):∀ x∈pool ns,Nm x:=λ x m=>by
 unfold pool at m
 obtain ⟨k,_,rfl⟩:=N1z.1 m
 exact z44 _ _
theorem z0u (x:Str) (h:Nm x):x∉wKEPT_WORDS:=by
 intro m
 have:∀ w∈wKEPT_WORDS,122∉w.cps.toList/\w.length≠4:=by decide +kernel
 rcases h.2.2.2 with q | q
 ·exact (this x m).1 q
 ·exact (this x m).2 q
theorem q8i (x:Str) (h1:1<=x.length) (h2:x.length<=8) (h3:∀ c∈x.cps.toList,97<=c/\c<=122) (hk:x∉wKEPT_WORDS):F_D [.str x]=.ok (.bl true):=by
 have hc:compL [] gYes (gChain dLe dLe (gC (.str "a")) (gVar 0) (gC (.str "z"))) (signsD x)=.ok (x.cps.toList.map λ o_=>D.bl true):=by
  unfold signsD
  refine q0n λ c m=>?_
  have:=h3 c m
  have ea:s!"a".cps.toList=[97]:=by decide +kernel
  have ez:s!"z".cps.toList=[122]:=by decide +kernel
  have l1:dLe (.str "a") (.str ⟨#[c]⟩)=.ok (.bl true):=by
   show Rz.ok (D.bl (!decide ([c]<s!"a".cps.toList)))=_
   rw [ea,N0e (by intro h;cases h with | rel h=>lia | cons h=>cases h)];rfl
  have l2:dLe (.str ⟨#[c]⟩) (.str "z")=.ok (.bl true):=by
   show Rz.ok (D.bl (!decide (s!"z".cps.toList<[c])))=_
   rw [ez,N0e (by intro h;cases h with | rel h=>lia | cons h=>cases h)];rfl
  simp [l1,l2]
 have ha:∀ (i:Nat) (_:i<x.cps.size),x.cps[i]<128:=λ i h=>by
  have:=h3 x.cps[i] (by rw [Array.mem_toList_iff];exact Array.getElem_mem h)
  lia
 have hl:x.cps.toList.length=x.length:=by rw [N0g];rfl
 unfold F_D K2 q3a
 simp [startD,hk,show ¬ (x.length:Int)<1 by lia,show ¬ 8<(x.length:Int) by lia,show x.length<=16777216 by omega]
 rw [N0j ha]
 simp [capD,hc]
 rw [N0j (by show x.length<=16777216;omega)]
 simp
@[simp] theorem v8 (l:List Str):pLen [strsL l]=.ok (.int (l.length:Int)):=by unfold strsL;simp
theorem q8j (x:Str) (h:Nm x):F_D [.str x]=.ok (.bl true):=q8i x (N0v (by decide) h.1) h.2.1 h.2.2.1 (z0u x h)
noncomputable def webD (ks:List Str) (vs:List Nd):D:=.obj 0 "need_by_name" (.dct (ks.map Sum.inr) (vs.map Nd.toD))
@[simp] theorem z0v (ks:List Str) (vs:List Nd):(webD ks vs).imO=true:=by unfold webD;simp
@[simp] theorem z8j (ks:List Str) (vs:List Nd):(webD ks vs).big=true:=rfl
@[simp] theorem z62 (m:String) (ks:List Str) (vs:List Nd):isObj 0 (Str.ofString m) (webD ks vs) = !decide ("need_by_name" = m):=by unfold webD;simp
@[simp] theorem q6E (ks:List Str) (vs:List Nd):z1x 0 s!"need_by_name" (webD ks vs)=.ok (.dct (ks.map Sum.inr) (vs.map Nd.toD)):=by unfold webD;simp [z1x]
theorem q5H (ks:List Str) (x:Str):((ks.map Sum.inr).any λ j:Ky=>decide (j=Sum.inr x))=decide (x∈ks):=by
 rw [List.any_map]
 induction ks with
 | nil=>rfl
 | cons a r ih=>rw [N1i,ih];by_cases h:a=x<;>simp [h,N1f,eq_comm]
theorem z63 (ks:List Str) (vs:List Nd) (x:Str) (v:Nd) (h1:F_D [.str x]=.ok (.bl true)) (hn:x∉ks) (hl:ks.length<16):F_H [webD ks vs,.str x,v.toD]=.ok (.non,[webD (ks++[x]) (vs++[v])]):=by
 have h2:inD (.str x) (.dct (ks.map Sum.inr) (vs.map Nd.toD))=.ok false:=by
  rw [q12 ks];simp [hn]
 have h3:putD (ks.map Sum.inr) (vs.map Nd.toD) (.inr x) v.toD=.dct ((ks++[x]).map Sum.inr) ((vs++[v]).map Nd.toD):=by
  unfold putD
  rw [q5H,N0l (by simp [hn])]
  simp
 unfold F_H z3h z40 webD
 simp [startD,h1,z1x,h2,show ¬ (16:Int)<=(ks.length:Int) by lia,h3]
 rw [N0j (by omega)]
 simp
theorem q2A (ks:List Str) (vs:List Nd):F_j [webD ks vs]=.ok (strsL ks):=by
 exact W1 (Z8 (z0c (w6 (Q2 (z3Z rfl (q6E ks vs)) rfl) (by rw [q5x,N1m];rfl)) (q4G ks)))
theorem q1O (ks:List Str) (vs:List Nd) (x:Str) (h:x∈ks):F_a [webD ks vs,.str x]=.ok .non:=by
 have h2:inD (.str x) (.dct (ks.map Sum.inr) (vs.map Nd.toD))=.ok true:=by
  rw [q12 ks];simp [h]
 exact z5Y (ifN (x5 (j5 rfl (z3Z rfl (q6E ks vs)) (niT h2))) rfl)
noncomputable def needAt (x:Str):List Str->List Nd->Option Nd
 | k::ks,v::vs=>if k=x then some v else needAt x ks vs
 | _,_=>none
theorem valD_eq (x:Str):∀ (ks:List Str) (vs:List Nd),valD (.inr x:Ky) (ks.map Sum.inr) (vs.map Nd.toD)=(needAt x ks vs).map Nd.toD
 | [],vs=>by cases vs<;>rfl
 | k::ks,[]=>rfl
 | k::ks,v::vs=>by
  show (if (Sum.inr k:Ky)=Sum.inr x then some v.toD else valD (.inr x:Ky) (ks.map Sum.inr) (vs.map Nd.toD))=((if k=x then some v else needAt x ks vs)).map Nd.toD
  by_cases h:k=x
  ·rw [N0j h,N0j (by rw [h])];rfl
  ·rw [N0l h,N0l (by intro q;exact h (Sum.inr.inj q)),valD_eq x ks vs]
theorem q1f (ks:List Str) (vs:List Nd) (x:Str) (v:Nd) (h:x∈ks) (hv:needAt x ks vs=some v):F_g [webD ks vs,.str x]=.ok v.toD:=by
 have h1:=q1O ks vs x h
 have h2:=valD_eq x ks vs
 rw [hv] at h2
 exact W1 (j6 (q6x (q0D rfl rfl rfl h1)) (Z8 (q5y (j5 (z3Z rfl (q6E ks vs)) rfl (by rw [z01,h2];rfl)) (z2v v))))
noncomputable def q2o (x:Str):List Str->List Nd->List Nd
 | k::ks,v::vs=>if k=x then q2o x ks vs else v::q2o x ks vs
 | _,_=>[]
theorem dropV_eq (x:Str):∀ (ks:List Str) (vs:List Nd),dropV (.inr x:Ky) (ks.map Sum.inr) (vs.map Nd.toD)=(q2o x ks vs).map Nd.toD
 | [],vs=>by cases vs<;>rfl
 | k::ks,[]=>rfl
 | k::ks,v::vs=>by
  show (if (Sum.inr k:Ky)=Sum.inr x then dropV (.inr x:Ky) (ks.map Sum.inr) (vs.map Nd.toD) else v.toD::dropV (.inr x:Ky) (ks.map Sum.inr) (vs.map Nd.toD))=((if k=x then q2o x ks vs else v::q2o x ks vs)).map Nd.toD
  by_cases h:k=x
  ·rw [N0j h,N0j (by rw [h]),dropV_eq x ks vs]
  ·rw [N0l h,N0l (by intro q;exact h (Sum.inr.inj q)),dropV_eq x ks vs];rfl
theorem q5I (x:Str):∀ ks:List Str,(ks.map (Sum.inr:Str->Ky)).filter (λ j=>decide (j≠Sum.inr x))=(ks.filter λ k=>decide (k≠x)).map Sum.inr
 | []=>rfl
 | k::ks=>by
  rw [N09,N1e,N1e,q5I x ks]
  by_cases h:k=x
  ·simp [h]
  ·simp [h]
theorem z46 (ks:List Str) (vs:List Nd) (x:Str) (h:x∈ks):F_E [webD ks vs,.str x]=.ok (.non,[webD (ks.filter λ k=>decide (k≠x)) (q2o x ks vs)]):=by
 have h1:=q1O ks vs x h
 have h2:=dropV_eq x ks vs
 have h3:=q5H ks x
 have h4:=q5I x ks
 unfold F_E z3h z0h
 simp only [List.range_succ,List.range_zero,startD]
 simp [h1]
 unfold webD z3j
 rw [N0o h] at h3
 simp only [ne_eq] at h4
 simp [keyD,h2,h3]
 simpa using h4
theorem z1T (ks:List Str) (vs:List Nd) (hl:ks.length=vs.length) (hm:ks.length<=16) (hn:∀ x∈ks,Nm x) (hd:ks.Nodup):F_u [strsL ks,.lst (vs.map Nd.toD)]=.ok (webD ks vs):=by
 unfold F_u K2 q10
 generalize hE:(V4 (q2P 0 "add" F_H 2 (gCons (gOp dIx (gVar 0) (gVar 3)) (gCons (gOp dIx (gVar 1) (gVar 3)) gNil))))=E
 have hloop:W6 3 [3] E (rangeD 0 ks.length) [some (strsL ks),some (.lst (vs.map Nd.toD)),some (webD [] []),none]=.ok (.nx [some (strsL ks),some (.lst (vs.map Nd.toD)),some (webD (ks.take ks.length) (vs.take ks.length)),none]):=by
  refine q1a (n:=ks.length) (λ m=>[some (strsL ks),some (.lst (vs.map Nd.toD)),some (webD (ks.take m) (vs.take m)),none]) rfl λ m hm=>?_
  refine ⟨[some (strsL ks),some (.lst (vs.map Nd.toD)),some (webD (ks.take (m+1)) (vs.take (m+1))),some (.int (0+(m:Int)))],.inl ?_,rfl⟩
  have e1:ks[m]? = some ks[m]:=N08 hm
  have hv:m<vs.length:=by lia
  have e2:vs[m]? = some vs[m]:=N08 hv
  have k1:ks.take (m+1)=ks.take m++[ks[m]]:=by rw [List.take_succ,e1];rfl
  have k2:vs.take (m+1)=vs.take m++[vs[m]]:=by rw [List.take_succ,e2];rfl
  have hnot:ks[m]∉ks.take m:=by
   have z:(ks.take (m+1)).Nodup:=hd.sublist (List.take_sublist _ _)
   rw [k1] at z
   intro q
   exact (N1t.1 z).2.2 _ q _ (N0f.2 rfl) rfl
  have ha:=z63 (ks.take m) (vs.take m) ks[m] vs[m] (q8j _ (hn _ (N0z hm))) hnot (by rw [N16];exact Nat.lt_of_le_of_lt (Nat.min_le_left _ _) (N0n hm (by assumption)))
  rw [k1,k2,<- hE,show (0+(m:Int))=(m:Int) by simp]
  exact z5X (Q2 (j5 rfl rfl (by unfold strsL;rw [q4A,q0a,N0i,e1];rfl)) (Q2 (j5 rfl rfl (by rw [q4A,q0a,N0i,e2];rfl)) rfl)) rfl (z0v _ _) rfl ha
 rw [N20,hl,N20,<- hl] at hloop
 have h0:D.obj 0 s!"need_by_name" (.dct [] [])=webD [] []:=rfl
 exact W1 (j6 (V3 rfl rfl) (j6 (u9 (q33 (w6 rfl (v8 ks)) ((q21 _).2 (by lia))) hloop) (Z8 rfl)))
theorem q3e:∀ {ks:List Str}{vs:List Nd}{i:Nat}{k:Str}{v:Nd},ks.Nodup->ks[i]? = some k->vs[i]? = some v->needAt k ks vs=some v
 | [],_,_,_,_,_,h,_=>by cases h
 | _::_,[],_,_,_,_,_,h=>by cases h
 | x::ks,y::vs,0,k,v,hd,h1,h2=>by cases h1;cases h2;rw [needAt,N0j rfl]
 | x::ks,y::vs,i+1,k,v,hd,h1,h2=>by
  have hk:k∈ks:=N0u h1
  have hx:¬ x=k:=λ q=>(N1s.1 hd).1 (q▸hk)
  rw [needAt,N0l hx]
  exact q3e (N1s.1 hd).2 h1 h2
theorem q6F {α β γ:Type}(f:α->γ):∀ {ks:List α}{vs:List β},ks.length=vs.length->ks.map f=(ks.zip vs).map λ p=>f p.1
 | [],[],_=>rfl
 | [],_::_,h=>by cases h
 | _::_,[],h=>by cases h
 | k::ks,v::vs,h=>by
  rw [N09,N1r,N09,q6F f (Nat.succ.inj h)]
theorem z0w {α β γ:Type}(f:β->γ):∀ {ks:List α}{vs:List β},ks.length=vs.length->vs.map f=(ks.zip vs).map λ p=>f p.2
 | [],[],_=>rfl
 | [],_::_,h=>by cases h
 | _::_,[],h=>by cases h
 | k::ks,v::vs,h=>by
  rw [N09,N1r,N09,z0w f (Nat.succ.inj h)]
theorem q1g {ks:List Str}{vs:List Nd}(hd:ks.Nodup){p:Str×Nd}(hp:p∈ks.zip vs):p.1∈ks/\p.2∈vs/\needAt p.1 ks vs=some p.2:=by
 obtain ⟨i,hi⟩:=List.mem_iff_getElem?.1 hp
 rw [List.getElem?_zip_eq_some] at hi
 exact ⟨N0u hi.1,N0u hi.2,q3e hd hi.1 hi.2⟩
end Fw
namespace Dl
open PySem
theorem q4L:∀ l:List D,q7c l=l.all okS
 | []=>by rw [q7c];rfl
 | x::r=>by rw [q7c,List.all_cons,q4L r]
theorem q4M {n:Nat}:∀ {l:List D},(∀ x∈l,q5j x<=n)->q4c l<=n
 | [],_=>by rw [q4c];simp
 | x::r,h=>by
  rw [q4c]
  have h1:=h x (N00 ..)
  have h2:=q4M (l:=r) λ y m=>h y (N02 _ m)
  lia
noncomputable def CmpD (n:Nat) (d:D):Prop:=okS d=true/\q5j d<=n
theorem CmpD.lst {n:Nat}{l:List D}(h:∀ x∈l,CmpD n x):CmpD (n+1) (.lst l):=by
 refine ⟨?_,?_⟩
 ·rw [okS,q4L,N21];exact λ x m=>(h x m).1
 ·rw [q5j];have:=q4M λ x m=>(h x m).2;simp_all
theorem CmpD.tup {n:Nat}{l:List D}(h:∀ x∈l,CmpD n x):CmpD (n+1) (.tup l):=by
 refine ⟨?_,?_⟩
 ·rw [okS,q4L,N21];exact λ x m=>(h x m).1
 ·rw [q5j];have:=q4M λ x m=>(h x m).2;simp_all
theorem z0x {m n:Nat}{x y:D}(hx:CmpD m x) (hy:CmpD n y) (hm:m<=64) (hn:n<=64):cmpOk x y=true:=by
 unfold cmpOk
 rw [hx.1,hy.1,N0o (N0v hx.2 hm),N0o (N0v hy.2 hn)]
 simp
theorem q4N {α:Type} [DecidableEq α] {f:α->D}(hf:∀ a b,eqD (f a) (f b)=decide (a=b)):∀ l m:List α,q9v (l.map f) (m.map f)=decide (l=m)
 | [],[]=>by rw [List.map_nil];exact (N0o rfl).symm
 | [],b::m=>by rw [List.map_nil,N09];exact (N0e (by simp)).symm
 | a::l,[]=>by rw [List.map_nil,N09];exact (N0e (by simp)).symm
 | a::l,b::m=>by
  rw [N09,N09,q2O,hf,q4N hf l m]
  by_cases h:a=b<;>by_cases h2:l=m<;>simp [h,h2]
end Dl
namespace Fw
open PySem Dl
noncomputable def Tx (x:Str):Prop:=∀ c∈x.cps.toList,c<0x110000
theorem Nm.tx {x:Str}(h:Nm x):Tx x:=λ c m=>by have:=h.2.2.1 c m;lia
theorem z0y {x:Str}(h:Tx x) (n:Nat):CmpD n (.str x):=by
 refine ⟨?_,by rw [q5j];simp⟩
 rw [okS,<- Array.all_toList,N21]
 intro c m
 have:=h c m
 simp;simp_all
theorem q2B {l:List Str}(h:∀ x∈l,Tx x) (n:Nat):CmpD (n+1) (strsL l):=CmpD.lst λ x m=>by
 obtain ⟨y,hy,rfl⟩:=N1z.1 m
 exact z0y (h y hy) n
theorem q0c (a b:Str):eqD (.str a) (.str b)=decide (a=b):=by
 show (a==b)=_
 by_cases h:a=b
 ·simp [h]
 ·rw [N0e h];exact N18.mpr h
theorem q6G {a b:List Str}(ha:∀ x∈a,Tx x) (hb:∀ x∈b,Tx x):dEq (strsL a) (strsL b)=.ok (.bl (decide (a=b))):=by
 show Rz.guard _ _=_
 rw [j8 (z0x (q2B ha 0) (q2B hb 0) (by simp) (by simp))]
 unfold strsL
 rw [q9w,q4N q0c]
theorem q6H {a:List Str}(ha:∀ x∈a,Tx x):dEq (strsL a) (.lst [])=.ok (.bl (decide (a=[]))):=q6G (b:=[]) ha λ x m=>by cases m
theorem z1U {a b:List Str}(ha:∀ x∈a,Tx x) (hb:∀ x∈b,Tx x) (hl:a.length<=1000):F_x [strsL a,strsL b]=.ok (.bl (decide (a=b))):=by
 have he:=q6G ha hb
 rw [q31] at he
 have hc:compL [] gYes (gUn (dIsTy "str") (gVar 0)) (a.map D.str)=.ok (a.map λ o_=>D.bl true):=q0n λ x m=>by simp [tyD]
 unfold F_x K2 q11
 unfold strsL at he ⊢
 by_cases h:a.length=b.length
 ·rw [z1F] at he
  have ht:(a.all λ o_=>true)=true:=by rw [N21];exact λ o_ o_=>rfl
  simp [startD,tyD,h,capD,hc,he,show b.length<=16777216 by lia,ht]
 ·have hab:a≠b:=λ q=>h (by rw [q])
  simp [startD,tyD,show ¬ (a.length:Int)=(b.length:Int) by lia,hab]
theorem y4 {α:Type} [DecidableEq α]:∀ {l m:List α},l.Nodup->(∀ x∈l,x∈m)->l.length<=m.length
 | [],_,_,_=>N1b _
 | a::l,m,hd,h=>by
  have hd:=N1s.1 hd
  have ha:=h a (N00 ..)
  have:=y4 (l:=l) (m:=m.erase a) hd.2 λ x hx=>(List.mem_erase_of_ne (by intro q;exact hd.1 (q▸hx))).2 (h x (N02 _ hx))
  rw [List.length_erase_of_mem ha] at this
  rw [N0h]
  exact Nat.succ_le_of_lt (Nat.lt_of_le_of_lt this (Nat.sub_lt (List.length_pos_of_mem ha) (by decide)))
noncomputable def z8W (v:Nd):Prop:=(∃ ss sm,v.ok ss sm)/\v.depth<=3
noncomputable def freshN (tk L:List Str):List Str->List Nd->List Str
 | k::ks,v::vs=>if k∉tk/\k∉L/\v.met L=true then k::freshN tk L ks vs else freshN tk L ks vs
 | _,_=>[]
noncomputable def riseN (ks:List Str) (vs:List Nd) (tk:List Str):Nat->List (Str×Int)
 | 0=>[]
 | t+1=>riseN ks vs tk t++(freshN tk ((riseN ks vs tk t).map (·.1)) ks vs).map λ x=>(x,(t:Int)+1)
noncomputable def lvD (l:List (Str×Int)):D:=.dct ((l.map (·.1)).map Sum.inr) (l.map λ p=>D.int p.2)
set_option tactic.hygienic true in
theorem U1 {tk L:List Str}:∀ {ks:List Str}{vs:List Nd}{x:Str},x∈freshN tk L ks vs->x∈ks/\x∉tk/\x∉L
 | [],vs,x,h=>by cases vs<;>cases h
 | k::ks,[],x,h=>by cases h
 | k::ks,v::vs,x,h=>by
  rw [freshN] at h
  split at h
  ·rename_i q
   rcases N0c.1 h with rfl | h
   ·exact ⟨N00 ..,q.1,q.2.1⟩
   ·exact ⟨N02 _ (U1 h).1,(U1 h).2⟩
  ·exact ⟨N02 _ (U1 h).1,(U1 h).2⟩
theorem q1P {tk L:List Str}:∀ {ks:List Str}{vs:List Nd},(freshN tk L ks vs).Sublist ks
 | [],vs=>by cases vs<;>exact List.Sublist.slnil
 | k::ks,[]=>List.nil_sublist _
 | k::ks,v::vs=>by
  rw [freshN]
  split
  ·exact List.Sublist.cons₂ _ q1P
  ·exact List.Sublist.cons _ q1P
theorem q8k {tk L:List Str}{ks:List Str}{vs:List Nd}{m:Nat}{k:Str}{v:Nd}(hk:ks[m]? = some k) (hv:vs[m]? = some v):freshN tk L (ks.take (m+1)) (vs.take (m+1))=freshN tk L (ks.take m) (vs.take m)++if k∉tk/\k∉L/\v.met L=true then [k] else []:=by
 induction m generalizing ks vs with
 | zero =>
  cases ks with
  | nil=>cases hk
  | cons a r=>cases vs with
   | nil=>cases hv
   | cons b q=>cases hk;cases hv;simp [freshN]
 | succ m ih =>
  cases ks with
  | nil=>cases hk
  | cons a r=>cases vs with
   | nil=>cases hv
   | cons b q =>
    have:=ih (ks:=r) (vs:=q) hk hv
    rw [List.take_succ_cons,List.take_succ_cons,List.take_succ_cons,List.take_succ_cons,freshN,freshN,this]
    split
    ·rfl
    ·rfl
theorem q5J {ks:List Str}{vs:List Nd}{tk:List Str}{m:Nat}(h:freshN tk ((riseN ks vs tk m).map (·.1)) ks vs=[]):∀ j,riseN ks vs tk (m+j)=riseN ks vs tk m
 | 0=>rfl
 | j+1=>by
  rw [show m+(j+1)=(m+j)+1 from rfl,riseN,q5J h j,h]
  simp
theorem q3U {ks:List Str}{vs:List Nd}{tk:List Str}(hd:ks.Nodup):∀ m,((riseN ks vs tk m).map (·.1)).Nodup/\∀ x∈(riseN ks vs tk m).map (·.1),x∈ks
 | 0=>⟨N27,λ x h=>by cases h⟩
 | m+1=>by
  obtain ⟨h1,h2⟩:=q3U (vs:=vs) (tk:=tk) hd m
  have e:(riseN ks vs tk (m+1)).map (·.1)=(riseN ks vs tk m).map (·.1)++freshN tk ((riseN ks vs tk m).map (·.1)) ks vs:=by
   rw [riseN,N14,N1m]
   congr 1
   exact List.map_id' _
  rw [e]
  refine ⟨N1t.2 ⟨h1,hd.sublist q1P,?_⟩,λ x h=>?_⟩
  ·intro a ha b hb hab
   subst hab
   exact (U1 hb).2.2 ha
  ·rcases N0a.1 h with h | h
   ·exact h2 x h
   ·exact (U1 h).1
theorem q24 (x:Str) (l:List Str):inD (.str x) (strsL l)=.ok (decide (x∈l)):=q1d l x
theorem z64 (x:Str) (l:List (Str×Int)):inD (.str x) (lvD l)=.ok (decide (x∈l.map (·.1))):=q12 _ _ x
theorem z0z (ks:List Str) (vs:List Nd) (tk:List Str) (hl:ks.length=vs.length) (hm:ks.length<=16) (hd:ks.Nodup) (hg:∀ v∈vs,z8W v) (hnm:∀ x∈ks,Tx x) :
 F_s [strsL ks,.lst (vs.map Nd.toD),strsL tk]=.ok (lvD (riseN ks vs tk ks.length)):=by
 unfold F_s K2 q0r
 generalize hA:(Y9 (q0I (gB (gOp dNotIn (gOp dIx (gVar 0) (gVar 6)) (gVar 2))) (q0I (gB (gOp dNotIn (gOp dIx (gVar 0) (gVar 6)) (gVar 3))) (gTru (gCall (F_c 8) (gCons (gOp dIx (gVar 1) (gVar 6)) (gCons (gVar 3) gNil)))))) (q4d 5 (gIm (gOp dIx (gVar 0) (gVar 6)))) Z6)=A
 generalize hB:(gPut 3 (gVar 7) (gVarI 4))=B
 have hin:∀ (t:Int) (l:List (Str×Int)),W6 6 [6] A (rangeD 0 ks.length) [some (strsL ks),some (.lst (vs.map Nd.toD)),some (strsL tk),some (lvD l),some (.int t),some (.lst []),none,none]=.ok (.nx [some (strsL ks),some (.lst (vs.map Nd.toD)),some (strsL tk),some (lvD l),some (.int t),some (strsL (freshN tk (l.map (·.1)) ks vs)),none,none]):=by
  intro t l
  have z:=q1a (i:=6) (fg:=[6]) (body:=A) (lo:=0) (n:=ks.length) (δ:=[some (strsL ks),some (.lst (vs.map Nd.toD)),some (strsL tk),some (lvD l),some (.int t),some (.lst []),none,none]) (λ m=>[some (strsL ks),some (.lst (vs.map Nd.toD)),some (strsL tk),some (lvD l),some (.int t),some (strsL (freshN tk (l.map (·.1)) (ks.take m) (vs.take m))),none,none]) rfl λ m hm'=>?_
  ·have e:vs.take ks.length=vs:=by rw [hl,N20]
   rwa [N20,e] at z
  have e1:ks[m]? = some ks[m]:=N08 hm'
  have hv:m<vs.length:=by lia
  have e2:vs[m]? = some vs[m]:=N08 hv
  refine ⟨[some (strsL ks),some (.lst (vs.map Nd.toD)),some (strsL tk),some (lvD l),some (.int t),some (strsL (freshN tk (l.map (·.1)) (ks.take (m+1)) (vs.take (m+1)))),some (.int (0+(m:Int))),none],.inl ?_,rfl⟩
  rw [q8k e1 e2,<- hA]
  obtain ⟨⟨ss,sm,hok⟩,hdp⟩:=hg _ (N0z hv)
  have hmet:=q1e (q12 (l.map (·.1)) (l.map λ p=>D.int p.2)) (ss:=ss) (sm:=sm) 8 vs[m] hok (by omega)
  have hq:F_c 8 [vs[m].toD,lvD l]=.ok (.bl (vs[m].met (l.map (·.1)))):=hmet
  have h1:=q24 ks[m] tk
  have h2:=z64 ks[m] l
  have ek:dIx (strsL ks) (.int (m:Int))=.ok (.str ks[m]):=by unfold strsL;simp [q0a,hm']
  have ev:dIx (.lst (vs.map Nd.toD)) (.int (m:Int))=.ok vs[m].toD:=by simp [q0a,hv]
  have hfl:(freshN tk (l.map (·.1)) (ks.take m) (vs.take m)).length<=16:=by
   have:=(q1P (tk:=tk) (L:=l.map (·.1)) (ks:=ks.take m) (vs:=vs.take m)).length_le
   rw [N16] at this
   exact N0v this (N0v (Nat.min_le_right _ _) hm)
  rw [show (0+(m:Int))=(m:Int) by simp]
  by_cases c1:ks[m]∈tk
  ·rw [N0o c1] at h1
   rw [N0l (λ z=>z.1 c1),N10]
   exact ifN (z4y (x5 (j5 (j5 rfl rfl ek) rfl (niT h1)))) rfl
  ·rw [N0e c1] at h1
   by_cases c2:ks[m]∈l.map (·.1)
   ·rw [N0o c2] at h2
    rw [N0l (λ z=>z.2.1 c2),N10]
    exact ifN (z0b (x5 (j5 (j5 rfl rfl ek) rfl (niF h1))) (z4y (x5 (j5 (j5 rfl rfl ek) rfl (niT h2))))) rfl
   ·rw [N0e c2] at h2
    cases c3:vs[m].met (l.map (·.1)) with
    | false =>
     rw [c3] at hq
     rw [N0l (λ z=>nomatch z.2.2),N10]
     exact ifN (z0b (x5 (j5 (j5 rfl rfl ek) rfl (niF h1))) (z0b (x5 (j5 (j5 rfl rfl ek) rfl (niF h2))) (Y3 (w6 (Q2 (j5 rfl rfl ev) rfl) hq)))) rfl
    | true =>
     rw [c3] at hq
     rw [N0j ⟨c1,c2,rfl⟩]
     generalize freshN tk (l.map (·.1)) (ks.take m) (vs.take m)=P at hfl ⊢
     rw [show strsL (P++[ks[m]])=.lst (P.map D.str++[.str ks[m]]) by simp [strsL]]
     exact ifY (z0b (x5 (j5 (j5 rfl rfl ek) rfl (niF h1))) (z0b (x5 (j5 (j5 rfl rfl ek) rfl (niF h2))) (Y3 (w6 (Q2 (j5 rfl rfl ev) rfl) hq)))) (q3O (q5y (j5 rfl rfl ek) (q6u _)) rfl (by rw [N01];lia))
 have hput:∀ (t:Int) (l:List (Str×Int)) (fr:List Str),(l.map (·.1)++fr).Nodup->l.length+fr.length<=16->W6 7 [7] B (fr.map D.str) [some (strsL ks),some (.lst (vs.map Nd.toD)),some (strsL tk),some (lvD l),some (.int t),some (strsL fr),none,none]=.ok (.nx [some (strsL ks),some (.lst (vs.map Nd.toD)),some (strsL tk),some (lvD (l++fr.map λ x=>(x,t))),some (.int t),some (strsL fr),none,none]):=by
  intro t l fr hnd hle
  have z:=q32 (g:=D.str) (i:=7) (fg:=[7]) (body:=B) (l:=fr) (δ:=[some (strsL ks),some (.lst (vs.map Nd.toD)),some (strsL tk),some (lvD l),some (.int t),some (strsL fr),none,none]) (λ m=>[some (strsL ks),some (.lst (vs.map Nd.toD)),some (strsL tk),some (lvD (l++(fr.take m).map λ x=>(x,t))),some (.int t),some (strsL fr),none,none]) (by simp) λ m x hx=>?_
  ·rwa [N20] at z
  refine ⟨[some (strsL ks),some (.lst (vs.map Nd.toD)),some (strsL tk),some (lvD (l++(fr.take (m+1)).map λ x=>(x,t))),some (.int t),some (strsL fr),none,some (.str x)],.inl ?_,rfl⟩
  have hmf:m<fr.length:=(N04.1 hx).1
  have k1:fr.take (m+1)=fr.take m++[x]:=by rw [List.take_succ,hx];rfl
  have hnot:x∉l.map (·.1)++fr.take m:=by
   have z:(l.map (·.1)++fr.take (m+1)).Nodup:=hnd.sublist (List.Sublist.append_left (List.take_sublist _ _) _)
   rw [k1,<- N1w] at z
   intro q
   exact (N1t.1 z).2.2 _ q _ (N0f.2 rfl) rfl
  have e:(l++(fr.take m).map λ x=>(x,t)).map (·.1)=l.map (·.1)++fr.take m:=by
   rw [N14,N1m];congr 1;exact List.map_id' _
  have hlen:(l++(fr.take m).map λ x=>(x,t)).length<=16:=by
   rw [N06,N01,N16];exact N0v (Nat.add_le_add_left (Nat.min_le_right _ _) _) hle
  have hp:dPut (lvD (l++(fr.take m).map λ x=>(x,t))) (.str x) (.int t)=.ok (lvD (l++(fr.take (m+1)).map λ x=>(x,t))):=by
   unfold lvD
   rw [q6w,j8 (by rw [N01,N01,W5];lia)]
   unfold putD
   rw [q5H,e,N0l (by simpa using hnot),<- e,k1]
   simp [-List.map_take]
  rw [<- hB]
  exact q4D rfl (q4E rfl (z04 t)) rfl hp
 have hs:ks.length<4611686018427387904:=by lia
 generalize hC:(gSeq (gSetO 5 (gLst gNil))
  (gSeq (q1B (q1A (gCall pLen (gCons (gVar 0) gNil))) 6 [6] A)
   (gSeq (Y9 (gB (gOp dEq (gVar 5) (gLst gNil))) (y7 (gVar 3)) Z6)
    (q1B (gItS (gVar 5)) 7 [7] B))))=C
 have hz:lvD []=.dct [] []:=rfl
 have hr:Rng ((ks.length:Int)+1):=by unfold Rng;lia
 have hb:∀ l,(lvD l).big=true:=λ o_=>rfl
 simp [startD,hr]
 rw [<- hz]
 refine z09 (λ o=>((o.bind (z6s (y7 (gVar 3)))).bind λ o=>match o with | .nx δ=>Rz.ok D.non | .rt d δ=>Rz.ok d | _=>Rz.un)=Rz.ok (lvD (riseN ks vs tk ks.length))) (n:=ks.length) (λ m=>[some (strsL ks),some (.lst (vs.map Nd.toD)),some (strsL tk),some (lvD (riseN ks vs tk m)),none,none,none,none]) rfl (λ m hmk=>?_) (by simp)
 obtain ⟨hn1,hn2⟩:=q3U (vs:=vs) (tk:=tk) hd (m+1)
 have e:(riseN ks vs tk (m+1)).map (·.1)=(riseN ks vs tk m).map (·.1)++freshN tk ((riseN ks vs tk m).map (·.1)) ks vs:=by
  rw [riseN,N14,N1m]
  congr 1
  exact List.map_id' _
 have hfn:=q6H (a:=freshN tk ((riseN ks vs tk m).map (·.1)) ks vs) λ x hx=>hnm x (U1 hx).1
 have hi:=hin (1+(m:Int)) (riseN ks vs tk m)
 have hp:=hput (1+(m:Int)) (riseN ks vs tk m) (freshN tk ((riseN ks vs tk m).map (·.1)) ks vs) (by rw [<- e];exact hn1) ?_
 rotate_left
 ·have:=N01 (f:=λ p:Str×Int=>p.1) (as:=riseN ks vs tk (m+1))
  have q:((riseN ks vs tk (m+1)).map (·.1)).length<=ks.length:=y4 hn1 hn2
  rw [e,N06,N01] at q
  lia
 have er:riseN ks vs tk (m+1)=riseN ks vs tk m++(freshN tk ((riseN ks vs tk m).map (·.1)) ks vs).map λ x=>(x,1+(m:Int)):=by
  rw [riseN,Int.add_comm]
 by_cases hf:freshN tk ((riseN ks vs tk m).map (·.1)) ks vs=[]
 ·refine .inr (.inl ⟨lvD (riseN ks vs tk m),[some (strsL ks),some (.lst (vs.map Nd.toD)),some (strsL tk),some (lvD (riseN ks vs tk m)),some (.int (1+(m:Int))),some (strsL (freshN tk ((riseN ks vs tk m).map (·.1)) ks vs)),none,none],?_,?_⟩)
  rotate_left
  ·have:=q5J hf (ks.length - m)
   rw [show m+(ks.length - m)=ks.length by lia] at this
   simp [this]
  ·rw [N0o hf] at hfn
   rw [<- hC]
   exact j6 (V3 z0g rfl) (j6 (u9 (q33 (w6 rfl (v8 ks)) ((q21 _).2 hs)) hi) (x9 (ifY (x5 (j5 rfl z0g hfn)) (Z8 rfl))))
 ·refine .inl ⟨[some (strsL ks),some (.lst (vs.map Nd.toD)),some (strsL tk),some (lvD (riseN ks vs tk (m+1))),some (.int (1+(m:Int))),some (strsL (freshN tk ((riseN ks vs tk m).map (·.1)) ks vs)),none,none],.inl ?_,rfl⟩
  rw [N0e hf] at hfn
  rw [<- hC,er]
  exact j6 (V3 z0g rfl) (j6 (u9 (q33 (w6 rfl (v8 ks)) ((q21 _).2 hs)) hi) (j6 (ifN (x5 (j5 rfl z0g hfn)) rfl) (u9 (q0C rfl) hp)))
theorem q2i (ns:List Int) (k:Nat):∀ x∈(pool ns).take k,Nm x:=λ x m=>z45 ns x (N28 m)
theorem z2y (ns:List Int) (sm:Bool) (m:Nat):∀ v∈rawN ns sm m,v.ok (pool ns) sm/\v.depth<=3:=λ v h=>by
 unfold rawN at h
 obtain ⟨i,_,rfl⟩:=N1z.1 h
 have b1:0<=seedOf ns i / 7 % 2:=N0s _ (by decide)
 have b2:seedOf ns i / 7 % 2<2:=N0t _ (by decide)
 obtain ⟨h1,h2⟩:=z0s (pool ns) (z0t ns) sm (1+seedOf ns i / 7 % 2).toNat (seedOf ns i)
 refine ⟨h1,N0v h2 ?_⟩
 generalize seedOf ns i / 7 % 2=z at b1 b2
 lia
theorem q6I (ns:List Int) (sm:Bool):∀ v∈drawN ns sm,v.ok (pool ns) sm/\v.depth<=3:=λ v h=>by
 unfold drawN at h
 split at h
 ·rcases List.mem_or_eq_of_mem_set h with h | rfl
  ·exact z2y ns sm _ v h
  ·exact ⟨by rw [Nd.ok];trivial,by rw [Nd.depth];simp⟩
 ·exact z2y ns sm _ v h
structure WebOk (ks:List Str) (vs:List Nd):Prop where
 len:ks.length=vs.length
 le:ks.length<=16
 nd:ks.Nodup
 good:∀ v∈vs,z8W v
 tx:∀ x∈ks,Tx x
theorem z1V (ns:List Int) (sm:Bool):WebOk ((pool ns).take (cnt ns)) (drawN ns sm):=by
 have hcn:=q5G ns
 have hlk:((pool ns).take (cnt ns)).length=cnt ns:=by rw [N16,q2y];simp
 have hlv:=z1Q ns sm
 exact ⟨by simp_all,by simp_all,(q8h ns).sublist (List.take_sublist _ _),λ v m=>⟨⟨_,_,(q6I ns sm v m).1⟩,(q6I ns sm v m).2⟩,λ x m=>(q2i ns _ x m).tx⟩
theorem z0A (ns:List Int):((pool ns).take (cnt ns)).length=cnt ns:=by
 have hcn:=q5G ns
 rw [N16,q2y];simp
theorem q5K {x:Str}:∀ {ks:List Str}{a:Nat},ks.Nodup->ks[a]? = some x->(ks.filter λ k=>decide (k≠x))=ks.take a++ks.drop (a+1)
 | [],_,_,h=>by cases h
 | k::ks,0,hd,h=>by
  cases h
  rw [N1e,N0l (by simp)]
  show _=ks
  exact List.filter_eq_self.2 λ y m=>N0o λ q=>(N1s.1 hd).1 (q▸m)
 | k::ks,a+1,hd,h=>by
  have hk:k≠x:=λ q=>(N1s.1 hd).1 (q▸N0u h)
  rw [N1e,N0j (N0o hk),q5K (N1s.1 hd).2 h]
  rfl
theorem q5L {x:Str}:∀ {ks:List Str}{vs:List Nd},ks.length=vs.length->x∉ks->q2o x ks vs=vs
 | [],[],_,_=>by rw [q2o];intros;contradiction
 | [],_::_,h,_=>by cases h
 | _::_,[],h,_=>by cases h
 | k::ks,v::vs,h,hx=>by
  rw [q2o,N0l (λ q=>hx (by rw [q];exact N00 ..)),q5L (Nat.succ.inj h) λ m=>hx (N02 _ m)]
theorem q7A {x:Str}:∀ {ks:List Str}{vs:List Nd}{a:Nat},ks.length=vs.length->ks.Nodup->ks[a]? = some x->q2o x ks vs=vs.take a++vs.drop (a+1)
 | [],_,_,_,_,h=>by cases h
 | _::_,[],_,h,_,_=>by cases h
 | k::ks,v::vs,0,hl,hd,h=>by
  cases h
  rw [q2o,N0j rfl,q5L (Nat.succ.inj hl) (N1s.1 hd).1]
  rfl
 | k::ks,v::vs,a+1,hl,hd,h=>by
  have hk:¬ k=x:=λ q=>(N1s.1 hd).1 (q▸N0u h)
  rw [q2o,N0l hk,q7A (Nat.succ.inj hl) (N1s.1 hd).2 h]
  rfl
theorem q6J {α:Type}(l:List α) (a:Nat):(l.take a++l.drop (a+1)).Sublist l:=by
 have h:(l.drop (a+1)).Sublist (l.drop a):=by
  rw [show a+1=a+1 from rfl,<- List.drop_drop (i:=1) (j:=a)]
  exact List.drop_sublist _ _
 have:=List.Sublist.append_left h (l.take a)
 rwa [List.take_append_drop] at this
theorem q25 {α:Type}(l:List α) (a:Nat) (h:a<l.length):(l.take a++l.drop (a+1)).length=l.length - 1:=by
 rw [<- List.eraseIdx_eq_take_drop_succ,List.length_eraseIdx_of_lt h]
theorem WebOk.drop {ks:List Str}{vs:List Nd}(w:WebOk ks vs){a:Nat}(h:a<ks.length):WebOk (ks.take a++ks.drop (a+1)) (vs.take a++vs.drop (a+1)):=by
 have hl:=w.len
 refine ⟨by rw [q25 _ _ h,q25 _ _ (by simp_all),hl],by rw [q25 _ _ h];have:=w.le;omega,w.nd.sublist (q6J _ _),λ v m=>w.good v ((q6J _ _).subset m),λ x m=>w.tx x ((q6J _ _).subset m)⟩
theorem z1W {ks:List Str}{vs:List Nd}(w:WebOk ks vs){a:Nat}(h:a<ks.length):F_E [webD ks vs,.str ks[a]]=.ok (.non,[webD (ks.take a++ks.drop (a+1)) (vs.take a++vs.drop (a+1))]):=by
 have e:ks[a]? = some ks[a]:=N08 h
 rw [z46 ks vs ks[a] (N0z h),q5K w.nd e,q7A w.len w.nd e]
theorem z0B {ks:List Str}{vs:List Nd}(w:WebOk ks vs) (hn:∀ x∈ks,Nm x):F_u [strsL ks,.lst (vs.map Nd.toD)]=.ok (webD ks vs):=z1T ks vs w.len w.le hn w.nd
theorem q4O (l:List Str) (a:Nat) (h:a<l.length):dIx (strsL l) (.int (a:Int))=.ok (.str l[a]):=by unfold strsL;simp [q0a,h]
theorem z0C (l:List Str) (a:Nat):dCut (strsL l) none (some (a:Int))=.ok (strsL (l.take a)):=by unfold strsL;rw [q19,q7x,List.map_take]
theorem z0D (l:List Str) (a:Nat):dCut (strsL l) (some ((a:Int)+1)) none=.ok (strsL (l.drop (a+1))):=by
 unfold strsL;rw [q19,show ((a:Int)+1)=((a+1:Nat):Int) by simp,q2w,List.map_drop]
theorem z1X (l:List Nd) (a:Nat):dCut (.lst (l.map Nd.toD)) none (some (a:Int))=.ok (.lst ((l.take a).map Nd.toD)):=by rw [q19,q7x,List.map_take]
theorem z1Y (l:List Nd) (a:Nat):dCut (.lst (l.map Nd.toD)) (some ((a:Int)+1)) none=.ok (.lst ((l.drop (a+1)).map Nd.toD)):=by
 rw [q19,show ((a:Int)+1)=((a+1:Nat):Int) by simp,q2w,List.map_drop]
theorem z0E (z:Int) (n:Nat) (h:0<n):∃ a:Nat,a<n/\z % (n:Int)=(a:Int):=by
 have b1:0<=z % (n:Int):=N0s _ (by lia)
 have b2:z % (n:Int)<(n:Int):=N0t _ (by simp_all)
 exact ⟨(z % (n:Int)).toNat,by simp_all,by lia⟩
theorem WebOk.take {ks:List Str}{vs:List Nd}(w:WebOk ks vs) (n:Nat):WebOk (ks.take n) (vs.take n) :=
 ⟨by rw [N16,N16,w.len],by rw [N16];have:=w.le;lia,w.nd.sublist (List.take_sublist _ _),λ v m=>w.good v (N28 m),λ x m=>w.tx x (N28 m)⟩
noncomputable def tblD (l:List Str) (f:Str->D):D:=.dct (l.map Sum.inr) (l.map f)
theorem z47 {l:List Str}{f:Str->D}{x:Str}(hx:x∉l) (hl:l.length<=1000):dPut (tblD l f) (.str x) (f x)=.ok (tblD (l++[x]) f):=by
 unfold tblD
 rw [q6w,j8 (by rw [N01,W5];lia)]
 unfold putD
 rw [q5H,N0l (by simpa using hx),N14,N14]
 rfl
theorem z65 {l:List Str}{f:Str->D}{x:Str}(hx:x∈l):dIx (tblD l f) (.str x)=.ok (f x):=by
 unfold tblD
 rw [z01]
 have:valD (.inr x:Ky) (l.map Sum.inr) (l.map f)=some (f x):=by
  induction l with
  | nil=>cases hx
  | cons y r ih =>
   rw [N09,N09,valD]
   by_cases e:y=x
   ·rw [N0j (by rw [e]),e]
   ·rw [N0l (λ q=>e (Sum.inr.inj q))]
    exact ih ((N0c.1 hx).resolve_left λ q=>e q.symm)
 rw [this]
 rfl
theorem z48 {l:List Str}(hd:l.Nodup){m:Nat}{x:Str}(hx:l[m]? = some x):x∉l.take m/\l.take (m+1)=l.take m++[x]:=by
 have k1:l.take (m+1)=l.take m++[x]:=by rw [List.take_succ,hx];rfl
 refine ⟨λ q=>?_,k1⟩
 have z:(l.take (m+1)).Nodup:=hd.sublist (List.take_sublist _ _)
 rw [k1] at z
 exact (N1t.1 z).2.2 _ q _ (N0f.2 rfl) rfl
theorem q5M (d:Nd) (h:∀ x,d≠.eats x):(d.word=="eats")=false:=by
 cases d with
 | eats x=>exact absurd rfl (h x)
 | _=>rfl
noncomputable def nmD (l:List Str):D:=.dct (l.map Sum.inr) (l.map λ o_=>.bl true)
theorem q5N (x:Str):∀ l:List Str,setK (.inr x:Ky) (D.bl true) (l.map Sum.inr) (l.map λ o_=>.bl true)=l.map λ o_=>.bl true
 | []=>rfl
 | a::r=>by
  show (if (Sum.inr a:Ky)=Sum.inr x then D.bl true else D.bl true)::setK (.inr x:Ky) (D.bl true) (r.map Sum.inr) (r.map λ o_=>.bl true)=_
  rw [q5N x r,ite_self];rfl
theorem z66 (l:List Str) (x:Str) (h:l.length<=1000):dPut (nmD l) (.str x) (.bl true)=.ok (nmD (q5z l x)):=by
 unfold nmD
 rw [q6w,j8 (by rw [N01,W5];lia)]
 unfold putD q5z
 rw [q5H]
 by_cases m:x∈l
 ·rw [N0j (by simpa using m),N0j m,q5N]
 ·rw [N0l (by simpa using m),N0l m]
  simp
theorem q3f (acc ns:List Str) (m:Nat):(y0 acc (ns.take m)).length<=acc.length+ns.length:=by
 have:=q0p (ns.take m) acc
 rw [N16] at this
 lia
theorem q6K {acc ns:List Str}{m:Nat}{x:Str}(h:ns[m]? = some x):y0 acc (ns.take (m+1))=q5z (y0 acc (ns.take m)) x:=by
 rw [List.take_succ,h]
 exact q6y _ _ _
theorem q3g {ps:List Nd}{m:Nat}{e:Nd}(h:ps[m]? = some e):namesL (ps.take (m+1)) []=y0 (namesL (ps.take m) []) e.names:=by
 rw [List.take_succ,h]
 exact q37 _ _ _
theorem q2j:∀ (ps:List Nd) (m:Nat),K1 (ps.take m)<=K1 ps
 | [],m=>by rw [List.take_nil];exact N07 _
 | a::r,0=>by rw [List.take_zero,K1];exact N1b _
 | a::r,m+1=>by
  rw [List.take_succ_cons,K1,K1]
  exact Nat.add_le_add_left (q2j r m) _
theorem q13 (ps:List Nd) (m:Nat):(namesL (ps.take m) []).length<=K1 ps:=by
 have h1:=X0 (ps.take m) []
 have h2:=q2j ps m
 simp at h1
 lia
theorem q4P (n:Nat) (d:Nd) (hl:d.leaves<=500) (ih:∀ e∈d.parts,F_r n [e.toD]=.ok (strsL e.names)):F_r (n+1) [d.toD]=.ok (strsL d.names):=by
 show K2 4 (q1b (F_r n) F_h) _=_
 unfold K2 q1b
 by_cases he:∃ x,d=.eats x
 ·obtain ⟨x,rfl⟩:=he
  rw [Nd.names]
  simp [startD,strsL,q6v]
 have he':∀ x,d≠.eats x:=λ x h=>he ⟨x,h⟩
 generalize hA:(gPut 1 (gVar 3) (gC (.bl true)))=A
 have hin:∀ (acc:List Str) (e:Nd),acc.length+e.names.length<=1000->W6 3 [3] A (e.names.map D.str) [some d.toD,some (nmD acc),some e.toD,none]=.ok (.nx [some d.toD,some (nmD (y0 acc e.names)),some e.toD,none]):=by
  intro acc e hb
  have z:=q32 (g:=D.str) (i:=3) (fg:=[3]) (body:=A) (l:=e.names) (δ:=[some d.toD,some (nmD acc),some e.toD,none]) (λ m=>[some d.toD,some (nmD (y0 acc (e.names.take m))),some e.toD,none]) rfl λ m x hx=>?_
  ·rwa [N20] at z
  refine ⟨[some d.toD,some (nmD (y0 acc (e.names.take (m+1)))),some e.toD,some (.str x)],.inl ?_,rfl⟩
  have hp:=z66 (y0 acc (e.names.take m)) x (by have:=q3f acc e.names m;lia)
  rw [q6K hx,<- hA]
  simp [hp]
 generalize hB:(q1B (gItS (gCall (F_r n) (gCons (gVar 2) gNil))) 3 [3] A)=B
 have hout:W6 2 [2,3] B (d.parts.map Nd.toD) [some d.toD,some (nmD []),none,none]=.ok (.nx [some d.toD,some (nmD (namesL d.parts [])),none,none]):=by
  have z:=q32 (g:=Nd.toD) (i:=2) (fg:=[2,3]) (body:=B) (l:=d.parts) (δ:=[some d.toD,some (nmD []),none,none]) (λ m=>[some d.toD,some (nmD (namesL (d.parts.take m) [])),none,none]) rfl λ m e hx=>?_
  ·rwa [N20] at z
  have hme:e∈d.parts:=N0u hx
  refine ⟨[some d.toD,some (nmD (namesL (d.parts.take (m+1)) [])),some e.toD,none],.inl ?_,rfl⟩
  have hlv:=x4 d he'
  have h1:=q13 d.parts m
  have h2:=q0V e
  have h3:=q0b hme
  have hi:=hin (namesL (d.parts.take m) []) e (by lia)
  rw [q3g hx,<- hB]
  simp [ih e hme]
  exact hi
 have hw:=q5M d he'
 have h0:D.dct [] []=nmD []:=rfl
 have hb:∀ l,(nmD l).big=true:=λ o_=>rfl
 have hpl:∀ l,pList [nmD l]=.ok (strsL l):=λ l=>by
  unfold nmD strsL
  rw [q5x,N1m];rfl
 rw [q36 d he']
 simp [startD,hw,h0,hb,hout,hpl]
theorem q3h {ss:List Str}{sm:Bool}:∀ (n:Nat) (d:Nd),d.leaves<=500->d.depth<=n->F_r n [d.toD]=.ok (strsL d.names)
 | 0,d,_,h=>by have:=U0 d;simp_all
 | n+1,d,hl,h=>q4P n d hl λ e he=>q3h (ss:=ss) (sm:=sm) n e (by
  by_cases q:∃ x,d=.eats x
  ·obtain ⟨x,rfl⟩:=q;cases he
  ·have:=x4 d λ x z=>q ⟨x,z⟩
   have:=q0b he
   lia) (x3 h he)
theorem q4Q (n:Nat) (d:Nd) (hl:d.leaves<=500) (ih:∀ e∈d.parts,F_f n [e.toD]=.ok (strsL e.names)):F_f (n+1) [d.toD]=.ok (strsL d.names):=by
 show K2 3 (X1 (F_f n) F_i) _=_
 unfold K2 X1
 by_cases he:∃ x,d=.eats x
 ·obtain ⟨x,rfl⟩:=he
  rw [Nd.names]
  simp [startD,strsL,q6v]
 have he':∀ x,d≠.eats x:=λ x h=>he ⟨x,h⟩
 generalize hB:(gSetO 1 (q9x (gOp z6k (gVar 1) (U2 (gItS (gCall (F_f n) (gCons (gVar 2) gNil))) [1] (gB (gOp dNotIn (gVar 0) (gVar 1))) (gVar 0)))))=B
 have hout:W6 2 [2] B (d.parts.map Nd.toD) [some d.toD,some (strsL []),none]=.ok (.nx [some d.toD,some (strsL (namesL d.parts [])),none]):=by
  have z:=q32 (g:=Nd.toD) (i:=2) (fg:=[2]) (body:=B) (l:=d.parts) (δ:=[some d.toD,some (strsL []),none]) (λ m=>[some d.toD,some (strsL (namesL (d.parts.take m) [])),none]) rfl λ m e hx=>?_
  ·rwa [N20] at z
  have hme:e∈d.parts:=N0u hx
  refine ⟨[some d.toD,some (strsL (namesL (d.parts.take (m+1)) [])),some e.toD],.inl ?_,rfl⟩
  have hlv:=x4 d he'
  have h1:=q13 d.parts m
  have h2:=q0V e
  have h3:=q0b hme
  rw [q3g hx,q1L _ _ (q6z e),<- hB]
  generalize namesL (d.parts.take m) []=acc at h1 ⊢
  have hc:compL [some (strsL acc)] (gB (gOp dNotIn (gVar 0) (gVar 1))) (gVar 0) (e.names.map D.str)=.ok ((e.names.filter λ x=>!decide (x∈acc)).map D.str):=by
   refine q1q λ x m=>⟨?_,λ o_=>rfl⟩
   simp [dNotIn,q1d acc x]
  have hfl:(e.names.filter λ x=>!decide (x∈acc)).length<=500:=N0v (N22 _ _) (by lia)
  have hadd:=z1K acc (e.names.filter λ x=>!decide (x∈acc)) (by lia)
  generalize hf:(e.names.filter λ x=>!decide (x∈acc))=fl at hc hfl hadd ⊢
  have hs:D.lst (fl.map D.str)=strsL fl:=rfl
  simp [ih e hme,capD,hc,show fl.length<=16777216 by omega,hs,hadd]
 have hw:=q5M d he'
 rw [q36 d he']
 have h0:D.lst []=strsL []:=rfl
 simp [startD,hw,h0,hout]
theorem q3i:∀ (n:Nat) (d:Nd),d.leaves<=500->d.depth<=n->F_f n [d.toD]=.ok (strsL d.names)
 | 0,d,_,h=>by have:=U0 d;simp_all
 | n+1,d,hl,h=>q4Q n d hl λ e he=>q3i n e (by
  by_cases q:∃ x,d=.eats x
  ·obtain ⟨x,rfl⟩:=q;cases he
  ·have:=x4 d λ x z=>q ⟨x,z⟩
   have:=q0b he
   lia) (x3 h he)
theorem ne_of {x y:Str}(h:x≠y):dNe (.str x) (.str y)=.ok (.bl true):=by rw [q5w,j8 (q30 _ _),q0c,N0e h];rfl
theorem z49 {x y:Str}(h:¬ x≠y):dNe (.str x) (.str y)=.ok (.bl false):=by rw [q5w,j8 (q30 _ _),q0c,N0o (Classical.not_not.1 h)];rfl
@[simp] theorem q7B (p:Pl):(plD p).imm=true:=by unfold plD;simp
theorem X2 {α:Type}(k:Pl) (x:α) (r:List (Pl×α)) (p:Pl):lkP ((k,x)::r) p=if k=p then some x else lkP r p:=by
 unfold lkP
 rw [List.find?_cons]
 by_cases h:k=p
 ·simp [h]
 ·simp [h]
theorem q6L {α β:Type}(f:Pl->α->β) (p:Pl):∀ r:List (Pl×α),lkP (r.map λ e=>(e.1,f e.1 e.2)) p=(lkP r p).map (f p)
 | []=>rfl
 | (k,x)::r=>by
  rw [N09,X2,X2,q6L f p r]
  by_cases h:k=p
  ·subst h;simp
  ·simp [h]
theorem U8 {α:Type}{p:Pl}:∀ {r:List (Pl×α)},lkP r p=none↔p∉r.map (·.1)
 | []=>by simp [lkP]
 | (k,x)::r=>by
  rw [X2,N09,N0c]
  by_cases h:k=p
  ·simp [h]
  ·rw [N0l h,U8 (r:=r)]
   exact ⟨λ q z=>z.elim (λ e=>h e.symm) q,λ q z=>q (.inr z)⟩
theorem q7C {α:Type}{p:Pl}{r:List (Pl×α)}(h:p∈r.map (·.1)):∃ x,lkP r p=some x:=by
 cases q:lkP r p with
 | none=>exact absurd h (U8.1 q)
 | some x=>exact ⟨x,rfl⟩
theorem q8l {α:Type}(r:List (Pl×α)) (p:Pl):(lkP r p).isSome=decide (p∈r.map (·.1)):=by
 by_cases h:p∈r.map (·.1)
 ·obtain ⟨x,e⟩:=q7C h
  rw [e,N0o h];rfl
 ·rw [U8.2 h,N0e h];rfl
theorem q7D {α:Type}{p:Pl}{x:α}:∀ {r:List (Pl×α)},(r.map (·.1)).Nodup->(p,x)∈r->lkP r p=some x
 | (k,y)::r,hd,h=>by
  rw [N09,N1s] at hd
  rw [X2]
  rcases N0c.1 h with e | m
  ·cases e;rw [N0j rfl]
  ·rw [N0l (λ e=>hd.1 (N1z.2 ⟨(p,x),m,e.symm⟩))]
   exact q7D hd.2 m
theorem q7E {α:Type}(q:Pl) (x:α) (p:Pl):∀ r:List (Pl×α),lkP (r++[(q,x)]) p=if p∈r.map (·.1) then lkP r p else if q=p then some x else none
 | []=>by rw [N1v,X2];simp [lkP]
 | (k,y)::r=>by
  rw [List.cons_append,X2,q7E q x p r,X2]
  by_cases h:k=p
  ·simp [h]
  ·by_cases m:p∈r.map (·.1)
   ·rw [N0l h,N0j m,N0j (by rw [N09];exact N02 _ m),N0l h]
   ·have hm:¬ p∈List.map (λ x:Pl×α=>x.1) ((k,y)::r):=by rw [N09,N0c];exact λ z=>z.elim (λ e=>h e.symm) m
    rw [N0l h,N0l m,N0l hm]
noncomputable abbrev Sh:=List (Pl×List Pl)
noncomputable abbrev Cp:=Pl->Pl->Int
noncomputable def rowOf (c:Cp) (p:Pl) (ks:List Pl):List (Pl×Int):=ks.map λ q=>(q,c p q)
noncomputable def mkR (sh:Sh) (c:Cp):List (Pl×List (Pl×Int)):=sh.map λ e=>(e.1,rowOf c e.1 e.2)
noncomputable def roomD (sh:Sh) (c:Cp):D:=.xt (.rm (mkR sh c))
noncomputable def adj (sh:Sh) (p:Pl):List Pl:=(lkP sh p).getD []
noncomputable def putC (c:Cp) (a b:Pl) (n:Int):Cp:=λ p q=>if p=a/\q=b then n else c p q
noncomputable def addE (sh:Sh) (a b:Pl):Sh:=sh.map λ e=>(e.1,if e.1=a/\b∉e.2 then e.2++[b] else e.2)
theorem lk_row (c:Cp) (p q:Pl):∀ ks:List Pl,lkP (rowOf c p ks) q=if q∈ks then some (c p q) else none
 | []=>by simp [rowOf,lkP]
 | k::r=>by
  show lkP ((k,c p k)::rowOf c p r) q=_
  rw [X2,lk_row c p q r]
  by_cases h:k=q
  ·simp [h]
  ·by_cases m:q∈r
   ·simp [h,m]
   ·rw [N0l h,N0l m,N0l (by rw [N0c];exact λ z=>z.elim (λ e=>h e.symm) m)]
theorem q7F (sh:Sh) (c:Cp) (p:Pl):lkP (mkR sh c) p=(lkP sh p).map (rowOf c p):=q6L (λ p ks=>rowOf c p ks) p sh
theorem put_row (c:Cp) (a b:Pl) (n:Int) (ks:List Pl):putP (rowOf c a ks) b n=rowOf (putC c a b n) a (if b∉ks then ks++[b] else ks):=by
 have h1:∀ l:List Pl,b∉l->rowOf (putC c a b n) a l=rowOf c a l:=λ l hb=>by
  unfold rowOf
  refine N25 λ q hq=>?_
  unfold putC
  have hn:¬ (a=a/\q=b):=λ z=>hb (z.2▸hq)
  rw [N0l hn]
 have h2:((rowOf c a ks).any λ e=>decide (e.1=b))=decide (b∈ks):=by
  unfold rowOf
  rw [List.any_map,N1y]
  simp
 unfold putP
 rw [h2]
 by_cases m:b∈ks
 ·rw [N0j (N0o m),N0l (λ z=>z m)]
  unfold rowOf
  rw [N1m]
  refine N25 λ q o_=>?_
  show (if q=b then (q,n) else (q,c a q))=(q,putC c a b n a q)
  unfold putC
  by_cases e:q=b
  ·rw [N0j e,N0j ⟨rfl,e⟩]
  ·rw [N0l e,N0l (λ z=>e z.2)]
 ·rw [N0l (by simp [m]),N0j m]
  show _=rowOf (putC c a b n) a (ks++[b])
  have e:rowOf (putC c a b n) a (ks++[b])=rowOf (putC c a b n) a ks++[(b,putC c a b n a b)]:=by unfold rowOf;rw [N14];rfl
  rw [e,h1 ks m]
  unfold putC
  rw [N0j ⟨rfl,rfl⟩]
theorem z2z {c:Cp}{a b:Pl}{n:Int}{ks:List Pl}:∀ {sh:Sh},(sh.map (·.1)).Nodup->lkP sh a=some ks->z1A (mkR sh c) a (putP (rowOf c a ks) b n)=mkR (addE sh a b) (putC c a b n)
 | (p,l)::r,hd,h=>by
  rw [N09,N1s] at hd
  rw [X2] at h
  have hr:∀ s:Sh,a∉s.map (·.1)->mkR (addE s a b) (putC c a b n)=mkR s c:=λ s hs=>by
   unfold mkR addE
   rw [N1m]
   refine N25 λ e he=>?_
   have ne:e.1≠a:=λ z=>hs (z▸List.mem_map_of_mem he)
   show (e.1,rowOf (putC c a b n) e.1 (if e.1=a/\b∉e.2 then e.2++[b] else e.2))=(e.1,rowOf c e.1 e.2)
   rw [N0l (λ z=>ne z.1)]
   congr 1
   unfold rowOf
   refine N25 λ q o_=>?_
   unfold putC
   rw [N0l (λ z=>ne z.1)]
  show (if p=a then (p,putP (rowOf c a ks) b n)::mkR r c else (p,rowOf c p l)::z1A (mkR r c) a (putP (rowOf c a ks) b n))=(p,rowOf (putC c a b n) p (if p=a/\b∉l then l++[b] else l))::mkR (addE r a b) (putC c a b n)
  by_cases e:p=a
  ·rw [N0j e] at h
   cases h
   subst e
   rw [N0j rfl,hr r hd.1,put_row]
   congr 2
   by_cases m:b∈ks
   ·rw [N0l (λ z=>z m),N0l (λ z=>z.2 m)]
   ·rw [N0j m,N0j ⟨rfl,m⟩]
  ·rw [N0l e] at h
   rw [N0l e,z2z hd.2 h,N0l (λ z=>e z.1)]
   congr 2
   unfold rowOf
   refine N25 λ q o_=>?_
   unfold putC
   rw [N0l (λ z=>e z.1)]
theorem q14 (sh:Sh) (a b:Pl):(addE sh a b).map (·.1)=sh.map (·.1):=by
 unfold addE;rw [N1m];rfl
theorem q4R (sh:Sh) (a b p:Pl):adj (addE sh a b) p=if p=a/\a∈sh.map (·.1)/\b∉adj sh a then adj sh a++[b] else adj sh p:=by
 unfold adj addE
 rw [q6L (λ p ks=>if p=a/\b∉ks then ks++[b] else ks) p sh]
 by_cases e:p=a
 ·subst e
  cases q:lkP sh p with
  | none=>rw [N0l (λ z=>U8.1 q z.2.1)];rfl
  | some l =>
   have m:p∈sh.map (·.1):=N1n λ z=>by rw [U8.2 z] at q;cases q
   show (if p=p/\b∉l then l++[b] else l)=if p=p/\p∈sh.map (·.1)/\b∉l then l++[b] else l
   by_cases hb:b∈l
   ·rw [N0l (λ z=>z.2 hb),N0l (λ z=>z.2.2 hb)]
   ·rw [N0j ⟨rfl,hb⟩,N0j ⟨rfl,m,hb⟩]
 ·rw [N0l (λ z=>e z.1)]
  cases q:lkP sh p with
  | none=>rfl
  | some l=>show (if p=a/\b∉l then l++[b] else l)=l;rw [N0l (λ z=>e z.1)]
theorem q7G {sh:Sh}{a b p q:Pl}(ha:a∈sh.map (·.1)):q∈adj (addE sh a b) p↔q∈adj sh p\/(p=a/\q=b):=by
 rw [q4R]
 by_cases e:p=a
 ·subst e
  by_cases hb:b∈adj sh p
  ·rw [N0l (λ z=>z.2.2 hb)]
   exact ⟨.inl,λ z=>z.elim id λ z=>z.2▸hb⟩
  ·rw [N0j ⟨rfl,ha,hb⟩,N0a,N0f]
   exact ⟨λ z=>z.elim .inl λ z=>.inr ⟨rfl,z⟩,λ z=>z.elim .inl λ z=>.inr z.2⟩
 ·rw [N0l (λ z=>e z.1)]
  exact ⟨.inl,λ z=>z.elim id λ z=>absurd z.1 e⟩
theorem q3V {sh:Sh}{a b p:Pl}(h:∀ p,(adj sh p).Nodup):(adj (addE sh a b) p).Nodup:=by
 rw [q4R]
 split
 ·next z=>exact N1t.2 ⟨h a,by simp,λ x hx y hy e=>z.2.2 (by rw [N0f.1 hy] at e;exact e▸hx)⟩
 ·exact h p
theorem q7H (sh:Sh) (a p:Pl):adj (sh++[(a,[])]) p=adj sh p:=by
 unfold adj
 rw [q7E]
 by_cases m:p∈sh.map (·.1)
 ·rw [N0j m]
 ·rw [N0l m,U8.2 m]
  by_cases e:a=p
  ·rw [N0j e];rfl
  ·rw [N0l e]
theorem q1Q {sh:Sh}{p:Pl}(h:p∈sh.map (·.1)):lkP sh p=some (adj sh p):=by
 obtain ⟨l,e⟩:=q7C h
 unfold adj
 rw [e];rfl
theorem q26 {sh:Sh}{p q:Pl}(h:q∈adj sh p):p∈sh.map (·.1):=N1n λ z=>by
 unfold adj at h
 rw [U8.2 z] at h;cases h
theorem q7I {sh:Sh}{c:Cp}{a b:Pl}(h:b∈adj sh a):dRm2 (roomD sh c) (plD a) (plD b)=.ok (.int (c a b)):=by
 have e:dRm2 (roomD sh c) (plD a) (plD b)=optR (((lkP (mkR sh c) a).bind λ row=>lkP row b).map D.int):=rfl
 rw [e,q7F,q1Q (q26 h)]
 show optR ((lkP (rowOf c a (adj sh a)) b).map D.int)=_
 rw [lk_row,N0j h];rfl
theorem z0F {sh:Sh}{c:Cp}{a:Pl}(h:a∈sh.map (·.1)):dKeys (roomD sh c) (plD a)=.ok ((adj sh a).map plD):=by
 have e:dKeys (roomD sh c) (plD a)=optR ((lkP (mkR sh c) a).map rowK):=rfl
 rw [e,q7F,q1Q h]
 show Rz.ok (List.map _ _)=_
 unfold rowOf
 rw [N1m];rfl
theorem q2C {sh:Sh}{c:Cp}{a b:Pl}{n:Int}{i:Nat}{ga gb gv:GE}{δ:DS}(hd:(sh.map (·.1)).Nodup) (ha:a∈sh.map (·.1)) (hl:(adj sh a).length<=1000) (hi:δ[i]? = some (some (roomD sh c))) (hv:gv δ=.ok (.int n)) (h1:ga δ=.ok (plD a)) (h2:gb δ=.ok (plD b)) :
 q0B i ga gb gv δ=.ok (.nx (δ.set i (some (roomD (addE sh a b) (putC c a b n))))):=by
 unfold q0B
 rw [hv,Z3,h1,Z3,h2,Z3,hi]
 show (match lkP (mkR sh c) a with | some row=>Rz.guard (row.length<sizeLine) (.ok (Out.nx (δ.set i (some (.xt (.rm (z1A (mkR sh c) a (putP row b n)))))))) | none=>.un)=_
 rw [q7F,q1Q ha]
 show Rz.guard ((rowOf c a (adj sh a)).length<sizeLine) (.ok (Out.nx (δ.set i (some (.xt (.rm (z1A (mkR sh c) a (putP (rowOf c a (adj sh a)) b n))))))))=_
 rw [j8 (by unfold rowOf;rw [N01,W5];lia),z2z hd (q1Q ha)];rfl
theorem q7J {sh:Sh}{c:Cp}{a:Pl}{i:Nat}{ga:GE}{δ:DS}(ha:a∉sh.map (·.1)) (hl:sh.length<=1000) (hi:δ[i]? = some (some (roomD sh c))) (h1:ga δ=.ok (plD a)) :
 q2Z i ga δ=.ok (.nx (δ.set i (some (roomD (sh++[(a,[])]) c)))):=by
 unfold q2Z
 rw [h1,Z3,hi]
 show Rz.guard ((mkR sh c).length<sizeLine/\lkP (mkR sh c) a=none) (.ok (Out.nx (δ.set i (some (.xt (.rm (mkR sh c++[(a,[])])))))))=_
 rw [j8 ⟨by unfold mkR;rw [N01,W5];lia,by rw [q7F,U8.2 ha];rfl⟩]
 unfold roomD mkR
 rw [N14];rfl
theorem z4a {sh:Sh}{c:Cp}{a b:Pl}{n:Int}(hd:(sh.map (·.1)).Nodup) (ha:a∈sh.map (·.1)) (hb:b∈sh.map (·.1)) (hl:∀ p,(adj sh p).length<=900) :
 F_q [roomD sh c,plD a,plD b,.int n]=.ok (.non,[roomD (addE (addE sh a b) b a) (putC (putC c a b n) b a 0)]):=by
 have e1:=q2C (c:=c) (b:=b) (n:=n) (i:=3) (ga:=gVar 0) (gb:=gVar 1) (gv:=gVar 2) (δ:=[some (plD a),some (plD b),some (.int n),some (roomD sh c)]) hd ha (by have:=hl a;omega) rfl rfl rfl rfl
 have hl2:(adj (addE sh a b) b).length<=1000:=by
  rw [q4R]
  have:=hl a
  have:=hl b
  split
  ·rw [N06,N11];lia
  ·omega
 have e2:=q2C (c:=putC c a b n) (b:=a) (n:=0) (i:=3) (ga:=gVar 1) (gb:=gVar 0) (gv:=gC (.int 0)) (δ:=[some (plD a),some (plD b),some (.int n),some (roomD (addE sh a b) (putC c a b n))]) (by rw [q14];exact hd) (by rw [q14];exact hb) hl2 rfl rfl rfl rfl
 unfold F_q z6p q1r
 show ((gSeq (q0B 3 (gVar 0) (gVar 1) (gVar 2)) (q0B 3 (gVar 1) (gVar 0) (gC (.int 0)))) [some (plD a),some (plD b),some (.int n),some (roomD sh c)]).bind _=_
 rw [z3Q,e1,Z3,z3P]
 show Rz.bind (q0B 3 (gVar 1) (gVar 0) (gC (.int 0)) [some (plD a),some (plD b),some (.int n),some (roomD (addE sh a b) (putC c a b n))]) _=_
 rw [e2];rfl
structure RoomI (V:List Pl) (E:List (Pl×Pl)) (cap:Cp) (sh:Sh) (c:Cp):Prop where
 keys:sh.map (·.1)=V
 nd:V.Nodup
 adn:∀ p,(adj sh p).Nodup
 am:∀ p q,q∈adj sh p↔(p,q)∈E\/(q,p)∈E
 ev:∀ e∈E,e.1∈V/\e.2∈V
 cv:∀ p q,c p q=if (p,q)∈E then cap p q else 0
theorem pr_mem {E:List (Pl×Pl)}{p q a b:Pl}:(p,q)∈E++[(a,b)]↔(p,q)∈E\/(p=a/\q=b):=by
 rw [N0a,N0f]
 exact ⟨λ z=>z.elim .inl λ e=>.inr ⟨congrArg Prod.fst e,congrArg Prod.snd e⟩,λ z=>z.elim .inl λ e=>.inr (by rw [e.1,e.2])⟩
section
variable {V:List Pl}{E:List (Pl×Pl)}{cap:Cp}{sh:Sh}{c:Cp}{a b p q:Pl}
theorem RoomI.adV (r:RoomI V E cap sh c) (h:q∈adj sh p):q∈V:=by
 rcases (r.am p q).1 h with m | m
 ·exact (r.ev _ m).2
 ·exact (r.ev _ m).1
theorem RoomI.adl (r:RoomI V E cap sh c) (p:Pl):(adj sh p).length<=V.length:=y4 (r.adn p) λ o_ h=>r.adV h
theorem RoomI.sym (r:RoomI V E cap sh c) (h:q∈adj sh p):p∈adj sh q:=(r.am q p).2 (((r.am p q).1 h).symm)
theorem RoomI.row (r:RoomI V E cap sh c) (h:a∉V):RoomI (V++[a]) E cap (sh++[(a,[])]) c where
 keys:=by rw [N14,r.keys];rfl
 nd:=N1t.2 ⟨r.nd,by simp,λ x hx y hy e=>h (by rw [N0f.1 hy] at e;exact e▸hx)⟩
 adn:=λ p=>by rw [q7H];exact r.adn p
 am:=λ p q=>by rw [q7H];exact r.am p q
 ev:=λ e m=>⟨N0w _ (r.ev e m).1,N0w _ (r.ev e m).2⟩
 cv:=r.cv
theorem RoomI.make (r:RoomI V E cap sh c) (ha:a∈V) (hb:b∈V) (hne:a≠b) (hE:(b,a)∉E) (hl:V.length<=900) :
 F_q [roomD sh c,plD a,plD b,.int (cap a b)]=.ok (.non,[roomD (addE (addE sh a b) b a) (putC (putC c a b (cap a b)) b a 0)])/\RoomI V (E++[(a,b)]) cap (addE (addE sh a b) b a) (putC (putC c a b (cap a b)) b a 0):=by
 have ha':a∈sh.map (·.1):=by rw [r.keys];exact ha
 have hb':b∈sh.map (·.1):=by rw [r.keys];exact hb
 refine ⟨z4a (by rw [r.keys];exact r.nd) ha' hb' λ p=>N0v (r.adl p) hl,⟨by rw [q14,q14];exact r.keys,r.nd,λ p=>q3V λ p=>q3V r.adn,λ p q=>?_,λ e m=>?_,λ p q=>?_⟩⟩
 ·rw [q7G (by rw [q14];exact hb'),q7G ha',r.am,pr_mem,pr_mem]
  constructor
  ·rintro ((h | h) | h)
   ·rcases h with h | h
    ·exact .inl (.inl h)
    ·exact .inr (.inl h)
   ·exact .inl (.inr h)
   ·exact .inr (.inr ⟨h.2,h.1⟩)
  ·rintro ((h | h) | (h | h))
   ·exact .inl (.inl (.inl h))
   ·exact .inl (.inr h)
   ·exact .inl (.inl (.inr h))
   ·exact .inr ⟨h.2,h.1⟩
 ·rcases N0a.1 m with m | m
  ·exact r.ev e m
  ·rw [N0f.1 m];exact ⟨ha,hb⟩
 ·unfold putC
  by_cases e1:p=b/\q=a
  ·obtain ⟨rfl,rfl⟩:=e1
   rw [N0j ⟨rfl,rfl⟩,N0l]
   rw [pr_mem]
   exact λ z=>z.elim hE λ z=>hne z.2
  ·rw [N0l e1]
   by_cases e2:p=a/\q=b
   ·obtain ⟨rfl,rfl⟩:=e2
    rw [N0j ⟨rfl,rfl⟩,N0j (N05 _ (N0f.2 rfl))]
   ·rw [N0l e2,r.cv]
    by_cases m:(p,q)∈E
    ·rw [N0j m,N0j (N0w _ m)]
    ·rw [N0l m,N0l]
     rw [pr_mem]
     exact λ z=>z.elim m e2
end
noncomputable def sumV (V:List Pl) (f:Pl->Int):Int:=(V.map f).sum
section
variable {V:List Pl}{f g:Pl->Int}{a b:Pl}
theorem z0G:sumV [] f=0:=rfl
theorem sum_cons:sumV (a::V) f=f a+sumV V f:=by unfold sumV;rw [N09,List.sum_cons]
theorem v9:∀ {V:List Pl},(∀ q∈V,f q=g q)->sumV V f=sumV V g
 | [],_=>rfl
 | a::r,h=>by rw [sum_cons,sum_cons,h a (N00 ..),v9 λ q m=>h q (N02 _ m)]
theorem q0s:∀ V:List Pl,sumV V (λ q=>f q+g q)=sumV V f+sumV V g
 | []=>rfl
 | a::r=>by rw [sum_cons,sum_cons,sum_cons,q0s r];lia
theorem V8:∀ {V:List Pl},(∀ q∈V,f q=0)->sumV V f=0
 | [],_=>rfl
 | a::r,h=>by rw [sum_cons,h a (N00 ..),V8 λ q m=>h q (N02 _ m)];rfl
theorem q27:∀ {V:List Pl},V.Nodup->b∈V->(∀ q∈V,q≠b->f q=0)->sumV V f=f b
 | a::r,hd,hb,h=>by
  rw [N1s] at hd
  rw [sum_cons]
  by_cases e:a=b
  ·subst e
   rw [V8 λ q m=>h q (N02 _ m) λ z=>hd.1 (z▸m)];simp
  ·rw [h a (N00 ..) e,q27 hd.2 ((N0c.1 hb).resolve_left λ z=>e z.symm) λ q m=>h q (N02 _ m)];simp
theorem z2A:∀ {V:List Pl},(∀ q∈V,0<=f q)->0<=sumV V f
 | [],_=>Int.le_refl _
 | a::r,h=>by
  rw [sum_cons]
  have:=h a (N00 ..)
  have:=z2A λ q m=>h q (N02 _ m)
  lia
theorem q1u:∀ {V:List Pl},(∀ q∈V,0<=f q)->a∈V->f a<=sumV V f
 | b::r,h,m=>by
  rw [sum_cons]
  have h1:=h b (N00 ..)
  have h2:=z2A λ q m=>h q (N02 _ m)
  rcases N0c.1 m with e | m
  ·subst e;lia
  ·have:=q1u (λ q m=>h q (N02 _ m)) m;lia
theorem z0H:∀ {V:List Pl},(∀ q∈V,0<=f q)->a∈V->b∈V->a≠b->f a+f b<=sumV V f
 | c::r,h,ma,mb,ne=>by
  rw [sum_cons]
  have h1:=h c (N00 ..)
  have hr:∀ q∈r,0<=f q:=λ q m=>h q (N02 _ m)
  rcases N0c.1 ma with e | ma
  ·have:=q1u hr ((N0c.1 mb).resolve_left λ z=>ne (e.trans z.symm));rw [e];simp_all
  ·rcases N0c.1 mb with e | mb
   ·have:=q1u hr ma;rw [e];lia
   ·have:=z0H hr ma mb ne;lia
theorem z0I:∀ {V:List Pl},0<sumV V f->∃ q∈V,0<f q
 | [],h=>by cases h
 | a::r,h=>by
  rw [sum_cons] at h
  by_cases e:0<f a
  ·exact ⟨a,N00 ..,e⟩
  ·obtain ⟨q,m,z⟩:=z0I (V:=r) (by lia)
   exact ⟨q,N02 _ m,z⟩
theorem z2B:∀ {V:List Pl},(∀ q∈V,f q<=1)->sumV V f<=(V.length:Int)
 | [],_=>Int.le_refl _
 | a::r,h=>by
  rw [sum_cons,N0h]
  have:=h a (N00 ..)
  have:=z2B λ q m=>h q (N02 _ m)
  lia
theorem z4b (hd:V.Nodup) (hb:b∈V) (n:Int):sumV V (λ q=>if q=b then n else f q)=sumV V f+(n - f b):=by
 have e:(λ q=>if q=b then n else f q)=λ q=>f q+(if q=b then n - f b else 0):=by
  funext q
  by_cases z:q=b
  ·rw [N0j z,N0j z,z];lia
  ·rw [N0l z,N0l z];simp
 rw [e,q0s,q27 (f:=λ q=>if q=b then n - f b else 0) hd hb λ q o_ z=>N0l z,N0j rfl]
end
theorem q7K {V:List Pl}(hd:V.Nodup){c:Cp}{a b:Pl}(hb:b∈V) (n:Int) (v:Pl):sumV V (putC c a b n v)=sumV V (c v)+(if v=a then n - c a b else 0):=by
 by_cases e:v=a
 ·subst e
  have:putC c v b n v=λ q=>if q=b then n else c v q:=by
   funext q
   unfold putC
   by_cases z:q=b
   ·rw [N0j ⟨rfl,z⟩,N0j z]
   ·rw [N0l (λ y=>z y.2),N0l z]
  rw [this,z4b hd hb,N0j rfl]
 ·have:putC c a b n v=c v:=by
   funext q
   unfold putC
   rw [N0l (λ y=>e y.1)]
  rw [this,N0l e];simp
structure Aug (V:List Pl) (c c':Cp) (s t:Pl):Prop where
 nn:(∀ p q,0<=c p q)->∀ p q,0<=c' p q
 sk:∀ p q,c' p q+c' q p=c p q+c q p
 sm:∀ v,sumV V (c' v)=sumV V (c v) - (if v=s then 1 else 0)+(if v=t then 1 else 0)
theorem Aug.refl (V:List Pl) (c:Cp) (s:Pl):Aug V c c s s:=⟨id,λ o_ o_=>rfl,λ v=>by simp⟩
noncomputable def movC (c:Cp) (p q:Pl):Cp:=putC (putC c p q (c p q - 1)) q p (c q p+1)
theorem z0J {c:Cp}{p q:Pl}(h:p≠q):movC c p q p q=c p q - 1/\movC c p q q p=c q p+1/\∀ a b,¬ (a=p/\b=q)->¬ (a=q/\b=p)->movC c p q a b=c a b:=by
 unfold movC putC
 refine ⟨?_,?_,λ a b h1 h2=>?_⟩
 ·rw [N0l (λ z=>h z.1),N0j ⟨rfl,rfl⟩]
 ·rw [N0j ⟨rfl,rfl⟩]
 ·rw [N0l h2,N0l h1]
theorem Aug.step {V:List Pl}(hd:V.Nodup){c c':Cp}{s p q:Pl}(hp:p∈V) (hq:q∈V) (ne:p≠q) (hc:0<c p q) (h:Aug V (movC c p q) c' s p):Aug V c c' s q:=by
 obtain ⟨m1,m2,m3⟩:=z0J (c:=c) ne
 refine ⟨λ n=>h.nn λ a b=>?_,λ a b=>?_,λ v=>?_⟩
 ·by_cases e:a=p/\b=q
  ·rw [e.1,e.2,m1];lia
  ·by_cases e2:a=q/\b=p
   ·rw [e2.1,e2.2,m2];have:=n q p;lia
   ·rw [m3 a b e e2];exact n a b
 ·rw [h.sk]
  by_cases e:a=p/\b=q
  ·rw [e.1,e.2,m1,m2];lia
  ·by_cases e2:a=q/\b=p
   ·rw [e2.1,e2.2,m1,m2];lia
   ·rw [m3 a b e e2,m3 b a (λ z=>e2 ⟨z.2,z.1⟩) λ z=>e ⟨z.2,z.1⟩]
 ·have e1:sumV V (movC c p q v)=sumV V (c v) - (if v=p then 1 else 0)+(if v=q then 1 else 0):=by
   unfold movC
   rw [q7K hd hp,q7K hd hq]
   have:putC c p q (c p q - 1) q p=c q p:=by unfold putC;rw [N0l (λ z=>ne z.1.symm)]
   rw [this]
   by_cases z:v=p
   ·have:¬ v=q:=λ y=>ne (z.symm.trans y)
    rw [N0j z,N0l this,N0j z,N0l this];lia
   ·rw [N0l z,N0l z]
    by_cases y:v=q
    ·rw [N0j y,N0j y];lia
    ·rw [N0l y,N0l y];simp
  rw [h.sm,e1];lia
structure FI (V:List Pl) (c0:Cp) (s t:Pl) (j:Nat) (c:Cp):Prop where
 nn:∀ p q,0<=c p q
 sk:∀ p q,c p q+c q p=c0 p q+c0 q p
 sm:∀ v,sumV V (c v)=sumV V (c0 v) - (if v=s then (j:Int) else 0)+(if v=t then (j:Int) else 0)
section
variable {V:List Pl}{c0 c c':Cp}{s t:Pl}{j:Nat}
theorem FI.start (h:∀ p q,0<=c0 p q):FI V c0 s t 0 c0:=⟨h,λ o_ o_=>rfl,λ v=>by
 have e:((0:Nat):Int)=0:=rfl
 rw [e]
 split<;>split<;>simp⟩
theorem FI.step (h:FI V c0 s t j c) (a:Aug V c c' s t):FI V c0 s t (j+1) c':=⟨a.nn h.nn,λ p q=>(a.sk p q).trans (h.sk p q),λ v=>by
 rw [a.sm,h.sm]
 have e:((j+1:Nat):Int)=(j:Int)+1:=by simp
 rw [e]
 split<;>split<;>lia⟩
theorem FI.col (h:FI V c0 s t j c) (v:Pl):sumV V (λ q=>c q v)=sumV V (λ q=>c0 q v)+(if v=s then (j:Int) else 0) - (if v=t then (j:Int) else 0):=by
 have e1:sumV V (λ q=>c v q+c q v)=sumV V (λ q=>c0 v q+c0 q v):=v9 λ q o_=>h.sk v q
 rw [q0s,q0s] at e1
 have e2:=h.sm v
 lia
theorem FI.off (h:FI V c0 s t j c){p q:Pl}(h1:c0 p q=0) (h2:c0 q p=0):c p q=0:=by
 have:=h.sk p q
 have:=h.nn p q
 have:=h.nn q p
 lia
end
noncomputable def pI (k:Str):Pl:=(k,"in")
noncomputable def pO (k:Str):Pl:=(k,"out")
noncomputable def sunP:Pl:=("sun","in")
theorem z67:s!"in"≠s!"out":=by rw [Ne,z00];decide
theorem V0 {a b:Str}(h:pI a=pI b):a=b:=congrArg Prod.fst h
theorem pO_inj {a b:Str}(h:pO a=pO b):a=b:=congrArg Prod.fst h
theorem pIO {a b:Str}:pI a≠pO b:=λ h=>z67 (congrArg Prod.snd h)
theorem pOI {a b:Str}:pO a≠pI b:=λ h=>pIO h.symm
theorem q8m {b:Str}:sunP≠pO b:=pIO
structure Net (V:List Pl) (ot:List Str) (x:Str) (eats:Str->Str->Prop) (sun:Str->Prop) (c0:Cp):Prop where
 nd:V.Nodup
 vI:∀ k∈ot,pI k∈V
 vO:∀ k∈ot,pO k∈V
 vx:pO x∈V
 vs:sunP∈V
 xo:x∉ot
 so:s!"sun"∉ot
 nosun:¬ sun x
 io:∀ k∈ot,c0 (pI k) (pO k)=1
 edge:∀ p q,c0 p q≠0->(∃ k∈ot,p=pI k/\q=pO k)\/(∃ k,(k=x\/k∈ot)/\p=pO k/\c0 p q=100/\((∃ e∈ot,q=pI e/\e≠k/\eats k e)\/(q=sunP/\sun k)))
section
variable {V:List Pl}{ot:List Str}{x:Str}{eats:Str->Str->Prop}{sun:Str->Prop}{c0 c:Cp}{j:Nat}
theorem Net.nn (n:Net V ot x eats sun c0) (p q:Pl):0<=c0 p q:=by
 by_cases h:c0 p q=0
 ·rw [h];decide
 ·rcases n.edge p q h with ⟨k,m,rfl,rfl⟩ | ⟨k,_,_,e,_⟩
  ·rw [n.io k m];decide
  ·rw [e];decide
theorem Net.rowI (n:Net V ot x eats sun c0){k:Str}(m:k∈ot):sumV V (c0 (pI k))=1:=by
 rw [q27 (b:=pO k) n.nd (n.vO k m) λ q o_ z=>?_,n.io k m]
 refine N1n λ h=>?_
 rcases n.edge _ q h with ⟨k',_,e,rfl⟩ | ⟨k',_,e,_⟩
 ·exact z (by rw [V0 e])
 ·exact pIO e
theorem Net.colO (n:Net V ot x eats sun c0){k:Str}(m:k∈ot):sumV V (λ q=>c0 q (pO k))=1:=by
 rw [q27 (f:=λ q=>c0 q (pO k)) (b:=pI k) n.nd (n.vI k m) λ q o_ z=>?_,n.io k m]
 refine N1n λ h=>?_
 rcases n.edge q _ h with ⟨k',_,rfl,e⟩ | ⟨k',_,_,_,⟨e',_,e,_⟩ | ⟨e,_⟩⟩
 ·exact z (by rw [pO_inj e])
 ·exact pOI e
 ·exact q8m e.symm
theorem Net.rowS (n:Net V ot x eats sun c0):sumV V (c0 sunP)=0:=V8 λ q o_=>N1n λ h=>by
 rcases n.edge _ q h with ⟨k',m,e,rfl⟩ | ⟨k',_,e,_⟩
 ·exact n.so (V0 e▸m)
 ·exact q8m e
theorem Net.sx (n:Net V ot x eats sun c0):sunP≠pO x:=q8m
variable (n:Net V ot x eats sun c0) (f:FI V c0 (pO x) sunP j c)
include n f
theorem fI {k:Str}(m:k∈ot):sumV V (c (pI k))=1:=by
 have h1:¬ pI k=sunP:=λ e=>n.so (V0 (show pI k=pI "sun" from e)▸m)
 rw [f.sm,n.rowI m,N0l pIO,N0l h1];lia
theorem fO {k:Str}(m:k∈ot):sumV V (λ q=>c q (pO k))=1:=by
 have h1:¬ pO k=pO x:=λ e=>n.xo (pO_inj e▸m)
 rw [f.col,n.colO m,N0l h1,N0l q8m.symm];lia
theorem z1Z {k:Str}(m:k∈ot){p q:Pl}(hp:p∈V) (hq:q∈V) (h1:0<c (pI k) p) (h2:0<c (pI k) q):p=q:=N1n λ z=>by
 have:=z0H (f:=c (pI k)) (λ q o_=>f.nn _ q) hp hq z
 rw [fI n f m] at this
 lia
theorem z4c {k:Str}(m:k∈ot){a:Pl}(ha:a∈V) (ne:a≠pO k) (h:0<c (pI k) a):∃ q∈V,q≠pI k/\0<c q (pO k):=by
 obtain ⟨q,mq,hq⟩:=z0I (V:=V) (f:=λ q=>c q (pO k)) (by rw [fO n f m];decide)
 refine ⟨q,mq,λ e=>?_,hq⟩
 subst e
 exact ne (z1Z n f m ha (n.vO k m) h hq)
theorem sent_edge {k:Str}{q:Pl}(hk:k=x\/k∈ot) (ne:q≠pI k) (h:0<c q (pO k)):(∃ e∈ot,q=pI e/\e≠k/\eats k e)\/(q=sunP/\sun k):=by
 have:c0 q (pO k)≠0\/c0 (pO k) q≠0:=by
  refine N1n λ z=>?_
  have z1:c0 q (pO k)=0:=N1n λ y=>z (.inl y)
  have z2:c0 (pO k) q=0:=N1n λ y=>z (.inr y)
  rw [f.off z1 z2] at h
  exact absurd h (by decide)
 rcases this with z | z
 ·rcases n.edge _ _ z with ⟨k',_,rfl,e⟩ | ⟨k',_,_,_,⟨e',_,e,_⟩ | ⟨e,_⟩⟩
  ·exact absurd (by rw [pO_inj e]) ne
  ·exact absurd e pOI
  ·exact absurd e.symm q8m
 ·rcases n.edge _ _ z with ⟨k',_,e,_⟩ | ⟨k',_,e,_,hh⟩
  ·exact absurd e pOI
  ·cases pO_inj e
   exact hh
theorem z4d:j<=V.length:=by
 have e:=f.sm sunP
 rw [n.rowS,N0l n.sx,N0j rfl] at e
 have h:=z2B (V:=V) (f:=c sunP) λ q mq=>?_
 ·rw [e] at h;simp_all
 ·refine N1n λ z=>?_
  have hc:0<c sunP q:=by lia
  have:c0 q sunP≠0\/c0 sunP q≠0:=by
   refine N1n λ z=>?_
   have z1:c0 q sunP=0:=N1n λ y=>z (.inl y)
   have z2:c0 sunP q=0:=N1n λ y=>z (.inr y)
   rw [f.off z2 z1] at hc
   exact absurd hc (by decide)
  rcases this with y | y
  ·rcases n.edge _ _ y with ⟨k',_,_,e⟩ | ⟨k',hk,rfl,_,⟨e',m',e,_⟩ | ⟨_,hs⟩⟩
   ·exact q8m e
   ·exact n.so (V0 (show pI "sun" = pI e' from e)▸m')
   ·rcases hk with rfl | hk
    ·exact n.nosun hs
    ·have:=q1u (f:=λ q=>c q (pO k')) (λ q o_=>f.nn q _) n.vs
     rw [fO n f hk] at this
     simp_all
  ·rcases n.edge _ _ y with ⟨k',m,e,rfl⟩ | ⟨k',_,e,_⟩
   ·exact n.so (V0 (show pI "sun" = pI k' from e)▸m)
   ·exact q8m e
end
inductive Chn (c:Cp) (ot:List Str) (x:Str):List Str->Str->Prop where
 | nil:Chn c ot x [] x
 | snoc {W:List Str}{b k:Str}:Chn c ot x W b->k∈ot->0<c (pI k) (pO b)->Chn c ot x (W++[k]) k
section
variable {V:List Pl}{ot:List Str}{x:Str}{eats:Str->Str->Prop}{sun:Str->Prop}{c0 c:Cp}{j:Nat}
theorem Chn.sub {W:List Str}{b:Str}(h:Chn c ot x W b):(∀ k∈W,k∈ot)/\((W=[]/\b=x)\/b∈W):=by
 induction h with
 | nil=>exact ⟨λ o_ m=>(nomatch m),.inl ⟨rfl,rfl⟩⟩
 | snoc h m l ih =>
  refine ⟨λ z mz=>?_,.inr (N05 _ (N0f.2 rfl))⟩
  rcases N0a.1 mz with y | y
  ·exact ih.1 z y
  ·rw [N0f.1 y];exact m
theorem Chn.inV (n:Net V ot x eats sun c0){W:List Str}{b:Str}(h:Chn c ot x W b):pO b∈V:=by
 rcases h.sub.2 with ⟨_,rfl⟩ | m
 ·exact n.vx
 ·exact n.vO b (h.sub.1 b m)
variable (n:Net V ot x eats sun c0) (f:FI V c0 (pO x) sunP j c)
include n f
theorem Chn.nodup {W:List Str}{b:Str}(h:Chn c ot x W b):W.Nodup/\∀ k∈W,∃ a,(a=x\/a∈W)/\a≠b/\0<c (pI k) (pO a):=by
 induction h with
 | nil=>exact ⟨N27,λ o_ m=>(nomatch m)⟩
 | @snoc W b k h m l ih =>
  have fresh:k∉W:=λ mk=>by
   obtain ⟨a,ha,ne,la⟩:=ih.2 k mk
   refine ne (pO_inj (z1Z n f m ?_ (h.inV n) la l))
   rcases ha with rfl | ha
   ·exact n.vx
   ·exact n.vO a (h.sub.1 a ha)
  have kx:k≠x:=λ e=>n.xo (e▸m)
  refine ⟨N1t.2 ⟨ih.1,by simp,λ y hy z hz e=>fresh (by rw [N0f.1 hz] at e;exact e▸hy)⟩,λ z mz=>?_⟩
  rcases N0a.1 mz with y | y
  ·obtain ⟨a,ha,_,la⟩:=ih.2 z y
   refine ⟨a,ha.imp id λ q=>N0w _ q,?_,la⟩
   rcases ha with rfl | ha
   ·exact kx.symm
   ·exact λ e=>fresh (e▸ha)
  ·rw [N0f.1 y]
   refine ⟨b,?_,?_,l⟩
   ·rcases h.sub.2 with ⟨_,e⟩ | q
    ·exact .inl e
    ·exact .inr (N0w _ q)
   ·rcases h.sub.2 with ⟨_,e⟩ | q
    ·rw [e];exact kx.symm
    ·exact λ e=>fresh (e▸q)
theorem Chn.len {W:List Str}{b:Str}(h:Chn c ot x W b):W.length<=ot.length:=y4 (h.nodup n f).1 h.sub.1
end
noncomputable abbrev Rc:=List (Pl×Option Pl)
noncomputable def rcD (r:Rc):D:=.xt (.rc r)
noncomputable def z8k (l:List Pl):D:=.lst (l.map plD)
inductive Tree (c:Cp) (s:Pl):Rc->Prop where
 | one:Tree c s [(s,none)]
 | more {r:Rc}{p q:Pl}:Tree c s r->p∈r.map (·.1)->q∉r.map (·.1)->0<c p q->Tree c s (r++[(q,some p)])
theorem V1 (r:Rc) (q:Pl) (o:Option Pl):(r++[(q,o)]).map (·.1)=r.map (·.1)++[q]:=by rw [N14];rfl
theorem q8n {α:Type}{l:List α}{a:α}(h:l.Nodup) (m:a∉l):(l++[a]).Nodup:=N1t.2 ⟨h,by simp,λ x hx y hy e=>m (by rw [N0f.1 hy] at e;exact e▸hx)⟩
theorem mem_snoc {α:Type}{l:List α}{a b:α}:b∈l++[a]↔b∈l\/b=a:=by rw [N0a,N0f]
theorem Tree.nodup {c:Cp}{s:Pl}{r:Rc}(h:Tree c s r):(r.map (·.1)).Nodup:=by
 induction h with
 | one=>simp
 | more _ _ m _ ih=>rw [V1];exact q8n ih m
theorem Tree.root {c:Cp}{s:Pl}{r:Rc}(h:Tree c s r):s∈r.map (·.1):=by
 induction h with
 | one=>exact N0f.2 rfl
 | more _ _ m _ ih=>rw [V1];exact N0w _ ih
theorem z68 {r:Rc}{p q:Pl}(hl:r.length<=1000) (m:q∉r.map (·.1)):dPut (rcD r) (plD q) (plD p)=.ok (rcD (r++[(q,some p)])):=by
 have e:dPut (rcD r) (plD q) (plD p)=Rz.guard (r.length<sizeLine) (.ok (.xt (.rc (putP r q (some p))))):=rfl
 rw [e,j8 (by rw [W5];lia)]
 unfold putP
 have:(r.any λ e=>decide (e.1=q))=false:=by
  rw [List.any_eq_false]
  exact λ e he z=>m (by rw [<- of_decide_eq_true z];exact List.mem_map_of_mem he)
 rw [this];rfl
theorem z20 (r:Rc) (q:Pl):inD (plD q) (rcD r)=.ok (decide (q∈r.map (·.1))):=by
 have e:inD (plD q) (rcD r)=.ok (lkP r q).isSome:=rfl
 rw [e,q8l]
theorem U9 {α:Type}{g:α->D}{i:Nat}{fg:List Nat}{body:GS}(P:List α->DS->Prop):∀ (l pre:List α) (δ:DS),P pre δ ->
 (∀ a x b,pre++l=a++x::b->∀ δ,P a δ->∃ δ',body (δ.set i (some (g x)))=.ok (.nx δ')/\P (a++[x]) (forget fg δ'))->∃ δ',W6 i fg body (l.map g) δ=.ok (.nx δ')/\P (pre++l) δ'
 | [],pre,δ,h,_=>⟨δ,rfl,by rw [N10];exact h⟩
 | x::l,pre,δ,h,hs=>by
  obtain ⟨δ',h1,h2⟩:=hs pre x l rfl δ h
  obtain ⟨δ2,h3,h4⟩:=U9 P l (pre++[x]) (forget fg δ') h2 λ a y b e=>hs a y b (by rw [<- e,N1w];rfl)
  refine ⟨δ2,?_,by rw [N1w] at h4;exact h4⟩
  rw [N09,W6,h1]
  exact h3
noncomputable abbrev z6S:GS:=Y9 (q0I (gB (gOp dGt (q8b (gVar 1) (gVar 4) (gVar 5)) (gC (.int 0)))) (gB (gOp dNotIn (gVar 5) (gVar 2)))) (gSeq (gPut 2 (gVar 5) (gVar 4)) (q4d 3 (gVar 5))) Z6
noncomputable abbrev rchW:GS:=gSeq (gPopL 3 4) (z1B (gKeys (gVar 1) (gVar 4)) 5 [5] z6S)
noncomputable def rchS (s:Pl) (sh:Sh) (c:Cp) (r:Rc) (nw:List Pl) (o4 o5:Option D):DS:=[some (plD s),some (roomD sh c),some (rcD r),some (z8k nw),o4,o5]
section
variable {V:List Pl}{sh:Sh}{c:Cp}{s p q:Pl}{r:Rc}{nw:List Pl}
theorem z21 (hq:q∈adj sh p) (hl:r.length<=1000) (hn:nw.length<=1000):z6S (rchS s sh c r nw (some (plD p)) (some (plD q)))=.ok (.nx (if 0<c p q/\q∉r.map (·.1) then rchS s sh c (r++[(q,some p)]) (nw++[q]) (some (plD p)) (some (plD q)) else rchS s sh c r nw (some (plD p)) (some (plD q)))):=by
 have h1:dRm2 (roomD sh c) (plD p) (plD q)=.ok (.int (c p q)):=q7I hq
 have h2:=z20 r q
 have t1:∀ {b:Bool},decide (0<c p q)=b->gB (gOp dGt (q8b (gVar 1) (gVar 4) (gVar 5)) (gC (.int 0))) (rchS s sh c r nw (some (plD p)) (some (plD q)))=.ok b:=λ e=>by rw [<- e];exact x5 (j5 h1 rfl rfl)
 by_cases a:0<c p q
 ·by_cases b:q∈r.map (·.1)
  ·rw [N0o b] at h2
   rw [N0l (λ z=>z.2 b)]
   exact ifN (z0b (t1 (N0o a)) (x5 (j5 rfl rfl (niT h2)))) rfl
  ·rw [N0e b] at h2
   rw [N0j ⟨a,b⟩]
   refine ifY (z0b (t1 (N0o a)) (x5 (j5 rfl rfl (niF h2)))) (j6 (q4D rfl rfl rfl (z68 hl b)) (Eq.trans (q3O rfl rfl (by rw [N01];lia)) ?_))
   unfold rchS z8k
   rw [N14];rfl
 ·rw [N0l (λ z=>a z.1)]
  exact ifN (z4y (t1 (N0e a))) rfl
structure RI (V:List Pl) (sh:Sh) (c:Cp) (s:Pl) (ex:List Pl) (r:Rc) (nw:List Pl) (d:Nat):Prop where
 tree:Tree c s r
 sub:∀ v∈r.map (·.1),v∈V
 nws:∀ v∈nw,v∈r.map (·.1)
 cnt:r.length=nw.length+d
 cls:∀ v∈r.map (·.1),v∉nw->v∉ex->∀ q∈adj sh v,0<c v q->q∈r.map (·.1)
theorem RI.len {ex:List Pl}{d:Nat}(h:RI V sh c s ex r nw d):r.length<=V.length:=by
 have:=y4 h.tree.nodup h.sub
 rwa [N01] at this
theorem RI.push {d:Nat}(h:RI V sh c s [p] r nw d) (hp:p∈r.map (·.1)) (hq:q∈V) (hc:0<c p q) (hn:q∉r.map (·.1)):RI V sh c s [p] (r++[(q,some p)]) (nw++[q]) d where
 tree:=.more h.tree hp hn hc
 sub:=λ v m=>by
  rw [V1] at m
  rcases mem_snoc.1 m with m | rfl
  ·exact h.sub v m
  ·exact hq
 nws:=λ v m=>by
  rw [V1]
  exact mem_snoc.2 ((mem_snoc.1 m).imp (h.nws v) id)
 cnt:=by rw [N06,N06,h.cnt];simp;lia
 cls:=λ v m hv hx u mu hu=>by
  rw [V1] at m ⊢
  rcases mem_snoc.1 m with m | rfl
  ·exact mem_snoc.2 (.inl (h.cls v m (λ z=>hv (mem_snoc.2 (.inl z))) hx u mu hu))
  ·exact absurd (mem_snoc.2 (.inr rfl)) hv
theorem z4e {d:Nat}(hV:V.length<=900) (had:∀ p q,q∈adj sh p->q∈V) (hp:p∈r.map (·.1)) (h:RI V sh c s [p] r nw d) :
 ∃ r' nw',W6 5 [5] z6S ((adj sh p).map plD) (rchS s sh c r nw (some (plD p)) none)=.ok (.nx (rchS s sh c r' nw' (some (plD p)) none))/\RI V sh c s [] r' nw' d:=by
 obtain ⟨δ',h1,r',nw',rfl,hI,hp',hall⟩:=U9 (g:=plD) (i:=5) (fg:=[5]) (body:=z6S) (λ a δ=>∃ r' nw',δ=rchS s sh c r' nw' (some (plD p)) none/\RI V sh c s [p] r' nw' d/\p∈r'.map (·.1)/\∀ q∈a,0<c p q->q∈r'.map (·.1)) (adj sh p) [] (rchS s sh c r nw (some (plD p)) none) ⟨r,nw,rfl,h,hp,λ o_ m=>(nomatch m)⟩ λ a q b e δ hδ=>by
  obtain ⟨r,nw,rfl,hI,hp,hall⟩:=hδ
  have mq:q∈adj sh p:=by rw [N1v] at e;rw [e];exact N05 _ (N00 ..)
  have hl:=hI.len
  have hc:=hI.cnt
  refine ⟨_,z21 (s:=s) (c:=c) mq (by lia) (by lia),?_⟩
  by_cases z:0<c p q/\q∉r.map (·.1)
  ·rw [N0j z]
   refine ⟨_,_,rfl,hI.push hp (had p q mq) z.1 z.2,by rw [V1];exact mem_snoc.2 (.inl hp),λ u mu hu=>?_⟩
   rw [V1]
   rcases mem_snoc.1 mu with m | rfl
   ·exact mem_snoc.2 (.inl (hall u m hu))
   ·exact mem_snoc.2 (.inr rfl)
  ·rw [N0l z]
   refine ⟨_,_,rfl,hI,hp,λ u mu hu=>?_⟩
   rcases mem_snoc.1 mu with m | rfl
   ·exact hall u m hu
   ·exact N1n λ y=>z ⟨hu,y⟩
 refine ⟨r',nw',h1,hI.tree,hI.sub,hI.nws,hI.cnt,λ v m hv o_ u mu hu=>?_⟩
 by_cases e:v=p
 ·subst e;exact hall u mu hu
 ·exact hI.cls v m hv (λ z=>e (N0f.1 z)) u mu hu
theorem q5O (hV:V.length<=90) (had:∀ p q,q∈adj sh p->q∈V) (hk:sh.map (·.1)=V):∀ (F d:Nat) (r:Rc) (nw:List Pl),V.length<F+d->RI V sh c s [] r nw d ->
 ∃ r' d',y8 [4,5] (gTru (gVar 3)) rchW F (rchS s sh c r nw none none)=.ok (.nx (rchS s sh c r' [] none none))/\RI V sh c s [] r' [] d'
 | 0,d,r,nw,hF,h=>by have:=h.len;have:=h.cnt;omega
 | F+1,d,r,nw,hF,h=>by
  have ht:gTru (gVar 3) (rchS s sh c r nw none none)=.ok (!nw.isEmpty):=by
   show Rz.ok (!(nw.map plD).isEmpty)=_
   rw [List.isEmpty_map]
  rw [y8,ht,Z3]
  cases hg:nw.getLast? with
  | none =>
   have:nw=[]:=List.getLast?_eq_none_iff.1 hg
   subst this
   exact ⟨r,d,rfl,h⟩
  | some p =>
   have hsp:nw=nw.dropLast++[p]:=by
    obtain ⟨l,e⟩:=List.getLast?_eq_some_iff.1 hg
    rw [e,List.dropLast_concat]
   have hne:(!nw.isEmpty)=true:=by rw [hsp];simp
   rw [hne,N0j rfl]
   generalize nw.dropLast=nv at hsp
   subst hsp
   have hp:p∈r.map (·.1):=h.nws p (mem_snoc.2 (.inr rfl))
   have hI:RI V sh c s [p] r nv (d+1):=⟨h.tree,h.sub,λ v m=>h.nws v (mem_snoc.2 (.inl m)),by have:=h.cnt;rw [N06,N11] at this;lia,λ v m hv hx=>h.cls v m (λ z=>(mem_snoc.1 z).elim hv λ y=>hx (N0f.2 y)) (λ y=>nomatch y)⟩
   obtain ⟨r',nw',h1,h2⟩:=z4e (by omega) had hp hI
   have hpop:gPopL 3 4 (rchS s sh c r (nv++[p]) none none)=.ok (.nx (rchS s sh c r nv (some (plD p)) none)):=by
    show (match ((nv++[p]).map plD).getLast? with | some d=>Rz.guard (d.imm=true) (Rz.ok (Out.nx ((((rchS s sh c r (nv++[p]) none none).set 3 (some (.lst ((nv++[p]).map plD).dropLast))).set 4 (some d))))) | none=>.un)=_
    rw [N14,List.map_singleton,List.getLast?_concat,List.dropLast_concat]
    show Rz.guard ((plD p).imm=true) _=_
    rw [j8 (q7B p)];rfl
   have hit:gKeys (gVar 1) (gVar 4) (rchS s sh c r nv (some (plD p)) none)=.ok ((adj sh p).map plD):=z0F (by rw [hk];exact h.sub p hp)
   have hb:rchW (rchS s sh c r (nv++[p]) none none)=.ok (.nx (rchS s sh c r' nw' (some (plD p)) none)):=by
    exact j6 hpop (by unfold z1B;rw [u9 hit h1];rfl)
   rw [hb]
   exact q5O hV had hk F (d+1) r' nw' (by lia) h2
theorem q8o (hV:V.length<=90) (had:∀ p q,q∈adj sh p->q∈V) (hk:sh.map (·.1)=V) (hs:s∈V) :
 ∃ r,F_l [plD s,roomD sh c]=.ok (rcD r)/\Tree c s r/\(∀ v∈r.map (·.1),v∈V)/\∀ v∈r.map (·.1),∀ q∈adj sh v,0<c v q->q∈r.map (·.1):=by
 obtain ⟨r,d,h1,h2⟩:=q5O (c:=c) (s:=s) hV had hk 100 0 [(s,none)] [s] (by lia) ⟨.one,λ v m=>by rw [N0f.1 m];exact hs,λ v m=>m,rfl,λ v m hv=>absurd m hv⟩
 refine ⟨r,?_,h2.tree,h2.sub,λ v m q mq=>h2.cls v m (λ z=>nomatch z) (λ z=>nomatch z) q mq⟩
 exact W1 (j6 (V3 rfl rfl) (j6 (V3 (z8d (q4E rfl (q7B s))) rfl) (j6 h1 (Z8 rfl))))
end
noncomputable abbrev z8l:GS:=gSeq (X4 3 (gIm (gOp dIx (gVar 0) (gVar 2)))) (gSeq (q0B 1 (gVar 3) (gVar 2) (gOp q8G (q8b (gVar 1) (gVar 3) (gVar 2)) (gC (.int 1)))) (gSeq (q0B 1 (gVar 2) (gVar 3) (gOp J3 (q8b (gVar 1) (gVar 2) (gVar 3)) (gC (.int 1)))) (X4 2 (gVar 3))))
noncomputable abbrev z8m:GT:=gB (gOp q6h (gOp dIx (gVar 0) (gVar 2)) (gC .non))
theorem q7L {sh:Sh}{a b:Pl}(hd:(sh.map (·.1)).Nodup) (h:b∈adj sh a):addE sh a b=sh:=by
 have:∀ e∈sh,(e.1,if e.1=a/\b∉e.2 then e.2++[b] else e.2)=e:=λ e he=>by
  have hn:¬ (e.1=a/\b∉e.2):=λ z=>z.2 (by
   have q:=q7D hd (show (e.1,e.2)∈sh from he)
   rw [z.1] at q
   unfold adj at h
   rwa [q] at h)
  rw [N0l hn]
 unfold addE
 exact (N25 this).trans (List.map_id _)
theorem z69 {r:Rc}{q:Pl}{o:Option Pl}(h:lkP r q=some o):dIx (rcD r) (plD q)=.ok (optD o):=by
 have e:dIx (rcD r) (plD q)=optR ((lkP r q).map optD):=rfl
 rw [e,h];rfl
theorem z22 {sh:Sh}{c:Cp}{r:Rc}{p q:Pl}(hd:(sh.map (·.1)).Nodup) (hl:∀ p,(adj sh p).length<=900) (hq:lkP r q=some (some p)) (ha:q∈adj sh p) (hb:p∈adj sh q) (ne:p≠q) :
 z8l [some (rcD r),some (roomD sh c),some (plD q),none]=.ok (.nx [some (rcD r),some (roomD sh (movC c p q)),some (plD p),some (plD p)]):=by
 have e1:X4 3 (gIm (gOp dIx (gVar 0) (gVar 2))) [some (rcD r),some (roomD sh c),some (plD q),none]=.ok (.nx [some (rcD r),some (roomD sh c),some (plD q),some (plD p)]):=W7 (q5y (j5 rfl rfl (z69 hq)) (q7B p))
 have v1:gOp q8G (q8b (gVar 1) (gVar 3) (gVar 2)) (gC (.int 1)) [some (rcD r),some (roomD sh c),some (plD q),some (plD p)]=.ok (.int (c p q - 1)):=j5 (q7I ha) rfl rfl
 have e2:=q2C (c:=c) (b:=q) (i:=1) (ga:=gVar 3) (gb:=gVar 2) hd (q26 ha) (by have:=hl p;omega) (δ:=[some (rcD r),some (roomD sh c),some (plD q),some (plD p)]) rfl v1 rfl rfl
 rw [q7L hd ha] at e2
 have v2:gOp J3 (q8b (gVar 1) (gVar 2) (gVar 3)) (gC (.int 1)) [some (rcD r),some (roomD sh (putC c p q (c p q - 1))),some (plD q),some (plD p)]=.ok (.int (c q p+1)):=by
  rw [z5K]
  show Rz.bind (dRm2 (roomD sh (putC c p q (c p q - 1))) (plD q) (plD p)) _=_
  rw [q7I hb]
  have:putC c p q (c p q - 1) q p=c q p:=by unfold putC;rw [N0l (λ z=>ne z.1.symm)]
  rw [this];rfl
 have e3:=q2C (c:=putC c p q (c p q - 1)) (b:=p) (i:=1) (ga:=gVar 2) (gb:=gVar 3) hd (q26 hb) (by have:=hl q;omega) (δ:=[some (rcD r),some (roomD sh (putC c p q (c p q - 1))),some (plD q),some (plD p)]) rfl v2 rfl rfl
 rw [q7L hd hb] at e3
 exact j6 e1 (j6 e2 (j6 e3 rfl))
theorem z0K {V:List Pl}{sh:Sh}{cT:Cp}{s:Pl}(hd:(sh.map (·.1)).Nodup) (hl:∀ p,(adj sh p).length<=900) (had:∀ p q,q∈adj sh p->q∈V) (hV:V.Nodup){R:Rc}(hR:(R.map (·.1)).Nodup){r:Rc}(T:Tree cT s r) (hA:∀ p q,(q,some p)∈r->q∈adj sh p/\p∈adj sh q) :
 (∀ e∈r,e∈R)->∀ (c:Cp) (q:Pl) (F:Nat),(∀ p q,(q,some p)∈r->0<c p q)->q∈r.map (·.1)->r.length<F->∃ c',y8 [3] z8m z8l F [some (rcD R),some (roomD sh c),some (plD q),none]=.ok (.nx [some (rcD R),some (roomD sh c'),some (plD s),none])/\Aug V c c' s q:=by
 have test:∀ {c:Cp}{q:Pl}{o:Option Pl},lkP R q=some o->z8m [some (rcD R),some (roomD sh c),some (plD q),none]=.ok (!q1z (optD o)):=λ {c q o} h=>by
  exact x5 (j5 (j5 rfl rfl (z69 h)) rfl rfl)
 induction T with
 | one =>
  intro sub c q F _ mq hF
  have:q=s:=N0f.1 mq
  subst this
  obtain ⟨F,rfl⟩:=Nat.exists_eq_succ_of_ne_zero (Nat.ne_of_gt (Nat.lt_of_le_of_lt (N1b _) hF))
  refine ⟨c,?_,Aug.refl V c q⟩
  rw [y8,test (q7D hR (sub _ (N0f.2 rfl)))];rfl
 | @more r p u T hp hu hpu ih =>
  intro sub c q F hc mq hF
  have ih':=ih (λ a b m=>hA a b (N0w _ m)) (λ e m=>sub e (N0w _ m))
  rw [N06,N11] at hF
  rw [V1] at mq
  rcases mem_snoc.1 mq with mq | rfl
  ·exact ih' c q F (λ a b m=>hc a b (N0w _ m)) mq (by lia)
  ·have mu:(q,some p)∈r++[(q,some p)]:=N05 _ (N0f.2 rfl)
   obtain ⟨F,rfl⟩:=Nat.exists_eq_succ_of_ne_zero (Nat.ne_of_gt (Nat.lt_of_le_of_lt (N1b _) hF))
   have ne:p≠q:=λ e=>hu (e▸hp)
   obtain ⟨ha,hb⟩:=hA p q mu
   have lk:=q7D hR (sub _ mu)
   obtain ⟨m1,m2,m3⟩:=z0J (c:=c) ne
   obtain ⟨c',h1,h2⟩:=ih' (movC c p q) p F (λ a b m=>by
    have nb:b≠q:=λ e=>hu (by rw [<- e];exact List.mem_map_of_mem (f:=(·.1)) m)
    by_cases z:a=q/\b=p
    ·rw [z.1,z.2,m2]
     have:=hc a b (N0w _ m)
     rw [z.1,z.2] at this
     omega
    ·rw [m3 a b (λ y=>nb y.2) z]
     exact hc a b (N0w _ m)) hp (by simp_all)
   refine ⟨c',?_,Aug.step hV (had q p hb) (had p q ha) ne (hc p q mu) h2⟩
   rw [y8,test lk,Z3,show (!q1z (optD (some p)))=true from rfl,N0j rfl,z22 hd hl lk ha hb ne]
   exact h1
theorem Tree.adj {c:Cp}{s:Pl}{r:Rc}(T:Tree c s r):∀ p q,(q,some p)∈r->0<c p q:=by
 induction T with
 | one=>intro p q m;rw [N0f] at m;cases m
 | more _ _ _ h ih =>
  intro p q m
  rcases mem_snoc.1 m with m | m
  ·exact ih p q m
  ·cases m;exact h
theorem z4f {V:List Pl}{sh:Sh}{c:Cp}{s:Pl}(hd:(sh.map (·.1)).Nodup) (hl:∀ p,(adj sh p).length<=900) (had:∀ p q,q∈adj sh p->q∈V) (hV:V.Nodup) (hV2:V.length<=90){r:Rc}(T:Tree c s r) (hsub:∀ v∈r.map (·.1),v∈V) (hA:∀ p q,0<c p q->q∈Fw.adj sh p/\p∈Fw.adj sh q) (ms:sunP∈r.map (·.1)) :
 ∃ c',F_o [roomD sh c,rcD r]=.ok (.non,[roomD sh c'])/\Aug V c c' s sunP:=by
 have hle:r.length<=V.length:=by
  have:=y4 T.nodup hsub
  rwa [N01] at this
 obtain ⟨c',h1,h2⟩:=z0K hd hl had hV T.nodup T (λ p q m=>hA p q (T.adj p q m)) (λ e m=>m) c sunP 100 T.adj ms (by lia)
 refine ⟨c',?_,h2⟩
 unfold F_o z6n q05
 show Rz.bind (y8 [3] z8m z8l 100 [some (rcD r),some (roomD sh c),some (plD sunP),none]) _=_
 rw [h1];rfl
mutual
noncomputable def Nd.sunny:Nd->Bool
 | .sun=>true
 | .eats _=>false
 | .any ps=>q3j ps
 | .all ps=>q3j ps
 | .some _ ps=>q3j ps
noncomputable def q3j:List Nd->Bool
 | []=>false
 | d::r=>d.sunny || q3j r
end
theorem q0d:∀ l:List Nd,q3j l=l.any Nd.sunny
 | []=>by rw [q3j];rfl
 | d::r=>by rw [q3j,N1i,q0d r]
theorem z23 (n:Nat) (d:Nd) (hl:d.parts.length<=1000) (ih:∀ e∈d.parts,F_m n [e.toD]=.ok (.bl e.sunny)):F_m (n+1) [d.toD]=.ok (.bl d.sunny):=by
 have hc:compL [] gYes (gCall (F_m n) (gCons (gVar 0) gNil)) (d.parts.map Nd.toD)=.ok (d.parts.map λ e=>D.bl e.sunny):=q0n λ e m=>by simp [ih e m]
 have hs:d.sunny=(d.word=="sun" || d.parts.any Nd.sunny):=by
  cases d with
  | sun=>rw [Nd.sunny];rfl
  | eats x=>rw [Nd.sunny];rfl
  | any ps=>rw [Nd.sunny,q0d];rfl
  | all ps=>rw [Nd.sunny,q0d];rfl
  | some k ps=>rw [Nd.sunny,q0d];rfl
 have t:gOp dEq (gOp dIx (gVar 0) (gC (.int 0))) (gC (.str "sun")) [some d.toD]=.ok (.bl (d.word=="sun")):=j5 (j5 rfl rfl (ix0 d)) rfl (by rw [q31,j8 (q30 _ _),q6t,q4x])
 have u:gCall z5j (gCons (U2 (gItS (gCall F_h (gCons (gVar 0) gNil))) [] gYes (gCall (F_m n) (gCons (gVar 0) gNil))) gNil) [some d.toD]=.ok (.bl (d.parts.any Nd.sunny)):=w6 (Q2 (V7 (z0f (w6 rfl (q7z d))) hc (by rw [N01];exact hl)) rfl) (by rw [z3U,q4C];simp)
 refine W1 (δ:=[some d.toD]) ?_
 show q86 (gOr _ _) [some d.toD]=_
 unfold q86 gOr
 rw [t,hs]
 cases (d.word=="sun") with
 | true=>rfl
 | false=>rw [Z3,u,Bool.false_or];rfl
theorem q1h {ss:List Str}{sm:Bool}:∀ (n:Nat) (d:Nd),d.ok ss sm->d.depth<=n->F_m n [d.toD]=.ok (.bl d.sunny)
 | 0,d,_,h=>by have:=U0 d;simp_all
 | n+1,d,hk,h=>z23 n d (by have:=(q0q hk).1;omega) λ e he=>q1h n e (q38 (q0q hk).2 he) (x3 h he)
noncomputable def capW:Cp:=λ p o_=>if p.2=s!"in" then 1 else 100
noncomputable def plsW (x:Str) (ot:List Str):List Pl:=[pO x,sunP]++ot.flatMap λ k=>[pI k,pO k]
noncomputable def E0W (ot:List Str):List (Pl×Pl):=ot.map λ k=>(pI k,pO k)
noncomputable def q8H (ot:List Str) (k:Str) (l:List Str):List (Pl×Pl):=(l.filter λ e=>decide (e∈ot) && !decide (e=k)).map λ e=>(pO k,pI e)
noncomputable def z6a (ot:List Str) (p:Str×Nd):List (Pl×Pl):=q8H ot p.1 p.2.names++if p.2.sunny=true then [(pO p.1,sunP)] else []
noncomputable def edW (ot:List Str) (l:List (Str×Nd)):List (Pl×Pl):=E0W ot++l.flatMap (z6a ot)
theorem z0Y {δ:DS}{i:Nat}{k:Str}{z:Str}(h:δ[i]? = some (some (.str k))):gTup (gCons (gVar i) (gCons (gC (.str z)) gNil)) δ=.ok (plD (k,z)):=by
 simp [h];rfl
theorem q2D {F:PFI}{i:Nat}{ga:GA}{δ:DS}{ds:List D}{d d':D}(hi:δ[i]? = some (some d)) (ho:d.imO=true) (ha:ga δ=.ok ds) (hF:F (d::ds)=.ok (.non,[d'])):V4 (q0y F [i] ga) δ=.ok (.nx (δ.set i (some d'))):=by
 simp [hi,ho,ha,hF]
theorem mem_plsW {x:Str}{ot:List Str}{p:Pl}:p∈plsW x ot↔p=pO x\/p=sunP\/∃ k∈ot,p=pI k\/p=pO k:=by
 unfold plsW
 rw [N0a,N0c,N0f,List.mem_flatMap]
 constructor
 ·rintro ((h | h) | ⟨k,m,h⟩)
  ·exact .inl h
  ·exact .inr (.inl h)
  ·rw [N0c,N0f] at h
   exact .inr (.inr ⟨k,m,h⟩)
 ·rintro (h | h | ⟨k,m,h⟩)
  ·exact .inl (.inl h)
  ·exact .inl (.inr h)
  ·exact .inr ⟨k,m,by rw [N0c,N0f];exact h⟩
theorem q1R (x:Str) (ot:List Str):(plsW x ot).length=2+2 * ot.length:=by
 unfold plsW
 rw [N06]
 have:∀ l:List Str,(l.flatMap λ k=>[pI k,pO k]).length=2 * l.length:=λ l=>by
  induction l with
  | nil=>rfl
  | cons a r ih=>rw [List.flatMap_cons,N06,ih,N0h];simp;lia
 rw [this];rfl
theorem q3k (x:Str) (a:List Str) (k:Str):plsW x (a++[k])=plsW x a++[pI k]++[pO k]:=by
 unfold plsW
 rw [List.flatMap_append]
 simp
theorem z24 (a:List Str) (k:Str):E0W (a++[k])=E0W a++[(pI k,pO k)]:=by unfold E0W;rw [N14];rfl
section
variable {w:D}{x:Str}{ot:List Str}
noncomputable def rmS (w:D) (x:Str) (sh:Sh) (c:Cp) (ot:List Str) (o4 o5 o6:Option D):DS:=[some w,some (.str x),some (roomD sh c),some (strsL ot),o4,o5,o6]
noncomputable abbrev z8X:GS:=gSeq (q2Z 2 (gTup (gCons (gVar 4) (gCons (gC (.str "in")) gNil)))) (gSeq (q2Z 2 (gTup (gCons (gVar 4) (gCons (gC (.str "out")) gNil)))) (V4 (q0y F_q [2] (gCons (gTup (gCons (gVar 4) (gCons (gC (.str "in")) gNil))) (gCons (gTup (gCons (gVar 4) (gCons (gC (.str "out")) gNil))) (gCons (gC (.int 1)) gNil))))))
theorem z0L (hd:ot.Nodup) (hx:x∉ot) (hs:s!"sun"∉ot) (hl:ot.length<=16){sh:Sh}{c:Cp}(h:RoomI (plsW x []) [] capW sh c) :
 ∃ sh' c',W6 4 [4] z8X (ot.map D.str) (rmS w x sh c ot none none none)=.ok (.nx (rmS w x sh' c' ot none none none))/\RoomI (plsW x ot) (E0W ot) capW sh' c':=by
 obtain ⟨δ',h1,sh',c',rfl,hI⟩:=U9 (g:=D.str) (i:=4) (fg:=[4]) (body:=z8X) (λ a δ=>∃ sh c,δ=rmS w x sh c ot none none none/\RoomI (plsW x a) (E0W a) capW sh c) ot [] (rmS w x sh c ot none none none) ⟨sh,c,rfl,h⟩ λ a k b e δ hδ=>by
  obtain ⟨sh,c,rfl,hI⟩:=hδ
  rw [N1v] at e
  have mk:k∈ot:=by rw [e];exact N05 _ (N00 ..)
  have ka:k∉a:=λ m=>by
   rw [e,N1t] at hd
   exact hd.2.2 k m k (N00 ..) rfl
  have al:a.length<=16:=by rw [e,N06] at hl;lia
  have n1:pI k∉plsW x a:=λ m=>by
   rcases mem_plsW.1 m with z | z | ⟨y,my,z | z⟩
   ·exact pIO z
   ·exact hs (V0 (show pI k=pI "sun" from z)▸mk)
   ·exact ka (V0 z▸my)
   ·exact pIO z
  have n2:pO k∉plsW x a++[pI k]:=λ m=>by
   rcases mem_snoc.1 m with m | z
   ·rcases mem_plsW.1 m with z | z | ⟨y,my,z | z⟩
    ·exact hx (pO_inj z▸mk)
    ·exact q8m z.symm
    ·exact pOI z
    ·exact ka (pO_inj z▸my)
   ·exact pOI z
  have r1:=hI.row n1
  have r2:=r1.row n2
  rw [<- q3k] at r2
  have hl2:(plsW x (a++[k])).length<=900:=by rw [q1R,N06,N11];lia
  have kl:sh.length<=900:=by
   have:=congrArg List.length hI.keys
   rw [N01,q1R] at this
   lia
  obtain ⟨m1,m2⟩:=r2.make (a:=pI k) (b:=pO k) (by rw [q3k];exact mem_snoc.2 (.inl (mem_snoc.2 (.inr rfl)))) (by rw [q3k];exact mem_snoc.2 (.inr rfl)) pIO (λ m=>by
   unfold E0W at m
   obtain ⟨y,_,z⟩:=N1z.1 m
   exact pIO (congrArg Prod.fst z)) hl2
  have hc1:capW (pI k) (pO k)=1:=N0j rfl
  rw [hc1] at m1
  rw [<- z24] at m2
  have e1:=q7J (c:=c) (i:=2) (ga:=gTup (gCons (gVar 4) (gCons (gC (.str "in")) gNil))) (δ:=rmS w x sh c ot (some (.str k)) none none) (by rw [hI.keys];exact n1) (by omega) rfl (z0Y rfl)
  have e2:=q7J (sh:=sh++[(pI k,[])]) (c:=c) (i:=2) (ga:=gTup (gCons (gVar 4) (gCons (gC (.str "out")) gNil))) (δ:=rmS w x (sh++[(pI k,[])]) c ot (some (.str k)) none none) (by rw [r1.keys];exact n2) (by rw [N06,N11];lia) rfl (z0Y rfl)
  have e3:=q2D (F:=F_q) (i:=2) (ga:=gCons (gTup (gCons (gVar 4) (gCons (gC (.str "in")) gNil))) (gCons (gTup (gCons (gVar 4) (gCons (gC (.str "out")) gNil))) (gCons (gC (.int 1)) gNil))) (δ:=rmS w x (sh++[(pI k,[])]++[(pO k,[])]) c ot (some (.str k)) none none) (ds:=[plD (pI k),plD (pO k),.int 1]) rfl rfl (by
   rw [q1K,z0Y rfl,Z3,q1K,z0Y rfl];rfl) m1
  rw [hc1] at m2
  exact ⟨_,j6 e1 (j6 e2 e3),_,_,rfl,m2⟩
 exact ⟨sh',c',h1,hI⟩
noncomputable abbrev z8n:GS:=Y9 (q0I (gB (gOp dIn (gVar 6) (gVar 3))) (gB (gOp dNe (gVar 6) (gVar 4)))) (V4 (q0y F_q [2] (gCons (gTup (gCons (gVar 4) (gCons (gC (.str "out")) gNil))) (gCons (gTup (gCons (gVar 6) (gCons (gC (.str "in")) gNil))) (gCons (gC (.int 100)) gNil))))) Z6
noncomputable abbrev z8Y:GS:=Y9 (gTru (gCall (F_m 8) (gCons (gVar 5) gNil))) (V4 (q0y F_q [2] (gCons (gTup (gCons (gVar 4) (gCons (gC (.str "out")) gNil))) (gCons (gC (plD ("sun","in"))) (gCons (gC (.int 100)) gNil))))) Z6
noncomputable abbrev z8o:GS:=gSeq (X4 5 (u5 0 "need_of" F_g (gVar 0) (gCons (gVar 4) gNil))) (gSeq (q1B (gItS (gCall (F_r 8) (gCons (gVar 5) gNil))) 6 [6] z8n) z8Y)
noncomputable def z25 (ot:List Str) (E:List (Pl×Pl)):Prop:=∀ p q,(p,q)∈E->(∃ k∈ot,p=pI k/\q=pO k)\/∃ k,p=pO k
theorem z0M (ot:List Str) (k:Str) (b:List Str) (e:Str):q8H ot k (b++[e])=q8H ot k b++if e∈ot/\e≠k then [(pO k,pI e)] else []:=by
 unfold q8H
 rw [List.filter_append,N14]
 congr 1
 by_cases z:e∈ot/\e≠k
 ·rw [N0j z,N1e,N0j (by simp [z.1,z.2])];rfl
 ·rw [N0l z,N1e,N0l (λ y=>z ⟨by simp at y;exact y.1,by simp at y;exact y.2⟩)];rfl
theorem z25.snoc {E:List (Pl×Pl)}(h:z25 ot E) (k:Str) (q:Pl):z25 ot (E++[(pO k,q)]):=λ a b m=>by
 rcases pr_mem.1 m with m | m
 ·exact h a b m
 ·exact .inr ⟨k,m.1⟩
theorem q3W (k:Str) (q:Pl):capW (pO k) q=100:=N0l (λ z=>z67 (Eq.symm z))
theorem q8p {V:List Pl}{E:List (Pl×Pl)}{k:Str}{v:D}(hl:V.length<=900) (hk:pO k∈V) (ho:∀ e∈ot,pI e∈V) (l:List Str){sh:Sh}{c:Cp}(h:RoomI V E capW sh c) (hE:z25 ot E) :
 ∃ sh' c',W6 6 [6] z8n (l.map D.str) (rmS w x sh c ot (some (.str k)) (some v) none)=.ok (.nx (rmS w x sh' c' ot (some (.str k)) (some v) none))/\RoomI V (E++q8H ot k l) capW sh' c'/\z25 ot (E++q8H ot k l):=by
 obtain ⟨δ',h1,sh',c',rfl,hI⟩:=U9 (g:=D.str) (i:=6) (fg:=[6]) (body:=z8n) (λ a δ=>∃ sh c,δ=rmS w x sh c ot (some (.str k)) (some v) none/\RoomI V (E++q8H ot k a) capW sh c/\z25 ot (E++q8H ot k a)) l [] (rmS w x sh c ot (some (.str k)) (some v) none) ⟨sh,c,rfl,by rw [show q8H ot k []=[] from rfl,N10];exact ⟨h,hE⟩⟩ λ a e b o_ δ hδ=>by
  obtain ⟨sh,c,rfl,hI,hE⟩:=hδ
  have i1:=q24 e ot
  rw [z0M,<- N1w]
  by_cases z:e∈ot/\e≠k
  ·rw [N0j z]
   obtain ⟨m1,m2⟩:=hI.make (a:=pO k) (b:=pI e) hk (ho e z.1) pOI (λ m=>by
    rcases hE _ _ m with ⟨y,_,e1,e2⟩ | ⟨y,e1⟩
    ·exact z.2 ((V0 e1).trans (pO_inj e2).symm)
    ·exact pIO e1) hl
   rw [q3W] at m1
   rw [q3W] at m2
   have e3:=q2D (F:=F_q) (i:=2) (ga:=gCons (gTup (gCons (gVar 4) (gCons (gC (.str "out")) gNil))) (gCons (gTup (gCons (gVar 6) (gCons (gC (.str "in")) gNil))) (gCons (gC (.int 100)) gNil))) (δ:=rmS w x sh c ot (some (.str k)) (some v) (some (.str e))) (ds:=[plD (pO k),plD (pI e),.int 100]) rfl rfl (by
    rw [q1K,z0Y rfl,Z3,q1K,z0Y rfl];rfl) m1
   rw [N0o z.1] at i1
   exact ⟨_,ifY (z0b (x5 (j5 rfl rfl (q35 i1))) (x5 (j5 rfl rfl (ne_of z.2)))) e3,_,_,rfl,m2,hE.snoc k _⟩
  ·rw [N0l z,N10]
   refine ⟨rmS w x sh c ot (some (.str k)) (some v) (some (.str e)),?_,_,_,rfl,hI,hE⟩
   by_cases y:e∈ot
   ·rw [N0o y] at i1
    exact ifN (z0b (x5 (j5 rfl rfl (q35 i1))) (x5 (j5 rfl rfl (z49 λ u=>z ⟨y,u⟩)))) rfl
   ·rw [N0e y] at i1
    exact ifN (z4y (x5 (j5 rfl rfl (q35 i1)))) rfl
 exact ⟨sh',c',h1,hI⟩
theorem z0N {V:List Pl}{ks:List Str}{vs:List Nd}(hw:WebOk ks vs) (hl:V.length<=900) (hk:∀ k∈ks,pO k∈V) (ho:∀ e∈ot,pI e∈V) (hsv:sunP∈V) (hs:s!"sun"∉ot){sh:Sh}{c:Cp}(h:RoomI V (E0W ot) capW sh c) (hE:z25 ot (E0W ot)) :
 ∃ sh' c',W6 4 [4,5,6] z8o (ks.map D.str) (rmS (webD ks vs) x sh c ot none none none)=.ok (.nx (rmS (webD ks vs) x sh' c' ot none none none))/\RoomI V (edW ot (ks.zip vs)) capW sh' c'/\z25 ot (edW ot (ks.zip vs)):=by
 rw [q6F D.str hw.len]
 obtain ⟨δ',h1,sh',c',rfl,hI⟩:=U9 (g:=λ p:Str×Nd=>D.str p.1) (i:=4) (fg:=[4,5,6]) (body:=z8o) (λ a δ=>∃ sh c,δ=rmS (webD ks vs) x sh c ot none none none/\RoomI V (edW ot a) capW sh c/\z25 ot (edW ot a)) (ks.zip vs) [] (rmS (webD ks vs) x sh c ot none none none) ⟨sh,c,rfl,by unfold edW;rw [List.flatMap_nil,N10];exact ⟨h,hE⟩⟩ λ a p b e δ hδ=>by
  obtain ⟨sh,c,rfl,hI,hE⟩:=hδ
  obtain ⟨k,v⟩:=p
  have mp:(k,v)∈ks.zip vs:=by rw [N1v] at e;rw [e];exact N05 _ (N00 ..)
  obtain ⟨i1,i2,i3⟩:=q1g hw.nd mp
  have hn:=q1f ks vs k v i1 i3
  obtain ⟨⟨ss,sm,g1⟩,g2⟩:=hw.good v i2
  have hlv:v.leaves<=500:=by have:=q5A 2 _ g1 (by simp_all);omega
  have hnm:=q3h (ss:=ss) (sm:=sm) 8 v hlv (by omega)
  have hsn:=q1h 8 v g1 (by omega)
  obtain ⟨sh1,c1,l1,r1,E1⟩:=q8p (w:=webD ks vs) (x:=x) (v:=v.toD) hl (hk k i1) ho v.names hI hE
  have hE':edW ot (a++[(k,v)])=edW ot a++q8H ot k v.names++if v.sunny=true then [(pO k,sunP)] else []:=by
   unfold edW
   rw [List.flatMap_append,List.flatMap_cons,List.flatMap_nil,N10]
   unfold z6a
   simp only [N1w]
  have go:∀ {o:DS},z8Y (rmS (webD ks vs) x sh1 c1 ot (some (.str k)) (some v.toD) none)=.ok (.nx o)->z8o ((rmS (webD ks vs) x sh c ot none none none).set 4 (some (.str k)))=.ok (.nx o):=λ ho =>
   j6 (W7 (q0D rfl rfl rfl hn)) (j6 (u9 (q0C (w6 rfl hnm)) l1) ho)
  have s3:gTru (gCall (F_m 8) (gCons (gVar 5) gNil)) (rmS (webD ks vs) x sh1 c1 ot (some (.str k)) (some v.toD) none)=.ok v.sunny:=Y3 (w6 rfl hsn)
  rw [hE']
  cases z:v.sunny with
  | true =>
   rw [N0j rfl]
   obtain ⟨m1,m2⟩:=r1.make (a:=pO k) (b:=sunP) (hk k i1) hsv q8m.symm (λ m=>by
    rcases E1 _ _ m with ⟨y,my,e1,e2⟩ | ⟨y,e1⟩
    ·exact hs (V0 (show pI "sun" = pI y from e1)▸my)
    ·exact q8m e1) hl
   rw [q3W] at m1
   rw [q3W] at m2
   have e3:=q2D (F:=F_q) (i:=2) (ga:=gCons (gTup (gCons (gVar 4) (gCons (gC (.str "out")) gNil))) (gCons (gC (plD ("sun","in"))) (gCons (gC (.int 100)) gNil))) (δ:=rmS (webD ks vs) x sh1 c1 ot (some (.str k)) (some v.toD) none) (ds:=[plD (pO k),plD sunP,.int 100]) rfl rfl (by
    rw [q1K,z0Y rfl];rfl) m1
   rw [z] at s3
   exact ⟨_,go (ifY s3 e3),_,_,rfl,m2,E1.snoc k _⟩
  | false =>
   rw [N0l N0d,N10]
   rw [z] at s3
   exact ⟨rmS (webD ks vs) x sh1 c1 ot (some (.str k)) (some v.toD) none,go (ifN s3 rfl),_,_,rfl,r1,E1⟩
 exact ⟨sh',c',h1,hI⟩
end
noncomputable def othW (ks:List Str) (x:Str):List Str:=ks.filter λ k=>decide (k≠x)
theorem z4g {ks:List Str}{vs:List Nd}{x:Str}(hw:WebOk ks vs) (hx:x∈ks) (hs:s!"sun"∉ks) :
 ∃ sh c,F_t [webD ks vs,.str x]=.ok (roomD sh c)/\RoomI (plsW x (othW ks x)) (edW (othW ks x) (ks.zip vs)) capW sh c:=by
 have oks:∀ k∈othW ks x,k∈ks/\k≠x:=λ k m=>⟨(N1u.1 m).1,of_decide_eq_true (N1u.1 m).2⟩
 have okn:(othW ks x).Nodup:=hw.nd.sublist N23
 have okl:(othW ks x).length<=16:=N0v (N22 _ _) hw.le
 have hxo:x∉othW ks x:=λ m=>(oks x m).2 rfl
 have hso:s!"sun"∉othW ks x:=λ m=>hs (oks _ m).1
 have h0:RoomI (plsW x []) [] capW [(pO x,[]),(sunP,[])] (λ o_ o_=>0):=by
  refine ⟨rfl,?_,λ p=>?_,λ p q=>?_,λ e m=>(nomatch m),λ p q=>(N0l (λ z=>nomatch z)).symm⟩
  ·show [pO x,sunP].Nodup
   exact N1s.2 ⟨λ m=>q8m (N0f.1 m).symm,by simp⟩
  all_goals
   have:adj [(pO x,[]),(sunP,[])] p=[]:=by
    unfold adj
    rw [X2,X2]
    by_cases z:pO x=p
    ·rw [N0j z];rfl
    ·rw [N0l z]
     by_cases y:sunP=p
     ·rw [N0j y];rfl
     ·rw [N0l y];rfl
   rw [this]
  ·exact N27
  ·exact ⟨λ m=>(nomatch m),λ m=>m.elim (λ m=>nomatch m) λ m=>nomatch m⟩
 obtain ⟨sh1,c1,l1,r1⟩:=z0L (w:=webD ks vs) okn hxo hso okl h0
 obtain ⟨sh2,c2,l2,r2,_⟩:=z0N (x:=x) hw (by rw [q1R];lia) (λ k m=>by
  by_cases z:k=x
  ·rw [z];exact mem_plsW.2 (.inl rfl)
  ·exact mem_plsW.2 (.inr (.inr ⟨k,N1u.2 ⟨m,N0o z⟩,.inr rfl⟩))) (λ e m=>mem_plsW.2 (.inr (.inr ⟨e,m,.inl rfl⟩))) (mem_plsW.2 (.inr (.inl rfl))) hso r1 (λ p q m=>by
  unfold E0W at m
  obtain ⟨k,mk,z⟩:=N1z.1 m
  exact .inl ⟨k,mk,(congrArg Prod.fst z).symm,(congrArg Prod.snd z).symm⟩)
 refine ⟨sh2,c2,?_,r2⟩
 have e1:z6o (gTup (gCons (gVar 1) (gCons (gC (.str "out")) gNil))) (gC (plD ("sun","in"))) [some (webD ks vs),some (.str x),none,none,none,none,none]=.ok (roomD [(pO x,[]),(sunP,[])] (λ o_ o_=>0)):=by
  unfold z6o
  rw [z0Y (k:=x) rfl]
  exact j8 q8m.symm
 have hc:compL [some (.str x)] (gB (gOp dNe (gVar 0) (gVar 1))) (gVar 0) (ks.map D.str)=.ok ((othW ks x).map D.str):=q1q λ k o_=>⟨by
  by_cases z:k≠x
  ·rw [N0o z];exact x5 (j5 rfl rfl (ne_of z))
  ·rw [N0e z];exact x5 (j5 rfl rfl (z49 z)),λ o_=>rfl⟩
 have hk:=q2A ks vs
 exact W1 (j6 (V3 e1 rfl) (j6 (W7 (z0c (V7 (q0C (q0D rfl rfl rfl hk)) hc (by rw [N01];omega)) (q4G (othW ks x)))) (j6 (u9 (q0C rfl) l1) (j6 (u9 (q0C (q0D rfl rfl rfl hk)) l2) (Z8 rfl)))))
noncomputable def z4h (ks:List Str) (vs:List Nd) (k e:Str):Prop:=∃ v,(k,v)∈ks.zip vs/\e∈v.names
noncomputable def sunW (ks:List Str) (vs:List Nd) (k:Str):Prop:=∃ v,(k,v)∈ks.zip vs/\v.sunny=true
theorem mem_edW {ot:List Str}{l:List (Str×Nd)}{p q:Pl}:(p,q)∈edW ot l↔(∃ k∈ot,p=pI k/\q=pO k)\/∃ k v,(k,v)∈l/\p=pO k/\((∃ e∈v.names,(e∈ot/\e≠k)/\q=pI e)\/(v.sunny=true/\q=sunP)):=by
 unfold edW E0W
 rw [N0a,N1z,List.mem_flatMap]
 constructor
 ·rintro (⟨k,m,z⟩ | ⟨⟨k,v⟩,m,z⟩)
  ·exact .inl ⟨k,m,(congrArg Prod.fst z).symm,(congrArg Prod.snd z).symm⟩
  ·refine .inr ⟨k,v,m,?_⟩
   unfold z6a q8H at z
   rcases N0a.1 z with z | z
   ·obtain ⟨e,me,z⟩:=N1z.1 z
    obtain ⟨m1,m2⟩:=N1u.1 me
    simp only [N0q,decide_eq_true_eq,Bool.not_eq_true',decide_eq_false_iff_not] at m2
    exact ⟨(congrArg Prod.fst z).symm,.inl ⟨e,m1,m2,(congrArg Prod.snd z).symm⟩⟩
   ·cases y:v.sunny with
    | false =>
     have z:(p,q)∈if v.sunny=true then [(pO k,sunP)] else []:=z
     rw [y,N0l N0d] at z
     cases z
    | true =>
     have z:(p,q)∈if v.sunny=true then [(pO k,sunP)] else []:=z
     rw [y,N0j rfl] at z
     have z:=N0f.1 z
     exact ⟨congrArg Prod.fst z,.inr ⟨rfl,congrArg Prod.snd z⟩⟩
 ·rintro (⟨k,m,rfl,rfl⟩ | ⟨k,v,m,rfl,⟨e,m1,m2,rfl⟩ | ⟨y,rfl⟩⟩)
  ·exact .inl ⟨k,m,rfl⟩
  ·refine .inr ⟨(k,v),m,?_⟩
   unfold z6a q8H
   refine N0w _ (N1z.2 ⟨e,N1u.2 ⟨m1,?_⟩,rfl⟩)
   simp only [N0q,decide_eq_true_eq,Bool.not_eq_true',decide_eq_false_iff_not]
   exact m2
  ·refine .inr ⟨(k,v),m,?_⟩
   unfold z6a
   refine N05 _ ?_
   show _∈if v.sunny=true then [(pO k,sunP)] else []
   rw [y,N0j rfl]
   exact N0f.2 rfl
theorem q00 {ks:List Str}{x k:Str}:k∈othW ks x↔k∈ks/\k≠x:=by
 unfold othW
 rw [N1u,decide_eq_true_eq]
theorem q7M {ks:List Str}{vs:List Nd}{x:Str}{sh:Sh}{c:Cp}(hx:x∈ks) (hs:s!"sun"∉ks) (hn:¬ sunW ks vs x) (r:RoomI (plsW x (othW ks x)) (edW (othW ks x) (ks.zip vs)) capW sh c) :
 Net (plsW x (othW ks x)) (othW ks x) x (z4h ks vs) (sunW ks vs) c where
 nd:=r.nd
 vI:=λ k m=>mem_plsW.2 (.inr (.inr ⟨k,m,.inl rfl⟩))
 vO:=λ k m=>mem_plsW.2 (.inr (.inr ⟨k,m,.inr rfl⟩))
 vx:=mem_plsW.2 (.inl rfl)
 vs:=mem_plsW.2 (.inr (.inl rfl))
 xo:=λ m=>(q00.1 m).2 rfl
 so:=λ m=>hs (q00.1 m).1
 nosun:=hn
 io:=λ k m=>by rw [r.cv,N0j (mem_edW.2 (.inl ⟨k,m,rfl,rfl⟩))];exact N0j rfl
 edge:=λ p q h=>by
  have m:(p,q)∈edW (othW ks x) (ks.zip vs):=N1n λ z=>h (by rw [r.cv,N0l z])
  rcases mem_edW.1 m with z | ⟨k,v,mk,rfl,z⟩
  ·exact .inl z
  ·refine .inr ⟨k,?_,rfl,?_,?_⟩
   ·by_cases e:k=x
    ·exact .inl e
    ·exact .inr (q00.2 ⟨(N24 mk).1,e⟩)
   ·rw [r.cv,N0j m,q3W]
   ·rcases z with ⟨e,m1,m2,rfl⟩ | ⟨y,rfl⟩
    ·exact .inl ⟨e,m2.1,rfl,m2.2,v,mk,m1⟩
    ·exact .inr ⟨rfl,v,mk,y⟩
noncomputable def sentN (sh:Sh) (c:Cp) (p:Pl):List Pl:=(adj sh p).filter λ q=>decide (q.1≠p.1)&&decide (0<c q p)
theorem q0e {sh:Sh}{c:Cp}{p q:Pl}:q∈sentN sh c p↔q∈adj sh p/\q.1≠p.1/\0<c q p:=by
 unfold sentN
 rw [N1u,N0q,decide_eq_true_eq,decide_eq_true_eq]
theorem q3X {sh:Sh}{c:Cp}{p:Pl}(hk:p∈sh.map (·.1)) (hl:(adj sh p).length<=1000) (sym:∀ q∈adj sh p,p∈adj sh q):F_y [plD p,roomD sh c]=.ok (z8k (sentN sh c p)):=by
 have hc:compL [some (plD p),some (roomD sh c)] (q0I (gB (gOp dNe (gOp dIx (gVar 0) (gC (.int 0))) (gOp dIx (gVar 1) (gC (.int 0))))) (gB (gOp dGt (q8b (gVar 2) (gVar 0) (gVar 1)) (gC (.int 0))))) (gVar 0) ((adj sh p).map plD)=.ok ((sentN sh c p).map plD):=q1q λ q mq=>⟨by
  have t2:gB (gOp dGt (q8b (gVar 2) (gVar 0) (gVar 1)) (gC (.int 0))) [some (plD q),some (plD p),some (roomD sh c)]=.ok (decide (0<c q p)):=x5 (j5 (q7I (sym q mq)) rfl rfl)
  by_cases z:q.1≠p.1
  ·rw [N0o z,Bool.true_and];exact z0b (x5 (j5 rfl rfl (ne_of z))) t2
  ·rw [N0e z,Bool.false_and];exact z4y (x5 (j5 rfl rfl (z49 z))),λ o_=>rfl⟩
 exact W1 (Z8 (V7 (z0F hk) hc (by
  rw [N01]
  exact N0v (N22 _ _) hl)))
theorem z2C (a:String) (h:(Str.ofString a).cps.all (· < 128)=true):Tx (Str.ofString a):=λ c m=>by
 have:=Array.all_eq_true_iff_forall_mem.1 h c (Array.mem_toList_iff.1 m)
 have:=of_decide_eq_true this
 omega
theorem z8p {p q:Pl}(h1:Tx p.1) (h2:Tx p.2) (h3:Tx q.1) (h4:Tx q.2):dNe (plD p) (plD q)=.ok (.bl (!decide (p=q))):=by
 have c1:∀ r:Pl,Tx r.1->Tx r.2->CmpD 1 (plD r):=λ r a b=>CmpD.tup λ y m=>by
  rcases N0c.1 m with rfl | m
  ·exact z0y a 0
  ·rw [N0f.1 m];exact z0y b 0
 rw [q5w,j8 (z0x (c1 p h1 h2) (c1 q h3 h4) (by decide) (by decide))]
 unfold plD
 rw [z3d,q2O,q2O,z1w,q0c,q0c,Bool.and_true]
 congr 3
 rw [N1y,N0q,decide_eq_true_eq,decide_eq_true_eq,decide_eq_true_eq]
 exact ⟨λ z=>Prod.ext z.1 z.2,λ z=>⟨congrArg Prod.fst z,congrArg Prod.snd z⟩⟩
theorem z4i:Tx s!"in":=z2C _ (by decide +kernel)
theorem z2D:Tx s!"sun":=z2C _ (by decide +kernel)
structure RoomF (V:List Pl) (sh:Sh) (c:Cp):Prop where
 keys:sh.map (·.1)=V
 nd:V.Nodup
 len:V.length<=90
 adV:∀ p q,q∈adj sh p->q∈V
 adn:∀ p,(adj sh p).Nodup
 sym:∀ p q,q∈adj sh p->p∈adj sh q
 pos:∀ p q,0<c p q->q∈adj sh p/\p∈adj sh q
theorem RoomF.adl {V:List Pl}{sh:Sh}{c:Cp}(h:RoomF V sh c) (p:Pl):(adj sh p).length<=90:=N0v (y4 (h.adn p) (h.adV p)) h.len
theorem RoomI.fin {V:List Pl}{E:List (Pl×Pl)}{cap:Cp}{sh:Sh}{c0 c:Cp}{s t:Pl}{j:Nat}(r:RoomI V E cap sh c0) (f:FI V c0 s t j c) (hl:V.length<=90):RoomF V sh c where
 keys:=r.keys
 nd:=r.nd
 len:=hl
 adV:=λ p q h=>r.adV h
 adn:=r.adn
 sym:=λ p q h=>r.sym h
 pos:=λ p q h=>by
  have:q∈adj sh p:=N1n λ z=>by
   rw [r.am] at z
   have z1:c0 p q=0:=by rw [r.cv,N0l λ y=>z (.inl y)]
   have z2:c0 q p=0:=by rw [r.cv,N0l λ y=>z (.inr y)]
   rw [f.off z1 z2] at h
   exact absurd h (by decide)
  exact ⟨this,r.sym this⟩
theorem pick {α β:Type} [Inhabited β] (l:List α){P:α->β->Prop}(h:∀ a∈l,∃ b,P a b):∃ f:α->β,∀ a∈l,P a (f a):=by
 classical
 refine ⟨λ a=>if h:∃ b,P a b then Classical.choose h else default,λ a m=>?_⟩
 have z:=h a m
 show P a (if h:∃ b,P a b then Classical.choose h else default)
 rw [dif_pos z]
 exact Classical.choose_spec z
noncomputable abbrev z8q:GS:=gSeq (q4d 2 (gOp dIx (gVar 3) (gC (.int 0)))) (X4 3 (gOp dIx (gCall F_y (gCons (gTup (gCons (gOp dIx (gVar 3) (gC (.int 0))) (gCons (gC (.str "out")) gNil))) (gCons (gVar 1) gNil))) (gC (.int 0))))
noncomputable abbrev z6T:GT:=gB (gOp dNe (gVar 3) (gC (plD ("sun","in"))))
section
variable {V:List Pl}{ot:List Str}{x:Str}{eats:Str->Str->Prop}{sun:Str->Prop}{c0 c:Cp}{j:Nat}{sh:Sh}
theorem q7N {d0 d1 d2:D}{p:Pl}(h1:Tx p.1) (h2:Tx p.2):z6T [some d0,some d1,some d2,some (plD p)]=.ok (!decide (p=sunP)):=by
 exact x5 (j5 rfl rfl (z8p h1 h2 z2D z4i))
variable (n:Net V ot x eats sun c0) (f:FI V c0 (pO x) sunP j c) (rf:RoomF V sh c) (ht:∀ k∈ot,Tx k) (hol:ot.length<=16)
include n f rf ht hol
theorem q5P {d0:D}:∀ (F:Nat) (W:List Str) (b e:Str),Chn c ot x W b->e∈ot->0<c (pI e) (pO b)->ot.length<F+W.length ->
 ∃ W' b',y8 [] z6T z8q F [some d0,some (roomD sh c),some (strsL W),some (plD (pI e))]=.ok (.nx [some d0,some (roomD sh c),some (strsL W'),some (plD sunP)])/\Chn c ot x W' b'/\W'.head? = (W++[e]).head? /\ b'∈ot/\sun b'
 | 0,W,b,e,hc,me,hl,hF=>by
  have:=(Chn.snoc hc me hl).len n f
  rw [N06,N11] at this
  omega
 | F+1,W,b,e,hc,me,hl,hF=>by
  have hc':=Chn.snoc hc me hl
  have hlen:=hc'.len n f
  rw [N06,N11] at hlen
  have hne:b≠e:=λ z=>by
   have:=(hc'.nodup n f).1
   rw [N1t] at this
   rcases hc.sub.2 with ⟨_,y⟩ | y
   ·exact n.xo (by rw [<- y,z];exact me)
   ·exact this.2.2 b y e (N0f.2 rfl) z
  obtain ⟨q,mq,q1,q2⟩:=z4c n f me (hc.inV n) (λ z=>hne (pO_inj z)) hl
  have fst_ne:∀ q,((∃ e'∈ot,q=pI e'/\e'≠e/\eats e e')\/(q=sunP/\sun e))->q.1≠e:=λ q h=>by
   rcases h with ⟨e',_,rfl,y,_⟩ | ⟨rfl,_⟩
   ·exact y
   ·exact λ z=>n.so ((show s!"sun" = e from z)▸me)
  have qs:q∈sentN sh c (pO e):=q0e.2 ⟨(rf.pos _ _ q2).2,fst_ne q (sent_edge n f (.inr me) q1 q2),q2⟩
  cases hs:sentN sh c (pO e) with
  | nil=>rw [hs] at qs;cases qs
  | cons h t =>
   have mh:h∈sentN sh c (pO e):=by rw [hs];exact N00 ..
   obtain ⟨m1,m2,m3⟩:=q0e.1 mh
   have he:=sent_edge n f (.inr me) (λ z=>m2 (by rw [z];rfl)) m3
   have key:pO e∈sh.map (·.1):=by rw [rf.keys];exact n.vO e me
   have hst:=q3X (c:=c) key (by have:=rf.adl (pO e);omega) (λ q mq=>rf.sym _ q mq)
   rw [hs] at hst
   have htest:z6T [some d0,some (roomD sh c),some (strsL W),some (plD (pI e))]=.ok true:=by
    have ns:¬ pI e=sunP:=λ z=>n.so (V0 (show pI e=pI "sun" from z)▸me)
    rw [q7N (p:=pI e) (ht e me) z4i,N0e ns];rfl
   have hbody:z8q [some d0,some (roomD sh c),some (strsL W),some (plD (pI e))]=.ok (.nx [some d0,some (roomD sh c),some (strsL (W++[e])),some (plD h)]):=by
    have e1:(D.lst (W.map D.str++[.str e]))=strsL (W++[e]):=by unfold strsL;rw [N14];rfl
    rw [<- e1]
    exact j6 (q3O rfl rfl (by rw [N01];lia)) (W7 (j5 (w6 (Q2 (q34 rfl rfl) rfl) hst) rfl (by
     show optR (atD (plD h::t.map plD) 0)=_
     rw [q6v];rfl)))
   rw [y8,htest,Z3,N0j rfl,hbody,Z3]
   show ∃ W' b',y8 [] z6T z8q F [some d0,some (roomD sh c),some (strsL (W++[e])),some (plD h)]=_/\_
   rcases he with ⟨e',me',rfl,_,_⟩ | ⟨rfl,se⟩
   ·obtain ⟨W',b',h1,h2,h3,h4⟩:=q5P F (W++[e]) e e' hc' me' m3 (by rw [N06,N11];lia)
    refine ⟨W',b',h1,h2,?_,h4⟩
    rw [h3]
    cases W<;>rfl
   ·refine ⟨W++[e],e,?_,hc',rfl,me,se⟩
    obtain ⟨G,rfl⟩:=Nat.exists_eq_succ_of_ne_zero (show F≠0 from λ z=>by subst z;lia)
    rw [y8,q7N z2D z4i,N0o rfl];rfl
theorem z6b {e:Str}(me:e∈ot) (hl:0<c (pI e) (pO x)):∃ W b,F_C [plD (pI e),roomD sh c]=.ok (strsL W)/\Chn c ot x W b/\W.head? = some e/\b∈ot/\sun b:=by
 obtain ⟨W,b,h1,h2,h3,h4⟩:=q5P n f rf ht hol (d0:=plD (pI e)) 100 [] x e .nil me hl (by lia)
 refine ⟨W,b,?_,h2,h3,h4⟩
 exact W1 (j6 (V3 z0g rfl) (j6 (W7 (q4E rfl (q7B _))) (j6 h1 (Z8 rfl))))
noncomputable def z26 (c:Cp) (ot:List Str) (x:Str) (sun:Str->Prop) (q:Pl) (W:List Str):Prop:=∃ e b,q=pI e/\Chn c ot x W b/\W.head? = some e/\b∈ot/\sun b
theorem z4j:∃ wf:Pl->List Str,F_z [plD (pO x),roomD sh c]=.ok (.lst ((sentN sh c (pO x)).map λ q=>strsL (wf q)))/\∀ q∈sentN sh c (pO x),z26 c ot x sun q (wf q):=by
 have h1:∀ q∈sentN sh c (pO x),∃ W,F_C [plD q,roomD sh c]=.ok (strsL W)/\z26 c ot x sun q W:=λ q mq=>by
  obtain ⟨m1,m2,m3⟩:=q0e.1 mq
  rcases sent_edge n f (.inl rfl) (λ z=>m2 (by rw [z];rfl)) m3 with ⟨e,me,rfl,_,_⟩ | ⟨_,se⟩
  ·obtain ⟨W,b,h1,h2⟩:=z6b n f rf ht hol me m3
   exact ⟨W,h1,e,b,rfl,h2⟩
  ·exact absurd se n.nosun
 obtain ⟨wf,h2⟩:=pick _ h1
 refine ⟨wf,?_,λ q mq=>(h2 q mq).2⟩
 have key:pO x∈sh.map (·.1):=by rw [rf.keys];exact n.vx
 have hst:=q3X (c:=c) key (by have:=rf.adl (pO x);omega) (λ q mq=>rf.sym _ q mq)
 have hsl:(sentN sh c (pO x)).length<=90:=N0v (N22 _ _) (rf.adl (pO x))
 have hc:compL [some (roomD sh c)] gYes (gCall F_C (gCons (gVar 0) (gCons (gVar 1) gNil))) ((sentN sh c (pO x)).map plD)=.ok ((sentN sh c (pO x)).map λ q=>strsL (wf q)):=q0n λ q mq=>w6 rfl (h2 q mq).1
 exact W1 (Z8 (V7 (q0C (w6 rfl hst)) hc (by rw [N01];omega)))
end
structure Rch (V:List Pl) (sh:Sh) (c:Cp) (s:Pl) (r:Rc):Prop where
 tree:Tree c s r
 sub:∀ v∈r.map (·.1),v∈V
 cls:∀ v∈r.map (·.1),∀ q∈adj sh v,0<c v q->q∈r.map (·.1)
noncomputable abbrev cutK:GT:=(q0I (gB (gOp dIn (gTup (gCons (gVar 0) (gCons (gC (.str "in")) gNil))) (gVar 1))) (gB (gOp dNotIn (gTup (gCons (gVar 0) (gCons (gC (.str "out")) gNil))) (gVar 1))))
noncomputable abbrev z8Z:GS:=gSeq (V4 (q0y F_o [3] (gCons (gVar 4) gNil))) (X4 4 (gCall F_l (gCons (gVar 2) (gCons (gVar 3) gNil))))
noncomputable abbrev z90:GT:=gB (gOp dIn (gC (plD ("sun","in"))) (gVar 4))
section
variable {V:List Pl}{E:List (Pl×Pl)}{ot:List Str}{x:Str}{eats:Str->Str->Prop}{sun:Str->Prop}{c0:Cp}{sh:Sh}
variable (n:Net V ot x eats sun c0) (ri:RoomI V E capW sh c0) (hl:V.length<=90)
include n ri hl
theorem q5Q {j:Nat}{c:Cp}(f:FI V c0 (pO x) sunP j c){d0 d1:D}{o4:Option D}:∃ r,X4 4 (gCall F_l (gCons (gVar 2) (gCons (gVar 3) gNil))) [some d0,some d1,some (plD (pO x)),some (roomD sh c),o4,none]=.ok (.nx [some d0,some d1,some (plD (pO x)),some (roomD sh c),some (rcD r),none])/\Rch V sh c (pO x) r:=by
 have rf:=ri.fin f hl
 obtain ⟨r,h1,h2,h3,h4⟩:=q8o (c:=c) (s:=pO x) hl rf.adV rf.keys n.vx
 exact ⟨r,W7 (w6 rfl h1),h2,h3,h4⟩
theorem q5R {d0 d1:D}:∀ (F j:Nat) (c:Cp) (r:Rc),FI V c0 (pO x) sunP j c->Rch V sh c (pO x) r->V.length<F+j ->
 ∃ j' c' r',y8 [] z90 z8Z F [some d0,some d1,some (plD (pO x)),some (roomD sh c),some (rcD r),none]=.ok (.nx [some d0,some d1,some (plD (pO x)),some (roomD sh c'),some (rcD r'),none])/\FI V c0 (pO x) sunP j' c'/\Rch V sh c' (pO x) r'/\sunP∉r'.map (·.1)
 | 0,j,c,r,f,_,hF=>by have:=z4d n f;omega
 | F+1,j,c,r,f,h,hF=>by
  have ht:z90 [some d0,some d1,some (plD (pO x)),some (roomD sh c),some (rcD r),none]=.ok (decide (sunP∈r.map (·.1))):=by
   exact x5 (j5 rfl rfl (q35 (z20 r sunP)))
  rw [y8,ht,Z3]
  by_cases z:sunP∈r.map (·.1)
  ·rw [N0o z,N0j rfl]
   have rf:=ri.fin f hl
   obtain ⟨c',h1,h2⟩:=z4f (by rw [rf.keys];exact rf.nd) (λ p=>by have:=rf.adl p;omega) rf.adV rf.nd hl h.tree h.sub rf.pos z
   have f':=f.step h2
   obtain ⟨r',h3,h4⟩:=q5Q n ri hl f' (d0:=d0) (d1:=d1) (o4:=some (rcD r))
   have hb:z8Z [some d0,some d1,some (plD (pO x)),some (roomD sh c),some (rcD r),none]=.ok (.nx [some d0,some d1,some (plD (pO x)),some (roomD sh c'),some (rcD r'),none]):=by
    exact j6 (q2D (d:=roomD sh c) (d':=roomD sh c') (ds:=[rcD r]) rfl rfl rfl h1) h3
   rw [hb,Z3]
   exact q5R F (j+1) c' r' f' h4 (by lia)
  ·rw [N0e z,N0l N0d]
   exact ⟨j,c,r,rfl,f,h,z⟩
end
noncomputable def z91 (ks:List Str) (vs:List Nd) (x:Str) (gone:List Str) (ws:List (List Str)):Prop :=
 ∃ (sh:Sh) (c0 c:Cp) (r:Rc) (j:Nat) (wf:Pl->List Str),RoomI (plsW x (othW ks x)) (edW (othW ks x) (ks.zip vs)) capW sh c0/\FI (plsW x (othW ks x)) c0 (pO x) sunP j c/\Rch (plsW x (othW ks x)) sh c (pO x) r/\sunP∉r.map (·.1) /\
  gone=(ks.filter λ k=>decide (pI k∈r.map (·.1)) && !decide (pO k∈r.map (·.1)))/\ws=(sentN sh c (pO x)).map wf/\∀ q∈sentN sh c (pO x),z26 c (othW ks x) x (sunW ks vs) q (wf q)
theorem z4k {ks:List Str}{vs:List Nd}{x:Str}{v:Nd}(hw:WebOk ks vs) (hx:x∈ks) (hp:F_B [webD ks vs]=.ok (.bl true)) (hv:needAt x ks vs=some v) (hv2:v∈vs) (hs:v.sunny=true):F_G [webD ks vs,.str x]=.ok .non:=by
 have h1:=q1O ks vs x hx
 have h2:=q1f ks vs x v hx hv
 obtain ⟨⟨ss,sm,g1⟩,g2⟩:=hw.good v hv2
 have h3:=q1h 8 v g1 (by omega)
 rw [hs] at h3
 exact W1 (j6 (q6x (q0D rfl rfl rfl h1)) (j6 (ifN (z0a (Y3 (w6 rfl hp))) rfl) (x9 (ifY (Y3 (w6 (Q2 (q0D rfl rfl rfl h2) rfl) h3)) (Z8 rfl)))))
theorem z6c {ks:List Str}{vs:List Nd}{x:Str}{v:Nd}(hw:WebOk ks vs) (hx:x∈ks) (hs:s!"sun"∉ks) (hp:F_B [webD ks vs]=.ok (.bl true)) (hv:needAt x ks vs=some v) (hv2:v∈vs) (hsn:v.sunny=false) :
 ∃ gone ws,F_G [webD ks vs,.str x]=.ok (.tup [strsL gone,.lst (ws.map strsL)])/\z91 ks vs x gone ws:=by
 have okl:(othW ks x).length<=16:=N0v (N22 _ _) hw.le
 have hl:(plsW x (othW ks x)).length<=90:=by rw [q1R];lia
 have htx:∀ k∈othW ks x,Tx k:=λ k m=>hw.tx k (q00.1 m).1
 have hns:¬ sunW ks vs x:=λ ⟨u,m,y⟩=>by
  have:=(q1g hw.nd m).2.2
  rw [hv] at this;cases this
  rw [hsn] at y;cases y
 obtain ⟨sh,c0,q1,ri⟩:=z4g hw hx hs
 have n:=q7M hx hs hns ri
 obtain ⟨r0,q2,R0⟩:=q5Q n ri hl (FI.start n.nn) (d0:=webD ks vs) (d1:=.str x) (o4:=none)
 obtain ⟨j,c,r,q3,f,R,hsr⟩:=q5R n ri hl (d0:=webD ks vs) (d1:=.str x) 100 0 c0 r0 (FI.start n.nn) R0 (by lia)
 obtain ⟨wf,q4,hw4⟩:=z4j n f (ri.fin f hl) htx okl
 refine ⟨_,(sentN sh c (pO x)).map wf,?_,sh,c0,c,r,j,wf,ri,f,R,hsr,rfl,rfl,hw4⟩
 have h1:=q1O ks vs x hx
 have h2:=q1f ks vs x v hx hv
 obtain ⟨⟨ss,sm,g1⟩,g2⟩:=hw.good v hv2
 have h3:=q1h 8 v g1 (by omega)
 rw [hsn] at h3
 have hk:=q2A ks vs
 have hc:compL [some (rcD r)] cutK (gVar 0) (ks.map D.str)=.ok ((ks.filter λ k=>decide (pI k∈r.map (·.1)) && !decide (pO k∈r.map (·.1))).map D.str):=q1q λ k o_=>⟨by
  have a2:gB (gOp dNotIn (gTup (gCons (gVar 0) (gCons (gC (.str "out")) gNil))) (gVar 1)) [some (.str k),some (rcD r)]=.ok (!decide (pO k∈r.map (·.1))):=x5 (j5 (z0Y (k:=k) rfl) rfl (by
   show dNotIn (plD (pO k)) (rcD r)=_
   rw [z03,z20];rfl))
  have a1:gB (gOp dIn (gTup (gCons (gVar 0) (gCons (gC (.str "in")) gNil))) (gVar 1)) [some (.str k),some (rcD r)]=.ok (decide (pI k∈r.map (·.1))):=x5 (j5 (z0Y (k:=k) rfl) rfl (q35 (z20 r (pI k))))
  by_cases z:pI k∈r.map (·.1)
  ·rw [N0o z] at a1 ⊢
   rw [Bool.true_and];exact z0b a1 a2
  ·rw [N0e z] at a1 ⊢
   rw [Bool.false_and];exact z4y a1,λ o_=>rfl⟩
 generalize hg:(ks.filter λ k=>decide (pI k∈r.map (·.1)) && !decide (pO k∈r.map (·.1)))=gone at hc ⊢
 have gl:gone.length<=16:=by rw [<- hg];exact N0v (N22 _ _) hw.le
 rw [show D.lst (((sentN sh c (pO x)).map wf).map strsL)=.lst ((sentN sh c (pO x)).map λ q=>strsL (wf q)) by rw [N1m];rfl]
 exact W1 (j6 (q6x (q0D rfl rfl rfl h1)) (j6 (ifN (z0a (Y3 (w6 rfl hp))) rfl) (j6 (ifN (Y3 (w6 (Q2 (q0D rfl rfl rfl h2) rfl) h3)) rfl) (j6 (W7 (q34 (q4E rfl (q6u x)) rfl)) (j6 (V3 (w6 rfl q1) rfl) (j6 q2 (j6 q3
  (j6 (W7 (z0c (V7 (q0C (q0D rfl rfl rfl hk)) hc (by rw [N01];omega)) (q4G gone))) (Z8 (q34 rfl (w6 rfl q4)))))))))))
mutual
noncomputable def Nd.plain:Nd->Bool
 | .sun=>true
 | .eats _=>true
 | .any ps=>q2k ps
 | .all _=>false
 | .some _ _=>false
noncomputable def q2k:List Nd->Bool
 | []=>true
 | d::r=>d.plain&&q2k r
end
theorem q28:∀ l:List Nd,q2k l=l.all Nd.plain
 | []=>by rw [q2k];rfl
 | d::r=>by rw [q2k,List.all_cons,q28 r]
theorem q8q (n:Nat) (d:Nd) (hl:d.parts.length<=1000) (ih:∀ e∈d.parts,F_e n [e.toD]=.ok (.bl e.plain)):F_e (n+1) [d.toD]=.ok (.bl d.plain):=by
 have hc:compL [] gYes (gCall (F_e n) (gCons (gVar 0) gNil)) (d.parts.map Nd.toD)=.ok (d.parts.map λ e=>D.bl e.plain):=q0n λ e m=>by simp [ih e m]
 have T:∀ {b:Bool},(("all"==d.word) || ("some"==d.word))=b->gB (gOp dIn (gOp dIx (gVar 0) (gC (.int 0))) (gTup (gCons (gC (.str "all")) (gCons (gC (.str "some")) gNil)))) [some d.toD]=.ok b:=λ h=>x5 (j5 (j5 rfl rfl (ix0 d)) (q34 rfl rfl) (q35 (by rw [<- h];simp [inD,flatD])))
 have G:(("all"==d.word) || ("some"==d.word))=false->F_e (n+1) [d.toD]=.ok (.bl (d.parts.all Nd.plain)):=λ h =>
  W1 (j6 (ifN (T h) rfl) (Z8 (w6 (Q2 (V7 (z0f (w6 rfl (q7z d))) hc (by rw [N01];exact hl)) rfl) (by rw [z02,q4C];simp))))
 cases d with
 | sun=>rw [Nd.plain];exact G rfl
 | eats x=>rw [Nd.plain];exact G rfl
 | any ps=>rw [Nd.plain,q28];exact G rfl
 | all ps=>rw [Nd.plain];exact W1 (x9 (ifY (T rfl) (Z8 rfl)))
 | some k ps=>rw [Nd.plain];exact W1 (x9 (ifY (T rfl) (Z8 rfl)))
theorem q1S {ss:List Str}{sm:Bool}:∀ (n:Nat) (d:Nd),d.ok ss sm->d.depth<=n->F_e n [d.toD]=.ok (.bl d.plain)
 | 0,d,_,h=>by have:=U0 d;simp_all
 | n+1,d,hk,h=>q8q n d (by have:=(q0q hk).1;omega) λ e he=>q1S n e (q38 (q0q hk).2 he) (x3 h he)
theorem q6M (ks:List Str) (vs:List Nd) (hl:ks.length=vs.length) (hm:ks.length<=16) (hd:ks.Nodup) (hg:∀ v∈vs,(∃ ss sm,v.ok ss sm)/\v.depth<=8):F_B [webD ks vs]=.ok (.bl (vs.all Nd.plain)):=by
 have hc:compL [some (webD ks vs)] gYes (gCall (F_e 8) (gCons (u5 0 "need_of" F_g (gVar 1) (gCons (gVar 0) gNil)) gNil)) (ks.map D.str)=.ok (vs.map λ e=>D.bl e.plain):=by
  rw [q6F D.str hl,z0w (λ e:Nd=>D.bl e.plain) hl]
  refine q0n λ p hp=>?_
  obtain ⟨hi1,hi2,hi3⟩:=q1g hd hp
  have hn:=q1f ks vs p.1 p.2 hi1 hi3
  obtain ⟨⟨ss,sm,h1⟩,h2⟩:=hg p.2 hi2
  exact w6 (Q2 (q0D rfl rfl rfl hn) rfl) (q1S 8 p.2 h1 h2)
 exact W1 (Z8 (w6 (Q2 (V7 (q0C (q0D rfl rfl rfl (q2A ks vs))) hc (by rw [N01];lia)) rfl) (by rw [z02,q4C];simp)))
mutual
theorem q7O {ss:List Str}:∀ d:Nd,d.ok ss true->d.plain=true
 | .sun,_=>by rw [Nd.plain]
 | .eats _,_=>by rw [Nd.plain]
 | .any ps,h=>by rw [Nd.ok] at h;rw [Nd.plain];exact q5S ps h.2.2
 | .all ps,h=>by rw [Nd.ok] at h;cases h.1
 | .some _ ps,h=>by rw [Nd.ok] at h;cases h.1
theorem q5S {ss:List Str}:∀ l:List Nd,okL ss true l->q2k l=true
 | [],_=>by rw [q2k]
 | d::r,h=>by rw [okL] at h;rw [q2k,q7O d h.1,q5S r h.2];rfl
end
theorem q7P (f:Pl->Pl->Int):∀ A B:List Pl,sumV A (λ v=>sumV B (λ q=>f v q))=sumV B (λ q=>sumV A (λ v=>f v q))
 | [],B=>by rw [z0G];exact (V8 λ q o_=>z0G).symm
 | a::A,B=>by
  rw [sum_cons,q7P f A B,<- q0s]
  exact v9 λ q o_=>(sum_cons (f:=λ v=>f v q)).symm
theorem q4S (P:Pl->Bool) (f:Pl->Int):∀ V:List Pl,sumV V f=sumV (V.filter P) f+sumV (V.filter λ q=>!P q) f
 | []=>rfl
 | a::V=>by
  rw [sum_cons,q4S P f V,N1e,N1e]
  cases P a with
  | true=>rw [N0j rfl,N0l (by decide),sum_cons];lia
  | false=>rw [N0l N0d,N0j (show (!false)=true from rfl),sum_cons];lia
theorem q5T {f:Pl->Int}:∀ {V:List Pl},(∀ q∈V,f q=1)->sumV V f=(V.length:Int)
 | [],_=>rfl
 | a::V,h=>by rw [sum_cons,h a (N00 ..),q5T λ q m=>h q (N02 _ m),N0h];lia
theorem z27 {α:Type} [DecidableEq α] {l m:List α}(hl:l.Nodup) (hm:m.Nodup) (h:∀ x,x∈l↔x∈m):l.length=m.length :=
 Nat.le_antisymm (y4 hl λ x z=>(h x).1 z) (y4 hm λ x z=>(h x).2 z)
theorem z0O {V B:List Pl}{f:Pl->Int}(hV:V.Nodup) (hB:B.Nodup) (hs:∀ x∈B,x∈V) (h1:∀ q∈V,q∈B->f q=1) (h0:∀ q∈V,q∉B->f q=0):sumV V f=(B.length:Int):=by
 rw [q4S (λ q=>decide (q∈B)) f V,q5T (V:=V.filter λ q=>decide (q∈B)) (λ q m=>h1 q (N1u.1 m).1 (of_decide_eq_true (N1u.1 m).2)),
  V8 (V:=V.filter λ q=>!decide (q∈B)) (λ q m=>h0 q (N1u.1 m).1 (by have:=(N1u.1 m).2;simpa using this))]
 rw [z27 (l:=V.filter λ q=>decide (q∈B)) (m:=B) (hV.sublist N23) hB λ q=>⟨λ m=>of_decide_eq_true (N1u.1 m).2,λ m=>N1u.2 ⟨hs q m,N0o m⟩⟩]
 simp
section
variable {V:List Pl}{ot:List Str}{x:Str}{eats:Str->Str->Prop}{sun:Str->Prop}{c0 c:Cp}{j:Nat}{sh:Sh}{r:Rc}
variable (n:Net V ot x eats sun c0) (f:FI V c0 (pO x) sunP j c) (rf:RoomF V sh c) (R:Rch V sh c (pO x) r) (hs:sunP∉r.map (·.1))
include n f rf R hs
theorem q7Q {v q:Pl}(hv:v∈r.map (·.1)) (hq:q∉r.map (·.1)):c v q=0:=by
 have h1:=f.nn v q
 have h2:¬ 0<c v q:=λ z=>hq (R.cls v hv q (rf.pos v q z).1 z)
 lia
theorem z6d {k:Str}{q:Pl}(hk:k=x\/k∈ot) (hv:pO k∈r.map (·.1)) (he:c0 (pO k) q≠0):q∈r.map (·.1):=N1n λ hq=>by
 have z:=q7Q n f rf R hs hv hq
 have sk:=f.sk (pO k) q
 have nn:=n.nn q (pO k)
 have kV:pO k∈V:=R.sub _ hv
 rcases n.edge _ _ he with ⟨k',_,e,_⟩ | ⟨k',_,e,e100,hh⟩
 ·exact pOI e
 ·cases pO_inj e
  rcases hh with ⟨e',me,rfl,_,_⟩ | ⟨rfl,hsu⟩
  ·have:=q1u (f:=c (pI e')) (λ q o_=>f.nn _ q) kV
   rw [fI n f me] at this
   lia
  ·rcases hk with rfl | hk
   ·exact n.nosun hsu
   ·have:=q1u (f:=λ q=>c q (pO k)) (λ q o_=>f.nn q _) n.vs
    rw [fO n f hk] at this
    lia
theorem z0P {gone:List Str}(hg:gone.Nodup) (hgm:∀ k,k∈gone↔k∈ot/\pI k∈r.map (·.1)/\pO k∉r.map (·.1)):j=gone.length:=by
 let P:Pl->Bool:=λ q=>decide (q∈r.map (·.1))
 have hP:∀ q,q∈V.filter P↔q∈V/\q∈r.map (·.1):=λ q=>by rw [N1u];exact and_congr_right λ o_=>N1l
 have hQ:∀ q,q∈V.filter (λ q=>!P q)↔q∈V/\q∉r.map (·.1):=λ q=>by
  rw [N1u]
  refine and_congr_right λ o_=>?_
  show (!decide (q∈r.map (·.1)))=true↔_
  simp
 have ndS:(V.filter P).Nodup:=n.nd.sublist N23
 have ndN:(V.filter λ q=>!P q).Nodup:=n.nd.sublist N23
 have xS:pO x∈V.filter P:=(hP _).2 ⟨n.vx,R.tree.root⟩
 have e1:sumV (V.filter P) (λ v=>sumV V (c v))=sumV (V.filter P) (λ v=>sumV V (c0 v)) - (j:Int):=by
  have:sumV (V.filter P) (λ v=>sumV V (c v))=sumV (V.filter P) (λ v=>sumV V (c0 v)+(if v=pO x then -(j:Int) else 0)):=v9 λ v m=>by
   have h:¬ v=sunP:=λ z=>hs (z▸((hP v).1 m).2)
   rw [f.sm,N0l h]
   by_cases z:v=pO x
   ·rw [N0j z,N0j z];lia
   ·rw [N0l z,N0l z];simp
  rw [this,q0s,q27 (f:=λ v=>if v=pO x then -(j:Int) else 0) ndS xS λ q o_ z=>N0l z,N0j rfl]
  lia
 have part:∀ g:Cp,sumV (V.filter P) (λ v=>sumV V (g v))=sumV (V.filter P) (λ v=>sumV (V.filter P) (g v))+sumV (V.filter P) (λ v=>sumV (V.filter λ q=>!P q) (g v)):=λ g=>by
  rw [<- q0s]
  exact v9 λ v o_=>q4S P (g v) V
 have inn:sumV (V.filter P) (λ v=>sumV (V.filter P) (c v))=sumV (V.filter P) (λ v=>sumV (V.filter P) (c0 v)):=by
  have two:∀ g:Cp,sumV (V.filter P) (λ v=>sumV (V.filter P) (λ q=>g v q+g q v))=sumV (V.filter P) (λ v=>sumV (V.filter P) (g v))+sumV (V.filter P) (λ v=>sumV (V.filter P) (g v)):=λ g=>by
   have a:sumV (V.filter P) (λ v=>sumV (V.filter P) (λ q=>g v q+g q v))=sumV (V.filter P) (λ v=>sumV (V.filter P) (g v))+sumV (V.filter P) (λ v=>sumV (V.filter P) (λ q=>g q v)):=by
    rw [<- q0s]
    exact v9 λ v o_=>q0s _
   rw [a,q7P (λ v q=>g q v)]
  have b:sumV (V.filter P) (λ v=>sumV (V.filter P) (λ q=>c v q+c q v))=sumV (V.filter P) (λ v=>sumV (V.filter P) (λ q=>c0 v q+c0 q v)):=v9 λ v o_=>v9 λ q o_=>f.sk v q
  rw [two,two] at b
  lia
 have out:sumV (V.filter P) (λ v=>sumV (V.filter λ q=>!P q) (c v))=0:=V8 λ v m=>V8 λ q mq=>q7Q n f rf R hs ((hP v).1 m).2 ((hQ q).1 mq).2
 have cross:sumV (V.filter P) (λ v=>sumV (V.filter λ q=>!P q) (c0 v))=(gone.length:Int):=by
  have hm:(gone.map pI).Nodup:=List.Pairwise.map _ (λ a b ne e=>ne (V0 e)) hg
  rw [<- N01 (f:=pI)]
  refine z0O ndS hm (λ v m=>?_) (λ v o_ m=>?_) (λ v mv nm=>?_)
  ·obtain ⟨k,mk,rfl⟩:=N1z.1 m
   exact (hP _).2 ⟨n.vI k ((hgm k).1 mk).1,((hgm k).1 mk).2.1⟩
  ·obtain ⟨k,mk,rfl⟩:=N1z.1 m
   obtain ⟨g1,g2,g3⟩:=(hgm k).1 mk
   show sumV (V.filter λ q=>!P q) (c0 (pI k))=1
   rw [q27 (b:=pO k) ndN ((hQ _).2 ⟨n.vO k g1,g3⟩) λ q o_ z=>?_,n.io k g1]
   refine N1n λ h=>?_
   rcases n.edge _ q h with ⟨k',_,e,rfl⟩ | ⟨k',_,e,_⟩
   ·exact z (by rw [V0 e])
   ·exact pIO e
  ·refine V8 λ q mq=>N1n λ h=>?_
   have hv:=((hP v).1 mv).2
   have hq:=((hQ q).1 mq).2
   rcases n.edge v q h with ⟨k,mk,rfl,rfl⟩ | ⟨k,hk,rfl,_⟩
   ·exact nm (N1z.2 ⟨k,(hgm k).2 ⟨mk,hv,hq⟩,rfl⟩)
   ·exact hq (z6d n f rf R hs hk hv h)
 rw [part,part c0,inn,out,cross] at e1
 lia
end
section
variable {V:List Pl}{ot:List Str}{x:Str}{eats:Str->Str->Prop}{sun:Str->Prop}{c0 c:Cp}{j:Nat}{sh:Sh}
variable (n:Net V ot x eats sun c0) (f:FI V c0 (pO x) sunP j c) (rf:RoomF V sh c)
include n f rf
theorem q8r:(sentN sh c (pO x)).length=j:=by
 have col0:sumV V (λ q=>c0 q (pO x))=0:=V8 λ q o_=>N1n λ h=>by
  rcases n.edge q _ h with ⟨k',m,rfl,e⟩ | ⟨k',_,_,_,⟨e',_,e,_⟩ | ⟨e,_⟩⟩
  ·exact n.xo (pO_inj e▸m)
  ·exact pOI e
  ·exact q8m e.symm
 have hc:=f.col (pO x)
 rw [col0,N0j rfl,N0l n.sx.symm] at hc
 have key:∀ q,0<c q (pO x)->∃ e∈ot,q=pI e:=λ q h=>by
  by_cases z:q=pI x
  ·subst z
   have:c (pI x) (pO x)=0:=f.off (N1n λ h=>by
    rcases n.edge _ _ h with ⟨k',m,e,_⟩ | ⟨k',_,e,_⟩
    ·exact n.xo (V0 e▸m)
    ·exact pIO e) (N1n λ h=>by
    rcases n.edge _ _ h with ⟨k',m,e,_⟩ | ⟨k',_,e,_,⟨e',m',e2,_⟩ | ⟨_,hsu⟩⟩
    ·exact pOI e
    ·exact n.xo (V0 e2▸m')
    ·exact n.nosun (pO_inj e▸hsu))
   rw [this] at h
   exact absurd h (by decide)
  ·rcases sent_edge n f (.inl rfl) z h with ⟨e,me,rfl,_⟩ | ⟨_,hsu⟩
   ·exact ⟨e,me,rfl⟩
   ·exact absurd hsu n.nosun
 have h:=z0O (V:=V) (B:=sentN sh c (pO x)) (f:=λ q=>c q (pO x)) n.nd ((rf.adn _).sublist N23) (λ q m=>rf.adV _ q (q0e.1 m).1) (λ q mq m=>?_) (λ q mq m=>?_)
 ·rw [h] at hc;lia
 ·have p:=(q0e.1 m).2.2
  obtain ⟨e,me,rfl⟩:=key q p
  have:=q1u (f:=c (pI e)) (λ q o_=>f.nn _ q) n.vx
  rw [fI n f me] at this
  show c (pI e) (pO x)=1
  lia
 ·have nn:=f.nn q (pO x)
  have:¬ 0<c q (pO x):=λ p=>m (q0e.2 ⟨(rf.pos _ _ p).2,by
   obtain ⟨e,me,rfl⟩:=key q p
   exact λ z=>n.xo ((show e=x from z)▸me),p⟩)
  show c q (pO x)=0
  lia
end
section
variable {V:List Pl}{ot:List Str}{x:Str}{eats:Str->Str->Prop}{sun:Str->Prop}{c0 c:Cp}{j:Nat}
theorem Chn.last {W:List Str}{b:Str}(h:Chn c ot x W b):b=W.getLast?.getD x:=by
 cases h with
 | nil=>rfl
 | snoc _ _ _=>rw [List.getLast?_concat];rfl
theorem Chn.pre {W:List Str}{b:Str}(h:Chn c ot x W b):∀ {a:List Str}{k:Str}{t:List Str},W=a++k::t->∃ b',Chn c ot x a b'/\k∈ot/\0<c (pI k) (pO b'):=by
 induction h with
 | nil=>intro a k t e;cases a<;>cases e
 | @snoc W b k0 h m l ih =>
  intro a k t e
  rcases List.eq_nil_or_concat t with rfl | ⟨t',z,rfl⟩
  ·have:=List.append_inj' e rfl
   obtain ⟨e1,e2⟩:=this
   cases e2
   exact ⟨b,e1▸h,m,l⟩
  ·rw [List.concat_eq_append,<- List.cons_append,<- N1w] at e
   have:=List.append_inj' e rfl
   exact ih this.1
variable (n:Net V ot x eats sun c0) (f:FI V c0 (pO x) sunP j c)
include n f
theorem Chn.first {W:List Str}{b k:Str}(h:Chn c ot x W b) (m:k∈W) (l:0<c (pI k) (pO x)):W.head? = some k:=by
 induction h with
 | nil=>cases m
 | @snoc W b k0 h m0 l0 ih =>
  rcases N0a.1 m with m | m
  ·have:=ih m
   cases W with
   | nil=>cases m
   | cons a W=>exact this
  ·have e:=N0f.1 m
   subst e
   have hb:b=x:=pO_inj (z1Z n f m0 (h.inV n) n.vx l0 l)
   rcases h.sub.2 with ⟨e,_⟩ | q
   ·rw [e];rfl
   ·exact absurd (h.sub.1 b q) (hb▸n.xo)
theorem Chn.apart {W U:List Str}{b d e1 e2:Str}(h:Chn c ot x W b) (u:Chn c ot x U d) (hu:U.head? = some e2) (ne:e1≠e2):W.head? = some e1->∀ k∈W,k∉U:=by
 induction h with
 | nil=>intro _ k m;cases m
 | @snoc W b k0 h m0 l0 ih =>
  intro hh k m mu
  have ih':W≠[]->∀ k∈W,k∉U:=λ hW=>ih (by
   cases W with
   | nil=>exact absurd rfl hW
   | cons a W=>exact hh)
  rcases N0a.1 m with m | m
  ·exact ih' (λ z=>by rw [z] at m;cases m) k m mu
  ·have e:=N0f.1 m
   subst e
   obtain ⟨a,ha,_,la⟩:=(u.nodup n f).2 k mu
   have hab:a=b:=pO_inj (z1Z n f m0 (by
    rcases ha with rfl | ha
    ·exact n.vx
    ·exact n.vO a (u.sub.1 a ha)) (h.inV n) la l0)
   rcases h.sub.2 with ⟨hW,hb⟩ | q
   ·have:=u.first n f mu (by rw [<- hb];exact l0)
    rw [hu] at this
    cases this
    rw [hW] at hh
    cases hh
    exact ne rfl
   ·have hbo:=h.sub.1 b q
    rcases ha with rfl | ha
    ·exact n.xo (by rw [hab];exact hbo)
    ·exact ih' (λ z=>by rw [z] at q;cases q) b q (hab▸ha)
theorem q3Y {wf:Pl->List Str}:∀ {qs:List Pl},qs.Nodup->(∀ q∈qs,z26 c ot x sun q (wf q))->(qs.map wf).flatten.Nodup
 | [],_,_=>N27
 | q::qs,hd,h=>by
  rw [N1s] at hd
  rw [N09,List.flatten_cons]
  obtain ⟨e1,b1,rfl,h1,h2,_⟩:=h q (N00 ..)
  refine N1t.2 ⟨(h1.nodup n f).1,q3Y hd.2 λ p m=>h p (N02 _ m),λ a ha b hb e=>?_⟩
  subst e
  obtain ⟨U,mU,aU⟩:=List.mem_flatten.1 hb
  obtain ⟨p,mp,rfl⟩:=N1z.1 mU
  obtain ⟨e2,b2,rfl,u1,u2,_⟩:=h p (N02 _ mp)
  exact h1.apart n f u1 u2 (λ z=>hd.1 (by rw [z];exact mp)) h2 a ha aU
end
theorem q5U {y:Str}:∀ {ns acc:List Str},y∈y0 acc ns↔y∈acc\/y∈ns
 | [],acc=>by simp [y0]
 | a::r,acc=>by
  show y∈y0 (q5z acc a) r↔_
  rw [q5U (ns:=r),N0c]
  unfold q5z
  by_cases m:a∈acc
  ·rw [N0j m]
   exact ⟨λ z=>z.elim .inl λ z=>.inr (.inr z),λ z=>z.elim .inl λ z=>z.elim (λ e=>.inl (e▸m)) .inr⟩
  ·rw [N0l m,N0a,N0f]
   exact ⟨λ z=>z.elim (λ z=>z.elim .inl λ e=>.inr (.inl e)) λ z=>.inr (.inr z),λ z=>z.elim (λ z=>.inl (.inl z)) λ z=>z.elim (λ e=>.inl (.inr e)) .inr⟩
theorem mem_namesL {y:Str}:∀ {l:List Nd}{acc:List Str},y∈namesL l acc↔y∈acc\/∃ d∈l,y∈d.names
 | [],acc=>by rw [namesL];exact ⟨.inl,λ z=>z.elim id λ ⟨o1_,m,o2_⟩=>nomatch m⟩
 | d::r,acc=>by
  rw [namesL,mem_namesL (l:=r),q5U]
  exact ⟨λ z=>z.elim (λ z=>z.elim .inl λ z=>.inr ⟨d,N00 ..,z⟩) λ ⟨e,m,z⟩=>.inr ⟨e,N02 _ m,z⟩,
   λ z=>z.elim (λ z=>.inl (.inl z)) λ ⟨e,m,z⟩=>(N0c.1 m).elim (λ q=>.inl (.inr (q▸z))) λ q=>.inr ⟨e,q,z⟩⟩
theorem q7R {L:List Str}:∀ {l:List Nd},1<=metL L l↔∃ d∈l,d.met L=true
 | []=>by rw [metL];exact ⟨λ z=>absurd z (by decide),λ ⟨o1_,m,o2_⟩=>nomatch m⟩
 | d::r=>by
  rw [metL]
  cases z:d.met L with
  | true=>rw [N0j rfl];exact ⟨λ o_=>⟨d,N00 ..,z⟩,λ o_=>by simp⟩
  | false =>
   rw [N0l (by decide),Nat.zero_add,q7R (l:=r)]
   exact ⟨λ ⟨e,m,q⟩=>⟨e,N02 _ m,q⟩,λ ⟨e,m,q⟩=>(N0c.1 m).elim (λ y=>by rw [y,z] at q;cases q) λ y=>⟨e,y,q⟩⟩
theorem q1T {L:List Str}:∀ (k:Nat) (d:Nd),d.depth<=k->d.plain=true->(d.met L=true↔d.sunny=true\/∃ e∈d.names,e∈L)
 | 0,d,h,_=>by have:=U0 d;simp_all
 | k+1,.sun,_,_=>by rw [Nd.met,Nd.sunny];exact ⟨λ o_=>.inl rfl,λ o_=>rfl⟩
 | k+1,.eats y,_,_=>by
  rw [Nd.met,Nd.sunny,Nd.names,N1l]
  exact ⟨λ m=>.inr ⟨y,N0f.2 rfl,m⟩,λ z=>z.elim (λ z=>nomatch z) λ ⟨e,m,q⟩=>N0f.1 m▸q⟩
 | k+1,.all _,_,h=>by rw [Nd.plain] at h;cases h
 | k+1,.some _ _,_,h=>by rw [Nd.plain] at h;cases h
 | k+1,.any ps,hd,h=>by
  rw [Nd.plain,q28,N21] at h
  have ih:∀ p∈ps,(p.met L=true↔p.sunny=true\/∃ e∈p.names,e∈L):=λ p m=>q1T k p (x3 (d:=.any ps) hd m) (h p m)
  rw [Nd.met,Nd.sunny,Nd.names,N1l,q7R,q0d,List.any_eq_true]
  constructor
  ·rintro ⟨p,m,z⟩
   rcases (ih p m).1 z with z | ⟨e,me,ml⟩
   ·exact .inl ⟨p,m,z⟩
   ·exact .inr ⟨e,mem_namesL.2 (.inr ⟨p,m,me⟩),ml⟩
  ·rintro (⟨p,m,z⟩ | ⟨e,me,ml⟩)
   ·exact ⟨p,m,(ih p m).2 (.inl z)⟩
   ·rcases mem_namesL.1 me with z | ⟨p,m,z⟩
    ·cases z
    ·exact ⟨p,m,(ih p m).2 (.inr ⟨e,z,ml⟩)⟩
theorem q3l {tk L:List Str}:∀ {ks:List Str}{vs:List Nd}{k:Str},k∈freshN tk L ks vs->∃ v,(k,v)∈ks.zip vs/\k∉tk/\k∉L/\v.met L=true
 | [],vs,k,h=>by cases vs<;>cases h
 | _::_,[],k,h=>by cases h
 | a::ks,v::vs,k,h=>by
  have h:k∈if a∉tk/\a∉L/\v.met L=true then a::freshN tk L ks vs else freshN tk L ks vs:=h
  rw [N1r]
  by_cases z:a∉tk/\a∉L/\v.met L=true
  ·rw [N0j z] at h
   rcases N0c.1 h with e | m
   ·exact ⟨v,by rw [e];exact N00 ..,by rw [e];exact z⟩
   ·obtain ⟨u,m,q⟩:=q3l m
    exact ⟨u,N02 _ m,q⟩
  ·rw [N0l z] at h
   obtain ⟨u,m,q⟩:=q3l h
   exact ⟨u,N02 _ m,q⟩
structure CutOk (ks:List Str) (vs:List Nd) (x:Str) (gone:List Str) (ws:List (List Str)):Prop where
 gsub:gone.Sublist ks
 gx:x∉gone
 len:ws.length=gone.length
 dead:∀ m,x∉(riseN ks vs gone m).map (·.1)
 apart:(x::ws.flatten).Nodup
 way:∀ W∈ws,W≠[]/\(∀ k∈W,k∈ks)/\(∀ a k t,W=a++k::t->z4h ks vs (a.getLast?.getD x) k)/\sunW ks vs (W.getLast?.getD x)
theorem z4l {ks:List Str}{vs:List Nd}{x:Str}{gone:List Str}{ws:List (List Str)}(hw:WebOk ks vs) (hx:x∈ks) (hsn:s!"sun"∉ks) (hns:¬ sunW ks vs x) (hp:∀ v∈vs,v.plain=true) (h:z91 ks vs x gone ws):CutOk ks vs x gone ws:=by
 obtain ⟨sh,c0,c,r,j,wf,ri,f,R,hs,rfl,rfl,hW⟩:=h
 have n:=q7M hx hsn hns ri
 have okl:(othW ks x).length<=16:=N0v (N22 _ _) hw.le
 have rf:=ri.fin f (by rw [q1R];lia)
 have xr:pO x∈r.map (·.1):=R.tree.root
 have hgm:∀ k,k∈(ks.filter λ k=>decide (pI k∈r.map (·.1)) && !decide (pO k∈r.map (·.1)))↔k∈othW ks x/\pI k∈r.map (·.1)/\pO k∉r.map (·.1):=λ k=>by
  rw [N1u,N0q,decide_eq_true_eq,Bool.not_eq_true',decide_eq_false_iff_not,q00]
  exact ⟨λ z=>⟨⟨z.1,λ e=>z.2.2 (e▸xr)⟩,z.2⟩,λ z=>⟨z.1.1,z.2⟩⟩
 have hgn:(ks.filter λ k=>decide (pI k∈r.map (·.1)) && !decide (pO k∈r.map (·.1))).Nodup:=hw.nd.sublist N23
 have hcount:=z0P n f rf R hs hgn hgm
 have hways:=q8r n f rf
 have hgs:(ks.filter λ k=>decide (pI k∈r.map (·.1)) && !decide (pO k∈r.map (·.1))).Sublist ks:=N23
 generalize (ks.filter λ k=>decide (pI k∈r.map (·.1)) && !decide (pO k∈r.map (·.1)))=gone at *
 refine ⟨hgs,λ m=>((hgm x).1 m).2.2 xr,by rw [N01,hways,hcount],λ m=>?_,?_,λ W mW=>?_⟩
 ·
  have all:∀ m,∀ k∈(riseN ks vs gone m).map (·.1),k∈ks/\k∉gone/\pO k∉r.map (·.1):=by
   intro m
   induction m with
   | zero=>intro k mk;cases mk
   | succ m ih =>
    intro k mk
    have e:(riseN ks vs gone (m+1)).map (·.1)=(riseN ks vs gone m).map (·.1)++freshN gone ((riseN ks vs gone m).map (·.1)) ks vs:=by
     rw [riseN,N14,N1m]
     congr 1
     exact List.map_id _
    rw [e] at mk
    rcases N0a.1 mk with mk | mk
    ·exact ih k mk
    ·obtain ⟨v,mv,g1,g2,g3⟩:=q3l mk
     have mk2:=N24 mv
     refine ⟨mk2.1,g1,λ hr=>?_⟩
     have hk:k=x\/k∈othW ks x:=by
      by_cases z:k=x
      ·exact .inl z
      ·exact .inr (q00.2 ⟨mk2.1,z⟩)
     have st:∀ q,(pO k,q)∈edW (othW ks x) (ks.zip vs)->q∈r.map (·.1):=λ q m=>z6d n f rf R hs hk hr (by
      rw [ri.cv,N0j m,q3W];decide)
     rcases (q1T 3 v (hw.good v mk2.2).2 (hp v mk2.2)).1 g3 with z | ⟨e,me,ml⟩
     ·exact hs (st sunP (mem_edW.2 (.inr ⟨k,v,mv,rfl,.inr ⟨z,rfl⟩⟩)))
     ·obtain ⟨i1,i2,i3⟩:=ih e ml
      have ek:e≠k:=λ z=>g2 (z▸ml)
      have eo:e∈othW ks x:=q00.2 ⟨i1,λ z=>i3 (z▸xr)⟩
      have hI:=st (pI e) (mem_edW.2 (.inr ⟨k,v,mv,rfl,.inl ⟨e,me,⟨eo,ek⟩,rfl⟩⟩))
      exact i2 ((hgm e).2 ⟨eo,hI,i3⟩)
  exact λ mx=>(all m x mx).2.2 xr
 ·refine N1s.2 ⟨λ m=>?_,q3Y n f ((rf.adn _).sublist N23) hW⟩
  obtain ⟨U,mU,xU⟩:=List.mem_flatten.1 m
  obtain ⟨q,mq,rfl⟩:=N1z.1 mU
  obtain ⟨e,b,_,hc,_⟩:=hW q mq
  exact n.xo (hc.sub.1 x xU)
 ·obtain ⟨q,mq,rfl⟩:=N1z.1 mW
  obtain ⟨e,b,_,hc,hh,mb,sb⟩:=hW q mq
  refine ⟨λ z=>(by rw [z] at hh;exact nomatch hh),λ k mk=>(q00.1 (hc.sub.1 k mk)).1,λ a k t ew=>?_,by rw [<- hc.last];exact sb⟩
  obtain ⟨b',hb',mk,lk⟩:=hc.pre ew
  rw [<- hb'.last]
  have bk:b'=x\/b'∈othW ks x:=by
   rcases hb'.sub.2 with ⟨_,z⟩ | z
   ·exact .inl z
   ·exact .inr (hb'.sub.1 b' z)
  have ne:k≠b':=λ z=>by
   have nd:=((Chn.snoc hb' mk lk).nodup n f).1
   rw [N1t] at nd
   rcases hb'.sub.2 with ⟨_,y⟩ | y
   ·exact n.xo ((z.trans y)▸mk)
   ·exact nd.2.2 b' y k (N0f.2 rfl) z.symm
  rcases sent_edge n f bk (λ z=>ne (V0 z)) lk with ⟨e',_,z,_,ht⟩ | ⟨z,_⟩
  ·rw [V0 z];exact ht
  ·exact absurd (V0 (show pI k=pI "sun" from z)) (λ y=>n.so (y▸mk))
theorem q8s {α:Type} [DecidableEq α] {l m:List α}(h:l.Sublist m) (hd:m.Nodup):m.filter (λ k=>decide (k∈l))=l:=by
 induction h with
 | slnil=>rfl
 | @cons l m a h ih =>
  rw [N1s] at hd
  rw [N1e,N0l (λ z=>hd.1 (h.subset (of_decide_eq_true z))),ih hd.2]
 | @cons_cons l m a h ih =>
  rw [N1s] at hd
  rw [N1e,N0j (N0o (N00 ..))]
  congr 1
  refine Eq.trans (List.filter_congr λ k mk=>?_) (ih hd.2)
  have:k≠a:=λ e=>hd.1 (e▸mk)
  rw [N1y,N1l,N1l,N0c]
  exact ⟨λ z=>z.resolve_left this,.inr⟩
noncomputable def fN (ks:List Str) (vs:List Nd) (k:Str):D:=((needAt k ks vs).getD .sun).toD
theorem z8r {ks:List Str}{vs:List Nd}(hd:ks.Nodup){k:Str}{v:Nd}(m:(k,v)∈ks.zip vs):fN ks vs k=v.toD:=by
 unfold fN
 rw [(q1g hd m).2.2];rfl
noncomputable abbrev lwB:GS:=gSeq (Y9 (q1U (q03 (gTru (gUn (dIsTy "str") (gVar 4)))) (q1U (gB (gOp dNotIn (gVar 4) (gVar 2))) (gB (gOp dNotIn (gVar 4) (gCall (F_f 8) (gCons (gOp dIx (gVar 2) (gVar 3)) gNil)))))) (y7 (gC (.bl false))) Z6) (X4 3 (gVarI 4))
section
variable {ks:List Str}{vs:List Nd}{x:Str}{W:List Str}(hw:WebOk ks vs) (hp:∀ v∈vs,v.plain=true)
include hw hp
theorem z4m (hW:W≠[]) (hl:W.length<=100) (h1:∀ k∈W,k∈ks) (h2:∀ a k t,W=a++k::t->z4h ks vs (a.getLast?.getD x) k) (h3:sunW ks vs (W.getLast?.getD x)):F_A [strsL W,.str x,tblD ks (fN ks vs)]=.ok (.bl true):=by
 have ixt:∀ k v,(k,v)∈ks.zip vs->dIx (tblD ks (fN ks vs)) (.str k)=.ok v.toD:=λ k v m=>by
  rw [z65 (N24 m).1,z8r hw.nd m]
 have good:∀ v∈vs,v.leaves<=500/\v.depth<=8:=λ v m=>by
  obtain ⟨⟨ss,sm,g1⟩,g2⟩:=hw.good v m
  have:=q5A 2 _ g1 (by simp_all)
  exact ⟨by omega,by omega⟩
 obtain ⟨δ,l1,rfl⟩:=U9 (g:=D.str) (i:=4) (fg:=[4]) (body:=lwB) (λ a δ=>δ=[some (strsL W),some (.str x),some (tblD ks (fN ks vs)),some (.str (a.getLast?.getD x)),none]) W [] [some (strsL W),some (.str x),some (tblD ks (fN ks vs)),some (.str x),none] rfl λ a k t e δ hδ=>by
  subst hδ
  rw [N1v] at e
  have mk:k∈ks:=h1 k (by rw [e];exact N05 _ (N00 ..))
  obtain ⟨v,mv,mn⟩:=h2 a k t e
  have i1:=ixt _ v mv
  have i2:=q3i 8 v (good v (N24 mv).2).1 (good v (N24 mv).2).2
  have i3:=q24 k v.names
  rw [N0o mn] at i3
  have i4:inD (.str k) (tblD ks (fN ks vs))=.ok true:=by
   have:=q12 ks (ks.map (fN ks vs)) k
   rw [N0o mk] at this
   exact this
  refine ⟨[some (strsL W),some (.str x),some (tblD ks (fN ks vs)),some (.str k),some (.str k)],?_,by rw [List.getLast?_concat];rfl⟩
  exact j6 (ifN (orN (z0a (Y3 rfl)) (orN (x5 (j5 rfl rfl (niT i4))) (x5 (j5 rfl (w6 (Q2 (j5 rfl rfl i1) rfl) i2) (niT i3))))) rfl) rfl
 rw [N1v] at l1
 obtain ⟨v,mv,sv⟩:=h3
 have i1:=ixt _ v mv
 have hv:=(N24 mv).2
 obtain ⟨⟨ss,sm,g1⟩,g2⟩:=hw.good v hv
 have i2:=q1e (q1d []) 8 v g1 (by simp_all)
 rw [(q1T 3 v g2 (hp v hv)).2 (.inl sv)] at i2
 have t0:q1U (q03 (gTru (gUn (dIsTy "list") (gVar 0)))) (gB (gOp dEq (gCall pLen (gCons (gVar 0) gNil)) (gC (.int 0)))) [some (strsL W),some (.str x),some (tblD ks (fN ks vs)),none,none]=.ok false :=
  orN (z0a (Y3 rfl)) (x5 (j5 (w6 rfl (v8 W)) rfl (by
   rw [q31,j8 (q4z _ _),q4y,q4B,N0e (λ z=>hW (List.eq_nil_of_length_eq_zero (by simp_all)))])))
 exact W1 (j6 (ifN t0 rfl) (j6 (δ':=[some (strsL W),some (.str x),some (tblD ks (fN ks vs)),some (.str x),none]) rfl (j6 (u9 (q0C rfl) l1) (Z8 (w6 (Q2 (j5 rfl rfl i1) (Q2 z0g rfl)) i2)))))
theorem z28 {gone:List Str}{ws:List (List Str)}(hx:x∈ks) (h:CutOk ks vs x gone ws):F_p [.tup [strsL gone,.lst (ws.map strsL)],.str x,strsL ks,.lst (vs.map Nd.toD)]=.ok (.bl true):=by
 have gtx:∀ k∈gone,Tx k:=λ k m=>hw.tx k (h.gsub.subset m)
 have gl:gone.length<=16:=N0v h.gsub.length_le hw.le
 have wl:ws.length<=16:=by rw [h.len];exact gl
 have fl:∀ a b,ws=a++b->(x::a.flatten).length<=16:=λ a b e=>by
  refine N0v (y4 (m:=ks) (h.apart.sublist ?_) λ k m=>?_) hw.le
  ·rw [e,List.flatten_append]
   exact (List.sublist_append_left _ _).cons_cons x
  ·rcases N0c.1 m with rfl | m
   ·exact hx
   ·obtain ⟨W,mW,mk⟩:=List.mem_flatten.1 m
    exact (h.way W (by rw [e];exact N0w _ mW)).2.1 k mk
 generalize hF:D.tup [strsL gone,.lst (ws.map strsL)]=FD
 have l1:W6 5 [5] (gPut 4 (gOp dIx (gVar 2) (gVar 5)) (gIm (gOp dIx (gVar 3) (gVar 5)))) (rangeD 0 ks.length) [some FD,some (.str x),some (strsL ks),some (.lst (vs.map Nd.toD)),some (tblD [] (fN ks vs)),none,none,none,none,none]=.ok (.nx [some FD,some (.str x),some (strsL ks),some (.lst (vs.map Nd.toD)),some (tblD ks (fN ks vs)),none,none,none,none,none]):=by
  have z:=q1a (i:=5) (fg:=[5]) (body:=gPut 4 (gOp dIx (gVar 2) (gVar 5)) (gIm (gOp dIx (gVar 3) (gVar 5)))) (lo:=0) (n:=ks.length) (λ m=>[some FD,some (.str x),some (strsL ks),some (.lst (vs.map Nd.toD)),some (tblD (ks.take m) (fN ks vs)),none,none,none,none,none]) rfl λ m hm=>?_
  ·rw [N20] at z;exact z
  have hm2:m<vs.length:=by rw [<- hw.len];exact hm
  obtain ⟨t1,t2⟩:=z48 hw.nd (N08 hm)
  have e1:fN ks vs ks[m]=vs[m].toD:=by unfold fN;rw [q3e hw.nd (N08 hm) (N08 hm2)];rfl
  have p1:=z47 (f:=fN ks vs) t1 (by rw [N16];have:=hw.le;lia)
  rw [e1,<- t2] at p1
  have a1:=q4O ks m hm
  have a2:dIx (.lst (vs.map Nd.toD)) (.int (m:Int))=.ok vs[m].toD:=by simp [q0a,hm2]
  refine ⟨[some FD,some (.str x),some (strsL ks),some (.lst (vs.map Nd.toD)),some (tblD (ks.take (m+1)) (fN ks vs)),some (.int (0+(m:Int))),none,none,none,none],.inl ?_,rfl⟩
  have e0:(0+(m:Int))=(m:Int):=by simp
  rw [e0]
  exact q4D (j5 rfl rfl a1) (q5y (j5 rfl rfl a2) (z2v _)) rfl p1
 let B:GS:=gSeq (Y9 (q03 (gTru (gCall F_A (gCons (gVar 8) (gCons (gVar 1) (gCons (gVar 4) gNil)))))) (y7 (gC (.bl false))) Z6) (q1B (gItS (gVar 8)) 9 [9] (gSeq (Y9 (gB (gOp dIn (gVar 9) (gVar 7))) (y7 (gC (.bl false))) Z6) (q4d 7 (gVarI 9))))
 generalize hK:strsL ks=KD at *
 generalize hV:D.lst (vs.map Nd.toD)=VD at *
 have hlw:∀ W∈ws,F_A [strsL W,.str x,tblD ks (fN ks vs)]=.ok (.bl true):=λ W mW=>by
  obtain ⟨w1,w2,w3,w4⟩:=h.way W mW
  refine z4m hw hp w1 ?_ w2 w3 w4
  have nd:W.Nodup:=by
   obtain ⟨a,b,e⟩:=List.append_of_mem mW
   have:=h.apart
   rw [e,List.flatten_append,List.flatten_cons,N1s,N1t,N1t] at this
   exact this.2.2.1.1
  have:=y4 nd w2
  have:=hw.le
  lia
 generalize tblD ks (fN ks vs)=TB at *
 obtain ⟨δ,l2,rfl⟩:=U9 (g:=strsL) (i:=8) (fg:=[8,9]) (body:=B) (λ a δ=>δ=[some FD,some (.str x),some KD,some VD,some TB,none,some (strsL gone),some (strsL (x::a.flatten)),none,none]) ws [] [some FD,some (.str x),some KD,some VD,some TB,none,some (strsL gone),some (strsL [x]),none,none] rfl λ a W b e δ hδ=>by
  subst hδ
  rw [N1v] at e
  have q1:=hlw W (by rw [e];exact N05 _ (N00 ..))
  obtain ⟨δ,l3,rfl⟩:=U9 (g:=D.str) (i:=9) (fg:=[9]) (body:=gSeq (Y9 (gB (gOp dIn (gVar 9) (gVar 7))) (y7 (gC (.bl false))) Z6) (q4d 7 (gVarI 9))) (λ p δ=>δ=[some FD,some (.str x),some KD,some VD,some TB,none,some (strsL gone),some (strsL (x::(a.flatten++p))),some (strsL W),none]) W [] [some FD,some (.str x),some KD,some VD,some TB,none,some (strsL gone),some (strsL (x::a.flatten)),some (strsL W),none] (by rw [N10]) λ p k t ew δ hδ=>by
   subst hδ
   rw [N1v] at ew
   have nd:=h.apart
   rw [e,ew,List.flatten_append,List.flatten_cons,N1w,List.cons_append,<- N1w] at nd
   have nk:k∉x::(a.flatten++p):=λ m=>by
    rw [<- List.cons_append,N1t] at nd
    exact nd.2.2 k m k (N00 ..) rfl
   have i1:=q24 k (x::(a.flatten++p))
   rw [N0e nk] at i1
   have ln:(x::(a.flatten++p)).length<=100:=by
    have h1:=fl (a++[W]) b (by rw [e,N1w];rfl)
    rw [List.flatten_append,List.flatten_cons,List.flatten_nil,N10,ew] at h1
    simp only [N0h,N06] at h1 ⊢
    lia
   refine ⟨[some FD,some (.str x),some KD,some VD,some TB,none,some (strsL gone),some (strsL (x::(a.flatten++(p++[k])))),some (strsL W),some (.str k)],?_,rfl⟩
   show (gSeq _ _) [some FD,some (.str x),some KD,some VD,some TB,none,some (strsL gone),some (strsL (x::(a.flatten++p))),some (strsL W),some (.str k)]=_
   have e7:strsL (x::(a.flatten++(p++[k])))=.lst ((x::(a.flatten++p)).map D.str++[.str k]):=by
    unfold strsL
    rw [<- N1w,<- List.cons_append,N14];rfl
   rw [e7]
   generalize hM:x::(a.flatten++p)=M at *
   exact j6 (ifN (x5 (j5 rfl rfl (q35 i1))) rfl) (q3O rfl rfl (by rw [N01];lia))
  rw [N1v] at l3
  refine ⟨[some FD,some (.str x),some KD,some VD,some TB,none,some (strsL gone),some (strsL (x::(a.flatten++W))),some (strsL W),none],?_,by rw [List.flatten_append];simp⟩
  exact j6 (ifN (z0a (Y3 (w6 rfl q1))) rfl) (u9 (q0C rfl) l3)
 rw [N1v] at l2
 subst hF hK hV
 have hc:compL [some (strsL gone)] (gB (gOp dIn (gVar 0) (gVar 1))) (gVar 0) (ks.map D.str)=.ok (gone.map D.str):=by
  have:=q1q (g:=D.str) (cap:=[some (strsL gone)]) (t:=gB (gOp dIn (gVar 0) (gVar 1))) (e:=gVar 0) (p:=λ k=>decide (k∈gone)) (f:=D.str) (l:=ks) λ k o_=>⟨by
   have:=q24 k gone
   simp [this],λ o_=>rfl⟩
  rwa [q8s h.gsub hw.nd] at this
 have al:=z1U gtx gtx (by omega)
 rw [N0o rfl] at al
 have n1:=q24 x gone
 rw [N0e h.gx] at n1
 have lv:=z0z ks vs gone hw.len hw.le hw.nd hw.good hw.tx
 have n2:=z64 x (riseN ks vs gone ks.length)
 rw [N0e (h.dead _)] at n2
 have r1:Rng (ks.length:Int):=(q21 _).2 (by have:=hw.le;lia)
 have gz:∀ {δ:DS},δ[6]? = some (some (strsL gone))->gVar 6 δ=.ok (strsL gone):=λ h=>by unfold gVar;rw [h]
 have lne:dNe (.int ((ws.map strsL).length:Int)) (.int (gone.length:Int))=.ok (.bl false):=by
  rw [q5w,j8 (q4z _ _),q4y,q4B,N01,h.len,N0o rfl];rfl
 exact W1 (j6 (δ':=[some (.tup [strsL gone,.lst (ws.map strsL)]),some (.str x),some (strsL ks),some (.lst (vs.map Nd.toD)),some (tblD [] (fN ks vs)),none,none,none,none,none]) rfl
  (j6 (u9 (q33 (w6 rfl (v8 ks)) r1) l1)
  (j6 (ifN (orN (z0a (Y3 rfl)) (orN (x5 (j5 (w6 rfl rfl) rfl rfl)) (z0a (Y3 rfl)))) rfl)
  (j6 (δ':=[some (.tup [strsL gone,.lst (ws.map strsL)]),some (.str x),some (strsL ks),some (.lst (vs.map Nd.toD)),some TB,none,some (strsL gone),none,none,none]) rfl
  (j6 (ifN (orN (z0a (Y3 (w6 (Q2 rfl (Q2 (V7 (q0C rfl) hc (by rw [N01];omega)) rfl)) al))) (x5 (j5 rfl rfl (q35 n1)))) rfl)
  (j6 (ifN (orN (x5 (j5 rfl (w6 rfl lv) (q35 n2))) (orN (z0a (Y3 rfl)) (x5 (j5 (w6 rfl rfl) (w6 rfl (v8 gone)) lne)))) rfl)
  (j6 (V3 (z8d rfl) rfl)
  (j6 (u9 (q0C rfl) l2) (Z8 rfl)))))))))
end
theorem z4n {a:List Str}(ha:∀ x∈a,Tx x):dNe (strsL a) (strsL a)=.ok (.bl false):=by
 rw [q5w,j8 (z0x (q2B ha 0) (q2B ha 0) (by decide) (by decide))]
 unfold strsL
 rw [q9w,q4N q0c,N0o rfl];rfl
noncomputable def z92 (ks:List Str) (vs:List Nd) (x:Str) (b:Bool):Prop :=
 (b=true/\F_G [webD ks vs,.str x]=.ok .non)\/(b=false/\∃ (gone:List Str) (ws:List (List Str)),gone.length<=16/\ws.length<=16/\F_G [webD ks vs,.str x]=.ok (.tup [strsL gone,.lst (ws.map strsL)]) /\
  F_p [.tup [strsL gone,.lst (ws.map strsL)],.str x,strsL ks,.lst (vs.map Nd.toD)]=.ok (.bl true))
theorem z0Q {ks:List Str}{vs:List Nd}(hw:WebOk ks vs) (hp:∀ v∈vs,v.plain=true) (hsn:s!"sun"∉ks){x:Str}{v:Nd}(m:(x,v)∈ks.zip vs):F_c 8 [v.toD,.lst []]=.ok (.bl v.sunny)/\z92 ks vs x v.sunny:=by
 obtain ⟨hx,hv,hn⟩:=q1g hw.nd m
 have p1:=q6M ks vs hw.len hw.le hw.nd λ u mu=>⟨(hw.good u mu).1,by have:=(hw.good u mu).2;omega⟩
 rw [show vs.all Nd.plain=true from N21.2 hp] at p1
 obtain ⟨⟨ss,sm,g1⟩,g2⟩:=hw.good v hv
 have mt:F_c 8 [v.toD,.lst []]=.ok (.bl (v.met [])):=q1e (q1d []) 8 v g1 (by omega)
 have hm:v.met []=v.sunny:=by
  rw [N1y,q1T 3 v g2 (hp v hv)]
  exact ⟨λ z=>z.elim id λ ⟨o1_,o2_,q⟩=>(nomatch q),.inl⟩
 rw [hm] at mt
 refine ⟨mt,?_⟩
 cases z:v.sunny with
 | true=>exact .inl ⟨rfl,z4k hw hx p1 hn hv z⟩
 | false =>
  obtain ⟨gone,ws,e,r⟩:=z6c hw hx hsn p1 hn hv z
  have ok:=z4l hw hx hsn (λ ⟨u,mu,y⟩=>by
   have:=(q1g hw.nd mu).2.2
   rw [hn] at this;cases this
   rw [z] at y;cases y) hp r
  have gl:gone.length<=16:=N0v ok.gsub.length_le hw.le
  exact .inr ⟨rfl,gone,ws,gl,by rw [ok.len];exact gl,e,z28 hw hp hx ok⟩
theorem z2E {ks:List Str}{vs:List Nd}{a:Nat}(h1:a<ks.length) (h2:a<vs.length):(ks[a],vs[a])∈ks.zip vs:=by
 rw [<- List.getElem_zip (h:=by rw [List.length_zip];lia)]
 exact N0z _
noncomputable abbrev z8s:GS:=(gSeq (X4 6 (gOp q0J (gOp J3 (gCall F_b (gCons (gVar 0) (gCons (gC (.int 14)) gNil))) (gOp q79 (gVar 5) (gOp J3 (gC (.int 1)) (gOp q0J (gCall F_b (gCons (gVar 0) (gCons (gC (.int 15)) gNil))) (gC (.int 9)))))) (gCall pLen (gCons (gVar 1) gNil))))
 (gSeq (X4 7 (gCall F_G (gCons (gVar 4) (gCons (gOp dIx (gVar 1) (gVar 6)) gNil))))
 (Y9 (gTru (gCall (F_c 8) (gCons (gOp dIx (gVar 2) (gVar 6)) (gCons (gLst gNil) gNil)))) (Y9 (gB (gOp q6h (gVar 7) (gC .non))) (y7 (gC (.bl false))) Z6) (gSeq (Y9 (q03 (gTru (gCall F_p (gCons (gVar 7) (gCons (gOp dIx (gVar 1) (gVar 6)) (gCons (gVar 1) (gCons (gVar 2) gNil))))))) (y7 (gC (.bl false))) Z6)
 (gSeq (q5t 7 (gC (.str "x")) (gLst (gCons (gC (.str "x")) gNil)))
 (Y9 (q03 (gTru (gCall F_p (gCons (gCall F_G (gCons (gVar 4) (gCons (gOp dIx (gVar 1) (gVar 6)) gNil))) (gCons (gOp dIx (gVar 1) (gVar 6)) (gCons (gVar 1) (gCons (gVar 2) gNil))))))) (y7 (gC (.bl false))) Z6))))))
theorem z29 {ks:List Str}{vs:List Nd}(hw:WebOk ks vs) (hp:∀ v∈vs,v.plain=true) (hsn:s!"sun"∉ks) (h0:0<ks.length) (ns:List Int) (ST:D) (k:Nat) (hk:k<2) :
 ∃ δ',z8s [some (intsL ns),some (strsL ks),some (.lst (vs.map Nd.toD)),some ST,some (webD ks vs),some (.int (0+(k:Int))),none,none]=.ok (.nx δ')/\forget [5,6,7] δ'=[some (intsL ns),some (strsL ks),some (.lst (vs.map Nd.toD)),some ST,some (webD ks vs),none,none,none]:=by
 have c14:=q8f ns 14 (by decide)
 have c15:=q8f ns 15 (by decide)
 rw [show Int.toNat 14=14 from rfl] at c14
 rw [show Int.toNat 15=15 from rfl] at c15
 obtain ⟨a,ha,hae⟩:=z0E (cellD ns 14+(0+(k:Int)) * (1+cellD ns 15 % 9)) ks.length h0
 have ha2:a<vs.length:=by rw [<- hw.len];exact ha
 obtain ⟨mt,cl⟩:=z0Q hw hp hsn (z2E ha ha2)
 have i1:=q4O ks a ha
 have i2:dIx (.lst (vs.map Nd.toD)) (.int (a:Int))=.ok vs[a].toD:=by simp [q0a,ha2]
 have k1:pLen [strsL ks]=.ok (.int (ks.length:Int)):=v8 ks
 have tp:(0:Int)<(ks.length:Int):=by simp_all
 have mul:=z0d (0+(k:Int)) (1+cellD ns 15 % 9) (by simp) (by lia)
 generalize D.int (0+(k:Int))=KK at *
 have t6:gOp q0J (gOp J3 (gCall F_b (gCons (gVar 0) (gCons (gC (.int 14)) gNil))) (gOp q79 (gVar 5) (gOp J3 (gC (.int 1)) (gOp q0J (gCall F_b (gCons (gVar 0) (gCons (gC (.int 15)) gNil))) (gC (.int 9)))))) (gCall pLen (gCons (gVar 1) gNil)) [some (intsL ns),some (strsL ks),some (.lst (vs.map Nd.toD)),some ST,some (webD ks vs),some KK,none,none]=.ok (.int (a:Int)) :=
  j5 (j5 (w6 rfl c14) (j5 rfl (j5 rfl (j5 (w6 rfl c15) rfl (x0 (by decide))) rfl) mul) rfl) (w6 rfl k1) (by rw [x0 tp,hae])
 have tm:∀ o7:Option D,gTru (gCall (F_c 8) (gCons (gOp dIx (gVar 2) (gVar 6)) (gCons (gLst gNil) gNil))) [some (intsL ns),some (strsL ks),some (.lst (vs.map Nd.toD)),some ST,some (webD ks vs),some KK,some (.int (a:Int)),o7]=.ok vs[a].sunny:=λ o7=>Y3 (w6 (Q2 (j5 rfl rfl i2) (Q2 z0g rfl)) mt)
 rcases cl with ⟨z,c1⟩ | ⟨z,gone,ws,gl,wl,c1,c2⟩
 ·rw [z] at tm
  exact ⟨[some (intsL ns),some (strsL ks),some (.lst (vs.map Nd.toD)),some ST,some (webD ks vs),some KK,some (.int (a:Int)),some .non],j6 (W7 t6) (j6 (W7 (w6 (Q2 rfl (Q2 (j5 rfl rfl i1) rfl)) c1)) (ifY (tm _) (ifN (x5 rfl) rfl))),rfl⟩
 ·rw [z] at tm
  have pz:q5t 7 (gC (.str "x")) (gLst (gCons (gC (.str "x")) gNil)) [some (intsL ns),some (strsL ks),some (.lst (vs.map Nd.toD)),some ST,some (webD ks vs),some KK,some (.int (a:Int)),some (.tup [strsL gone,.lst (ws.map strsL)])]=.ok (.nx [some (intsL ns),some (strsL ks),some (.lst (vs.map Nd.toD)),some ST,some (webD ks vs),some KK,some (.int (a:Int)),none]):=by
   unfold q5t
   rw [z7G,Z3]
   show Rz.guard ((gone.map D.str).length+2<sizeLine/\(ws.map strsL).length+2<sizeLine) _=_
   rw [j8 ⟨by rw [N01,W5];lia,by rw [N01,W5];lia⟩,z8d rfl];rfl
  exact ⟨[some (intsL ns),some (strsL ks),some (.lst (vs.map Nd.toD)),some ST,some (webD ks vs),some KK,some (.int (a:Int)),none],j6 (W7 t6) (j6 (W7 (w6 (Q2 rfl (Q2 (j5 rfl rfl i1) rfl)) c1)) (ifN (tm _) (j6 (ifN (z0a (Y3 (w6 (Q2 rfl (Q2 (j5 rfl rfl i1) rfl)) c2))) rfl) (j6 pz (ifN (z0a (Y3 (w6 (Q2 (w6 (Q2 rfl (Q2 (j5 rfl rfl i1) rfl)) c1) (Q2 (j5 rfl rfl i1) rfl)) c2))) rfl))))),rfl⟩
theorem z4o (ns:List Int):F_K [intsL ns]=.ok (.bl true):=by
 have c16:=q8f ns 16 (by decide)
 rw [show Int.toNat 16=16 from rfl] at c16
 have hd:F_v [intsL ns,.bl true]=.ok (.tup [strsL ((pool ns).take (cnt ns)),.lst ((drawN ns true).map Nd.toD),strsL ((pool ns).drop (cnt ns))]):=z1R ns true
 have w:=(z1V ns true).take 10
 have hok:=q6I ns true
 have hpos:=z0A ns
 have hcn:=q5G ns
 have hnm:=q2i ns (cnt ns)
 generalize (pool ns).take (cnt ns)=KS at *
 generalize drawN ns true=VS at *
 have hcut1:dCut (strsL KS) none (some 10)=.ok (strsL (KS.take 10)):=z0C KS 10
 have hcut2:dCut (.lst (VS.map Nd.toD)) none (some 10)=.ok (.lst ((VS.take 10).map Nd.toD)):=z1X VS 10
 have hnm':∀ y∈KS.take 10,Nm y:=λ y m=>hnm y (N28 m)
 have hl0:0<(KS.take 10).length:=by rw [N16];lia
 have hp:∀ v∈VS.take 10,v.plain=true:=λ v m=>q7O v (hok v (N28 m)).1
 generalize KS.take 10=ks at *
 generalize VS.take 10=vs at *
 clear hok hnm
 have hsun:s!"sun"∉ks:=λ m=>z0u _ (hnm' _ m) (by decide +kernel)
 have hb:=z0B w hnm'
 have hk:=q2A ks vs
 have hne:=z4n w.tx
 have heq:=q6G w.tx w.tx
 rw [N0o rfl] at heq
 have k1:pLen [strsL ks]=.ok (.int (ks.length:Int)):=v8 ks
 have hl:W6 5 [5,6,7] z8s (rangeD 0 2) [some (intsL ns),some (strsL ks),some (.lst (vs.map Nd.toD)),some (strsL ((pool ns).drop (cnt ns))),some (webD ks vs),none,none,none]=.ok (.nx [some (intsL ns),some (strsL ks),some (.lst (vs.map Nd.toD)),some (strsL ((pool ns).drop (cnt ns))),some (webD ks vs),none,none,none]) :=
  q1a (n:=2) (λ o_=>[some (intsL ns),some (strsL ks),some (.lst (vs.map Nd.toD)),some (strsL ((pool ns).drop (cnt ns))),some (webD ks vs),none,none,none]) rfl λ k hk=>by
   obtain ⟨δ',h1,h2⟩:=z29 w hp hsun hl0 ns (strsL ((pool ns).drop (cnt ns))) k hk
   exact ⟨δ',.inl h1,h2⟩
 generalize strsL ((pool ns).drop (cnt ns))=ST at *
 have r2:Rng 2:=by unfold Rng;simp
 have e1:dEq (.int (ks.length:Int)) (.int 1)=.ok (.bl (decide ((ks.length:Int)=1))):=by rw [q31,j8 (q4z _ _),q4y,q4B]
 have pre:∀ {r:GS}{d:D}{δ:DS},r [some (intsL ns),some (strsL ks),some (.lst (vs.map Nd.toD)),some ST,some (webD ks vs),none,none,none]=.ok (.rt d δ)->K2 8 (gSeq (z4t [1,2,3] (gCall F_v (gCons (gVar 0) (gCons (gC (.bl true)) gNil)))) (gSeq (X4 1 (gSl (gVar 1) gON (gOI (gC (.int 10))))) (gSeq (X4 2 (gSl (gVar 2) gON (gOI (gC (.int 10))))) (gSeq (gSetO 4 (gCall F_u (gCons (gVar 1) (gCons (gVar 2) gNil)))) (gSeq (q1B (q1A (gC (.int 2))) 5 [5,6,7] z8s) r))))) [intsL ns]=.ok d:=λ h =>
  W1 (j6 (z5W (w6 rfl hd) rfl) (j6 (W7 (q8c rfl rfl rfl hcut1)) (j6 (W7 (q8c rfl rfl rfl hcut2)) (j6 (V3 (w6 rfl hb) rfl) (j6 (u9 (q33 rfl r2) hl) h)))))
 have kd:u5 0 "kinds" F_j (gVar 4) gNil [some (intsL ns),some (strsL ks),some (.lst (vs.map Nd.toD)),some ST,some (webD ks vs),none,none,none]=.ok (strsL ks):=q0D rfl rfl rfl hk
 by_cases h1:ks.length=1
 ·rw [N0o (show (ks.length:Int)=1 by simp_all)] at e1
  exact pre (x9 (ifY (orN (x5 (j5 kd rfl hne)) (x5 (j5 (w6 rfl k1) rfl e1))) (Z8 (j5 kd rfl heq))))
 ·have h2:1<ks.length:=by lia
  have hne1:¬ (ks.length:Int)=1:=by lia
  have hv2:1<vs.length:=by rw [<- w.len];exact h2
  obtain ⟨b,hbl,hbe⟩:=z0E (cellD ns 16) (ks.length - 1) (Nat.sub_pos_of_lt h2)
  have hbe':cellD ns 16 % ((ks.length:Int) - 1)=(b:Int):=by rw [<- hbe];congr 1;exact (Int.ofNat_sub hl0).symm
  have b1:b+1<ks.length:=Nat.add_lt_of_lt_sub hbl
  have b2:b+1<vs.length:=by rw [<- w.len];exact b1
  have dr:=z1W w hl0
  rw [List.take_zero,List.take_zero,N1v,N1v] at dr
  have w2:=w.drop hl0
  rw [List.take_zero,List.take_zero,N1v,N1v] at w2
  have mz:(ks[b+1],vs[b+1])∈(ks.drop 1).zip (vs.drop 1):=by
   have:=z2E (ks:=ks.drop 1) (vs:=vs.drop 1) (a:=b) (by rw [N1k];simp_all) (by rw [N1k];lia)
   rw [List.getElem_drop,List.getElem_drop] at this
   simpa [Nat.add_comm] using this
  obtain ⟨mt,cl⟩:=z0Q w2 (λ v m=>hp v (List.mem_of_mem_drop m)) (λ m=>hsun (List.mem_of_mem_drop m)) mz
  unfold z92 at cl
  have i0:=q4O ks 0 hl0
  rw [show ((0:Nat):Int)=0 from rfl] at i0
  have i1:=q4O ks (b+1) b1
  rw [show ((b+1:Nat):Int)=1+(b:Int) by lia] at i1
  have i2:dIx (.lst (vs.map Nd.toD)) (.int (1+(b:Int)))=.ok vs[b+1].toD:=by
   rw [show 1+(b:Int)=((b+1:Nat):Int) by lia,q4A,q0a,N0i,N08 b2];rfl
  have s1:dCut (strsL ks) (some 1) none=.ok (strsL (ks.drop 1)):=z0D ks 0
  have s2:dCut (.lst (vs.map Nd.toD)) (some 1) none=.ok (.lst ((vs.drop 1).map Nd.toD)):=z1Y vs 0
  have tp:(0:Int)<(ks.length:Int) - 1:=by lia
  rw [N0e hne1] at e1
  have go:∀ {r:GS}{d:D}{δ:DS},r [some (intsL ns),some (strsL ks),some (.lst (vs.map Nd.toD)),some ST,some (webD (List.drop (0+1) ks) (List.drop (0+1) vs)),none,some (.int (1+(b:Int))),none]=.ok (.rt d δ)->gSeq (Y9 (q1U (gB (gOp dNe (u5 0 "kinds" F_j (gVar 4) gNil) (gVar 1))) (gB (gOp dEq (gCall pLen (gCons (gVar 1) gNil)) (gC (.int 1))))) (y7 (gOp dEq (u5 0 "kinds" F_j (gVar 4) gNil) (gVar 1))) Z6) (gSeq (V4 (q2P 0 "drop" F_E 4 (gCons (gOp dIx (gVar 1) (gC (.int 0))) gNil))) (gSeq (X4 6 (gOp J3 (gC (.int 1)) (gOp q0J (gCall F_b (gCons (gVar 0) (gCons (gC (.int 16)) gNil))) (gOp q8G (gCall pLen (gCons (gVar 1) gNil)) (gC (.int 1)))))) r)) [some (intsL ns),some (strsL ks),some (.lst (vs.map Nd.toD)),some ST,some (webD ks vs),none,none,none]=.ok (.rt d δ):=λ h =>
   j6 (ifN (orN (x5 (j5 kd rfl hne)) (x5 (j5 (w6 rfl k1) rfl e1))) rfl) (j6 (z5X (Q2 (j5 rfl rfl i0) rfl) rfl (z0v ks vs) rfl dr) (j6 (W7 (j5 rfl (j5 (w6 rfl c16) (j5 (w6 rfl k1) rfl rfl) (by rw [x0 tp,hbe'])) rfl)) h))
  have cu:∀ {q:Rz D},F_G [webD (List.drop (0+1) ks) (List.drop (0+1) vs),.str ks[b+1]]=q->gCall F_G (gCons (gVar 4) (gCons (gOp dIx (gVar 1) (gVar 6)) gNil)) [some (intsL ns),some (strsL ks),some (.lst (vs.map Nd.toD)),some ST,some (webD (List.drop (0+1) ks) (List.drop (0+1) vs)),none,some (.int (1+(b:Int))),none]=q:=λ h=>w6 (Q2 rfl (Q2 (j5 rfl rfl i1) rfl)) h
  rcases cl with ⟨z,c1⟩ | ⟨z,gone,ws,gl,wl,c1,c2⟩
  ·rw [z] at mt
   exact pre (go (j6 (W7 (cu c1)) (x9 (ifY (Y3 (w6 (Q2 (j5 rfl rfl i2) (Q2 z0g rfl)) mt)) (Z8 rfl)))))
  ·rw [z] at mt
   exact pre (go (j6 (W7 (cu c1)) (j6 (ifN (Y3 (w6 (Q2 (j5 rfl rfl i2) (Q2 z0g rfl)) mt)) rfl) (Z8 (w6 (Q2 rfl (Q2 (j5 rfl rfl i1) (Q2 (q8c rfl rfl rfl s1) (Q2 (q8c rfl rfl rfl s2) rfl)))) c2)))))
end Fw
namespace Fw
open PySem Dl PyProof.Rows
open L2 hiding gNil gCons gTup
def top (i:Nat):Stmt:=PySem.Challenge.pw_feedweb_k12_whole_cut.main.body.getD i (.Pass ⟨0,0,0,0⟩)
noncomputable abbrev s_h:Stmt:=top 8
noncomputable abbrev s_r:Stmt:=top 9
noncomputable abbrev s_B:Stmt:=top 13
noncomputable abbrev J0:Stmt:=top 14
noncomputable abbrev s_m:Stmt:=top 15
noncomputable abbrev s_G:Stmt:=top 16
noncomputable abbrev J1:Stmt:=top 17
noncomputable abbrev s_q:Stmt:=top 18
noncomputable abbrev s_l:Stmt:=top 19
noncomputable abbrev s_o:Stmt:=top 20
noncomputable abbrev s_z:Stmt:=top 21
noncomputable abbrev s_C:Stmt:=top 22
noncomputable abbrev s_y:Stmt:=top 23
noncomputable abbrev s_D:Stmt:=top 28
noncomputable abbrev s___init__:Stmt:=q1X (top 29) 0
noncomputable abbrev s_H:Stmt:=q1X (top 29) 1
noncomputable abbrev s_E:Stmt:=q1X (top 29) 2
noncomputable abbrev s_j:Stmt:=q1X (top 29) 3
noncomputable abbrev s_g:Stmt:=q1X (top 29) 4
noncomputable abbrev s_a:Stmt:=q1X (top 29) 5
noncomputable abbrev s_b:Stmt:=top 31
noncomputable abbrev s_k:Stmt:=top 32
noncomputable abbrev s_w:Stmt:=top 33
noncomputable abbrev s_n:Stmt:=top 34
noncomputable abbrev s_i:Stmt:=top 35
noncomputable abbrev J2:Stmt:=top 36
noncomputable abbrev s_c:Stmt:=top 37
noncomputable abbrev s_v:Stmt:=top 38
noncomputable abbrev s_u:Stmt:=top 39
noncomputable abbrev s_s:Stmt:=top 40
noncomputable abbrev s_x:Stmt:=top 41
noncomputable abbrev s_A:Stmt:=top 42
noncomputable abbrev s_p:Stmt:=top 43
noncomputable abbrev s_K:Stmt:=top 44
section
variable {P:Program}{w:World}{K:W.Frag}{mg:Str->Option Value}{base:Heap}{cl ce:Nat->Addr}
theorem q8t:FnScope ["text"] ["text"] (defScope s_D):=by nofun
theorem z0R {r:Nat}{f_D:Addr}{e_D:FuncData}(D_D:Df K mg "is_name" s_D ["text"] f_D e_D){tk_F:Tok}(c_F:mg "MOST_LETTERS" = some (.int 8 tk_F)){ad_d:Addr}{ob_d:Obj}{its_d:Array Value}{n_d:Nat}(w_d:mg "KEPT_WORDS" = some (.ref ad_d)) (k_d:K.lookup ad_d=some ob_d) (c_d:ob_d.cls=.type "tuple") (d_d:ob_d.data=.seq its_d n_d) (z_d:its_d.size<=sizeLine) (v_d:Vals (wKEPT_WORDS.map V.str) its_d.toList) (m_all:mg "all" = none) (m_len:mg "len" = none) :
 FnOk P w K mg base CX0 (r+1) f_D e_D ["text"] (spD K cl 1 (K2 1 (q3a))) :=
 q1H (κ:=[.b]) (κ':=[.b]) D_D.F q8t rfl (by decide) λ cdv A outer s H E hsn hr=>have hu:=hr.units;
 (z8 (W8 (DW.dt (q1l (Q4 q8X q5o q5p (Q6 Q8 Q7 W3 rfl m_len PySem.boot_len (z6 (z0 0 rfl rfl) z9)) j3 (Z2 _)) (q1l (Q4 z14 q7h q7i (Q6 Q8 Q7 W3 rfl m_len PySem.boot_len (z6 (z0 0 rfl rfl) z9)) (q4v rfl c_F) (Z2 _)) (q0M (z5B rfl w_d k_d c_d d_d z_d v_d (z0 0 rfl rfl)))))) (j7 (Q9 q1i (λ o_ h=>nomatch h))) Z1)
  (j7 (Q9 (Q6 (V6 rfl) q1I q4u rfl m_all q1J (z6 (q04 (kx:=.v) [] rfl rfl (Y2 (z0 0 rfl rfl)) (λ o_=>U5) (λ o_=>(z1z z2l z2l z2k z2k z2o z2o Z0 (z0 0 rfl rfl) Z0))) z9)) (λ o_ h=>nomatch h))))
theorem z6e:FnScope ["self","name","need"] ["self","name","need"] (defScope s_H):=by nofun
theorem z8t {r:Nat}{f_H:Addr}{e_H:FuncData}(R_H:Fun K "add" "Web.add" s_H f_H e_H){f_D:Addr}{e_D:FuncData}{F_D:PF}(D_D:Df K mg "is_name" s_D ["text"] f_D e_D) (G_D:FnOk P w K mg base CX0 r f_D e_D ["text"] (spD K cl 1 F_D)) (ClW:Cls K (cl 0)) (NaW:Y1 K (cl 0) "need_by_name"){tk_I:Tok}(c_I:mg "MOST_KINDS" = some (.int 16 tk_I)) (m_len:mg "len" = none) :
 FnOk P w K mg base CX0 (r+1) f_H e_H ["self","name","need"] (spI K cl 3 1 (z3h 3 1 (z40 F_D))) :=
 z8G (z6r (κ:=[.i,.b,.b]) (κ':=[.i,.b,.b]) R_H z6e rfl (by decide) (by decide) rfl λ cdv A outer s H E iv l hsn hr=>have hu:=hr.units;
 (z8 (W8 (q0z (x8 (Q0 D_D G_D hr rfl (z7 j4) (z6 (z0 1 rfl rfl) z9)))) (j7 q1D) Z1)
  (z8 (W8 (Q4 (q0S hu) q0T q0U (z0 1 rfl rfl) (q5s (c:=0) ClW NaW (z0 0 rfl rfl)) rfl) (j7 q1D) Z1)
  (z8 (W8 (Q4 z2n z2m z2p (Q6 Q8 Q7 W3 rfl m_len PySem.boot_len (z6 (q5s (c:=0) ClW NaW (z0 0 rfl rfl)) z9)) (q4v rfl c_I) (Z2 _)) (j7 q1D) Z1)
  (j7 (z3I (c:=0) 0 ClW NaW (N0r rfl) rfl hu (z0 1 rfl rfl) (q0k 2))))))) (by decide)
theorem q29:FnScope ["self","name"] ["self","name"] (defScope s_a):=by nofun
theorem q2p {r:Nat}{f_a:Addr}{e_a:FuncData}(R_a:Fun K "refuse_unknown" "Web.refuse_unknown" s_a f_a e_a) (ClW:Cls K (cl 0)) (NaW:Y1 K (cl 0) "need_by_name") :
 FnOk P w K mg base CX0 (r+1) f_a e_a ["self","name"] (spD K cl 2 (K2 2 (q0F))) :=
 q1H (κ:=[.b,.b]) (κ':=[.b,.b]) R_a q29 rfl (by decide) λ cdv A outer s H E hsn hr=>have hu:=hr.units;
 (j7 (W8 (Q4 (v5 hu) v6 v7 (z0 1 rfl rfl) (q5s (c:=0) ClW NaW (z0 0 rfl rfl)) rfl) (j7 q1D) Z1))
theorem z4p:FnScope ["self","name"] ["self","name"] (defScope s_E):=by nofun
theorem z6f {r:Nat}{f_E:Addr}{e_E:FuncData}(R_E:Fun K "drop" "Web.drop" s_E f_E e_E){f_a:Addr}{e_a:FuncData}{F_a:PF}(M_a:Meth K (cl 0) "refuse_unknown" f_a) (B_a:y9 K e_a ["self","name"] []) (G_a:FnOk P w K mg base CX0 r f_a e_a ["self","name"] (spD K cl 2 F_a)) (ClW:Cls K (cl 0)) (NaW:Y1 K (cl 0) "need_by_name") :
 FnOk P w K mg base CX0 (r+1) f_E e_E ["self","name"] (spI K cl 2 1 (z3h 2 1 (z0h F_a))) :=
 z8G (z6r (κ:=[.i,.b]) (κ':=[.i,.b]) R_E z4p rfl (by decide) (by decide) rfl λ cdv A outer s H E iv l hsn hr=>have hu:=hr.units;
 (z8 (q6k (q1Z (c:=0) ClW M_a G_a hr B_a (λ δ ds h=>congrArg (· + 1) ((z7 j4) δ ds h)) (z0 0 rfl rfl) (z6 (z0 1 rfl rfl) z9)))
  (j7 (z3J (c:=0) 0 ClW NaW (N0r rfl) rfl (z0 1 rfl rfl) (hm:=⟨rfl,rfl,rfl,rfl⟩))))) (by decide)
theorem z2a:FnScope ["self"] ["self"] (defScope s_j):=by nofun
theorem z4q {r:Nat}{f_j:Addr}{e_j:FuncData}(R_j:Fun K "kinds" "Web.kinds" s_j f_j e_j) (ClW:Cls K (cl 0)) (NaW:Y1 K (cl 0) "need_by_name") (m_list:mg "list" = none) :
 FnOk P w K mg base CX0 (r+1) f_j e_j ["self"] (spD K cl 1 (K2 1 (z0i))) :=
 q1H (κ:=[.b]) (κ':=[.b]) R_j z2a rfl (by decide) λ cdv A outer s H E hsn hr=>have hu:=hr.units;
 (j7 (Q9 (z2r (q1G (q3K rfl) q3L rfl m_list V9 (z6 (q5s (c:=0) ClW NaW (z0 0 rfl rfl)) z9))) (λ o_ h=>nomatch h)))
theorem q8u:FnScope ["self","name"] ["self","name"] (defScope s_g):=by nofun
theorem z0S {r:Nat}{f_g:Addr}{e_g:FuncData}(R_g:Fun K "need_of" "Web.need_of" s_g f_g e_g){f_a:Addr}{e_a:FuncData}{F_a:PF}(M_a:Meth K (cl 0) "refuse_unknown" f_a) (B_a:y9 K e_a ["self","name"] []) (G_a:FnOk P w K mg base CX0 r f_a e_a ["self","name"] (spD K cl 2 F_a)) (ClW:Cls K (cl 0)) (NaW:Y1 K (cl 0) "need_by_name") :
 FnOk P w K mg base CX0 (r+1) f_g e_g ["self","name"] (spD K cl 2 (K2 2 (q5B F_a))) :=
 q1H (κ:=[.b,.b]) (κ':=[.b,.b]) R_g q8u rfl (by decide) λ cdv A outer s H E hsn hr=>have hu:=hr.units;
 (z8 (q6k (q1Z (c:=0) ClW M_a G_a hr B_a (λ δ ds h=>congrArg (· + 1) ((z7 j4) δ ds h)) (z0 0 rfl rfl) (z6 (z0 1 rfl rfl) z9)))
  (j7 (Q9 (q2V (w9 hu (q5s (c:=0) ClW NaW (z0 0 rfl rfl)) (z0 1 rfl rfl))) (λ o_ h=>nomatch h))))
theorem q6N:FnScope ["need"] ["need"] (defScope s_h):=by nofun
theorem q8v {r:Nat}{f_h:Addr}{e_h:FuncData}(D_h:Df K mg "parts_of" s_h ["need"] f_h e_h) :
 FnOk P w K mg base CX0 (r+1) f_h e_h ["need"] (spD K cl 1 (K2 1 (q3P))) :=
 q1H (κ:=[.b]) (κ':=[.b]) D_h.F q6N rfl (by decide) λ cdv A outer s H E hsn hr=>have hu:=hr.units;
 (j7 (Q9 (z7w (Q4 (q0S hu) q0T q0U (w9 hu (z0 0 rfl rfl) j3) (K9 (z6 Z0 (z6 Z0 (z6 Z0 z9)))) rfl) (q2V (w9 hu (z0 0 rfl rfl) (z7u z4Q z3z z3y j3))) (K9 z9)) (λ o_ h=>nomatch h)))
theorem q0t:FnScope ["need","found","part","name"] ["need"] (defScope s_r):=by nofun
theorem q8w {r:Nat}{f_r:Addr}{e_r:FuncData}(D_r:Df K mg "names_of" s_r ["need"] f_r e_r){F_r:PF}(G_r:FnOk P w K mg base CX0 r f_r e_r ["need"] (spD K cl 1 F_r)){f_h:Addr}{e_h:FuncData}{F_h:PF}(D_h:Df K mg "parts_of" s_h ["need"] f_h e_h) (G_h:FnOk P w K mg base CX0 r f_h e_h ["need"] (spD K cl 1 F_h)) (m_list:mg "list" = none) :
 FnOk P w K mg base CX0 (r+1) f_r e_r ["need"] (spD K cl 1 (K2 4 (q1b F_r F_h))) :=
 q1H (κ:=[.b,.o,.s,.s]) (κ':=[.b,.o,.s,.s]) D_r.F q0t rfl (by decide) λ cdv A outer s H E hsn hr=>have hu:=hr.units;
 (z8 (W8 (Q4 (X8 hu) X9 v4 (w9 hu (z0 0 rfl rfl) j3) Z0 (Z2 _)) (j7 (Q9 (u6 (z6 (q2V (w9 hu (z0 0 rfl rfl) j3)) z9)) (λ o_ h=>nomatch h))) Z1)
  (z8 (Y0 (i:=1) (by decide) q0t.nd rfl (N0k rfl) q6j)
  (z8 (X7 (i:=2) (k:=.b) (fg:=[2,3]) (N0k rfl) (by decide) q0t.nd rfl (N0k rfl) PassesOwn.never rfl (Y2 (Q0 D_h G_h hr rfl (z7 j4) (z6 (z0 0 rfl rfl) z9))) (j7 (X7 (i:=3) (k:=.b) (fg:=[3]) (N0k rfl) (by decide) q0t.nd rfl (N0k rfl) PassesOwn.never rfl (Y2 (Q0 D_r G_r hr rfl (z7 j4) (z6 (z0 2 rfl rfl) z9))) (j7 (q5n 1 (N0k rfl) rfl hu (z0 3 rfl rfl) q1i)) rfl)) rfl)
  (j7 (Q9 (q1G (q3K rfl) q3L rfl m_list V9 (z6 (z0 1 rfl rfl) z9)) (λ o_ h=>nomatch h))))))
theorem q2q:FnScope ["need"] ["need"] (defScope J0):=by nofun
theorem q3m {r:Nat}{f_e:Addr}{e_e:FuncData}(D_e:Df K mg "is_plain_need" J0 ["need"] f_e e_e){F_e:PF}(G_e:FnOk P w K mg base CX0 r f_e e_e ["need"] (spD K cl 1 F_e)){f_h:Addr}{e_h:FuncData}{F_h:PF}(D_h:Df K mg "parts_of" s_h ["need"] f_h e_h) (G_h:FnOk P w K mg base CX0 r f_h e_h ["need"] (spD K cl 1 F_h)) (m_all:mg "all" = none) :
 FnOk P w K mg base CX0 (r+1) f_e e_e ["need"] (spD K cl 1 (K2 1 (q0W F_e F_h))) :=
 q1H (κ:=[.b]) (κ':=[.b]) D_e.F q2q rfl (by decide) λ cdv A outer s H E hsn hr=>have hu:=hr.units;
 (z8 (W8 (Q4 (q0S hu) q0T q0U (w9 hu (z0 0 rfl rfl) j3) (K9 (z6 Z0 (z6 Z0 z9))) rfl) (j7 (Q9 q1i (λ o_ h=>nomatch h))) Z1)
  (j7 (Q9 (Q6 (V6 rfl) q1I q4u rfl m_all q1J (z6 (q04 (kx:=.v) [] rfl rfl (Y2 (Q0 D_h G_h hr rfl (z7 j4) (z6 (z0 0 rfl rfl) z9))) (λ o_=>U5) (λ o_=>(Q0 D_e G_e hr rfl (z7 j4) (z6 (z0 0 rfl rfl) z9)))) z9)) (λ o_ h=>nomatch h))))
theorem q6O:FnScope ["web"] ["web"] (defScope s_B):=by nofun
theorem q8x {r:Nat}{f_B:Addr}{e_B:FuncData}(D_B:Df K mg "is_plain" s_B ["web"] f_B e_B){f_e:Addr}{e_e:FuncData}{F_e:PF}(D_e:Df K mg "is_plain_need" J0 ["need"] f_e e_e) (G_e:FnOk P w K mg base CX0 r f_e e_e ["need"] (spD K cl 1 F_e)){f_j:Addr}{e_j:FuncData}{F_j:PF}(M_j:Meth K (cl 0) "kinds" f_j) (B_j:y9 K e_j ["self"] []) (G_j:FnOk P w K mg base CX0 r f_j e_j ["self"] (spD K cl 1 F_j)){f_g:Addr}{e_g:FuncData}{F_g:PF}(M_g:Meth K (cl 0) "need_of" f_g) (B_g:y9 K e_g ["self","name"] []) (G_g:FnOk P w K mg base CX0 r f_g e_g ["self","name"] (spD K cl 2 F_g)) (ClW:Cls K (cl 0)) (NaW:Y1 K (cl 0) "need_by_name") (m_all:mg "all" = none) :
 FnOk P w K mg base CX0 (r+1) f_B e_B ["web"] (spD K cl 1 (K2 1 (q3Q F_e F_j F_g))) :=
 q1H (κ:=[.b]) (κ':=[.b]) D_B.F q6O rfl (by decide) λ cdv A outer s H E hsn hr=>have hu:=hr.units;
 (j7 (Q9 (Q6 (V6 rfl) q1I q4u rfl m_all q1J (z6 (q04 (kx:=.v) [("web",0)] rfl rfl (Y2 (q17 (c:=0) ClW M_j G_j hr B_j (z0 0 rfl rfl))) (λ o_=>U5) (λ o_=>(Q0 D_e G_e hr rfl (z7 j4) (z6 (q1Z (c:=0) ClW M_g G_g hr B_g (λ δ ds h=>congrArg (· + 1) ((z7 j4) δ ds h)) (z0 1 rfl rfl) (z6 (z0 0 rfl rfl) z9)) z9)))) z9)) (λ o_ h=>nomatch h)))
theorem q8y:FnScope ["need"] ["need"] (defScope s_m):=by nofun
theorem z0T {r:Nat}{f_m:Addr}{e_m:FuncData}(D_m:Df K mg "has_sun" s_m ["need"] f_m e_m){F_m:PF}(G_m:FnOk P w K mg base CX0 r f_m e_m ["need"] (spD K cl 1 F_m)){f_h:Addr}{e_h:FuncData}{F_h:PF}(D_h:Df K mg "parts_of" s_h ["need"] f_h e_h) (G_h:FnOk P w K mg base CX0 r f_h e_h ["need"] (spD K cl 1 F_h)) (m_any:mg "any" = none) :
 FnOk P w K mg base CX0 (r+1) f_m e_m ["need"] (spD K cl 1 (K2 1 (q5C F_m F_h))) :=
 q1H (κ:=[.b]) (κ':=[.b]) D_m.F q8y rfl (by decide) λ cdv A outer s H E hsn hr=>have hu:=hr.units;
 (j7 (q9C (z7v (q3E (X8 hu) X9 v4 (w9 hu (z0 0 rfl rfl) j3) Z0 (Z2 _)) (z2j (DE.nf (Q6 (q4a rfl) q9K z3B rfl m_any q9O (z6 (q04 (kx:=.v) [] rfl rfl (Y2 (Q0 D_h G_h hr rfl (z7 j4) (z6 (z0 0 rfl rfl) z9))) (λ o_=>U5) (λ o_=>(Q0 D_m G_m hr rfl (z7 j4) (z6 (z0 0 rfl rfl) z9)))) z9))))) (λ o_ h=>nomatch h)))
theorem y6:FnScope ["start","room","reached","newest","place","further"] ["start","room"] (defScope s_l):=by nofun
theorem q3r {r:Nat}{f_l:Addr}{e_l:FuncData}(D_l:Df K mg "reached_from" s_l ["start","room"] f_l e_l) :
 FnOk P w K mg base CX0 (r+1) f_l e_l ["start","room"] (spD K cl 2 (K2 6 (q1j))) :=
 q1H (κ:=[.b,.b,.o,.o,.s,.s]) (κ':=[.b,.b,.o,.o,.s,.s]) D_l.F y6 rfl (by decide) λ cdv A outer s H E hsn hr=>have hu:=hr.units;
 (z8 (Y0 (i:=2) (by decide) y6.nd rfl (N0k rfl) (z5F hu (z0 0 rfl rfl) q5l))
  (z8 (Y0 (i:=3) (by decide) y6.nd rfl (N0k rfl) (u6 (z6 (q0k 0) z9)))
  (z8 (q2u 100 (fg:=[4,5]) PassesOwn.never (x8 (z0 3 rfl rfl)) (z8 (z3L (i:=3) (j:=4) (k:=.s) (N0r rfl) rfl (by decide) (by decide) y6.nd rfl (N0k rfl))
  (j7 (z3N 1 (i:=5) (k:=.s) (fg:=[5]) PassesOwn.never rfl (N0r rfl) (by decide) y6.nd rfl (N0k rfl) hu (λ o_=>rfl) (λ o_ h=>h) rfl (z0 4 rfl rfl) (λ o_ o_=>rfl) (λ o_ o_=>(j7 (W8 (DW.dt (q3F (Q4 z14 q7h q7i (q7v hu (z0 1 rfl rfl) (z0 4 rfl rfl) (z0 5 rfl rfl)) j3 (Z2 _)) (q2Q (Q4 (v5 hu) v6 v7 (z0 5 rfl rfl) (z0 2 rfl rfl) rfl)))) (z8 (q5n 2 (N0k rfl) rfl hu (z0 5 rfl rfl) (z0 4 rfl rfl))
  (j7 (q3I 3 (N0k rfl) rfl (z0 5 rfl rfl)))) Z1))) rfl))) rfl)
  (j7 (q1m 2 rfl (λ o_ h=>nomatch h))))))
theorem q5V:FnScope ["place","further","many","room"] ["place","further","many","room"] (defScope s_q):=by nofun
theorem q6P {r:Nat}{f_q:Addr}{e_q:FuncData}(D_q:Df K mg "make_room" s_q ["place","further","many","room"] f_q e_q) :
 FnOk P w K mg base CX0 (r+1) f_q e_q ["place","further","many","room"] (spM K cl (z6p 4 (q1r))) :=
 fz_M (z6r (κ:=[.b,.b,.b,.i]) (κ':=[.b,.b,.b,.i]) D_q.F q5V rfl (by decide) (by decide) rfl λ cdv A outer s H E iv l hsn hr=>have hu:=hr.units;
 (z8 (q2v 3 (N0r rfl) rfl hu (z0 0 rfl rfl) (z0 1 rfl rfl) (z0 2 rfl rfl) (λ o_ o_=>rfl))
  (j7 (q2v 3 (N0r rfl) rfl hu (z0 1 rfl rfl) (z0 0 rfl rfl) j3 (λ o_ o_=>rfl)))))
theorem J9:FnScope ["web","name","room","others","kind","need","eaten"] ["web","name"] (defScope J1):=by nofun
theorem q3n {r:Nat}{f_t:Addr}{e_t:FuncData}(D_t:Df K mg "room_for_ways" J1 ["web","name"] f_t e_t){f_m:Addr}{e_m:FuncData}{F_m:PF}(D_m:Df K mg "has_sun" s_m ["need"] f_m e_m) (G_m:FnOk P w K mg base CX0 r f_m e_m ["need"] (spD K cl 1 F_m)){f_q:Addr}{e_q:FuncData}{F_q:PFI}(D_q:Df K mg "make_room" s_q ["place","further","many","room"] f_q e_q) (G_q:FnOk P w K mg base CX0 r f_q e_q ["place","further","many","room"] (spM K cl F_q)){f_r:Addr}{e_r:FuncData}{F_r:PF}(D_r:Df K mg "names_of" s_r ["need"] f_r e_r) (G_r:FnOk P w K mg base CX0 r f_r e_r ["need"] (spD K cl 1 F_r)){f_j:Addr}{e_j:FuncData}{F_j:PF}(M_j:Meth K (cl 0) "kinds" f_j) (B_j:y9 K e_j ["self"] []) (G_j:FnOk P w K mg base CX0 r f_j e_j ["self"] (spD K cl 1 F_j)){f_g:Addr}{e_g:FuncData}{F_g:PF}(M_g:Meth K (cl 0) "need_of" f_g) (B_g:y9 K e_g ["self","name"] []) (G_g:FnOk P w K mg base CX0 r f_g e_g ["self","name"] (spD K cl 2 F_g)) (ClW:Cls K (cl 0)) (NaW:Y1 K (cl 0) "need_by_name"){tk_J:Tok}(c_J:mg "NO_BOUND" = some (.int 100 tk_J)) (h98:cl 98=1) (w_SUN:mg "SUN_PLACE" = some (.ref (cl 99))) :
 FnOk P w K mg base CX0 (r+1) f_t e_t ["web","name"] (spD K cl 2 (K2 7 (q0X F_m F_q F_r F_j F_g))) :=
 q1H (κ:=[.b,.b,.o,.s,.s,.s,.s]) (κ':=[.b,.b,.o,.s,.s,.s,.s]) D_t.F J9 rfl (by decide) λ cdv A outer s H E hsn hr=>have hu:=hr.units;
 (z8 (Y0 (i:=2) (by decide) J9.nd rfl (N0k rfl) (z5G hu (K9 (z6 (z0 1 rfl rfl) (z6 Z0 z9))) (q5u rfl h98 w_SUN)))
  (z8 (q7o (i:=3) (k:=.s) (kx:=.v) [("name",1)] (N0r rfl) (by decide) J9.nd rfl (N0k rfl) rfl rfl (Y2 (q17 (c:=0) ClW M_j G_j hr B_j (z0 0 rfl rfl))) (λ o_=>q1F (Q4 (q2c hu) q2d q2e (z0 0 rfl rfl) (z0 1 rfl rfl) (Z2 _))) (λ o_=>(z0 0 rfl rfl)))
  (z8 (X7 (i:=4) (k:=.b) (fg:=[4]) (N0k rfl) (by decide) J9.nd rfl (N0k rfl) PassesOwn.never rfl (Y2 (z0 3 rfl rfl)) (z8 (q7w 2 rfl hu (K9 (z6 (z0 4 rfl rfl) (z6 Z0 z9))))
  (z8 (q7w 2 rfl hu (K9 (z6 (z0 4 rfl rfl) (z6 Z0 z9))))
  (j7 (q18 (q4w 2 D_q rfl G_q hr rfl (K9 (z6 (z0 4 rfl rfl) (z6 Z0 z9))) (K9 (z6 (z0 4 rfl rfl) (z6 Z0 z9))) j3))))) rfl)
  (z8 (X7 (i:=4) (k:=.b) (fg:=[4,5,6]) (N0k rfl) (by decide) J9.nd rfl (N0k rfl) PassesOwn.never rfl (Y2 (q17 (c:=0) ClW M_j G_j hr B_j (z0 0 rfl rfl))) (z8 (W0 (i:=5) (k:=.s) (N0r rfl) (by decide) J9.nd rfl (N0k rfl) (q1Z (c:=0) ClW M_g G_g hr B_g (λ δ ds h=>congrArg (· + 1) ((z7 j4) δ ds h)) (z0 0 rfl rfl) (z6 (z0 4 rfl rfl) z9)))
  (z8 (X7 (i:=6) (k:=.b) (fg:=[6]) (N0k rfl) (by decide) J9.nd rfl (N0k rfl) PassesOwn.never rfl (Y2 (Q0 D_r G_r hr rfl (z7 j4) (z6 (z0 5 rfl rfl) z9))) (j7 (W8 (DW.dt (q3F (Q4 (q0S hu) q0T q0U (z0 6 rfl rfl) (z0 3 rfl rfl) rfl) (q2Q (Q4 (q2c hu) q2d q2e (z0 6 rfl rfl) (z0 4 rfl rfl) (Z2 _))))) (j7 (q18 (q4w 2 D_q rfl G_q hr rfl (K9 (z6 (z0 4 rfl rfl) (z6 Z0 z9))) (K9 (z6 (z0 6 rfl rfl) (z6 Z0 z9))) (q4v rfl c_J)))) Z1)) rfl)
  (j7 (W8 (x8 (Q0 D_m G_m hr rfl (z7 j4) (z6 (z0 5 rfl rfl) z9))) (j7 (q18 (q4w 2 D_q rfl G_q hr rfl (K9 (z6 (z0 4 rfl rfl) (z6 Z0 z9))) (q5u rfl h98 w_SUN) (q4v rfl c_J)))) Z1)))) rfl)
  (j7 (q1m 2 rfl (λ o_ h=>nomatch h)))))))
theorem X3:FnScope ["reached","room","place","ahead"] ["reached","room"] (defScope s_o):=by nofun
theorem q3s {r:Nat}{f_o:Addr}{e_o:FuncData}(D_o:Df K mg "send_one_way" s_o ["reached","room"] f_o e_o) (h98:cl 98=1) (w_SUN:mg "SUN_PLACE" = some (.ref (cl 99))) :
 FnOk P w K mg base CX0 (r+1) f_o e_o ["reached","room"] (spJ K cl (z6n 4 (q05))) :=
 fz_J (z6r (κ:=[.b,.i,.s,.s]) (κ':=[.b,.i,.s,.s]) D_o.F X3 rfl (by decide) (by decide) rfl λ cdv A outer s H E iv l hsn hr=>have hu:=hr.units;
 (z8 (W0 (i:=2) (k:=.s) (N0r rfl) (by decide) X3.nd rfl (N0k rfl) (q5u rfl h98 w_SUN))
  (j7 (q2u 100 (fg:=[3]) PassesOwn.never (Q4 q9I q7k q7l (w9 hu (z0 0 rfl rfl) (z0 2 rfl rfl)) q5l (Z2 _)) (z8 (W0 (i:=3) (k:=.s) (N0r rfl) (by decide) X3.nd rfl (N0k rfl) (q2V (w9 hu (z0 0 rfl rfl) (z0 2 rfl rfl))))
  (z8 (q2v 1 (N0r rfl) rfl hu (z0 3 rfl rfl) (z0 2 rfl rfl) (j9 q6Y q4l q4m (q7v hu (z0 1 rfl rfl) (z0 3 rfl rfl) (z0 2 rfl rfl)) j3) (λ o_ o_=>rfl))
  (z8 (q2v 1 (N0r rfl) rfl hu (z0 2 rfl rfl) (z0 3 rfl rfl) (j9 W4 W2 Z5 (q7v hu (z0 1 rfl rfl) (z0 2 rfl rfl) (z0 3 rfl rfl)) j3) (λ o_ o_=>rfl))
  (j7 (W0 (i:=2) (k:=.s) (N0r rfl) (by decide) X3.nd rfl (N0k rfl) (z0 3 rfl rfl)))))) rfl))))
theorem q8z:FnScope ["place","room"] ["place","room"] (defScope s_y):=by nofun
theorem z0U {r:Nat}{f_y:Addr}{e_y:FuncData}(D_y:Df K mg "sent_to" s_y ["place","room"] f_y e_y) :
 FnOk P w K mg base CX0 (r+1) f_y e_y ["place","room"] (spD K cl 2 (K2 2 (q5D))) :=
 q1H (κ:=[.b,.b]) (κ':=[.b,.b]) D_y.F q8z rfl (by decide) λ cdv A outer s H E hsn hr=>have hu:=hr.units;
 (j7 (z3O (kx:=.s) 1 [("place",0),("room",1)] rfl rfl hu (λ o_=>rfl) (λ o_ h=>h) rfl (z0 0 rfl rfl) (λ o_ o_=>rfl) (λ o_=>q1F (DW.dt (q3F (Q4 (q2c hu) q2d q2e (w9 hu (z0 0 rfl rfl) j3) (w9 hu (z0 1 rfl rfl) j3) (Z2 _)) (q2Q (Q4 z14 q7h q7i (q7v hu (z0 2 rfl rfl) (z0 0 rfl rfl) (z0 1 rfl rfl)) j3 (Z2 _)))))) (λ o_=>(z0 0 rfl rfl)) (λ o_ h=>nomatch h)))
theorem q0u:FnScope ["first","room","way","place"] ["first","room"] (defScope s_C):=by nofun
theorem q8A {r:Nat}{f_C:Addr}{e_C:FuncData}(D_C:Df K mg "way_sent" s_C ["first","room"] f_C e_C){f_y:Addr}{e_y:FuncData}{F_y:PF}(D_y:Df K mg "sent_to" s_y ["place","room"] f_y e_y) (G_y:FnOk P w K mg base CX0 r f_y e_y ["place","room"] (spD K cl 2 F_y)) (h98:cl 98=1) (w_SUN:mg "SUN_PLACE" = some (.ref (cl 99))) :
 FnOk P w K mg base CX0 (r+1) f_C e_C ["first","room"] (spD K cl 2 (K2 4 (q3R F_y))) :=
 q1H (κ:=[.b,.b,.o,.s]) (κ':=[.b,.b,.o,.s]) D_C.F q0u rfl (by decide) λ cdv A outer s H E hsn hr=>have hu:=hr.units;
 (z8 (Y0 (i:=2) (by decide) q0u.nd rfl (N0k rfl) (u6 z9))
  (z8 (W0 (i:=3) (k:=.s) (N0r rfl) (by decide) q0u.nd rfl (N0k rfl) (q0k 0))
  (z8 (q2u 100 (fg:=[]) PassesOwn.never (Q4 (q2c hu) q2d q2e (z0 3 rfl rfl) (q5u rfl h98 w_SUN) (Z2 _)) (z8 (q3I 2 (N0k rfl) rfl (w9 hu (z0 3 rfl rfl) j3))
  (j7 (W0 (i:=3) (k:=.s) (N0r rfl) (by decide) q0u.nd rfl (N0k rfl) (w9 hu (Q0 D_y G_y hr rfl (z7 (z7 j4)) (z6 (K9 (z6 (w9 hu (z0 3 rfl rfl) j3) (z6 Z0 z9))) (z6 (z0 1 rfl rfl) z9))) j3)))) rfl)
  (j7 (q1m 2 rfl (λ o_ h=>nomatch h))))))
theorem q5W:FnScope ["start","room"] ["start","room"] (defScope s_z):=by nofun
theorem q6Q {r:Nat}{f_z:Addr}{e_z:FuncData}(D_z:Df K mg "ways_sent" s_z ["start","room"] f_z e_z){f_y:Addr}{e_y:FuncData}{F_y:PF}(D_y:Df K mg "sent_to" s_y ["place","room"] f_y e_y) (G_y:FnOk P w K mg base CX0 r f_y e_y ["place","room"] (spD K cl 2 F_y)){f_C:Addr}{e_C:FuncData}{F_C:PF}(D_C:Df K mg "way_sent" s_C ["first","room"] f_C e_C) (G_C:FnOk P w K mg base CX0 r f_C e_C ["first","room"] (spD K cl 2 F_C)) :
 FnOk P w K mg base CX0 (r+1) f_z e_z ["start","room"] (spD K cl 2 (K2 2 (q39 F_y F_C))) :=
 q1H (κ:=[.b,.b]) (κ':=[.b,.b]) D_z.F q5W rfl (by decide) λ cdv A outer s H E hsn hr=>have hu:=hr.units;
 (j7 (Q9 (q04 (kx:=.v) [("room",1)] rfl rfl (Y2 (Q0 D_y G_y hr rfl (z7 (z7 j4)) (z6 (z0 0 rfl rfl) (z6 (z0 1 rfl rfl) z9)))) (λ o_=>U5) (λ o_=>(Q0 D_C G_C hr rfl (z7 (z7 j4)) (z6 (z0 0 rfl rfl) (z6 (z0 1 rfl rfl) z9))))) (λ o_ h=>nomatch h)))
theorem q3Z:FnScope ["web","name","start","room","reached","kinds"] ["web","name"] (defScope s_G):=by nofun
theorem z8u {r:Nat}{f_G:Addr}{e_G:FuncData}(D_G:Df K mg "cut" s_G ["web","name"] f_G e_G){f_m:Addr}{e_m:FuncData}{F_m:PF}(D_m:Df K mg "has_sun" s_m ["need"] f_m e_m) (G_m:FnOk P w K mg base CX0 r f_m e_m ["need"] (spD K cl 1 F_m)){f_B:Addr}{e_B:FuncData}{F_B:PF}(D_B:Df K mg "is_plain" s_B ["web"] f_B e_B) (G_B:FnOk P w K mg base CX0 r f_B e_B ["web"] (spD K cl 1 F_B)){f_l:Addr}{e_l:FuncData}{F_l:PF}(D_l:Df K mg "reached_from" s_l ["start","room"] f_l e_l) (G_l:FnOk P w K mg base CX0 r f_l e_l ["start","room"] (spD K cl 2 F_l)){f_t:Addr}{e_t:FuncData}{F_t:PF}(D_t:Df K mg "room_for_ways" J1 ["web","name"] f_t e_t) (G_t:FnOk P w K mg base CX0 r f_t e_t ["web","name"] (spD K cl 2 F_t)){f_o:Addr}{e_o:FuncData}{F_o:PFI}(D_o:Df K mg "send_one_way" s_o ["reached","room"] f_o e_o) (G_o:FnOk P w K mg base CX0 r f_o e_o ["reached","room"] (spJ K cl F_o)){f_z:Addr}{e_z:FuncData}{F_z:PF}(D_z:Df K mg "ways_sent" s_z ["start","room"] f_z e_z) (G_z:FnOk P w K mg base CX0 r f_z e_z ["start","room"] (spD K cl 2 F_z)){f_j:Addr}{e_j:FuncData}{F_j:PF}(M_j:Meth K (cl 0) "kinds" f_j) (B_j:y9 K e_j ["self"] []) (G_j:FnOk P w K mg base CX0 r f_j e_j ["self"] (spD K cl 1 F_j)){f_g:Addr}{e_g:FuncData}{F_g:PF}(M_g:Meth K (cl 0) "need_of" f_g) (B_g:y9 K e_g ["self","name"] []) (G_g:FnOk P w K mg base CX0 r f_g e_g ["self","name"] (spD K cl 2 F_g)){f_a:Addr}{e_a:FuncData}{F_a:PF}(M_a:Meth K (cl 0) "refuse_unknown" f_a) (B_a:y9 K e_a ["self","name"] []) (G_a:FnOk P w K mg base CX0 r f_a e_a ["self","name"] (spD K cl 2 F_a)) (ClW:Cls K (cl 0)) (NaW:Y1 K (cl 0) "need_by_name") (h98:cl 98=1) (w_SUN:mg "SUN_PLACE" = some (.ref (cl 99))) :
 FnOk P w K mg base CX0 (r+1) f_G e_G ["web","name"] (spD K cl 2 (K2 6 (z60 F_m F_B F_l F_t F_o F_z F_j F_g F_a))) :=
 q1H (κ:=[.b,.b,.s,.o,.s,.s]) (κ':=[.b,.b,.s,.o,.s,.s]) D_G.F q3Z rfl (by decide) λ cdv A outer s H E hsn hr=>have hu:=hr.units;
 (z8 (q6k (q1Z (c:=0) ClW M_a G_a hr B_a (λ δ ds h=>congrArg (· + 1) ((z7 j4) δ ds h)) (z0 0 rfl rfl) (z6 (z0 1 rfl rfl) z9)))
  (z8 (W8 (q0z (x8 (Q0 D_B G_B hr rfl (z7 j4) (z6 (z0 0 rfl rfl) z9)))) (j7 q1D) Z1)
  (z8 (W8 (x8 (Q0 D_m G_m hr rfl (z7 j4) (z6 (q1Z (c:=0) ClW M_g G_g hr B_g (λ δ ds h=>congrArg (· + 1) ((z7 j4) δ ds h)) (z0 0 rfl rfl) (z6 (z0 1 rfl rfl) z9)) z9))) (j7 (Q9 q5l (λ o_ h=>nomatch h))) Z1)
  (z8 (W0 (i:=2) (k:=.s) (N0r rfl) (by decide) q3Z.nd rfl (N0k rfl) (K9 (z6 (q0k 1) (z6 Z0 z9))))
  (z8 (Y0 (i:=3) (by decide) q3Z.nd rfl (N0k rfl) (Q0 D_t G_t hr rfl (z7 (z7 j4)) (z6 (z0 0 rfl rfl) (z6 (z0 1 rfl rfl) z9))))
  (z8 (W0 (i:=4) (k:=.s) (N0r rfl) (by decide) q3Z.nd rfl (N0r rfl) (Q0 D_l G_l hr rfl (z7 (z7 j4)) (z6 (z0 2 rfl rfl) (z6 (z0 3 rfl rfl) z9))))
  (z8 (q2u 100 (fg:=[]) PassesOwn.never (Q4 (q0S hu) q0T q0U (q5u rfl h98 w_SUN) (z0 4 rfl rfl) rfl) (z8 (q18 (z1C 3 D_o rfl G_o hr rfl (z0 4 rfl rfl)))
  (j7 (W0 (i:=4) (k:=.s) (N0r rfl) (by decide) q3Z.nd rfl (N0r rfl) (Q0 D_l G_l hr rfl (z7 (z7 j4)) (z6 (z0 2 rfl rfl) (z6 (z0 3 rfl rfl) z9)))))) rfl)
  (z8 (q7o (i:=5) (k:=.s) (kx:=.v) [("reached",4)] (N0r rfl) (by decide) q3Z.nd rfl (N0k rfl) rfl rfl (Y2 (q17 (c:=0) ClW M_j G_j hr B_j (z0 0 rfl rfl))) (λ o_=>q1F (DW.dt (q3F (Q4 (q0S hu) q0T q0U (K9 (z6 (z0 0 rfl rfl) (z6 Z0 z9))) (z0 1 rfl rfl) rfl) (q2Q (Q4 (v5 hu) v6 v7 (K9 (z6 (z0 0 rfl rfl) (z6 Z0 z9))) (z0 1 rfl rfl) rfl))))) (λ o_=>(z0 0 rfl rfl)))
  (j7 (Q9 (K9 (z6 (z0 5 rfl rfl) (z6 (Q0 D_z G_z hr rfl (z7 (z7 j4)) (z6 (z0 2 rfl rfl) (z6 (z0 3 rfl rfl) z9))) z9))) (λ o_ h=>nomatch h)))))))))))
theorem q3o:FnScope ["script","k"] ["script","k"] (defScope s_b):=by nofun
theorem q3t {r:Nat}{f_b:Addr}{e_b:FuncData}(D_b:Df K mg "_law_cell_at" s_b ["script","k"] f_b e_b) (m_len:mg "len" = none) :
 FnOk P w K mg base CX0 (r+1) f_b e_b ["script","k"] (spD K cl 2 (K2 2 (q06))) :=
 q1H (κ:=[.b,.b]) (κ':=[.b,.b]) D_b.F q3o rfl (by decide) λ cdv A outer s H E hsn hr=>have hu:=hr.units;
 (z8 (W8 (Q4 q8X q5o q5p (z0 1 rfl rfl) (Q6 Q8 Q7 W3 rfl m_len PySem.boot_len (z6 (z0 0 rfl rfl) z9)) (Z2 _)) (j7 (Q9 (q2V (w9 hu (z0 0 rfl rfl) (z0 1 rfl rfl))) (λ o_ h=>nomatch h))) Z1)
  (j7 (Q9 j3 (λ o_ h=>nomatch h))))
theorem q2l:FnScope ["seed"] ["seed"] (defScope s_k):=by nofun
theorem q6R {r:Nat}{f_k:Addr}{e_k:FuncData}(D_k:Df K mg "_law_next" s_k ["seed"] f_k e_k) :
 FnOk P w K mg base CX0 (r+1) f_k e_k ["seed"] (spD K cl 1 (K2 1 (q1s))) :=
 q1H (κ:=[.b]) (κ':=[.b]) D_k.F q2l rfl (by decide) λ cdv A outer s H E hsn hr=>have hu:=hr.units;
 (z8 (W0 (i:=0) (k:=.b) (N0k rfl) (by decide) q2l.nd rfl (N0k rfl) (j9 Y8 W9 K0 (j9 W4 W2 Z5 (z0 0 rfl rfl) j3) j3))
  (j7 (Q9 (j9 Y8 W9 K0 (j9 W4 W2 Z5 (j9 W4 W2 Z5 (j9 q50 q2T q2U (z0 0 rfl rfl) (z0 0 rfl rfl)) (j9 q50 q2T q2U j3 (z0 0 rfl rfl))) j3) j3) (λ o_ h=>nomatch h))))
theorem q0v:FnScope ["cell","many","stub","at"] ["cell","many"] (defScope s_w):=by nofun
theorem q5X {r:Nat}{f_w:Addr}{e_w:FuncData}(D_w:Df K mg "_law_names" s_w ["cell","many"] f_w e_w) (m_len:mg "len" = none) (m_range:mg "range" = none) :
 FnOk P w K mg base CX0 (r+1) f_w e_w ["cell","many"] (spD K cl 2 (K2 4 (q0Y))) :=
 q1H (κ:=[.b,.b,.s,.s]) (κ':=[.b,.b,.s,.s]) D_w.F q0v rfl (by decide) λ cdv A outer s H E hsn hr=>have hu:=hr.units;
 (z8 (W0 (i:=2) (k:=.s) (N0r rfl) (by decide) q0v.nd rfl (N0r rfl) (w9 hu (u6 (z6 Z0 (z6 Z0 (z6 Z0 (z6 Z0 (z6 Z0 (z6 Z0 z9))))))) (j9 Y8 W9 K0 (z0 0 rfl rfl) j3)))
  (z8 (W0 (i:=3) (k:=.s) (N0r rfl) (by decide) q0v.nd rfl (N0r rfl) (j9 Y8 W9 K0 (j9 u4 u7 u8 (z0 0 rfl rfl) j3) (j9 W4 W2 Z5 (Q6 Q8 Q7 W3 rfl m_len PySem.boot_len (z6 (z0 2 rfl rfl) z9)) j3)))
  (j7 (Q9 (q04 (kx:=.v) [("stub",2),("at",3),("cell",0)] rfl rfl (q1n rfl m_range (z0 1 rfl rfl)) (λ o_=>U5) (λ o_=>(j9 W4 W2 Z5 (j9 W4 W2 Z5 (U4 (z0 1 rfl rfl) q0P (q0Q (z0 2 rfl rfl))) (w9 hu Z0 (j9 Y8 W9 K0 (j9 W4 W2 Z5 (z0 0 rfl rfl) (j9 u4 u7 u8 (z0 3 rfl rfl) j3)) j3))) (U4 (z0 1 rfl rfl) (q0Q (z0 2 rfl rfl)) q0P)))) (λ o_ h=>nomatch h)))))
theorem q01:FnScope ["seed","deep","pool","simple","way","parts","k"] ["seed","deep","pool","simple"] (defScope s_n):=by nofun
theorem q6S {r:Nat}{f_n:Addr}{e_n:FuncData}(D_n:Df K mg "_law_need" s_n ["seed","deep","pool","simple"] f_n e_n){F_n:PF}(G_n:FnOk P w K mg base CX0 r f_n e_n ["seed","deep","pool","simple"] (spD K cl 4 F_n)){f_k:Addr}{e_k:FuncData}{F_k:PF}(D_k:Df K mg "_law_next" s_k ["seed"] f_k e_k) (G_k:FnOk P w K mg base CX0 r f_k e_k ["seed"] (spD K cl 1 F_k)) (m_len:mg "len" = none) (m_range:mg "range" = none) (m_tuple:mg "tuple" = none) :
 FnOk P w K mg base CX0 (r+1) f_n e_n ["seed","deep","pool","simple"] (spD K cl 4 (K2 7 (q1t F_n F_k))) :=
 q1H (κ:=[.b,.b,.b,.b,.s,.o,.s]) (κ':=[.b,.b,.b,.b,.s,.o,.s]) D_n.F q01 rfl (by decide) λ cdv A outer s H E hsn hr=>have hu:=hr.units;
 (z8 (W0 (i:=4) (k:=.s) (N0r rfl) (by decide) q01.nd rfl (N0k rfl) (j9 Y8 W9 K0 (z0 0 rfl rfl) j3))
  (z8 (W8 (DW.dt (q1l (Q4 (X8 hu) X9 v4 (z0 1 rfl rfl) j3 (Z2 _)) (q0M (Q4 q8X q5o q5p (z0 4 rfl rfl) j3 (Z2 _))))) (z8 (W8 (Q4 (X8 hu) X9 v4 (j9 Y8 W9 K0 (j9 u4 u7 u8 (z0 0 rfl rfl) j3) j3) j3 (Z2 _)) (j7 (Q9 (K9 (z6 Z0 z9)) (λ o_ h=>nomatch h))) Z1)
  (j7 (Q9 (K9 (z6 Z0 (z6 (q2V (w9 hu (z0 2 rfl rfl) (j9 Y8 W9 K0 (j9 u4 u7 u8 (z0 0 rfl rfl) j3) (Q6 Q8 Q7 W3 rfl m_len PySem.boot_len (z6 (z0 2 rfl rfl) z9))))) z9))) (λ o_ h=>nomatch h)))) Z1)
  (z8 (Y0 (i:=5) (by decide) q01.nd rfl (N0k rfl) (u6 z9))
  (z8 (X7 (i:=6) (k:=.b) (fg:=[6]) (N0k rfl) (by decide) q01.nd rfl (N0k rfl) PassesOwn.never rfl (q1n rfl m_range (j9 W4 W2 Z5 j3 (j9 Y8 W9 K0 (j9 u4 u7 u8 (z0 0 rfl rfl) j3) j3))) (j7 (q3I 5 (N0k rfl) rfl (Q0 D_n G_n hr rfl (z7 (z7 (z7 (z7 j4)))) (z6 (Q0 D_k G_k hr rfl (z7 j4) (z6 (j9 W4 W2 Z5 (j9 W4 W2 Z5 (z0 0 rfl rfl) (j9 q50 q2T q2U j3 (z0 6 rfl rfl))) j3) z9)) (z6 (j9 q6Y q4l q4m (z0 1 rfl rfl) j3) (z6 (z0 2 rfl rfl) (z6 (z0 3 rfl rfl) z9))))))) rfl)
  (z8 (W8 (DW.dt (q1l (Q4 q8X q5o q5p (z0 4 rfl rfl) j3 (Z2 _)) (q0M (x8 (z0 3 rfl rfl))))) (j7 (Q9 (K9 (z6 Z0 (z6 (q1G q0f q1o rfl m_tuple q0m (z6 (z0 5 rfl rfl) z9)) z9))) (λ o_ h=>nomatch h))) Z1)
  (z8 (W8 (Q4 q8X q5o q5p (z0 4 rfl rfl) j3 (Z2 _)) (j7 (Q9 (K9 (z6 Z0 (z6 (q1G q0f q1o rfl m_tuple q0m (z6 (z0 5 rfl rfl) z9)) z9))) (λ o_ h=>nomatch h))) Z1)
  (j7 (Q9 (K9 (z6 Z0 (z6 (j9 W4 W2 Z5 j3 (j9 Y8 W9 K0 (j9 u4 u7 u8 (z0 0 rfl rfl) j3) (Q6 Q8 Q7 W3 rfl m_len PySem.boot_len (z6 (z0 5 rfl rfl) z9)))) (z6 (q1G q0f q1o rfl m_tuple q0m (z6 (z0 5 rfl rfl) z9)) z9)))) (λ o_ h=>nomatch h)))))))))
theorem q4T:FnScope ["need"] ["need"] (defScope s_i):=by nofun
theorem q5Y {r:Nat}{f_i:Addr}{e_i:FuncData}(D_i:Df K mg "_law_parts" s_i ["need"] f_i e_i) (m_len:mg "len" = none) :
 FnOk P w K mg base CX0 (r+1) f_i e_i ["need"] (spD K cl 1 (K2 1 (q2g))) :=
 q1H (κ:=[.b]) (κ':=[.b]) D_i.F q4T rfl (by decide) λ cdv A outer s H E hsn hr=>have hu:=hr.units;
 (z8 (W8 (DW.dt (q1l (Q4 (X8 hu) X9 v4 (w9 hu (z0 0 rfl rfl) j3) Z0 (Z2 _)) (q0M (Q4 (X8 hu) X9 v4 (w9 hu (z0 0 rfl rfl) j3) Z0 (Z2 _))))) (j7 (Q9 (K9 z9) (λ o_ h=>nomatch h))) Z1)
  (j7 (Q9 (q2V (w9 hu (z0 0 rfl rfl) (j9 q6Y q4l q4m (Q6 Q8 Q7 W3 rfl m_len PySem.boot_len (z6 (z0 0 rfl rfl) z9)) j3))) (λ o_ h=>nomatch h))))
theorem Y4:FnScope ["need","found","part"] ["need"] (defScope J2):=by nofun
theorem q3p {r:Nat}{f_f:Addr}{e_f:FuncData}(D_f:Df K mg "_law_names_in" J2 ["need"] f_f e_f){F_f:PF}(G_f:FnOk P w K mg base CX0 r f_f e_f ["need"] (spD K cl 1 F_f)){f_i:Addr}{e_i:FuncData}{F_i:PF}(D_i:Df K mg "_law_parts" s_i ["need"] f_i e_i) (G_i:FnOk P w K mg base CX0 r f_i e_i ["need"] (spD K cl 1 F_i)) :
 FnOk P w K mg base CX0 (r+1) f_f e_f ["need"] (spD K cl 1 (K2 3 (X1 F_f F_i))) :=
 q1H (κ:=[.b,.o,.s]) (κ':=[.b,.o,.s]) D_f.F Y4 rfl (by decide) λ cdv A outer s H E hsn hr=>have hu:=hr.units;
 (z8 (W8 (Q4 (X8 hu) X9 v4 (w9 hu (z0 0 rfl rfl) j3) Z0 (Z2 _)) (j7 (Q9 (u6 (z6 (q2V (w9 hu (z0 0 rfl rfl) j3)) z9)) (λ o_ h=>nomatch h))) Z1)
  (z8 (Y0 (i:=1) (by decide) Y4.nd rfl (N0r rfl) (u6 z9))
  (z8 (X7 (i:=2) (k:=.b) (fg:=[2]) (N0k rfl) (by decide) Y4.nd rfl (N0k rfl) PassesOwn.never rfl (Y2 (Q0 D_i G_i hr rfl (z7 j4) (z6 (z0 0 rfl rfl) z9))) (j7 (Y0 (i:=1) (by decide) Y4.nd rfl (N0r rfl) (z2r (z5o z3A z3s (z0 1 rfl rfl) (q04 (kx:=.v) [("found",1)] rfl rfl (Y2 (Q0 D_f G_f hr rfl (z7 j4) (z6 (z0 2 rfl rfl) z9))) (λ o_=>q1F (Q4 (v5 hu) v6 v7 (z0 0 rfl rfl) (z0 1 rfl rfl) rfl)) (λ o_=>(z0 0 rfl rfl))))))) rfl)
  (j7 (q1m 1 rfl (λ o_ h=>nomatch h))))))
theorem Y6:FnScope ["need","alive","parts","many","wanted"] ["need","alive"] (defScope s_c):=by nofun
theorem q8B {r:Nat}{f_c:Addr}{e_c:FuncData}(D_c:Df K mg "_law_met" s_c ["need","alive"] f_c e_c){F_c:PF}(G_c:FnOk P w K mg base CX0 r f_c e_c ["need","alive"] (spD K cl 2 F_c)){f_i:Addr}{e_i:FuncData}{F_i:PF}(D_i:Df K mg "_law_parts" s_i ["need"] f_i e_i) (G_i:FnOk P w K mg base CX0 r f_i e_i ["need"] (spD K cl 1 F_i)) (m_int:mg "int" = none) (m_len:mg "len" = none) (m_sum:mg "sum" = none) :
 FnOk P w K mg base CX0 (r+1) f_c e_c ["need","alive"] (spD K cl 2 (K2 5 (q23 F_c F_i))) :=
 q1H (κ:=[.b,.b,.s,.s,.s]) (κ':=[.b,.b,.s,.s,.s]) D_c.F Y6 rfl (by decide) λ cdv A outer s H E hsn hr=>have hu:=hr.units;
 (z8 (W8 (Q4 (X8 hu) X9 v4 (w9 hu (z0 0 rfl rfl) j3) Z0 (Z2 _)) (j7 (Q9 (q3E (q0S hu) q0T q0U (w9 hu (z0 0 rfl rfl) j3) (z0 1 rfl rfl) rfl) (λ o_ h=>nomatch h))) Z1)
  (z8 (W0 (i:=2) (k:=.s) (N0r rfl) (by decide) Y6.nd rfl (N0k rfl) (Q0 D_i G_i hr rfl (z7 j4) (z6 (z0 0 rfl rfl) z9)))
  (z8 (W0 (i:=3) (k:=.s) (N0r rfl) (by decide) Y6.nd rfl (N0k rfl) (Q6 (q4b rfl) q9L z3C rfl m_sum q9P (z6 (q04 (kx:=.v) [("alive",1)] rfl rfl (Y2 (z0 2 rfl rfl)) (λ o_=>U5) (λ o_=>(q9E q8Z q9M z3D rfl m_int q9N (z6 (Q0 D_c G_c hr rfl (z7 (z7 j4)) (z6 (z0 0 rfl rfl) (z6 (z0 1 rfl rfl) z9))) z9)))) z9)))
  (z8 (W0 (i:=4) (k:=.s) (N0r rfl) (by decide) Y6.nd rfl (N0k rfl) j3)
  (z8 (W8 (Q4 (X8 hu) X9 v4 (w9 hu (z0 0 rfl rfl) j3) Z0 (Z2 _)) (j7 (W0 (i:=4) (k:=.s) (N0r rfl) (by decide) Y6.nd rfl (N0k rfl) j3)) Z1)
  (z8 (W8 (Q4 (X8 hu) X9 v4 (w9 hu (z0 0 rfl rfl) j3) Z0 (Z2 _)) (j7 (W0 (i:=4) (k:=.s) (N0r rfl) (by decide) Y6.nd rfl (N0k rfl) (Q6 Q8 Q7 W3 rfl m_len PySem.boot_len (z6 (z0 2 rfl rfl) z9)))) Z1)
  (z8 (W8 (Q4 (X8 hu) X9 v4 (w9 hu (z0 0 rfl rfl) j3) Z0 (Z2 _)) (j7 (W0 (i:=4) (k:=.s) (N0r rfl) (by decide) Y6.nd rfl (N0k rfl) (q2V (w9 hu (z0 0 rfl rfl) j3)))) Z1)
  (j7 (Q9 (q3E z2n z2m z2p (z0 3 rfl rfl) (z0 4 rfl rfl) (Z2 _)) (λ o_ h=>nomatch h))))))))))
theorem K4:FnScope ["script","simple","many","pool","needs","k","seed"] ["script","simple"] (defScope s_v):=by nofun
theorem q5Z {r:Nat}{f_v:Addr}{e_v:FuncData}(D_v:Df K mg "_law_drawn" s_v ["script","simple"] f_v e_v){f_b:Addr}{e_b:FuncData}{F_b:PF}(D_b:Df K mg "_law_cell_at" s_b ["script","k"] f_b e_b) (G_b:FnOk P w K mg base CX0 r f_b e_b ["script","k"] (spD K cl 2 F_b)){f_w:Addr}{e_w:FuncData}{F_w:PF}(D_w:Df K mg "_law_names" s_w ["cell","many"] f_w e_w) (G_w:FnOk P w K mg base CX0 r f_w e_w ["cell","many"] (spD K cl 2 F_w)){f_n:Addr}{e_n:FuncData}{F_n:PF}(D_n:Df K mg "_law_need" s_n ["seed","deep","pool","simple"] f_n e_n) (G_n:FnOk P w K mg base CX0 r f_n e_n ["seed","deep","pool","simple"] (spD K cl 4 F_n)){f_k:Addr}{e_k:FuncData}{F_k:PF}(D_k:Df K mg "_law_next" s_k ["seed"] f_k e_k) (G_k:FnOk P w K mg base CX0 r f_k e_k ["seed"] (spD K cl 1 F_k)) (m_range:mg "range" = none) :
 FnOk P w K mg base CX0 (r+1) f_v e_v ["script","simple"] (spD K cl 2 (K2 7 (q0Z F_b F_w F_n F_k))) :=
 q1H (κ:=[.b,.b,.s,.s,.o,.s,.s]) (κ':=[.b,.b,.s,.s,.o,.s,.s]) D_v.F K4 rfl (by decide) λ cdv A outer s H E hsn hr=>have hu:=hr.units;
 (z8 (W0 (i:=2) (k:=.s) (N0r rfl) (by decide) K4.nd rfl (N0k rfl) (j9 W4 W2 Z5 j3 (j9 Y8 W9 K0 (Q0 D_b G_b hr rfl (z7 (z7 j4)) (z6 (z0 0 rfl rfl) (z6 j3 z9))) j3)))
  (z8 (W8 (Q4 (X8 hu) X9 v4 (j9 Y8 W9 K0 (j9 u4 u7 u8 (Q0 D_b G_b hr rfl (z7 (z7 j4)) (z6 (z0 0 rfl rfl) (z6 j3 z9))) j3) j3) j3 (Z2 _)) (j7 (W0 (i:=2) (k:=.s) (N0r rfl) (by decide) K4.nd rfl (N0k rfl) (j9 W4 W2 Z5 j3 (j9 Y8 W9 K0 (j9 u4 u7 u8 (Q0 D_b G_b hr rfl (z7 (z7 j4)) (z6 (z0 0 rfl rfl) (z6 j3 z9))) j3) j3)))) Z1)
  (z8 (W0 (i:=3) (k:=.s) (N0r rfl) (by decide) K4.nd rfl (N0k rfl) (Q0 D_w G_w hr rfl (z7 (z7 j4)) (z6 (Q0 D_b G_b hr rfl (z7 (z7 j4)) (z6 (z0 0 rfl rfl) (z6 j3 z9))) (z6 (j9 W4 W2 Z5 (z0 2 rfl rfl) j3) z9))))
  (z8 (Y0 (i:=4) (by decide) K4.nd rfl (N0k rfl) (u6 z9))
  (z8 (X7 (i:=5) (k:=.b) (fg:=[5,6]) (N0k rfl) (by decide) K4.nd rfl (N0k rfl) PassesOwn.never rfl (q1n rfl m_range (z0 2 rfl rfl)) (z8 (W0 (i:=6) (k:=.s) (N0r rfl) (by decide) K4.nd rfl (N0k rfl) (Q0 D_k G_k hr rfl (z7 j4) (z6 (j9 W4 W2 Z5 (Q0 D_b G_b hr rfl (z7 (z7 j4)) (z6 (z0 0 rfl rfl) (z6 (j9 W4 W2 Z5 j3 (j9 Y8 W9 K0 (z0 5 rfl rfl) j3)) z9))) (j9 q50 q2T q2U j3 (z0 5 rfl rfl))) z9)))
  (j7 (q3I 4 (N0k rfl) rfl (Q0 D_n G_n hr rfl (z7 (z7 (z7 (z7 j4)))) (z6 (z0 6 rfl rfl) (z6 (j9 W4 W2 Z5 j3 (j9 Y8 W9 K0 (j9 u4 u7 u8 (z0 6 rfl rfl) j3) j3)) (z6 (z0 3 rfl rfl) (z6 (z0 1 rfl rfl) z9)))))))) rfl)
  (z8 (W8 (Q4 z14 q7h q7i (j9 Y8 W9 K0 (j9 u4 u7 u8 (Q0 D_b G_b hr rfl (z7 (z7 j4)) (z6 (z0 0 rfl rfl) (z6 j3 z9))) j3) j3) j3 (Z2 _)) (j7 (q5n 4 (N0k rfl) rfl hu (j9 Y8 W9 K0 (j9 u4 u7 u8 (Q0 D_b G_b hr rfl (z7 (z7 j4)) (z6 (z0 0 rfl rfl) (z6 j3 z9))) j3) (z0 2 rfl rfl)) (K9 (z6 Z0 z9)))) Z1)
  (j7 (Q9 (K9 (z6 (U4 (z0 3 rfl rfl) q0P (q0Q (z0 2 rfl rfl))) (z6 (z0 4 rfl rfl) (z6 (U4 (z0 3 rfl rfl) (q0Q (z0 2 rfl rfl)) q0P) z9)))) (λ o_ h=>nomatch h)))))))))
theorem q0w:FnScope ["kinds","needs","web","k"] ["kinds","needs"] (defScope s_u):=by nofun
theorem q60 {r:Nat}{f_u:Addr}{e_u:FuncData}(D_u:Df K mg "_law_built" s_u ["kinds","needs"] f_u e_u){f_H:Addr}{e_H:FuncData}{F_H:PFI}(M_H:Meth K (cl 0) "add" f_H) (B_H:y9 K e_H ["self","name","need"] []) (G_H:FnOk P w K mg base CX0 r f_H e_H ["self","name","need"] (spI K cl 3 1 F_H)) (ClW:Cls K (cl 0)) (NaW:Y1 K (cl 0) "need_by_name"){f_init:Addr}{e_init:FuncData}(MkW:Mk K (cl 0) f_init) (G_init:FnOk P w K mg base CX0 1 f_init e_init ["self"] (spInit (cl 0) "need_by_name")) (b_init:y9 K e_init ["self"] []) (m_Web:mg "Web" = some (.ref (cl 0))) (m_len:mg "len" = none) (m_range:mg "range" = none) :
 FnOk P w K mg base CX0 (r+2+1) f_u e_u ["kinds","needs"] (spD K cl 2 (K2 4 (q10 F_H))) :=
 q1H (κ:=[.b,.b,.o,.s]) (κ':=[.b,.b,.o,.s]) D_u.F q0w rfl (by decide) λ cdv A outer s H E hsn hr=>have hu:=hr.units;have hrr:=hr;have hr:Room r _:=hrr.mono (by lia);have hr2:Room 2 _:=hrr.mono (by lia);
 (z8 (Y0 (i:=2) (by decide) q0w.nd rfl (N0k rfl) (z3F MkW G_init hr2 rfl m_Web b_init))
  (z8 (X7 (i:=3) (k:=.b) (fg:=[3]) (N0k rfl) (by decide) q0w.nd rfl (N0k rfl) PassesOwn.never rfl (q1n rfl m_range (Q6 Q8 Q7 W3 rfl m_len PySem.boot_len (z6 (z0 0 rfl rfl) z9))) (j7 (q18 (q9S (c:=0) 2 ClW M_H rfl G_H hr B_H (λ δ ds h=>congrArg (1 + ·) ((z7 (z7 j4)) δ ds h)) (z6 (w9 hu (z0 0 rfl rfl) (z0 3 rfl rfl)) (z6 (w9 hu (z0 1 rfl rfl) (z0 3 rfl rfl)) z9))))) rfl)
  (j7 (q1m 2 rfl (λ o_ h=>nomatch h)))))
theorem K8:FnScope ["kinds","needs","taken","level","turn","fresh","k","name"] ["kinds","needs","taken"] (defScope s_s):=by nofun
theorem q4U {r:Nat}{f_s:Addr}{e_s:FuncData}(D_s:Df K mg "_law_levels" s_s ["kinds","needs","taken"] f_s e_s){f_c:Addr}{e_c:FuncData}{F_c:PF}(D_c:Df K mg "_law_met" s_c ["need","alive"] f_c e_c) (G_c:FnOk P w K mg base CX0 r f_c e_c ["need","alive"] (spD K cl 2 F_c)) (m_len:mg "len" = none) (m_range:mg "range" = none) :
 FnOk P w K mg base CX0 (r+1) f_s e_s ["kinds","needs","taken"] (spD K cl 3 (K2 8 (q0r F_c))) :=
 q1H (κ:=[.b,.b,.b,.o,.s,.o,.s,.s]) (κ':=[.b,.b,.b,.o,.s,.o,.s,.s]) D_s.F K8 rfl (by decide) λ cdv A outer s H E hsn hr=>have hu:=hr.units;
 (z8 (Y0 (i:=3) (by decide) K8.nd rfl (N0k rfl) q6j)
  (z8 (X7 (i:=4) (k:=.b) (fg:=[4,5,6,7]) (N0k rfl) (by decide) K8.nd rfl (N0k rfl) PassesOwn.never rfl (z3p rfl m_range j3 (j9 W4 W2 Z5 (Q6 Q8 Q7 W3 rfl m_len PySem.boot_len (z6 (z0 0 rfl rfl) z9)) j3)) (z8 (Y0 (i:=5) (by decide) K8.nd rfl (N0k rfl) (u6 z9))
  (z8 (X7 (i:=6) (k:=.b) (fg:=[6]) (N0k rfl) (by decide) K8.nd rfl (N0k rfl) PassesOwn.never rfl (q1n rfl m_range (Q6 Q8 Q7 W3 rfl m_len PySem.boot_len (z6 (z0 0 rfl rfl) z9))) (j7 (W8 (DW.dt (q3F (Q4 (v5 hu) v6 v7 (w9 hu (z0 0 rfl rfl) (z0 6 rfl rfl)) (z0 2 rfl rfl) rfl) (q3F (Q4 (v5 hu) v6 v7 (w9 hu (z0 0 rfl rfl) (z0 6 rfl rfl)) (z0 3 rfl rfl) rfl) (q2Q (x8 (Q0 D_c G_c hr rfl (z7 (z7 j4)) (z6 (w9 hu (z0 1 rfl rfl) (z0 6 rfl rfl)) (z6 (z0 3 rfl rfl) z9)))))))) (j7 (q3I 5 (N0k rfl) rfl (q2V (w9 hu (z0 0 rfl rfl) (z0 6 rfl rfl))))) Z1)) rfl)
  (z8 (W8 (Q4 (X8 hu) X9 v4 (z0 5 rfl rfl) (u6 z9) (Z2 _)) (j7 (q1m 3 rfl (λ o_ h=>nomatch h))) Z1)
  (z5q 5 rfl (j7 (X7 (i:=7) (k:=.b) (fg:=[7]) (N0k rfl) (by decide) K8.nd rfl (N0k rfl) PassesOwn.never rfl (Y2 (z0 5 rfl rfl)) (j7 (q5n 3 (N0k rfl) rfl hu (z0 7 rfl rfl) (q0k 4))) rfl)))))) rfl)
  (j7 (q1m 3 rfl (λ o_ h=>nomatch h)))))
theorem q4V:FnScope ["found","due"] ["found","due"] (defScope s_x):=by nofun
theorem q61 {r:Nat}{f_x:Addr}{e_x:FuncData}(D_x:Df K mg "_law_alike" s_x ["found","due"] f_x e_x) (m_all:mg "all" = none) (m_isinstance:mg "isinstance" = none) (m_len:mg "len" = none) (m_list:mg "list" = none) (m_str:mg "str" = none) :
 FnOk P w K mg base CX0 (r+1) f_x e_x ["found","due"] (spD K cl 2 (K2 2 (q11))) :=
 q1H (κ:=[.b,.b]) (κ':=[.b,.b]) D_x.F q4V rfl (by decide) λ cdv A outer s H E hsn hr=>have hu:=hr.units;
 (z8 (W8 (DW.dt (q1l (q0z (x8 (q1p rfl m_isinstance J8 rfl m_list V9 (z0 0 rfl rfl) (q2Y (by decide))))) (q0M (Q4 (q2c hu) q2d q2e (Q6 Q8 Q7 W3 rfl m_len PySem.boot_len (z6 (z0 0 rfl rfl) z9)) (Q6 Q8 Q7 W3 rfl m_len PySem.boot_len (z6 (z0 1 rfl rfl) z9)) (Z2 _))))) (j7 (Q9 q1i (λ o_ h=>nomatch h))) Z1)
  (j7 (q9C (z5p (Q6 (V6 rfl) q1I q4u rfl m_all q1J (z6 (q04 (kx:=.v) [] rfl rfl (Y2 (z0 0 rfl rfl)) (λ o_=>U5) (λ o_=>(q1p rfl m_isinstance J8 rfl m_str q5r (z0 0 rfl rfl) (q2Y (by decide))))) z9)) (z2j (DE.nf (q3E (X8 hu) X9 v4 (z0 0 rfl rfl) (z0 1 rfl rfl) (Z2 _))))) (λ o_ h=>nomatch h))))
theorem q0x:FnScope ["way","name","table","ahead","one"] ["way","name","table"] (defScope s_A):=by nofun
theorem q8C {r:Nat}{f_A:Addr}{e_A:FuncData}(D_A:Df K mg "_law_way" s_A ["way","name","table"] f_A e_A){f_c:Addr}{e_c:FuncData}{F_c:PF}(D_c:Df K mg "_law_met" s_c ["need","alive"] f_c e_c) (G_c:FnOk P w K mg base CX0 r f_c e_c ["need","alive"] (spD K cl 2 F_c)){f_f:Addr}{e_f:FuncData}{F_f:PF}(D_f:Df K mg "_law_names_in" J2 ["need"] f_f e_f) (G_f:FnOk P w K mg base CX0 r f_f e_f ["need"] (spD K cl 1 F_f)) (m_isinstance:mg "isinstance" = none) (m_len:mg "len" = none) (m_list:mg "list" = none) (m_str:mg "str" = none) :
 FnOk P w K mg base CX0 (r+1) f_A e_A ["way","name","table"] (spD K cl 3 (K2 5 (q3S F_c F_f))) :=
 q1H (κ:=[.b,.b,.b,.s,.s]) (κ':=[.b,.b,.b,.s,.s]) D_A.F q0x rfl (by decide) λ cdv A outer s H E hsn hr=>have hu:=hr.units;
 (z8 (W8 (DW.dt (q1l (q0z (x8 (q1p rfl m_isinstance J8 rfl m_list V9 (z0 0 rfl rfl) (q2Y (by decide))))) (q0M (Q4 (X8 hu) X9 v4 (Q6 Q8 Q7 W3 rfl m_len PySem.boot_len (z6 (z0 0 rfl rfl) z9)) j3 (Z2 _))))) (j7 (Q9 q1i (λ o_ h=>nomatch h))) Z1)
  (z8 (W0 (i:=3) (k:=.s) (N0r rfl) (by decide) q0x.nd rfl (N0k rfl) (q0k 1))
  (z8 (X7 (i:=4) (k:=.b) (fg:=[4]) (N0k rfl) (by decide) q0x.nd rfl (N0k rfl) PassesOwn.never rfl (Y2 (z0 0 rfl rfl)) (z8 (W8 (DW.dt (q1l (q0z (x8 (q1p rfl m_isinstance J8 rfl m_str q5r (z0 4 rfl rfl) (q2Y (by decide))))) (q1l (Q4 (v5 hu) v6 v7 (z0 4 rfl rfl) (z0 2 rfl rfl) rfl) (q0M (Q4 (v5 hu) v6 v7 (z0 4 rfl rfl) (Q0 D_f G_f hr rfl (z7 j4) (z6 (w9 hu (z0 2 rfl rfl) (z0 3 rfl rfl)) z9)) rfl))))) (j7 (Q9 q1i (λ o_ h=>nomatch h))) Z1)
  (j7 (W0 (i:=3) (k:=.s) (N0r rfl) (by decide) q0x.nd rfl (N0k rfl) (q0k 4)))) rfl)
  (j7 (Q9 (Q0 D_c G_c hr rfl (z7 (z7 j4)) (z6 (w9 hu (z0 2 rfl rfl) (z0 3 rfl rfl)) (z6 (u6 z9) z9))) (λ o_ h=>nomatch h))))))
theorem K5:FnScope ["found","name","kinds","needs","table","k","gone","met","way","one"] ["found","name","kinds","needs"] (defScope s_p):=by nofun
theorem q62 {r:Nat}{f_p:Addr}{e_p:FuncData}(D_p:Df K mg "_law_right" s_p ["found","name","kinds","needs"] f_p e_p){f_x:Addr}{e_x:FuncData}{F_x:PF}(D_x:Df K mg "_law_alike" s_x ["found","due"] f_x e_x) (G_x:FnOk P w K mg base CX0 r f_x e_x ["found","due"] (spD K cl 2 F_x)){f_s:Addr}{e_s:FuncData}{F_s:PF}(D_s:Df K mg "_law_levels" s_s ["kinds","needs","taken"] f_s e_s) (G_s:FnOk P w K mg base CX0 r f_s e_s ["kinds","needs","taken"] (spD K cl 3 F_s)){f_A:Addr}{e_A:FuncData}{F_A:PF}(D_A:Df K mg "_law_way" s_A ["way","name","table"] f_A e_A) (G_A:FnOk P w K mg base CX0 r f_A e_A ["way","name","table"] (spD K cl 3 F_A)) (m_isinstance:mg "isinstance" = none) (m_len:mg "len" = none) (m_list:mg "list" = none) (m_range:mg "range" = none) (m_tuple:mg "tuple" = none) :
 FnOk P w K mg base CX0 (r+1) f_p e_p ["found","name","kinds","needs"] (spD K cl 4 (K2 10 (q2h F_x F_s F_A))) :=
 q1H (κ:=[.b,.b,.b,.b,.o,.s,.b,.o,.s,.s]) (κ':=[.b,.b,.b,.b,.o,.s,.b,.o,.s,.s]) D_p.F K5 rfl (by decide) λ cdv A outer s H E hsn hr=>have hu:=hr.units;
 (z8 (Y0 (i:=4) (by decide) K5.nd rfl (N0k rfl) q6j)
  (z8 (X7 (i:=5) (k:=.b) (fg:=[5]) (N0k rfl) (by decide) K5.nd rfl (N0k rfl) PassesOwn.never rfl (q1n rfl m_range (Q6 Q8 Q7 W3 rfl m_len PySem.boot_len (z6 (z0 2 rfl rfl) z9))) (j7 (q5n 4 (N0k rfl) rfl hu (w9 hu (z0 2 rfl rfl) (z0 5 rfl rfl)) (q2V (w9 hu (z0 3 rfl rfl) (z0 5 rfl rfl))))) rfl)
  (z8 (W8 (DW.dt (q1l (q0z (x8 (q1p rfl m_isinstance J8 rfl m_tuple q0m (z0 0 rfl rfl) (q2Y (by decide))))) (q1l (Q4 (q2c hu) q2d q2e (Q6 Q8 Q7 W3 rfl m_len PySem.boot_len (z6 (z0 0 rfl rfl) z9)) j3 (Z2 _)) (q0M (q0z (x8 (q1p rfl m_isinstance J8 rfl m_list V9 (w9 hu (z0 0 rfl rfl) j3) (q2Y (by decide))))))))) (j7 (Q9 q1i (λ o_ h=>nomatch h))) Z1)
  (z8 (W0 (i:=6) (k:=.b) (N0k rfl) (by decide) K5.nd rfl (N0r rfl) (w9 hu (z0 0 rfl rfl) j3))
  (z8 (W8 (DW.dt (q1l (q0z (x8 (Q0 D_x G_x hr rfl (z7 (z7 j4)) (z6 (z0 6 rfl rfl) (z6 (q04 (kx:=.v) [("gone",6)] rfl rfl (Y2 (z0 2 rfl rfl)) (λ o_=>q1F (Q4 (q0S hu) q0T q0U (z0 0 rfl rfl) (z0 1 rfl rfl) rfl)) (λ o_=>(z0 0 rfl rfl))) z9))))) (q0M (Q4 (q0S hu) q0T q0U (z0 1 rfl rfl) (z0 6 rfl rfl) rfl)))) (j7 (Q9 q1i (λ o_ h=>nomatch h))) Z1)
  (z8 (W8 (DW.dt (q1l (Q4 (q0S hu) q0T q0U (z0 1 rfl rfl) (Q0 D_s G_s hr rfl (z7 (z7 (z7 j4))) (z6 (z0 2 rfl rfl) (z6 (z0 3 rfl rfl) (z6 (z0 6 rfl rfl) z9)))) rfl) (q1l (q0z (x8 (q1p rfl m_isinstance J8 rfl m_list V9 (w9 hu (z0 0 rfl rfl) j3) (q2Y (by decide))))) (q0M (Q4 (q2c hu) q2d q2e (Q6 Q8 Q7 W3 rfl m_len PySem.boot_len (z6 (w9 hu (z0 0 rfl rfl) j3) z9)) (Q6 Q8 Q7 W3 rfl m_len PySem.boot_len (z6 (z0 6 rfl rfl) z9)) (Z2 _)))))) (j7 (Q9 q1i (λ o_ h=>nomatch h))) Z1)
  (z8 (Y0 (i:=7) (by decide) K5.nd rfl (N0k rfl) (u6 (z6 (q0k 1) z9)))
  (z8 (X7 (i:=8) (k:=.b) (fg:=[8,9]) (N0k rfl) (by decide) K5.nd rfl (N0k rfl) PassesOwn.never rfl (Y2 (w9 hu (z0 0 rfl rfl) j3)) (z8 (W8 (q0z (x8 (Q0 D_A G_A hr rfl (z7 (z7 (z7 j4))) (z6 (z0 8 rfl rfl) (z6 (z0 1 rfl rfl) (z6 (z0 4 rfl rfl) z9)))))) (j7 (Q9 q1i (λ o_ h=>nomatch h))) Z1)
  (j7 (X7 (i:=9) (k:=.b) (fg:=[9]) (N0k rfl) (by decide) K5.nd rfl (N0k rfl) PassesOwn.never rfl (Y2 (z0 8 rfl rfl)) (z8 (W8 (Q4 (q0S hu) q0T q0U (z0 9 rfl rfl) (z0 7 rfl rfl) rfl) (j7 (Q9 q1i (λ o_ h=>nomatch h))) Z1)
  (j7 (q3I 7 (N0k rfl) rfl (q0k 9)))) rfl))) rfl)
  (j7 (Q9 q1i (λ o_ h=>nomatch h)))))))))))
theorem q0G:FnScope ["script","kinds","needs","strange","web","turn","at","found"] ["script"] (defScope s_K):=by nofun
theorem z8v {r:Nat}{f_K:Addr}{e_K:FuncData}(D_K:Df K mg "law" s_K ["script"] f_K e_K){f_u:Addr}{e_u:FuncData}{F_u:PF}(D_u:Df K mg "_law_built" s_u ["kinds","needs"] f_u e_u) (G_u:FnOk P w K mg base CX0 r f_u e_u ["kinds","needs"] (spD K cl 2 F_u)){f_b:Addr}{e_b:FuncData}{F_b:PF}(D_b:Df K mg "_law_cell_at" s_b ["script","k"] f_b e_b) (G_b:FnOk P w K mg base CX0 r f_b e_b ["script","k"] (spD K cl 2 F_b)){f_v:Addr}{e_v:FuncData}{F_v:PF}(D_v:Df K mg "_law_drawn" s_v ["script","simple"] f_v e_v) (G_v:FnOk P w K mg base CX0 r f_v e_v ["script","simple"] (spD K cl 2 F_v)){f_c:Addr}{e_c:FuncData}{F_c:PF}(D_c:Df K mg "_law_met" s_c ["need","alive"] f_c e_c) (G_c:FnOk P w K mg base CX0 r f_c e_c ["need","alive"] (spD K cl 2 F_c)){f_p:Addr}{e_p:FuncData}{F_p:PF}(D_p:Df K mg "_law_right" s_p ["found","name","kinds","needs"] f_p e_p) (G_p:FnOk P w K mg base CX0 r f_p e_p ["found","name","kinds","needs"] (spD K cl 4 F_p)){f_G:Addr}{e_G:FuncData}{F_G:PF}(D_G:Df K mg "cut" s_G ["web","name"] f_G e_G) (G_G:FnOk P w K mg base CX0 r f_G e_G ["web","name"] (spD K cl 2 F_G)){f_E:Addr}{e_E:FuncData}{F_E:PFI}(M_E:Meth K (cl 0) "drop" f_E) (B_E:y9 K e_E ["self","name"] []) (G_E:FnOk P w K mg base CX0 r f_E e_E ["self","name"] (spI K cl 2 1 F_E)){f_j:Addr}{e_j:FuncData}{F_j:PF}(M_j:Meth K (cl 0) "kinds" f_j) (B_j:y9 K e_j ["self"] []) (G_j:FnOk P w K mg base CX0 r f_j e_j ["self"] (spD K cl 1 F_j)) (ClW:Cls K (cl 0)) (NaW:Y1 K (cl 0) "need_by_name") (m_len:mg "len" = none) (m_range:mg "range" = none) :
 FnOk P w K mg base CX0 (r+1) f_K e_K ["script"] (spD K cl 1 (K2 8 (z61 F_u F_b F_v F_c F_p F_G F_E F_j))) :=
 q1H (κ:=[.b,.s,.s,.s,.o,.s,.s,.s]) (κ':=[.b,.s,.s,.s,.o,.s,.s,.v]) D_K.F q0G rfl (by decide) λ cdv A outer s H E hsn hr=>have hu:=hr.units;
 (z8 (z5C (is:=[1,2,3]) (List.forall_mem_cons.2 ⟨⟨by decide,rfl⟩,(List.forall_mem_cons.2 ⟨⟨by decide,rfl⟩,(List.forall_mem_cons.2 ⟨⟨by decide,rfl⟩,(List.forall_mem_nil _)⟩)⟩)⟩) rfl (q41 (q0K (i:=1) q0G.nd rfl (N0k rfl)) (q41 (q0K (i:=2) q0G.nd rfl (N0k rfl)) (q41 (q0K (i:=3) q0G.nd rfl (N0k rfl)) z2L))) rfl (Q0 D_v G_v hr rfl (z7 (z7 j4)) (z6 (z0 0 rfl rfl) (z6 q1i z9))))
  (z8 (W0 (i:=1) (k:=.s) (N0r rfl) (by decide) q0G.nd rfl (N0k rfl) (U4 (z0 1 rfl rfl) q0P (q0Q j3)))
  (z8 (W0 (i:=2) (k:=.s) (N0r rfl) (by decide) q0G.nd rfl (N0k rfl) (U4 (z0 2 rfl rfl) q0P (q0Q j3)))
  (z8 (Y0 (i:=4) (by decide) q0G.nd rfl (N0k rfl) (Q0 D_u G_u hr rfl (z7 (z7 j4)) (z6 (z0 1 rfl rfl) (z6 (z0 2 rfl rfl) z9))))
  (z8 (X7 (i:=5) (k:=.b) (fg:=[5,6,7]) (N0k rfl) (by decide) q0G.nd rfl (N0k rfl) PassesOwn.never rfl (q1n rfl m_range j3) (z8 (W0 (i:=6) (k:=.s) (N0r rfl) (by decide) q0G.nd rfl (N0k rfl) (j9 Y8 W9 K0 (j9 W4 W2 Z5 (Q0 D_b G_b hr rfl (z7 (z7 j4)) (z6 (z0 0 rfl rfl) (z6 j3 z9))) (j9 q50 q2T q2U (z0 5 rfl rfl) (j9 W4 W2 Z5 j3 (j9 Y8 W9 K0 (Q0 D_b G_b hr rfl (z7 (z7 j4)) (z6 (z0 0 rfl rfl) (z6 j3 z9))) j3)))) (Q6 Q8 Q7 W3 rfl m_len PySem.boot_len (z6 (z0 1 rfl rfl) z9))))
  (z8 (q9T (i:=7) (by decide) q0G.nd rfl (N0k rfl) (q7u D_G G_G hr rfl (z7 (z7 j4)) (z6 (z0 4 rfl rfl) (z6 (w9 hu (z0 1 rfl rfl) (z0 6 rfl rfl)) z9))))
  (j7 (W8 (x8 (Q0 D_c G_c hr rfl (z7 (z7 j4)) (z6 (w9 hu (z0 2 rfl rfl) (z0 6 rfl rfl)) (z6 (u6 z9) z9)))) (j7 (W8 (Q4 q9I q7k q7l (z0 7 rfl rfl) q5l (Z2 _)) (j7 (Q9 q1i (λ o_ h=>nomatch h))) Z1)) (z8 (W8 (q0z (x8 (Q0 D_p G_p hr rfl (z7 (z7 (z7 (z7 j4)))) (z6 (z0 7 rfl rfl) (z6 (w9 hu (z0 1 rfl rfl) (z0 6 rfl rfl)) (z6 (z0 1 rfl rfl) (z6 (z0 2 rfl rfl) z9))))))) (j7 (Q9 q1i (λ o_ h=>nomatch h))) Z1)
  (z1D (z1E (i:=7) rfl (λ o_=>rfl) (λ o_ h=>h.elim) Z0 (u6 (z6 Z0 z9)))
  (j7 (W8 (q0z (x8 (Q0 D_p G_p hr rfl (z7 (z7 (z7 (z7 j4)))) (z6 (Q0 D_G G_G hr rfl (z7 (z7 j4)) (z6 (z0 4 rfl rfl) (z6 (w9 hu (z0 1 rfl rfl) (z0 6 rfl rfl)) z9))) (z6 (w9 hu (z0 1 rfl rfl) (z0 6 rfl rfl)) (z6 (z0 1 rfl rfl) (z6 (z0 2 rfl rfl) z9))))))) (j7 (Q9 q1i (λ o_ h=>nomatch h))) Z1)))))))) rfl)
  (z8 (W8 (DW.dt (q1l (Q4 (q2c hu) q2d q2e (q17 (c:=0) ClW M_j G_j hr B_j (z0 4 rfl rfl)) (z0 1 rfl rfl) (Z2 _)) (q0M (Q4 (X8 hu) X9 v4 (Q6 Q8 Q7 W3 rfl m_len PySem.boot_len (z6 (z0 1 rfl rfl) z9)) j3 (Z2 _))))) (j7 (Q9 (q3E (X8 hu) X9 v4 (q17 (c:=0) ClW M_j G_j hr B_j (z0 4 rfl rfl)) (z0 1 rfl rfl) (Z2 _)) (λ o_ h=>nomatch h))) Z1)
  (z8 (q18 (q9S (c:=0) 4 ClW M_E rfl G_E hr B_E (λ δ ds h=>congrArg (1 + ·) ((z7 j4) δ ds h)) (z6 (w9 hu (z0 1 rfl rfl) j3) z9)))
  (z8 (W0 (i:=6) (k:=.s) (N0r rfl) (by decide) q0G.nd rfl (N0k rfl) (j9 W4 W2 Z5 j3 (j9 Y8 W9 K0 (Q0 D_b G_b hr rfl (z7 (z7 j4)) (z6 (z0 0 rfl rfl) (z6 j3 z9))) (j9 q6Y q4l q4m (Q6 Q8 Q7 W3 rfl m_len PySem.boot_len (z6 (z0 1 rfl rfl) z9)) j3))))
  (z8 (q9T (i:=7) (by decide) q0G.nd rfl (N0k rfl) (q7u D_G G_G hr rfl (z7 (z7 j4)) (z6 (z0 4 rfl rfl) (z6 (w9 hu (z0 1 rfl rfl) (z0 6 rfl rfl)) z9))))
  (z8 (W8 (x8 (Q0 D_c G_c hr rfl (z7 (z7 j4)) (z6 (w9 hu (z0 2 rfl rfl) (z0 6 rfl rfl)) (z6 (u6 z9) z9)))) (j7 (Q9 (q3E z5z z3w z3x (z0 7 rfl rfl) q5l (Z2 _)) (λ o_ h=>nomatch h))) Z1)
  (j7 (Q9 (Q0 D_p G_p hr rfl (z7 (z7 (z7 (z7 j4)))) (z6 (z0 7 rfl rfl) (z6 (w9 hu (z0 1 rfl rfl) (z0 6 rfl rfl)) (z6 (U4 (z0 1 rfl rfl) (q0Q j3) q0P) (z6 (U4 (z0 2 rfl rfl) (q0Q j3) q0P) z9))))) (λ o_ h=>nomatch h)))))))))))))
end
noncomputable def noL (K:W.Frag):Bool:=K.all λ p=>match p.2.cls with | .type t=>!(t=="list") | _=>true
theorem z2F {K:W.Frag}(h:noL K=true){a:Addr}{o:Obj}(e:K.lookup a=some o) (c:o.cls=.type "list"):False:=by
 unfold noL at h
 rw [N21] at h
 have m:(a,o)∈K:=by
  clear h
  induction K with
  | nil=>cases e
  | cons p r ih =>
   obtain ⟨b,u⟩:=p
   rw [N15] at e
   by_cases q:a=b
   ·subst q
    rw [beq_self_eq_true] at e
    cases e
    exact N00 ..
   ·rw [N18.mpr q] at e
    exact N02 _ (ih e)
 have:=h _ m
 dsimp only at this
 rw [c] at this
 simp at this
theorem q8D {K:W.Frag}{cl:Nat->Addr}{H:Hp}{a:Addr}{ns:List Int}(hk:noL K=true) (h:SqL K H a (ns.map V.int)):Ats K cl H (λ o_=>True) [.ref a] [intsL ns]:=by
 have hi:∀ l:List Int,Ats K cl H (λ o_=>True) (l.map V.int) (l.map D.int):=λ l=>by
  induction l with
  | nil=>exact Ats.nil
  | cons i r ih=>exact ⟨by rw [At],ih⟩
 rcases h with h | ⟨o,its,n,e,c,_⟩
 ·refine ⟨?_,Ats.nil⟩
  unfold intsL
  rw [At]
  exact ⟨a,_,rfl,trivial,h,hi ns⟩
 ·exact (z2F hk e c).elim
theorem q8E {P:Program}{w:World}{K:W.Frag}{mg:Str->Option Value}{base:Heap}{cl:Nat->Addr}{k n:Nat}{f:Addr}{fd:FuncData}{ps:List Str}:FnOk P w K mg base CX0 k f fd ps (spD K cl n λ o_=>.un) :=
 ⟨λ vs H Q E h=>(by obtain ⟨ds,d,_,_,e,_⟩:=h;cases e),λ A outer s H args us vs Q E o_ o_ o_ o_ h=>(by obtain ⟨ds,d,_,_,e,_⟩:=h;cases e)⟩
theorem q6T:FnScope ["self"] ["self"] (defScope s___init__):=by nofun
theorem z4r {P:Program}{w:World}{K:W.Frag}{mg:Str->Option Value}{base:Heap}{f C:Addr}{fd:FuncData}(F:Fun K "__init__" "Web.__init__" s___init__ f fd) (cl:Cls K C) (na:Y1 K C "need_by_name"):FnOk P w K mg base CX0 1 f fd ["self"] (spInit C "need_by_name"):=by
 refine F.ok q6T (λ vs H Q E h=>?_) (λ cdv A outer s H vs Q E hr h=>?_)
 ·obtain ⟨q,dx,rfl,_⟩:=h
  rfl
 ·obtain ⟨q,dx,rfl,hq,k⟩:=h
  refine ⟨_,q8O (z4U (Y7 (i:=0) rfl (N0k rfl) (by decide) (by decide)) q73 rfl),?_⟩
  intro d hd
  have nqd:q≠d:=J4 hq hd
  refine ⟨_,rfl,q,C,dx,[],rfl,(by rw [upd_ne nqd];exact hq),cl,na,(by show 0<1000;decide),?_⟩
  exact k d hd
theorem z6g {P:Program}{w:World}{K:W.Frag}{mg:Str->Option Value}{base:Heap}{cl:Nat->Addr}(ClW:Cls K (cl 0)) (NaW:Y1 K (cl 0) "need_by_name"){f_init:Addr}{e_init:FuncData}(R_init:Fun K "__init__" "Web.__init__" s___init__ f_init e_init) (MkW:Mk K (cl 0) f_init) (b_init:y9 K e_init ["self"] []) (m_Web:mg "Web" = some (.ref (cl 0))){f_H:Addr}{e_H:FuncData}(R_H:Fun K "add" "Web.add" s_H f_H e_H) (M_H:Meth K (cl 0) "add" f_H) (B_H:y9 K e_H ["self","name","need"] []){f_a:Addr}{e_a:FuncData}(R_a:Fun K "refuse_unknown" "Web.refuse_unknown" s_a f_a e_a) (M_a:Meth K (cl 0) "refuse_unknown" f_a) (B_a:y9 K e_a ["self","name"] []){f_E:Addr}{e_E:FuncData}(R_E:Fun K "drop" "Web.drop" s_E f_E e_E) (M_E:Meth K (cl 0) "drop" f_E) (B_E:y9 K e_E ["self","name"] []){f_j:Addr}{e_j:FuncData}(R_j:Fun K "kinds" "Web.kinds" s_j f_j e_j) (M_j:Meth K (cl 0) "kinds" f_j) (B_j:y9 K e_j ["self"] []){f_g:Addr}{e_g:FuncData}(R_g:Fun K "need_of" "Web.need_of" s_g f_g e_g) (M_g:Meth K (cl 0) "need_of" f_g) (B_g:y9 K e_g ["self","name"] []){f_D:Addr}{e_D:FuncData}(D_D:Df K mg "is_name" s_D ["text"] f_D e_D){f_h:Addr}{e_h:FuncData}(D_h:Df K mg "parts_of" s_h ["need"] f_h e_h){f_r:Addr}{e_r:FuncData}(D_r:Df K mg "names_of" s_r ["need"] f_r e_r){f_e:Addr}{e_e:FuncData}(D_e:Df K mg "is_plain_need" J0 ["need"] f_e e_e){f_B:Addr}{e_B:FuncData}(D_B:Df K mg "is_plain" s_B ["web"] f_B e_B){f_m:Addr}{e_m:FuncData}(D_m:Df K mg "has_sun" s_m ["need"] f_m e_m){f_l:Addr}{e_l:FuncData}(D_l:Df K mg "reached_from" s_l ["start","room"] f_l e_l){f_q:Addr}{e_q:FuncData}(D_q:Df K mg "make_room" s_q ["place","further","many","room"] f_q e_q){f_t:Addr}{e_t:FuncData}(D_t:Df K mg "room_for_ways" J1 ["web","name"] f_t e_t){f_o:Addr}{e_o:FuncData}(D_o:Df K mg "send_one_way" s_o ["reached","room"] f_o e_o){f_y:Addr}{e_y:FuncData}(D_y:Df K mg "sent_to" s_y ["place","room"] f_y e_y){f_C:Addr}{e_C:FuncData}(D_C:Df K mg "way_sent" s_C ["first","room"] f_C e_C){f_z:Addr}{e_z:FuncData}(D_z:Df K mg "ways_sent" s_z ["start","room"] f_z e_z){f_G:Addr}{e_G:FuncData}(D_G:Df K mg "cut" s_G ["web","name"] f_G e_G){f_b:Addr}{e_b:FuncData}(D_b:Df K mg "_law_cell_at" s_b ["script","k"] f_b e_b){f_k:Addr}{e_k:FuncData}(D_k:Df K mg "_law_next" s_k ["seed"] f_k e_k){f_w:Addr}{e_w:FuncData}(D_w:Df K mg "_law_names" s_w ["cell","many"] f_w e_w){f_n:Addr}{e_n:FuncData}(D_n:Df K mg "_law_need" s_n ["seed","deep","pool","simple"] f_n e_n){f_i:Addr}{e_i:FuncData}(D_i:Df K mg "_law_parts" s_i ["need"] f_i e_i){f_f:Addr}{e_f:FuncData}(D_f:Df K mg "_law_names_in" J2 ["need"] f_f e_f){f_c:Addr}{e_c:FuncData}(D_c:Df K mg "_law_met" s_c ["need","alive"] f_c e_c){f_v:Addr}{e_v:FuncData}(D_v:Df K mg "_law_drawn" s_v ["script","simple"] f_v e_v){f_u:Addr}{e_u:FuncData}(D_u:Df K mg "_law_built" s_u ["kinds","needs"] f_u e_u){f_s:Addr}{e_s:FuncData}(D_s:Df K mg "_law_levels" s_s ["kinds","needs","taken"] f_s e_s){f_x:Addr}{e_x:FuncData}(D_x:Df K mg "_law_alike" s_x ["found","due"] f_x e_x){f_A:Addr}{e_A:FuncData}(D_A:Df K mg "_law_way" s_A ["way","name","table"] f_A e_A){f_p:Addr}{e_p:FuncData}(D_p:Df K mg "_law_right" s_p ["found","name","kinds","needs"] f_p e_p){f_K:Addr}{e_K:FuncData}(D_K:Df K mg "law" s_K ["script"] f_K e_K){tk_I:Tok}(c_I:mg "MOST_KINDS" = some (.int 16 tk_I)){tk_F:Tok}(c_F:mg "MOST_LETTERS" = some (.int 8 tk_F)){tk_J:Tok}(c_J:mg "NO_BOUND" = some (.int 100 tk_J)){ad_d:Addr}{ob_d:Obj}{its_d:Array Value}{n_d:Nat}(w_d:mg "KEPT_WORDS" = some (.ref ad_d)) (k_d:K.lookup ad_d=some ob_d) (c_d:ob_d.cls=.type "tuple") (d_d:ob_d.data=.seq its_d n_d) (z_d:its_d.size<=sizeLine) (v_d:Vals (wKEPT_WORDS.map V.str) its_d.toList) (h98:cl 98=1) (w_SUN:mg "SUN_PLACE" = some (.ref (cl 99))) (m_all:mg "all" = none) (m_any:mg "any" = none) (m_int:mg "int" = none) (m_isinstance:mg "isinstance" = none) (m_len:mg "len" = none) (m_list:mg "list" = none) (m_range:mg "range" = none) (m_str:mg "str" = none) (m_sum:mg "sum" = none) (m_tuple:mg "tuple" = none) :
 FnOk P w K mg base CX0 12 f_K e_K ["script"] (spD K cl 1 F_K):=by
 have G_init:FnOk P w K mg base CX0 1 f_init e_init ["self"] (spInit (cl 0) "need_by_name"):=z4r R_init ClW NaW
 have G_D:FnOk P w K mg base CX0 1 f_D e_D ["text"] (spD K cl 1 F_D):=z0R (r:=0) (D_D:=D_D) (c_F:=c_F) (w_d:=w_d) (k_d:=k_d) (c_d:=c_d) (d_d:=d_d) (z_d:=z_d) (v_d:=v_d) (m_all:=m_all) (m_len:=m_len)
 have G_H:FnOk P w K mg base CX0 2 f_H e_H ["self","name","need"] (spI K cl 3 1 F_H):=z8t (r:=1) (R_H:=R_H) (D_D:=D_D) (G_D:=G_D.mono (by lia)) (ClW:=ClW) (NaW:=NaW) (c_I:=c_I) (m_len:=m_len)
 have G_a:FnOk P w K mg base CX0 1 f_a e_a ["self","name"] (spD K cl 2 F_a):=q2p (r:=0) (R_a:=R_a) (ClW:=ClW) (NaW:=NaW)
 have G_E:FnOk P w K mg base CX0 2 f_E e_E ["self","name"] (spI K cl 2 1 F_E):=z6f (r:=1) (R_E:=R_E) (M_a:=M_a) (B_a:=B_a) (G_a:=G_a.mono (by lia)) (ClW:=ClW) (NaW:=NaW)
 have G_j:FnOk P w K mg base CX0 1 f_j e_j ["self"] (spD K cl 1 F_j):=z4q (r:=0) (R_j:=R_j) (ClW:=ClW) (NaW:=NaW) (m_list:=m_list)
 have G_g:FnOk P w K mg base CX0 2 f_g e_g ["self","name"] (spD K cl 2 F_g):=z0S (r:=1) (R_g:=R_g) (M_a:=M_a) (B_a:=B_a) (G_a:=G_a.mono (by lia)) (ClW:=ClW) (NaW:=NaW)
 have G_h:FnOk P w K mg base CX0 1 f_h e_h ["need"] (spD K cl 1 F_h):=q8v (r:=0) (D_h:=D_h)
 have G'_r:∀ n,FnOk P w K mg base CX0 (1+n) f_r e_r ["need"] (spD K cl 1 (F_r n)):=λ n=>by
  induction n with
  | zero=>exact q8E
  | succ n ih=>exact q8w (r:=1+n) (D_r:=D_r) (G_r:=ih) (D_h:=D_h) (G_h:=G_h.mono (by lia)) (m_list:=m_list)
 have G_r:FnOk P w K mg base CX0 9 f_r e_r ["need"] (spD K cl 1 (F_r 8)):=G'_r 8
 have G'_e:∀ n,FnOk P w K mg base CX0 (1+n) f_e e_e ["need"] (spD K cl 1 (F_e n)):=λ n=>by
  induction n with
  | zero=>exact q8E
  | succ n ih=>exact q3m (r:=1+n) (D_e:=D_e) (G_e:=ih) (D_h:=D_h) (G_h:=G_h.mono (by lia)) (m_all:=m_all)
 have G_e:FnOk P w K mg base CX0 9 f_e e_e ["need"] (spD K cl 1 (F_e 8)):=G'_e 8
 have G_B:FnOk P w K mg base CX0 10 f_B e_B ["web"] (spD K cl 1 F_B):=q8x (r:=9) (D_B:=D_B) (D_e:=D_e) (G_e:=G_e.mono (by lia)) (M_j:=M_j) (B_j:=B_j) (G_j:=G_j.mono (by lia)) (M_g:=M_g) (B_g:=B_g) (G_g:=G_g.mono (by lia)) (ClW:=ClW) (NaW:=NaW) (m_all:=m_all)
 have G'_m:∀ n,FnOk P w K mg base CX0 (1+n) f_m e_m ["need"] (spD K cl 1 (F_m n)):=λ n=>by
  induction n with
  | zero=>exact q8E
  | succ n ih=>exact z0T (r:=1+n) (D_m:=D_m) (G_m:=ih) (D_h:=D_h) (G_h:=G_h.mono (by lia)) (m_any:=m_any)
 have G_m:FnOk P w K mg base CX0 9 f_m e_m ["need"] (spD K cl 1 (F_m 8)):=G'_m 8
 have G_l:FnOk P w K mg base CX0 1 f_l e_l ["start","room"] (spD K cl 2 F_l):=q3r (r:=0) (D_l:=D_l)
 have G_q:FnOk P w K mg base CX0 1 f_q e_q ["place","further","many","room"] (spM K cl F_q):=q6P (r:=0) (D_q:=D_q)
 have G_t:FnOk P w K mg base CX0 10 f_t e_t ["web","name"] (spD K cl 2 F_t):=q3n (r:=9) (D_t:=D_t) (D_m:=D_m) (G_m:=G_m.mono (by lia)) (M_j:=M_j) (B_j:=B_j) (G_j:=G_j.mono (by lia)) (D_q:=D_q) (G_q:=G_q.mono (by lia)) (D_r:=D_r) (G_r:=G_r.mono (by lia)) (M_g:=M_g) (B_g:=B_g) (G_g:=G_g.mono (by lia)) (ClW:=ClW) (NaW:=NaW) (c_J:=c_J) (h98:=h98) (w_SUN:=w_SUN)
 have G_o:FnOk P w K mg base CX0 1 f_o e_o ["reached","room"] (spJ K cl F_o):=q3s (r:=0) (D_o:=D_o) (h98:=h98) (w_SUN:=w_SUN)
 have G_y:FnOk P w K mg base CX0 1 f_y e_y ["place","room"] (spD K cl 2 F_y):=z0U (r:=0) (D_y:=D_y)
 have G_C:FnOk P w K mg base CX0 2 f_C e_C ["first","room"] (spD K cl 2 F_C):=q8A (r:=1) (D_C:=D_C) (D_y:=D_y) (G_y:=G_y.mono (by lia)) (h98:=h98) (w_SUN:=w_SUN)
 have G_z:FnOk P w K mg base CX0 3 f_z e_z ["start","room"] (spD K cl 2 F_z):=q6Q (r:=2) (D_z:=D_z) (D_y:=D_y) (G_y:=G_y.mono (by lia)) (D_C:=D_C) (G_C:=G_C.mono (by lia))
 have G_G:FnOk P w K mg base CX0 11 f_G e_G ["web","name"] (spD K cl 2 F_G):=z8u (r:=10) (D_G:=D_G) (D_m:=D_m) (G_m:=G_m.mono (by lia)) (D_B:=D_B) (G_B:=G_B.mono (by lia)) (M_j:=M_j) (B_j:=B_j) (G_j:=G_j.mono (by lia)) (M_g:=M_g) (B_g:=B_g) (G_g:=G_g.mono (by lia)) (D_l:=D_l) (G_l:=G_l.mono (by lia)) (M_a:=M_a) (B_a:=B_a) (G_a:=G_a.mono (by lia)) (D_t:=D_t) (G_t:=G_t.mono (by lia)) (D_o:=D_o) (G_o:=G_o.mono (by lia)) (D_z:=D_z) (G_z:=G_z.mono (by lia)) (ClW:=ClW) (NaW:=NaW) (h98:=h98) (w_SUN:=w_SUN)
 have G_b:FnOk P w K mg base CX0 1 f_b e_b ["script","k"] (spD K cl 2 F_b):=q3t (r:=0) (D_b:=D_b) (m_len:=m_len)
 have G_k:FnOk P w K mg base CX0 1 f_k e_k ["seed"] (spD K cl 1 F_k):=q6R (r:=0) (D_k:=D_k)
 have G_w:FnOk P w K mg base CX0 1 f_w e_w ["cell","many"] (spD K cl 2 F_w):=q5X (r:=0) (D_w:=D_w) (m_len:=m_len) (m_range:=m_range)
 have G'_n:∀ n,FnOk P w K mg base CX0 (1+n) f_n e_n ["seed","deep","pool","simple"] (spD K cl 4 (F_n n)):=λ n=>by
  induction n with
  | zero=>exact q8E
  | succ n ih=>exact q6S (r:=1+n) (D_n:=D_n) (G_n:=ih) (D_k:=D_k) (G_k:=G_k.mono (by lia)) (m_len:=m_len) (m_range:=m_range) (m_tuple:=m_tuple)
 have G_n:FnOk P w K mg base CX0 9 f_n e_n ["seed","deep","pool","simple"] (spD K cl 4 (F_n 8)):=G'_n 8
 have G_i:FnOk P w K mg base CX0 1 f_i e_i ["need"] (spD K cl 1 F_i):=q5Y (r:=0) (D_i:=D_i) (m_len:=m_len)
 have G'_f:∀ n,FnOk P w K mg base CX0 (1+n) f_f e_f ["need"] (spD K cl 1 (F_f n)):=λ n=>by
  induction n with
  | zero=>exact q8E
  | succ n ih=>exact q3p (r:=1+n) (D_f:=D_f) (G_f:=ih) (D_i:=D_i) (G_i:=G_i.mono (by lia))
 have G_f:FnOk P w K mg base CX0 9 f_f e_f ["need"] (spD K cl 1 (F_f 8)):=G'_f 8
 have G'_c:∀ n,FnOk P w K mg base CX0 (1+n) f_c e_c ["need","alive"] (spD K cl 2 (F_c n)):=λ n=>by
  induction n with
  | zero=>exact q8E
  | succ n ih=>exact q8B (r:=1+n) (D_c:=D_c) (G_c:=ih) (D_i:=D_i) (G_i:=G_i.mono (by lia)) (m_int:=m_int) (m_len:=m_len) (m_sum:=m_sum)
 have G_c:FnOk P w K mg base CX0 9 f_c e_c ["need","alive"] (spD K cl 2 (F_c 8)):=G'_c 8
 have G_v:FnOk P w K mg base CX0 10 f_v e_v ["script","simple"] (spD K cl 2 F_v):=q5Z (r:=9) (D_v:=D_v) (D_b:=D_b) (G_b:=G_b.mono (by lia)) (D_w:=D_w) (G_w:=G_w.mono (by lia)) (D_n:=D_n) (G_n:=G_n.mono (by lia)) (D_k:=D_k) (G_k:=G_k.mono (by lia)) (m_range:=m_range)
 have G_u:FnOk P w K mg base CX0 5 f_u e_u ["kinds","needs"] (spD K cl 2 F_u):=q60 (r:=2) (D_u:=D_u) (M_H:=M_H) (B_H:=B_H) (G_H:=G_H.mono (by lia)) (ClW:=ClW) (NaW:=NaW) (MkW:=MkW) (G_init:=G_init) (b_init:=b_init) (m_Web:=m_Web) (m_len:=m_len) (m_range:=m_range)
 have G_s:FnOk P w K mg base CX0 10 f_s e_s ["kinds","needs","taken"] (spD K cl 3 F_s):=q4U (r:=9) (D_s:=D_s) (D_c:=D_c) (G_c:=G_c.mono (by lia)) (m_len:=m_len) (m_range:=m_range)
 have G_x:FnOk P w K mg base CX0 1 f_x e_x ["found","due"] (spD K cl 2 F_x):=q61 (r:=0) (D_x:=D_x) (m_all:=m_all) (m_isinstance:=m_isinstance) (m_len:=m_len) (m_list:=m_list) (m_str:=m_str)
 have G_A:FnOk P w K mg base CX0 10 f_A e_A ["way","name","table"] (spD K cl 3 F_A):=q8C (r:=9) (D_A:=D_A) (D_c:=D_c) (G_c:=G_c.mono (by lia)) (D_f:=D_f) (G_f:=G_f.mono (by lia)) (m_isinstance:=m_isinstance) (m_len:=m_len) (m_list:=m_list) (m_str:=m_str)
 have G_p:FnOk P w K mg base CX0 11 f_p e_p ["found","name","kinds","needs"] (spD K cl 4 F_p):=q62 (r:=10) (D_p:=D_p) (D_x:=D_x) (G_x:=G_x.mono (by lia)) (D_s:=D_s) (G_s:=G_s.mono (by lia)) (D_A:=D_A) (G_A:=G_A.mono (by lia)) (m_isinstance:=m_isinstance) (m_len:=m_len) (m_list:=m_list) (m_range:=m_range) (m_tuple:=m_tuple)
 have G_K:FnOk P w K mg base CX0 12 f_K e_K ["script"] (spD K cl 1 F_K):=z8v (r:=11) (D_K:=D_K) (D_u:=D_u) (G_u:=G_u.mono (by lia)) (D_b:=D_b) (G_b:=G_b.mono (by lia)) (D_v:=D_v) (G_v:=G_v.mono (by lia)) (D_c:=D_c) (G_c:=G_c.mono (by lia)) (D_p:=D_p) (G_p:=G_p.mono (by lia)) (D_G:=D_G) (G_G:=G_G.mono (by lia)) (M_E:=M_E) (B_E:=B_E) (G_E:=G_E.mono (by lia)) (M_j:=M_j) (B_j:=B_j) (G_j:=G_j.mono (by lia)) (ClW:=ClW) (NaW:=NaW) (m_len:=m_len) (m_range:=m_range)
 exact G_K
noncomputable def clS (C s:Addr) (i:Nat):Addr:=if i=98 then 1 else if i=99 then s else C
noncomputable def z2b (K:W.Frag) (ad:Addr):Sp:=λ vs H Q o_=>∃ (a:Addr) (ns:List Int),vs=[.ref a]/\H ad=some (.tup (plV ("sun","in")))/\SqL K H a (ns.map V.int)/\ns.length<=63/\∀ H',Q (.bl true) H'
theorem z4s {K:W.Frag}{C ad:Addr}{vs:List V}{H:Hp}{Q:VK}{E:XK}(hk:noL K=true) (h:z2b K ad vs H Q E):spD K (clS C ad) 1 F_K vs H Q E:=by
 obtain ⟨a,ns,rfl,hd,hs,hl,z⟩:=h
 refine ⟨[intsL ns],.bl true,⟨rfl,λ o_=>hd⟩,q8D hk hs,z4o ns,λ v H' o_ hv o_=>?_⟩
 rw [At] at hv
 rw [hv]
 exact z H'
theorem ar0 {P:List Value->Prop}(h:P []):∀ us:List Value,us.length=0->P us:=by
 intro us e;rw [List.eq_nil_of_length_eq_zero e];exact h
theorem arS {P:List Value->Prop}{n:Nat}(h:∀ v (us:List Value),us.length=n->P (v::us)):∀ us:List Value,us.length=n+1->P us:=by
 intro us e
 cases us with
 | nil=>cases e
 | cons v us=>exact h v us (Nat.succ.inj e)
theorem q0H {P:List Value->Prop}(h:∀ v0,P [v0]):∀ us:List Value,us.length=1->P us :=
 arS (P:=λ us=>P (us)) λ v0=>ar0 (P:=λ us=>P (v0::us)) (h v0)
theorem V5 {P:List Value->Prop}(h:∀ v0 v1,P [v0,v1]):∀ us:List Value,us.length=2->P us :=
 arS (P:=λ us=>P (us)) λ v0=>arS (P:=λ us=>P (v0::us)) λ v1=>ar0 (P:=λ us=>P (v0::v1::us)) (h v0 v1)
theorem z0V {P:List Value->Prop}(h:∀ v0 v1 v2,P [v0,v1,v2]):∀ us:List Value,us.length=3->P us :=
 arS (P:=λ us=>P (us)) λ v0=>arS (P:=λ us=>P (v0::us)) λ v1=>arS (P:=λ us=>P (v0::v1::us)) λ v2=>ar0 (P:=λ us=>P (v0::v1::v2::us)) (h v0 v1 v2)
theorem z0W {P:List Value->Prop}(h:∀ v0 v1 v2 v3,P [v0,v1,v2,v3]):∀ us:List Value,us.length=4->P us :=
 arS (P:=λ us=>P (us)) λ v0=>arS (P:=λ us=>P (v0::us)) λ v1=>arS (P:=λ us=>P (v0::v1::us)) λ v2=>arS (P:=λ us=>P (v0::v1::v2::us)) λ v3=>ar0 (P:=λ us=>P (v0::v1::v2::v3::us)) (h v0 v1 v2 v3)
set_option maxHeartbeats 0 in
theorem all_mk {l:W.OpenLaw}{w:World}{K:W.Frag}{h:Heap}{mg:Str->Option Value}{fa CW f1 f2 f3 f4 f5 f6 f7 f8 f9 f10 f11 f12 f13 f14 f15 f16 f17 f18 f19 f20 f21 f22 f23 f24 f25 f26 f27 f28 f29 f30 f31 f32 f33 f34:Addr}(X:K.In h) (G:h.Ns mainGlobals mg) (hfa:mg "law" = some (.ref fa)) (hkl:noL K=true)
 {od1 an1 od2 an2 od3 an3 od4 an4 od5 an5 od6 an6 od7 an7 od8 an8 od9 an9 od10 an10 od11 an11 od12 an12 od13 an13 od14 an14 od15 an15 od16 an16 od17 an17 od18 an18 od19 an19 od20 an20 od21 an21 od22 an22 od23 an23 od24 an24 od25 an25 od26 an26 od27 an27 od28 an28 od29 an29 od30 an30 od31 an31 od32 an32 od33 an33 od34 an34:Option Addr}{sl1 sl2 sl3 sl4 sl5 sl6 sl7 sl8 sl9 sl10 sl11 sl12 sl13 sl14 sl15 sl16 sl17 sl18 sl19 sl20 sl21 sl22 sl23 sl24 sl25 sl26 sl27 sl28 sl29 sl30 sl31 sl32 sl33 sl34:Array (Option Value)}{oc1 kV1 dc1 pm1 cd1 ct1 oc2 kV2 dc2 pm2 cd2 ct2 oc3 kV3 dc3 pm3 cd3 ct3 oc4 kV4 dc4 pm4 cd4 ct4 oc5 kV5 dc5 pm5 cd5 ct5 oc6 kV6 dc6 pm6 cd6 ct6 oc7 kV7 dc7 pm7 cd7 ct7 oc8 kV8 dc8 pm8 cd8 ct8 oc9 kV9 dc9 pm9 cd9 ct9 oc10 kV10 dc10 pm10 cd10 ct10 oc11 kV11 dc11 pm11 cd11 ct11 oc12 kV12 dc12 pm12 cd12 ct12 oc13 kV13 dc13 pm13 cd13 ct13 oc14 kV14 dc14 pm14 cd14 ct14 oc15 kV15 dc15 pm15 cd15 ct15 oc16 kV16 dc16 pm16 cd16 ct16 oc17 kV17 dc17 pm17 cd17 ct17 oc18 kV18 dc18 pm18 cd18 ct18 oc19 kV19 dc19 pm19 cd19 ct19 oc20 kV20 dc20 pm20 cd20 ct20 oc21 kV21 dc21 pm21 cd21 ct21 oc22 kV22 dc22 pm22 cd22 ct22 oc23 kV23 dc23 pm23 cd23 ct23 oc24 kV24 dc24 pm24 cd24 ct24 oc25 kV25 dc25 pm25 cd25 ct25 oc26 kV26 dc26 pm26 cd26 ct26 oc27 kV27 dc27 pm27 cd27 ct27 oc28 kV28 dc28 pm28 cd28 ct28 oc29 kV29 dc29 pm29 cd29 ct29 oc30 kV30 dc30 pm30 cd30 ct30 oc31 kV31 dc31 pm31 cd31 ct31 oc32 kV32 dc32 pm32 cd32 ct32 oc33 kV33 dc33 pm33 cd33 ct33 oc34 kV34 dc34 pm34 cd34 ct34:Value}
 (aC:W.nsIn K mainGlobals "Web" = some (some (.ref CW)))
 (a1:W.findIn K (.ref CW) "__init__" = some (some (.ref f1))) (i1:W.isFn K (.ref f1)=true) (l1:K.lookup f1=some ⟨oc1,od1,.func (W.fnOf "__init__" "Web.__init__" (defArgs s___init__) (defBody s___init__) (defScope s___init__) .none kV1 dc1 pm1 an1 cd1 ct1),sl1⟩) (c1:W.codeIn K cd1 "Web.__init__" = true) (k1:W.keepIn K (.ref f1)=true)
 (a2:W.findIn K (.ref CW) "add" = some (some (.ref f2))) (i2:W.isFn K (.ref f2)=true) (l2:K.lookup f2=some ⟨oc2,od2,.func (W.fnOf "add" "Web.add" (defArgs s_H) (defBody s_H) (defScope s_H) .none kV2 dc2 pm2 an2 cd2 ct2),sl2⟩) (c2:W.codeIn K cd2 "Web.add" = true) (k2:W.keepIn K (.ref f2)=true)
 (a3:W.findIn K (.ref CW) "refuse_unknown" = some (some (.ref f3))) (i3:W.isFn K (.ref f3)=true) (l3:K.lookup f3=some ⟨oc3,od3,.func (W.fnOf "refuse_unknown" "Web.refuse_unknown" (defArgs s_a) (defBody s_a) (defScope s_a) .none kV3 dc3 pm3 an3 cd3 ct3),sl3⟩) (c3:W.codeIn K cd3 "Web.refuse_unknown" = true) (k3:W.keepIn K (.ref f3)=true)
 (a4:W.findIn K (.ref CW) "drop" = some (some (.ref f4))) (i4:W.isFn K (.ref f4)=true) (l4:K.lookup f4=some ⟨oc4,od4,.func (W.fnOf "drop" "Web.drop" (defArgs s_E) (defBody s_E) (defScope s_E) .none kV4 dc4 pm4 an4 cd4 ct4),sl4⟩) (c4:W.codeIn K cd4 "Web.drop" = true) (k4:W.keepIn K (.ref f4)=true)
 (a5:W.findIn K (.ref CW) "kinds" = some (some (.ref f5))) (i5:W.isFn K (.ref f5)=true) (l5:K.lookup f5=some ⟨oc5,od5,.func (W.fnOf "kinds" "Web.kinds" (defArgs s_j) (defBody s_j) (defScope s_j) .none kV5 dc5 pm5 an5 cd5 ct5),sl5⟩) (c5:W.codeIn K cd5 "Web.kinds" = true) (k5:W.keepIn K (.ref f5)=true)
 (a6:W.findIn K (.ref CW) "need_of" = some (some (.ref f6))) (i6:W.isFn K (.ref f6)=true) (l6:K.lookup f6=some ⟨oc6,od6,.func (W.fnOf "need_of" "Web.need_of" (defArgs s_g) (defBody s_g) (defScope s_g) .none kV6 dc6 pm6 an6 cd6 ct6),sl6⟩) (c6:W.codeIn K cd6 "Web.need_of" = true) (k6:W.keepIn K (.ref f6)=true)
 (a7:W.nsIn K mainGlobals "is_name" = some (some (.ref f7))) (l7:K.lookup f7=some ⟨oc7,od7,.func (W.fnOf "is_name" "is_name" (defArgs s_D) (defBody s_D) (defScope s_D) .none kV7 dc7 pm7 an7 cd7 ct7),sl7⟩) (c7:W.codeIn K cd7 "is_name" = true) (k7:W.keepIn K (.ref f7)=true)
 (a8:W.nsIn K mainGlobals "parts_of" = some (some (.ref f8))) (l8:K.lookup f8=some ⟨oc8,od8,.func (W.fnOf "parts_of" "parts_of" (defArgs s_h) (defBody s_h) (defScope s_h) .none kV8 dc8 pm8 an8 cd8 ct8),sl8⟩) (c8:W.codeIn K cd8 "parts_of" = true) (k8:W.keepIn K (.ref f8)=true)
 (a9:W.nsIn K mainGlobals "names_of" = some (some (.ref f9))) (l9:K.lookup f9=some ⟨oc9,od9,.func (W.fnOf "names_of" "names_of" (defArgs s_r) (defBody s_r) (defScope s_r) .none kV9 dc9 pm9 an9 cd9 ct9),sl9⟩) (c9:W.codeIn K cd9 "names_of" = true) (k9:W.keepIn K (.ref f9)=true)
 (a10:W.nsIn K mainGlobals "is_plain_need" = some (some (.ref f10))) (l10:K.lookup f10=some ⟨oc10,od10,.func (W.fnOf "is_plain_need" "is_plain_need" (defArgs J0) (defBody J0) (defScope J0) .none kV10 dc10 pm10 an10 cd10 ct10),sl10⟩) (c10:W.codeIn K cd10 "is_plain_need" = true) (k10:W.keepIn K (.ref f10)=true)
 (a11:W.nsIn K mainGlobals "is_plain" = some (some (.ref f11))) (l11:K.lookup f11=some ⟨oc11,od11,.func (W.fnOf "is_plain" "is_plain" (defArgs s_B) (defBody s_B) (defScope s_B) .none kV11 dc11 pm11 an11 cd11 ct11),sl11⟩) (c11:W.codeIn K cd11 "is_plain" = true) (k11:W.keepIn K (.ref f11)=true)
 (a12:W.nsIn K mainGlobals "has_sun" = some (some (.ref f12))) (l12:K.lookup f12=some ⟨oc12,od12,.func (W.fnOf "has_sun" "has_sun" (defArgs s_m) (defBody s_m) (defScope s_m) .none kV12 dc12 pm12 an12 cd12 ct12),sl12⟩) (c12:W.codeIn K cd12 "has_sun" = true) (k12:W.keepIn K (.ref f12)=true)
 (a13:W.nsIn K mainGlobals "reached_from" = some (some (.ref f13))) (l13:K.lookup f13=some ⟨oc13,od13,.func (W.fnOf "reached_from" "reached_from" (defArgs s_l) (defBody s_l) (defScope s_l) .none kV13 dc13 pm13 an13 cd13 ct13),sl13⟩) (c13:W.codeIn K cd13 "reached_from" = true) (k13:W.keepIn K (.ref f13)=true)
 (a14:W.nsIn K mainGlobals "make_room" = some (some (.ref f14))) (l14:K.lookup f14=some ⟨oc14,od14,.func (W.fnOf "make_room" "make_room" (defArgs s_q) (defBody s_q) (defScope s_q) .none kV14 dc14 pm14 an14 cd14 ct14),sl14⟩) (c14:W.codeIn K cd14 "make_room" = true) (k14:W.keepIn K (.ref f14)=true)
 (a15:W.nsIn K mainGlobals "room_for_ways" = some (some (.ref f15))) (l15:K.lookup f15=some ⟨oc15,od15,.func (W.fnOf "room_for_ways" "room_for_ways" (defArgs J1) (defBody J1) (defScope J1) .none kV15 dc15 pm15 an15 cd15 ct15),sl15⟩) (c15:W.codeIn K cd15 "room_for_ways" = true) (k15:W.keepIn K (.ref f15)=true)
 (a16:W.nsIn K mainGlobals "send_one_way" = some (some (.ref f16))) (l16:K.lookup f16=some ⟨oc16,od16,.func (W.fnOf "send_one_way" "send_one_way" (defArgs s_o) (defBody s_o) (defScope s_o) .none kV16 dc16 pm16 an16 cd16 ct16),sl16⟩) (c16:W.codeIn K cd16 "send_one_way" = true) (k16:W.keepIn K (.ref f16)=true)
 (a17:W.nsIn K mainGlobals "sent_to" = some (some (.ref f17))) (l17:K.lookup f17=some ⟨oc17,od17,.func (W.fnOf "sent_to" "sent_to" (defArgs s_y) (defBody s_y) (defScope s_y) .none kV17 dc17 pm17 an17 cd17 ct17),sl17⟩) (c17:W.codeIn K cd17 "sent_to" = true) (k17:W.keepIn K (.ref f17)=true)
 (a18:W.nsIn K mainGlobals "way_sent" = some (some (.ref f18))) (l18:K.lookup f18=some ⟨oc18,od18,.func (W.fnOf "way_sent" "way_sent" (defArgs s_C) (defBody s_C) (defScope s_C) .none kV18 dc18 pm18 an18 cd18 ct18),sl18⟩) (c18:W.codeIn K cd18 "way_sent" = true) (k18:W.keepIn K (.ref f18)=true)
 (a19:W.nsIn K mainGlobals "ways_sent" = some (some (.ref f19))) (l19:K.lookup f19=some ⟨oc19,od19,.func (W.fnOf "ways_sent" "ways_sent" (defArgs s_z) (defBody s_z) (defScope s_z) .none kV19 dc19 pm19 an19 cd19 ct19),sl19⟩) (c19:W.codeIn K cd19 "ways_sent" = true) (k19:W.keepIn K (.ref f19)=true)
 (a20:W.nsIn K mainGlobals "cut" = some (some (.ref f20))) (l20:K.lookup f20=some ⟨oc20,od20,.func (W.fnOf "cut" "cut" (defArgs s_G) (defBody s_G) (defScope s_G) .none kV20 dc20 pm20 an20 cd20 ct20),sl20⟩) (c20:W.codeIn K cd20 "cut" = true) (k20:W.keepIn K (.ref f20)=true)
 (a21:W.nsIn K mainGlobals "_law_cell_at" = some (some (.ref f21))) (l21:K.lookup f21=some ⟨oc21,od21,.func (W.fnOf "_law_cell_at" "_law_cell_at" (defArgs s_b) (defBody s_b) (defScope s_b) .none kV21 dc21 pm21 an21 cd21 ct21),sl21⟩) (c21:W.codeIn K cd21 "_law_cell_at" = true) (k21:W.keepIn K (.ref f21)=true)
 (a22:W.nsIn K mainGlobals "_law_next" = some (some (.ref f22))) (l22:K.lookup f22=some ⟨oc22,od22,.func (W.fnOf "_law_next" "_law_next" (defArgs s_k) (defBody s_k) (defScope s_k) .none kV22 dc22 pm22 an22 cd22 ct22),sl22⟩) (c22:W.codeIn K cd22 "_law_next" = true) (k22:W.keepIn K (.ref f22)=true)
 (a23:W.nsIn K mainGlobals "_law_names" = some (some (.ref f23))) (l23:K.lookup f23=some ⟨oc23,od23,.func (W.fnOf "_law_names" "_law_names" (defArgs s_w) (defBody s_w) (defScope s_w) .none kV23 dc23 pm23 an23 cd23 ct23),sl23⟩) (c23:W.codeIn K cd23 "_law_names" = true) (k23:W.keepIn K (.ref f23)=true)
 (a24:W.nsIn K mainGlobals "_law_need" = some (some (.ref f24))) (l24:K.lookup f24=some ⟨oc24,od24,.func (W.fnOf "_law_need" "_law_need" (defArgs s_n) (defBody s_n) (defScope s_n) .none kV24 dc24 pm24 an24 cd24 ct24),sl24⟩) (c24:W.codeIn K cd24 "_law_need" = true) (k24:W.keepIn K (.ref f24)=true)
 (a25:W.nsIn K mainGlobals "_law_parts" = some (some (.ref f25))) (l25:K.lookup f25=some ⟨oc25,od25,.func (W.fnOf "_law_parts" "_law_parts" (defArgs s_i) (defBody s_i) (defScope s_i) .none kV25 dc25 pm25 an25 cd25 ct25),sl25⟩) (c25:W.codeIn K cd25 "_law_parts" = true) (k25:W.keepIn K (.ref f25)=true)
 (a26:W.nsIn K mainGlobals "_law_names_in" = some (some (.ref f26))) (l26:K.lookup f26=some ⟨oc26,od26,.func (W.fnOf "_law_names_in" "_law_names_in" (defArgs J2) (defBody J2) (defScope J2) .none kV26 dc26 pm26 an26 cd26 ct26),sl26⟩) (c26:W.codeIn K cd26 "_law_names_in" = true) (k26:W.keepIn K (.ref f26)=true)
 (a27:W.nsIn K mainGlobals "_law_met" = some (some (.ref f27))) (l27:K.lookup f27=some ⟨oc27,od27,.func (W.fnOf "_law_met" "_law_met" (defArgs s_c) (defBody s_c) (defScope s_c) .none kV27 dc27 pm27 an27 cd27 ct27),sl27⟩) (c27:W.codeIn K cd27 "_law_met" = true) (k27:W.keepIn K (.ref f27)=true)
 (a28:W.nsIn K mainGlobals "_law_drawn" = some (some (.ref f28))) (l28:K.lookup f28=some ⟨oc28,od28,.func (W.fnOf "_law_drawn" "_law_drawn" (defArgs s_v) (defBody s_v) (defScope s_v) .none kV28 dc28 pm28 an28 cd28 ct28),sl28⟩) (c28:W.codeIn K cd28 "_law_drawn" = true) (k28:W.keepIn K (.ref f28)=true)
 (a29:W.nsIn K mainGlobals "_law_built" = some (some (.ref f29))) (l29:K.lookup f29=some ⟨oc29,od29,.func (W.fnOf "_law_built" "_law_built" (defArgs s_u) (defBody s_u) (defScope s_u) .none kV29 dc29 pm29 an29 cd29 ct29),sl29⟩) (c29:W.codeIn K cd29 "_law_built" = true) (k29:W.keepIn K (.ref f29)=true)
 (a30:W.nsIn K mainGlobals "_law_levels" = some (some (.ref f30))) (l30:K.lookup f30=some ⟨oc30,od30,.func (W.fnOf "_law_levels" "_law_levels" (defArgs s_s) (defBody s_s) (defScope s_s) .none kV30 dc30 pm30 an30 cd30 ct30),sl30⟩) (c30:W.codeIn K cd30 "_law_levels" = true) (k30:W.keepIn K (.ref f30)=true)
 (a31:W.nsIn K mainGlobals "_law_alike" = some (some (.ref f31))) (l31:K.lookup f31=some ⟨oc31,od31,.func (W.fnOf "_law_alike" "_law_alike" (defArgs s_x) (defBody s_x) (defScope s_x) .none kV31 dc31 pm31 an31 cd31 ct31),sl31⟩) (c31:W.codeIn K cd31 "_law_alike" = true) (k31:W.keepIn K (.ref f31)=true)
 (a32:W.nsIn K mainGlobals "_law_way" = some (some (.ref f32))) (l32:K.lookup f32=some ⟨oc32,od32,.func (W.fnOf "_law_way" "_law_way" (defArgs s_A) (defBody s_A) (defScope s_A) .none kV32 dc32 pm32 an32 cd32 ct32),sl32⟩) (c32:W.codeIn K cd32 "_law_way" = true) (k32:W.keepIn K (.ref f32)=true)
 (a33:W.nsIn K mainGlobals "_law_right" = some (some (.ref f33))) (l33:K.lookup f33=some ⟨oc33,od33,.func (W.fnOf "_law_right" "_law_right" (defArgs s_p) (defBody s_p) (defScope s_p) .none kV33 dc33 pm33 an33 cd33 ct33),sl33⟩) (c33:W.codeIn K cd33 "_law_right" = true) (k33:W.keepIn K (.ref f33)=true)
 (a34:W.nsIn K mainGlobals "law" = some (some (.ref f34))) (l34:K.lookup f34=some ⟨oc34,od34,.func (W.fnOf "law" "law" (defArgs s_K) (defBody s_K) (defScope s_K) .none kV34 dc34 pm34 an34 cd34 ct34),sl34⟩) (c34:W.codeIn K cd34 "law" = true) (k34:W.keepIn K (.ref f34)=true)
 (pg:W.plainGet K CW Str.empty=true) (hd:W.hasDictIn K CW=true) (po:W.plainOver K CW=true) (sa:W.findIn K (.ref CW) "__setattr__" = some (some (.builtin "object.__setattr__"))) (mk:W.makesIn K CW=true) (kc:W.keepIn K (.ref CW)=true) (nF:W.findIn K (.ref CW) "need_by_name" = some none)
 {tk_I:Tok}(y_I:W.nsIn K mainGlobals "MOST_KINDS" = some (some (.int 16 tk_I)))
 {tk_F:Tok}(y_F:W.nsIn K mainGlobals "MOST_LETTERS" = some (some (.int 8 tk_F)))
 {tk_J:Tok}(y_J:W.nsIn K mainGlobals "NO_BOUND" = some (some (.int 100 tk_J)))
 {ad_d:Addr}{od_d:Option Addr}{sl_d:Array (Option Value)}{its_d:Array Value}{n_d:Nat}(y_d:W.nsIn K mainGlobals "KEPT_WORDS" = some (some (.ref ad_d))) (k_d:K.lookup ad_d=some ⟨.type "tuple",od_d,.seq its_d n_d,sl_d⟩) (zz_d:its_d.size<=sizeLine) (vv_d:Vals (wKEPT_WORDS.map V.str) its_d.toList)
 {ad_SUN:Addr}{od_SUN:Option Addr}{sl_SUN:Array (Option Value)}{its_SUN:Array Value}{n_SUN:Nat}(y_SUN:W.nsIn K mainGlobals "SUN_PLACE" = some (some (.ref ad_SUN))) (k_SUN:K.lookup ad_SUN=some ⟨.type "tuple",od_SUN,.seq its_SUN n_SUN,sl_SUN⟩) (zz_SUN:its_SUN.size<=sizeLine) (vv_SUN:Vals (plV ("sun","in")) its_SUN.toList)
 (zall:W.nsIn K mainGlobals "all" = some none) (zany:W.nsIn K mainGlobals "any" = some none) (zint:W.nsIn K mainGlobals "int" = some none) (zisinstance:W.nsIn K mainGlobals "isinstance" = some none) (zlen:W.nsIn K mainGlobals "len" = some none) (zlist:W.nsIn K mainGlobals "list" = some none) (zrange:W.nsIn K mainGlobals "range" = some none) (zstr:W.nsIn K mainGlobals "str" = some none) (zsum:W.nsIn K mainGlobals "sum" = some none) (ztuple:W.nsIn K mainGlobals "tuple" = some none) :
 ∃ (fd:FuncData) (ad:Addr),(∀ (s:Shared) (v:Value),BindsTo s fd ⟨[v],[]⟩ [("script",v)])/\(∀ b o,K.lookup b=some o->o.cls≠.type "list")/\KTup K ad (plV ("sun","in"))/\∀ base:Heap,K.In base->base.Ns mainGlobals mg->FnOk l.prog w K mg base CX0 12 fa fd ["script"] (z2b K ad):=by
 have e:=hfa.symm.trans (W.mg_of X G a34)
 cases e
 have F1:=J7 (st:=s___init__) l1 c1 k1
 have b1:=F1.binds (ps:=["self"]) λ o_ o_ o_ o_ o_ o_=>q0H λ o_=>rfl
 have F2:=J7 (st:=s_H) l2 c2 k2
 have b2:=F2.binds (ps:=["self","name","need"]) λ o_ o_ o_ o_ o_ o_=>z0V λ o_ o_ o_=>rfl
 have F3:=J7 (st:=s_a) l3 c3 k3
 have b3:=F3.binds (ps:=["self","name"]) λ o_ o_ o_ o_ o_ o_=>V5 λ o_ o_=>rfl
 have F4:=J7 (st:=s_E) l4 c4 k4
 have b4:=F4.binds (ps:=["self","name"]) λ o_ o_ o_ o_ o_ o_=>V5 λ o_ o_=>rfl
 have F5:=J7 (st:=s_j) l5 c5 k5
 have b5:=F5.binds (ps:=["self"]) λ o_ o_ o_ o_ o_ o_=>q0H λ o_=>rfl
 have F6:=J7 (st:=s_g) l6 c6 k6
 have b6:=F6.binds (ps:=["self","name"]) λ o_ o_ o_ o_ o_ o_=>V5 λ o_ o_=>rfl
 have F7:=J7 (st:=s_D) l7 c7 k7
 have b7:=F7.binds (ps:=["text"]) λ o_ o_ o_ o_ o_ o_=>q0H λ o_=>rfl
 have F8:=J7 (st:=s_h) l8 c8 k8
 have b8:=F8.binds (ps:=["need"]) λ o_ o_ o_ o_ o_ o_=>q0H λ o_=>rfl
 have F9:=J7 (st:=s_r) l9 c9 k9
 have b9:=F9.binds (ps:=["need"]) λ o_ o_ o_ o_ o_ o_=>q0H λ o_=>rfl
 have F10:=J7 (st:=J0) l10 c10 k10
 have b10:=F10.binds (ps:=["need"]) λ o_ o_ o_ o_ o_ o_=>q0H λ o_=>rfl
 have F11:=J7 (st:=s_B) l11 c11 k11
 have b11:=F11.binds (ps:=["web"]) λ o_ o_ o_ o_ o_ o_=>q0H λ o_=>rfl
 have F12:=J7 (st:=s_m) l12 c12 k12
 have b12:=F12.binds (ps:=["need"]) λ o_ o_ o_ o_ o_ o_=>q0H λ o_=>rfl
 have F13:=J7 (st:=s_l) l13 c13 k13
 have b13:=F13.binds (ps:=["start","room"]) λ o_ o_ o_ o_ o_ o_=>V5 λ o_ o_=>rfl
 have F14:=J7 (st:=s_q) l14 c14 k14
 have b14:=F14.binds (ps:=["place","further","many","room"]) λ o_ o_ o_ o_ o_ o_=>z0W λ o_ o_ o_ o_=>rfl
 have F15:=J7 (st:=J1) l15 c15 k15
 have b15:=F15.binds (ps:=["web","name"]) λ o_ o_ o_ o_ o_ o_=>V5 λ o_ o_=>rfl
 have F16:=J7 (st:=s_o) l16 c16 k16
 have b16:=F16.binds (ps:=["reached","room"]) λ o_ o_ o_ o_ o_ o_=>V5 λ o_ o_=>rfl
 have F17:=J7 (st:=s_y) l17 c17 k17
 have b17:=F17.binds (ps:=["place","room"]) λ o_ o_ o_ o_ o_ o_=>V5 λ o_ o_=>rfl
 have F18:=J7 (st:=s_C) l18 c18 k18
 have b18:=F18.binds (ps:=["first","room"]) λ o_ o_ o_ o_ o_ o_=>V5 λ o_ o_=>rfl
 have F19:=J7 (st:=s_z) l19 c19 k19
 have b19:=F19.binds (ps:=["start","room"]) λ o_ o_ o_ o_ o_ o_=>V5 λ o_ o_=>rfl
 have F20:=J7 (st:=s_G) l20 c20 k20
 have b20:=F20.binds (ps:=["web","name"]) λ o_ o_ o_ o_ o_ o_=>V5 λ o_ o_=>rfl
 have F21:=J7 (st:=s_b) l21 c21 k21
 have b21:=F21.binds (ps:=["script","k"]) λ o_ o_ o_ o_ o_ o_=>V5 λ o_ o_=>rfl
 have F22:=J7 (st:=s_k) l22 c22 k22
 have b22:=F22.binds (ps:=["seed"]) λ o_ o_ o_ o_ o_ o_=>q0H λ o_=>rfl
 have F23:=J7 (st:=s_w) l23 c23 k23
 have b23:=F23.binds (ps:=["cell","many"]) λ o_ o_ o_ o_ o_ o_=>V5 λ o_ o_=>rfl
 have F24:=J7 (st:=s_n) l24 c24 k24
 have b24:=F24.binds (ps:=["seed","deep","pool","simple"]) λ o_ o_ o_ o_ o_ o_=>z0W λ o_ o_ o_ o_=>rfl
 have F25:=J7 (st:=s_i) l25 c25 k25
 have b25:=F25.binds (ps:=["need"]) λ o_ o_ o_ o_ o_ o_=>q0H λ o_=>rfl
 have F26:=J7 (st:=J2) l26 c26 k26
 have b26:=F26.binds (ps:=["need"]) λ o_ o_ o_ o_ o_ o_=>q0H λ o_=>rfl
 have F27:=J7 (st:=s_c) l27 c27 k27
 have b27:=F27.binds (ps:=["need","alive"]) λ o_ o_ o_ o_ o_ o_=>V5 λ o_ o_=>rfl
 have F28:=J7 (st:=s_v) l28 c28 k28
 have b28:=F28.binds (ps:=["script","simple"]) λ o_ o_ o_ o_ o_ o_=>V5 λ o_ o_=>rfl
 have F29:=J7 (st:=s_u) l29 c29 k29
 have b29:=F29.binds (ps:=["kinds","needs"]) λ o_ o_ o_ o_ o_ o_=>V5 λ o_ o_=>rfl
 have F30:=J7 (st:=s_s) l30 c30 k30
 have b30:=F30.binds (ps:=["kinds","needs","taken"]) λ o_ o_ o_ o_ o_ o_=>z0V λ o_ o_ o_=>rfl
 have F31:=J7 (st:=s_x) l31 c31 k31
 have b31:=F31.binds (ps:=["found","due"]) λ o_ o_ o_ o_ o_ o_=>V5 λ o_ o_=>rfl
 have F32:=J7 (st:=s_A) l32 c32 k32
 have b32:=F32.binds (ps:=["way","name","table"]) λ o_ o_ o_ o_ o_ o_=>z0V λ o_ o_ o_=>rfl
 have F33:=J7 (st:=s_p) l33 c33 k33
 have b33:=F33.binds (ps:=["found","name","kinds","needs"]) λ o_ o_ o_ o_ o_ o_=>z0W λ o_ o_ o_ o_=>rfl
 have F34:=J7 (st:=s_K) l34 c34 k34
 have b34:=F34.binds (ps:=["script"]) λ o_ o_ o_ o_ o_ o_=>q0H λ o_=>rfl
 exact ⟨W.fnOf "law" "law" (defArgs s_K) (defBody s_K) (defScope s_K) .none kV34 dc34 pm34 an34 cd34 ct34,ad_SUN,λ s v=>.of_eq rfl,λ o_ o_ e c=>z2F hkl e c,⟨_,_,_,k_SUN,rfl,rfl,zz_SUN,vv_SUN⟩,λ base o_ o_=>(z6g (cl:=clS CW ad_SUN) (R_init:=F1) (MkW:=⟨mk,a1,i1,kc⟩) (b_init:=b1) (m_Web:=W.mg_of X G aC) (ClW:=⟨pg,hd,po,sa⟩) (NaW:=nF) (R_H:=F2) (M_H:=⟨a2,i2,k2⟩) (B_H:=b2) (R_a:=F3) (M_a:=⟨a3,i3,k3⟩) (B_a:=b3) (R_E:=F4) (M_E:=⟨a4,i4,k4⟩) (B_E:=b4) (R_j:=F5) (M_j:=⟨a5,i5,k5⟩) (B_j:=b5) (R_g:=F6) (M_g:=⟨a6,i6,k6⟩) (B_g:=b6) (D_D:=⟨F7,b7,W.mg_of X G a7⟩) (D_h:=⟨F8,b8,W.mg_of X G a8⟩) (D_r:=⟨F9,b9,W.mg_of X G a9⟩) (D_e:=⟨F10,b10,W.mg_of X G a10⟩) (D_B:=⟨F11,b11,W.mg_of X G a11⟩) (D_m:=⟨F12,b12,W.mg_of X G a12⟩) (D_l:=⟨F13,b13,W.mg_of X G a13⟩) (D_q:=⟨F14,b14,W.mg_of X G a14⟩) (D_t:=⟨F15,b15,W.mg_of X G a15⟩) (D_o:=⟨F16,b16,W.mg_of X G a16⟩) (D_y:=⟨F17,b17,W.mg_of X G a17⟩) (D_C:=⟨F18,b18,W.mg_of X G a18⟩) (D_z:=⟨F19,b19,W.mg_of X G a19⟩) (D_G:=⟨F20,b20,W.mg_of X G a20⟩) (D_b:=⟨F21,b21,W.mg_of X G a21⟩) (D_k:=⟨F22,b22,W.mg_of X G a22⟩) (D_w:=⟨F23,b23,W.mg_of X G a23⟩) (D_n:=⟨F24,b24,W.mg_of X G a24⟩) (D_i:=⟨F25,b25,W.mg_of X G a25⟩) (D_f:=⟨F26,b26,W.mg_of X G a26⟩) (D_c:=⟨F27,b27,W.mg_of X G a27⟩) (D_v:=⟨F28,b28,W.mg_of X G a28⟩) (D_u:=⟨F29,b29,W.mg_of X G a29⟩) (D_s:=⟨F30,b30,W.mg_of X G a30⟩) (D_x:=⟨F31,b31,W.mg_of X G a31⟩) (D_A:=⟨F32,b32,W.mg_of X G a32⟩) (D_p:=⟨F33,b33,W.mg_of X G a33⟩) (D_K:=⟨F34,b34,W.mg_of X G a34⟩) (c_I:=W.mg_of X G y_I) (c_F:=W.mg_of X G y_F) (c_J:=W.mg_of X G y_J) (w_d:=W.mg_of X G y_d) (k_d:=k_d) (c_d:=rfl) (d_d:=rfl) (z_d:=zz_d) (v_d:=vv_d) (m_all:=W.mg_none_of X G zall) (m_any:=W.mg_none_of X G zany) (m_int:=W.mg_none_of X G zint) (m_isinstance:=W.mg_none_of X G zisinstance) (m_len:=W.mg_none_of X G zlen) (m_list:=W.mg_none_of X G zlist) (m_range:=W.mg_none_of X G zrange) (m_str:=W.mg_none_of X G zstr) (m_sum:=W.mg_none_of X G zsum) (m_tuple:=W.mg_none_of X G ztuple) (h98:=rfl) (w_SUN:=W.mg_of X G y_SUN)).imp λ o_ o_ o_ o_ h=>z4s hkl h⟩
theorem walk {l:W.OpenLaw}{q:Program}{loose:List Str}{XP:(Str->Option Value)->Heap->Prop}{YP:World->Heap->Prop}{d:DefRec}{K:Params->W.Frag}(hn:l.most=some 63) (hdf:d.params.defaults=[])
 (hY:∀ (w:World) (h:Heap),YP w h->(K w.params).In h)
 (F:∀ (w:World) (mg:Str->Option Value) (fa:Addr) (h:Heap),(K w.params).In h->h.Ns mainGlobals mg->mg d.name=some (.ref fa) ->
  ∃ (fd:FuncData) (ad:Addr),(∀ (s:Shared) (u:Value),BindsTo s fd ⟨[u],[]⟩ [("script",u)])/\(∀ b o,(K w.params).lookup b=some o->o.cls≠.type "list")/\KTup (K w.params) ad (plV ("sun","in"))/\∀ base:Heap,(K w.params).In base->base.Ns mainGlobals mg->FnOk l.prog w (K w.params) mg base CX0 12 fa fd ["script"] (z2b (K w.params) ad)) :
 W.WalkO q loose XP YP l.row.toRowW d [] (λ f vs=>PySem.call f vs) :=
 L2.z1v (n:=63) (k:=12) (x:="script") (CX:=λ o_=>CX0) (sp:=λ w=>z2b (K w.params)) hn (by decide) hdf ⟨rfl,by decide,by decide⟩ hY F (λ o_ o_ o_ a ns hl hd hS=>⟨a,ns,rfl,hd,hS,hl,λ o_=>rfl⟩) λ o_ o_ o_ o_ o_ z=>z
theorem walkZ {q:Program}{loose:List Str}{XP:(Str->Option Value)->Heap->Prop}{r:PySem.W.RowW}{d:DefRec}{kwd:List (Str×Expr)}{run:Value->List Value->Sem Value}{as:List Addr}{K:Params->PySem.W.Frag}{n t:Nat}
 (e:∀ P,as=(K P).map (·.1)) (W:PySem.W.WalkO q loose XP (PySem.W.InK K) r d kwd run):PySem.W.WalkX q loose XP (PySem.W.X.obsZ as) (PySem.W.X.valZ K n t) r d kwd run :=
 λ w s₀ s₁ mg mb G y a o pm cd doc dV kV h1 h2 h3 h4 h5 h6 args vals as' L h7 h8 h9 h10 h11=>W w s₀ s₁ mg mb G (PySem.W.InK.keeps w _ _ (PySem.W.X.z_facts e y).2.1 L.keeps) a o pm cd doc dV kV h1 h2 h3 h4 h5 h6 args vals as' h7 h8 h9 h10 h11
end Fw
namespace Fw
def T0:=top 0
def T1:=top 1
def T2:=top 2
def T3:=top 3
def T4:=top 4
def T5:=top 5
def T6:=top 6
def T7:=top 7
def T8:=top 8
def T9:=top 9
def T10:=top 10
def T11:=top 11
def T12:=top 12
def T13:=top 13
def T14:=top 14
def T15:=top 15
def T16:=top 16
def T17:=top 17
def T18:=top 18
def T19:=top 19
def T20:=top 20
def T21:=top 21
def T22:=top 22
def T23:=top 23
def T24:=top 24
def T25:=top 25
def T26:=top 26
def T27:=top 27
def T28:=top 28
def T29:=top 29
def T30:=top 30
def T31:=top 31
def T32:=top 32
def T33:=top 33
def T34:=top 34
def T35:=top 35
def T36:=top 36
def T37:=top 37
def T38:=top 38
def T39:=top 39
def T40:=top 40
def T41:=top 41
def T42:=top 42
def T43:=top 43
def T44:=top 44
def pwq:PySem.Program:={ PySem.Challenge.pw_feedweb_k12_whole_cut with main:={ PySem.Challenge.pw_feedweb_k12_whole_cut.main with body:=[T0,T1,T2,T3,T4,T5,T6,T7,T8,T9,T10,T11,T12,T13,T14,T15,T16,T17,T18,T19,T20,T21,T22,T23,T24,T25,T26,T27,T28,T29,T30,T31,T32,T33,T34,T35,T36,T37,T38,T39,T40,T41,T42,T43,T44] } }
def rwq:PySem.W.OpenLaw:={ PySem.Challenge.rw_feedweb_k12_whole_cut with prog:=pwq }
end Fw
open PySem PySem.W PyProof.Rows
set_option maxRecDepth 100000 in
set_option maxHeartbeats 0 in
theorem Fw.holdsq:Fw.rwq.Holds:=by
 w_on;refine PySem.W.holds_law (by kernel_rfl) λ said=>?_;z_head;(case hw=>w_witness2)
 k_fill
 refine Fw.walkZ (λ o_=>rfl) (Fw.walk (l:=Fw.rwq) rfl rfl (λ w h Y=>Y) ?F)
 case F =>
  intro w mg fa h KX G hmg
  refine' Fw.all_mk KX G hmg ?nl ?aC ?a1 ?i1 ?l1 ?c1 ?k1 ?a2 ?i2 ?l2 ?c2 ?k2 ?a3 ?i3 ?l3 ?c3 ?k3 ?a4 ?i4 ?l4 ?c4 ?k4 ?a5 ?i5 ?l5 ?c5 ?k5 ?a6 ?i6 ?l6 ?c6 ?k6 ?a7 ?l7 ?c7 ?k7 ?a8 ?l8 ?c8 ?k8 ?a9 ?l9 ?c9 ?k9 ?a10 ?l10 ?c10 ?k10 ?a11 ?l11 ?c11 ?k11 ?a12 ?l12 ?c12 ?k12 ?a13 ?l13 ?c13 ?k13 ?a14 ?l14 ?c14 ?k14 ?a15 ?l15 ?c15 ?k15 ?a16 ?l16 ?c16 ?k16 ?a17 ?l17 ?c17 ?k17 ?a18 ?l18 ?c18 ?k18 ?a19 ?l19 ?c19 ?k19 ?a20 ?l20 ?c20 ?k20 ?a21 ?l21 ?c21 ?k21 ?a22 ?l22 ?c22 ?k22 ?a23 ?l23 ?c23 ?k23 ?a24 ?l24 ?c24 ?k24 ?a25 ?l25 ?c25 ?k25 ?a26 ?l26 ?c26 ?k26 ?a27 ?l27 ?c27 ?k27 ?a28 ?l28 ?c28 ?k28 ?a29 ?l29 ?c29 ?k29 ?a30 ?l30 ?c30 ?k30 ?a31 ?l31 ?c31 ?k31 ?a32 ?l32 ?c32 ?k32 ?a33 ?l33 ?c33 ?k33 ?a34 ?l34 ?c34 ?k34 ?pg ?hd ?po ?sa ?mk ?kc ?nF ?y_I ?y_F ?y_J ?y_d ?k_d ?zz_d ?vv_d ?y_SUN ?k_SUN ?zz_SUN ?vv_SUN ?zall ?zany ?zint ?zisinstance ?zlen ?zlist ?zrange ?zstr ?zsum ?ztuple
  (case nl=>first | k_is | rfl | decide +kernel)
  (case aC=>k_is)
  (case a1=>k_is)
  (case i1=>k_is)
  (case l1=>k_is)
  (case c1=>k_is)
  (case k1=>k_is)
  (case a2=>k_is)
  (case i2=>k_is)
  (case l2=>k_is)
  (case c2=>k_is)
  (case k2=>k_is)
  (case a3=>k_is)
  (case i3=>k_is)
  (case l3=>k_is)
  (case c3=>k_is)
  (case k3=>k_is)
  (case a4=>k_is)
  (case i4=>k_is)
  (case l4=>k_is)
  (case c4=>k_is)
  (case k4=>k_is)
  (case a5=>k_is)
  (case i5=>k_is)
  (case l5=>k_is)
  (case c5=>k_is)
  (case k5=>k_is)
  (case a6=>k_is)
  (case i6=>k_is)
  (case l6=>k_is)
  (case c6=>k_is)
  (case k6=>k_is)
  (case a7=>k_is)
  (case l7=>k_is)
  (case c7=>k_is)
  (case k7=>k_is)
  (case a8=>k_is)
  (case l8=>k_is)
  (case c8=>k_is)
  (case k8=>k_is)
  (case a9=>k_is)
  (case l9=>k_is)
  (case c9=>k_is)
  (case k9=>k_is)
  (case a10=>k_is)
  (case l10=>k_is)
  (case c10=>k_is)
  (case k10=>k_is)
  (case a11=>k_is)
  (case l11=>k_is)
  (case c11=>k_is)
  (case k11=>k_is)
  (case a12=>k_is)
  (case l12=>k_is)
  (case c12=>k_is)
  (case k12=>k_is)
  (case a13=>k_is)
  (case l13=>k_is)
  (case c13=>k_is)
  (case k13=>k_is)
  (case a14=>k_is)
  (case l14=>k_is)
  (case c14=>k_is)
  (case k14=>k_is)
  (case a15=>k_is)
  (case l15=>k_is)
  (case c15=>k_is)
  (case k15=>k_is)
  (case a16=>k_is)
  (case l16=>k_is)
  (case c16=>k_is)
  (case k16=>k_is)
  (case a17=>k_is)
  (case l17=>k_is)
  (case c17=>k_is)
  (case k17=>k_is)
  (case a18=>k_is)
  (case l18=>k_is)
  (case c18=>k_is)
  (case k18=>k_is)
  (case a19=>k_is)
  (case l19=>k_is)
  (case c19=>k_is)
  (case k19=>k_is)
  (case a20=>k_is)
  (case l20=>k_is)
  (case c20=>k_is)
  (case k20=>k_is)
  (case a21=>k_is)
  (case l21=>k_is)
  (case c21=>k_is)
  (case k21=>k_is)
  (case a22=>k_is)
  (case l22=>k_is)
  (case c22=>k_is)
  (case k22=>k_is)
  (case a23=>k_is)
  (case l23=>k_is)
  (case c23=>k_is)
  (case k23=>k_is)
  (case a24=>k_is)
  (case l24=>k_is)
  (case c24=>k_is)
  (case k24=>k_is)
  (case a25=>k_is)
  (case l25=>k_is)
  (case c25=>k_is)
  (case k25=>k_is)
  (case a26=>k_is)
  (case l26=>k_is)
  (case c26=>k_is)
  (case k26=>k_is)
  (case a27=>k_is)
  (case l27=>k_is)
  (case c27=>k_is)
  (case k27=>k_is)
  (case a28=>k_is)
  (case l28=>k_is)
  (case c28=>k_is)
  (case k28=>k_is)
  (case a29=>k_is)
  (case l29=>k_is)
  (case c29=>k_is)
  (case k29=>k_is)
  (case a30=>k_is)
  (case l30=>k_is)
  (case c30=>k_is)
  (case k30=>k_is)
  (case a31=>k_is)
  (case l31=>k_is)
  (case c31=>k_is)
  (case k31=>k_is)
  (case a32=>k_is)
  (case l32=>k_is)
  (case c32=>k_is)
  (case k32=>k_is)
  (case a33=>k_is)
  (case l33=>k_is)
  (case c33=>k_is)
  (case k33=>k_is)
  (case a34=>k_is)
  (case l34=>k_is)
  (case c34=>k_is)
  (case k34=>k_is)
  (case pg=>k_is)
  (case hd=>k_is)
  (case po=>k_is)
  (case sa=>k_is)
  (case mk=>k_is)
  (case kc=>k_is)
  (case nF=>k_is)
  (case y_I=>k_is)
  (case y_F=>k_is)
  (case y_J=>k_is)
  (case y_d=>k_is)
  (case k_d=>k_is)
  (case zz_d=>decide)
  (case vv_d=>exact (.cons ⟨_,rfl⟩ (.cons ⟨_,rfl⟩ (.cons ⟨_,rfl⟩ (.cons ⟨_,rfl⟩ .nil)))))
  (case y_SUN=>k_is)
  (case k_SUN=>k_is)
  (case zz_SUN=>decide)
  (case vv_SUN=>exact (.cons ⟨_,rfl⟩ (.cons ⟨_,rfl⟩ .nil)))
  (case zall=>k_is)
  (case zany=>k_is)
  (case zint=>k_is)
  (case zisinstance=>k_is)
  (case zlen=>k_is)
  (case zlist=>k_is)
  (case zrange=>k_is)
  (case zstr=>k_is)
  (case zsum=>k_is)
  (case ztuple=>k_is)
theorem PySem.Challenge.cw_feedweb_k12_whole_cut_holds : PySem.Challenge.rw_feedweb_k12_whole_cut.Holds :=
 Fw.holdsq
