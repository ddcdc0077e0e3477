import PyProof.Rows.All
import Wide.All
import OpenK.AllK
import Wide.FinOn
import Lean
import PyProof.EqAt
import PyProof.EqKinds
import PyProof.TupleCall
import PySem.Challenge.RW_paidspan_k91_whole_any_order_of_entering
abbrev Ja:=@List.length_map
abbrev Jb:=@List.getElem?_eq_getElem
abbrev Jc:=@List.getElem?_eq_some_iff
abbrev Jd:=@List.map_append
abbrev Je:=@Nat.le_refl
abbrev Jf:=@if_neg
abbrev Jg:=@if_pos
abbrev Jh:=@List.getElem?_map
abbrev Ji:=@List.mem_of_getElem?
abbrev Jj:=@List.length_append
abbrev Jk:=@Option.map_eq_some_iff
abbrev Jl:=@List.mem_cons_of_mem
abbrev Jm:=@List.mem_singleton
abbrev Jn:=@List.size_toArray
abbrev Jo:=@List.getD_eq_getElem?_getD
abbrev Jp:=@List.length_cons
abbrev Jq:=@List.mem_cons_self
abbrev Jr:=@List.mem_append
abbrev Js:=@Bool.false_eq_true
abbrev Jt:=@List.append_nil
abbrev Ju:=@Bool.false_ne_true
abbrev Jv:=@Nat.zero_le
abbrev Jw:=@List.mem_map
abbrev Jx:=@Array.length_toList
abbrev Jy:=@Nat.lt_of_lt_of_le
abbrev Jz:=@Int.le_refl
abbrev JA:=@List.map_cons
abbrev JB:=@List.length_take
abbrev JC:=@List.take_length
abbrev JD:=@List.mem_cons
abbrev JE:=@Nat.le_trans
abbrev JF:=@Int.toNat_natCast
abbrev JG:=@Array.getElem?_toList
abbrev JH:=@List.take_add_one
abbrev JI:=@List.length_range
abbrev JJ:=@Nat.ne_of_lt
abbrev JK:=@Int.emod_lt_of_pos
abbrev JL:=@List.append_assoc
abbrev JM:=@Int.emod_nonneg
abbrev JN:=@decide_eq_true
abbrev JO:=@decide_eq_false
abbrev JP:=@List.range_succ
abbrev JQ:=@List.map_nil
abbrev JR:=@Int.zero_add
abbrev JS:=@List.filter_append
abbrev JT:=@List.filter_cons
abbrev JU:=@Option.some.inj
abbrev JV:=@PySem.wpAny_bind
abbrev JW:=@PySem.wpAny_pure
abbrev JX:=@PySem.Heap.get?_push_of_some
abbrev JY:=@PySem.Heap.lt_size
abbrev JZ:=@PySem.Heap.get?_push_size
abbrev Fg:=PySem.W.Frag
set_option compiler.extract_closed false
local macro_rules | `('o') => `(by omega)
local macro_rules | `('d') => `(by decide)
local macro_rules | `(tactic| omega) => `(tactic| lia)
set_option Elab.async false
set_option linter.all false
set_option maxRecDepth 100000
namespace L2
open PySem PySem.Spec PyProof.Rows
variable{us:List Value}{x:Str}{u:Value}{H:Hp}{a b f:Addr}{o:HO}{P:Program}{w:World}{h base:Heap}{t' i j n:Nat}{ch fp:List Addr}{e tg:Expr}{M:Model}{A:Around}{E:Value->Shared->Prop}{v:V}{Q:Unit->Shared->Prop}{t te:TE}{s:Shared}{pos:Pos}{pins:List (Addr×Obj)}{σ:St}{op:CmpOp}{K:Fg}{g:TG}{body:List Stmt}{tb:TS}{r:R2}{mg:Str->Option Value}{CX:CXT}{fd:FuncData}{ps:List Str}{kindOf:Str->Option NameKind}
abbrev Key:=Sum Int Str
def vK:Key->Value->Bool
 | .inl k,v=>Value.isInt k v
 | .inr x,v=>Value.isStrOf x v
def zmz(w:World):Key->Int
 | .inl k=>hashInt k
 | .inr x=>hashStr w x
theorem wu: ∀{k:Key} {v:Value},vK k v=true->(∃i t,k=Sum.inl i/\v=Value.int i t)\/(∃x t,k=Sum.inr x/\v=Value.str x t)
 | .inl i,v,h=>by
  obtain⟨t,e⟩:=Value.isInt_shape (k:=i) (v:=v) h;exact .inl ⟨i,t,rfl,e⟩
 | .inr x,v,h=>by
  obtain⟨t,e⟩:=Value.isStrOf_shape (x:=x) (v:=v) h;exact .inr ⟨x,t,rfl,e⟩
theorem zik(i:Int)(t:Tok):vK (.inl i) (.int i t)=true:=by simp [vK,Value.isInt]
theorem zil(x:Str)(t:Tok):vK (.inr x) (.str x t)=true:=by simp [vK,Value.isStrOf]
theorem zk8(a b:Int):decide ((Sum.inl a:Key)=Sum.inl b)=(a==b):=by
 by_cases e:a=b
 ·subst e;simp
 ·have h: ¬(Sum.inl a:Key)=Sum.inl b:=λq=>e (Sum.inl.inj q);rw[JO h];exact(beq_eq_false_iff_ne.mpr e).symm
theorem zk9(a b:Str):decide ((Sum.inr a:Key)=Sum.inr b)=decide (a=b):=by
 by_cases e:a=b
 ·subst e;simp
 ·have h: ¬(Sum.inr a:Key)=Sum.inr b:=λq=>e (Sum.inr.inj q);rw[JO h,JO e]
theorem zla(a:Int)(b:Str):decide ((Sum.inl a:Key)=Sum.inr b)=false:=JO (λq=>nomatch q)
theorem zlb(a:Str)(b:Int):decide ((Sum.inr a:Key)=Sum.inl b)=false:=JO (λq=>nomatch q)
def qL(prog:Program)(w:World):PySem.KeyKind prog w Key where
 is:=vK
 hash:=zmz w
 inj:=λv a b ha hb=>by
  rcases wu ha with⟨i,t,rfl,rfl⟩|⟨x,t,rfl,rfl⟩
  ·rcases wu hb with⟨j,u,rfl,e⟩|⟨y,u,rfl,e⟩
   ·injection e with e1 _;rw[e1]
   ·exact nomatch e
  ·rcases wu hb with⟨j,u,rfl,e⟩|⟨y,u,rfl,e⟩
   ·exact nomatch e
   ·injection e with e1 _;rw[e1]
 byValue:=λk v h=>by
  rcases wu h with⟨i,t,rfl,rfl⟩|⟨x,t,rfl,rfl⟩<;>rfl
 pyHash:=λhv h=>by
  rcases wu hv with⟨i,t,rfl,rfl⟩|⟨x,t,rfl,rfl⟩
  ·exact wpAny_pyHash_int h
  ·exact wpAny_pyHash_str h
 eqBool:=λhu hv h=>by
  rcases wu hu with⟨i,t,rfl,rfl⟩|⟨x,t,rfl,rfl⟩
  ·rcases wu hv with⟨j,u,rfl,rfl⟩|⟨y,u,rfl,rfl⟩
   ·rw[zk8] at h;exact wpAny_eqBool_int h
   ·rw[zla] at h;exact SeqAt.EqAt.int_str i t y u _ _ _ _ h
  ·rcases wu hv with⟨j,u,rfl,rfl⟩|⟨y,u,rfl,rfl⟩
   ·rw[zlb] at h;exact SeqAt.EqAt.str_int x t j u _ _ _ _ h
   ·rw[zk9] at h;exact wpAny_eqBool_str h
 «strs» :=λk x t v h=>by
  rcases wu h with⟨i,u,rfl,e⟩|⟨y,u,rfl,e⟩
  ·exact nomatch e
  ·injection e with e1 _
   subst e1
   cases v<;>rfl
theorem zgz(prog:Program)(w:World)(i:Int)(t:Tok):(qL prog w).is (.inl i) (.int i t)=true:=zik i t
theorem zgA(prog:Program)(w:World)(x:Str)(t:Tok):(qL prog w).is (.inr x) (.str x t)=true:=zil x t
inductive V where
 |non|bl (b:Bool)|int (i:Int)|str (x:Str)|byt (b:Array UInt8)|flt (b:UInt64)|ref (a:Addr)|ty (n:String)
 deriving DecidableEq
def zF:V->Value->Prop
 | .non,u=>u=Value.none
 | .bl b,u=>u=Value.bool b
 | .int i,u=> ∃t,u=Value.int i t
 | .str x,u=> ∃t,u=Value.str x t
 | .byt b,u=> ∃t,u=Value.bytes b t
 | .flt b,u=> ∃t,u=Value.float b t
 | .ref a,u=>u=Value.ref a
 | .ty n,u=>u=Value.type n
abbrev zB:List V->List Value->Prop:=Paired zF
theorem zB.length{xs:List V}{us:List Value}(r:zB xs us):xs.length=us.length:=Paired.length r
theorem zB.get: ∀{xs:List V} {us:List Value} {i:Nat} {x:V},zB xs us->xs[i]? =some x-> ∃u,us[i]? =some u/\zF x u
 |_,_,_,_, .nil,e=>by simp at e
 |_,_,0,_, .cons r _,e=>by simp at e;subst e;exact⟨_,rfl,r⟩
 |_,_,i+1,x, .cons _ t,e=>by
  obtain⟨u,h1,h2⟩:=zB.get (i:=i) (x:=x) t (by simpa using e);exact⟨u,by simpa using h1,h2⟩
theorem zB.set{x:V}{u:Value}(r:zF x u): ∀{xs:List V} {us:List Value} (i:Nat),zB xs us->zB (xs.set i x) (us.set i u)
 |_,_,_, .nil=> .nil
 |_,_,0, .cons _ t=> .cons r t
 |_,_,i+1, .cons q t=> .cons q (zB.set r i t)
theorem zB.append: ∀{xs ys:List V} {us ws:List Value},zB xs us->zB ys ws->zB (xs++ys) (us++ws)
 |_,_,_,_, .nil,s=>s
 |_,_,_,_, .cons r t,s=> .cons r (zB.append t s)
theorem zB.take: ∀{xs:List V} {us:List Value} (n:Nat),zB xs us->zB (xs.take n) (us.take n)
 |_,_,0,_=> .nil
 |_,_,_+1, .nil=> .nil
 |_,_,n+1, .cons r t=> .cons r (zB.take n t)
theorem zB.drop: ∀{xs:List V} {us:List Value} (n:Nat),zB xs us->zB (xs.drop n) (us.drop n)
 |_,_,0,r=>r
 |_,_,_+1, .nil=> .nil
 |_,_,n+1, .cons _ t=>zB.drop n t
def xW:Option V->Option Value->Prop
 |some v,some u=>zF v u
 |none,none=>True
 |_,_=>False
def KV{κ:Type}:List (κ×V)->List (κ×Value)->Prop:=Paired λ(p:κ×V) (q:κ×Value)=>p.1=q.1/\zF p.2 q.2
def kV:Key->V
 | .inl i=> .int i
 | .inr x=> .str x
inductive HO where
 |lst (xs:List V)
 |tup (xs:List V)
 |dK (kvs:List (Key×V))|dT (kvs:List (List Key×V))
 |set (S:Int->Bool) (n:Nat)
 |ins (C dx:Addr) (fs:List (Str×V))
 |own (x:Addr)
 |xd (fs:List (Str×V))
 |met (f x:Addr)
 |rng (lo hi:Int)
 |frz (o:Obj) (u:HO)
 |tbl (ps:Array Value)
 |ext (φ:Heap->Prop)
abbrev Hp:=Addr->Option HO
def upd(H:Hp)(a:Addr)(o:HO):Hp:=λb=>if b=a then some o else H b
theorem yg:upd H a o a=some o:=by unfold upd;rw[Jg rfl]
theorem zI(h:b≠a):upd H a o b=H b:=by unfold upd;rw[Jf h]
theorem zl5{u:HO}(h:H a=some o)(h':H b=some u)(d:o≠u):a≠b:=by
 intro e;subst e;rw[h] at h';exact d (JU h')
theorem xP(h:H a=some o)(h':H b=none):a≠b:=by
 intro e;subst e;rw[h] at h';cases h'
section
variable (P:Program) (w:World)
def ye(H:Hp)(h:Heap)(a:Addr):HO->Prop
 | .lst xs=>xs.length<=sizeLine/\ ∃(its:List Value) (n:Nat),zB xs its/\h.get? a=some {cls:= .type "list",data:= .seq its.toArray n}
 | .tup xs=>xs.length<=sizeLine/\ ∃its:List Value,zB xs its/\IsTup h a its.toArray
 | .dK kvs=>kvs.length<=sizeLine/\(a==sysModules)=false/\ ∃vs,KV kvs vs/\h.DictOf (qL P w) a vs
 | .dT kvs=>kvs.length<=sizeLine/\(a==sysModules)=false/\ ∃xs:List (List Key×Addr×Value),
   Paired (λ(p:List Key×V) (q:List Key×Addr×Value)=>p.1=q.1/\H q.2.1=some (.tup (p.1.map kV))/\zF p.2 q.2.2) kvs xs/\
   ∃o es ep,h.get? a=some o/\o.ExactDict/\o.data= .dict es ep/\es.toList=xs.map (entryOfKey (tupleKind (qL P w)))/\(xs.map (·.1)).Nodup
 | .set S n=>h.SetOf (intKind P w) a S n
 | .ins C dx fs=>H dx=some (.own a)/\fs.length<=1000/\dx≠a/\h.get? a=some (PySem.W.instObj C dx)/\
   ∃mA,h.Ns1 dx mA/\(∀f,xW (fs.lookup f) (mA f))/\PySem.Within mA (fs.map (·.1))
 | .own _=> ∃o,h.get? a=some o
 | .xd fs=> ∃mA,h.Ns1 a mA/\ ∀f,xW (fs.lookup f) (mA f)
 | .rng lo hi=> ∃t u v,h.get? a=some {cls:= .type "range",data:= .fields #[.int lo t, .int hi u, .int 1 v]}
 | .frz o u=>h.get? a=some o/\ye H h a u
 | .tbl ps=>h.get? a=some {cls:= .none,data:= .fields ps}
 | .met f x=>h.get? a=some (PySem.W.methodObj (.ref f) (.ref x))
 | .ext φ=>φ h/\(∃o,h.get? a=some o)/\ ∀h1 h2:Heap,φ h1->(∀o,h1.get? a=some o->h2.get? a=some o)->φ h2
def HOk(H:Hp)(h:Heap):Prop:= ∀a o,H a=some o->ye P w H h a o
end
section
variable {P:Program} {w:World} {H H':Hp} {h h':Heap} {a:Addr} {o:HO}
theorem ye.lt(x:ye P w H h a o):a<h.objs.size:=by
 cases o with
 |lst xs=>obtain⟨_,_,_,_,e⟩:=x;exact JY e
 |tup xs=>obtain⟨_,_,_,p⟩:=x;exact p.lt
 |dK kvs=>obtain⟨_,_,_,_,o,_,_,e,_⟩:=x;exact JY e
 |dT kvs=>obtain⟨_,_,_,_,o,_,_,e,_⟩:=x;exact JY e
 |set S n=>obtain⟨o,_,_,_,e,_⟩:=x;exact JY e
 |ins C dx fs=>obtain⟨_,_,_,e,_⟩:=x;exact JY e
 |own y=>obtain⟨_,e⟩:=x;exact JY e
 |xd fs=>obtain⟨_,⟨_,_,_,e,_⟩,_⟩:=x;exact JY e
 |rng lo hi=>obtain⟨_,_,_,e⟩:=x;exact JY e
 |frz ob u=>obtain⟨e,_⟩:=x;exact JY e
 |tbl ps=>exact JY (show h.get? a=some _ from x)
 |met f y=>exact JY (show h.get? a=some _ from x)
 |ext φ=>obtain⟨_,⟨_,e⟩,_⟩:=x;exact JY e
theorem Paired.mapP{α β:Type}{F G:α->β->Prop}: ∀{l₁:List α} {l₂:List β},Paired F l₁ l₂->(∀a b,F a b->G a b)->Paired G l₁ l₂
 |_,_, .nil,_=> .nil
 |_,_, .cons r t,f=> .cons (f _ _ r) (Paired.mapP t f)
theorem ye.stay(x:ye P w H h a o)(k: ∀b u,(b=a\/H b=some (.own a))->h.get? b=some u->h'.get? b=some u)
  (ho: ∀b,H b=some (.own a)->H' b=some (.own a)) (ht: ∀b xs,H b=some (.tup xs)->H' b=some (.tup xs)):ye P w H' h' a o:=by
 induction o with
 |lst xs=>obtain⟨z,its,n,r,e⟩:=x;exact⟨z,its,n,r,k _ _ (.inl rfl) e⟩
 |tup xs=>obtain⟨z,its,r,ob,e,c⟩:=x;exact⟨z,its,r,ob,k _ _ (.inl rfl) e,c⟩
 |dK kvs=>obtain⟨z,y,vs,r,ob,es,ep,e,c⟩:=x;exact⟨z,y,vs,r,ob,es,ep,k _ _ (.inl rfl) e,c⟩
 |dT kvs=>
  obtain⟨z,y,xs,r,ob,es,ep,e,c⟩:=x;exact⟨z,y,xs,Paired.mapP r λp q z=>⟨z.1,ht _ _ z.2.1,z.2.2⟩,ob,es,ep,k _ _ (.inl rfl) e,c⟩
 |set S n=>obtain⟨ob,es,ep,t,e,c⟩:=x;exact⟨ob,es,ep,t,k _ _ (.inl rfl) e,c⟩
 |ins C dx fs=>
  obtain⟨d,z,ne,e,mA,⟨od,es,ep,e2,c⟩,r⟩:=x;exact⟨ho _ d,z,ne,k _ _ (.inl rfl) e,mA,⟨od,es,ep,k _ _ (.inr d) e2,c⟩,r⟩
 |own y=>obtain⟨ob,e⟩:=x;exact⟨ob,k _ _ (.inl rfl) e⟩
 |xd fs=>obtain⟨mA,⟨od,es,ep,e,c⟩,r⟩:=x;exact⟨mA,⟨od,es,ep,k _ _ (.inl rfl) e,c⟩,r⟩
 |rng lo hi=>obtain⟨t,u,v,e⟩:=x;exact⟨t,u,v,k _ _ (.inl rfl) e⟩
 |frz ob u ih=>obtain⟨e,q⟩:=x;exact⟨k _ _ (.inl rfl) e,ih q⟩
 |tbl ps=>
  have e:h.get? a=some {cls:= .none,data:= .fields ps}:=x;show h'.get? a=some {cls:= .none,data:= .fields ps};exact k a _ (.inl rfl) e
 |met f y=>
  have e:h.get? a=some (PySem.W.methodObj (.ref f) (.ref y)):=x;show h'.get? a=some (PySem.W.methodObj (.ref f) (.ref y));exact k a _ (.inl rfl) e
 |ext φ=>obtain⟨p,⟨o,e⟩,st⟩:=x;exact⟨st _ _ p λo q=>k _ _ (.inl rfl) q,⟨o,k _ _ (.inl rfl) e⟩,st⟩
theorem HOk.lt(x:HOk P w H h)(e:H a=some o):a<h.objs.size:=(x a o e).lt
theorem HOk.fresh(x:HOk P w H h)(e:h.objs.size<=a):H a=none:=by
 cases q:H a with
 |none=>rfl
 |some u=>exact absurd (Jy (x.lt q) e) (Nat.lt_irrefl _)
theorem HOk.kept(x:HOk P w H h)(k: ∀b u,h.get? b=some u->h'.get? b=some u):HOk P w H h':=λa o e=>
 (x a o e).stay (λb u _ q=>k b u q) (λ_ q=>q) λ_ _ q=>q
theorem HOk.laid(x:HOk P w H h)(k: ∀b u,h.get? b=some u->h'.get? b=some u)(hp:h.objs.size<=a)(new:ye P w (upd H a o) h' a o):HOk P w (upd H a o) h':=λb u e=>by
 have hn:=x.fresh hp;by_cases hb:b=a
 ·subst hb;rw[yg] at e;cases e;exact new
 ·rw[zI hb] at e;exact(x b u e).stay (λc v _ q=>k c v q) (λc q=>by rw[zI (xP q hn)];exact q) λc xs q=>by rw[zI (xP q hn)];exact q
end
def Rd(H:Hp)(a:Addr)(u:HO):Prop:=H a=some u\/ ∃o,H a=some (.frz o u)
theorem Rd.of{u:HO}(h:H a=some u):Rd H a u:= .inl h
theorem Rd.ok{u:HO}(r:Rd H a u)(x:HOk P w H h):ye P w H h a u:=by
 rcases r with r|⟨o,r⟩
 ·exact x a u r
 ·obtain⟨_,q⟩:=x a _ r;exact q
def Mut:Option HO->Prop
 |some (.lst _)=>True
 |some (.dK _)=>True
 |some (.dT _)=>True
 |some (.set _ _)=>True
 |some (.ins _ _ _)=>True
 |some (.ext _)=>True
 |_=>False
section
variable {P:Program} {w:World} {H:Hp} {h h':Heap} {x e:Addr} {o':HO}
theorem HOk.write(ok:HOk P w H h)(mu:Mut (H x))(he:e=x\/H e=some (.own x))(k: ∀b u,b≠e->h.get? b=some u->h'.get? b=some u)(heo: ∃u,h'.get? e=some u)
  (new:ye P w (upd H x o') h' x o'):HOk P w (upd H x o') h':=λb u q=>by
 have nown: ∀c y,H c=some (.own y)->c≠x:=λc y r z=>by subst z;rw[r] at mu;exact mu
 have ntup: ∀c xs,H c=some (.tup xs)->c≠x:=λc xs r z=>by subst z;rw[r] at mu;exact mu
 by_cases hb:b=x
 ·subst hb;rw[yg] at q;cases q;exact new
 ·rw[zI hb] at q;by_cases hbe:b=e
  ·have q':H b=some (.own x):=by
    rcases he with z|z
    ·exact absurd (hbe.trans z) hb
    ·rw[hbe];exact z
   rw[q] at q';cases q';obtain⟨v,hv⟩:=heo;exact⟨v,by rw[hbe];exact hv⟩
  ·refine(ok b u q).stay (λc v hc r=>k c v ?_ r) (λc r=>by rw[zI (nown c b r)];exact r) λc xs r=>by rw[zI (ntup c xs r)];exact r
   rcases hc with rfl|hc
   ·exact hbe
   ·rintro rfl;rcases he with z|z
    ·exact nown c b hc z
    ·rw[hc] at z;cases z;exact hb rfl
end
structure Un (fs ex:List Addr) (H H':Hp) (h h':Heap):Prop where
 keep: ∀b o,h.get? b=some o->H b=none->b∉fs->b∉ex->h'.get? b=some o
 slot: ∀b o,h.get? b=some o->H b=none->b∈fs->b∉ex-> ∃sl,h'.get? b=some {o with slots:=sl}
 free: ∀b o,h.get? b=some o->H b=none->b∉ex->H' b=none
 there: ∀b o,h.get? b=some o->b∉ex-> ∃o',h'.get? b=some o'
 tups: ∀b xs,H b=some (.tup xs)->H' b=some (.tup xs)
 frzs: ∀b o u,H b=some (.frz o u)->H' b=some (.frz o u)
 tbls: ∀b ps,H b=some (.tbl ps)-> ∃more,H' b=some (.tbl (ps++more))
section
variable {fs fs' ex ex':List Addr} {H H1 H2:Hp} {h h1 h2 h':Heap} {a x e:Addr} {o:HO}
theorem Un.any(u:Un fs ex H H1 h h1){ob:Obj}(q:h.get? b=some ob)(n:H b=none)(hx:b∉ex): ∃sl,h1.get? b=some {ob with slots:=sl}:=by
 by_cases hb:b∈fs
 ·exact u.slot b ob q n hb hx
 ·exact⟨ob.slots,u.keep b ob q n hb hx⟩
theorem Un.kept(k: ∀b u,h.get? b=some u->h'.get? b=some u):Un fs ex H H h h':=
 ⟨λb ob q _ _ _=>k b ob q,λb ob q _ _ _=>⟨ob.slots,k b ob q⟩,λ_ _ _ n _=>n,λb ob q _=>⟨ob,k b ob q⟩,λ_ _ q=>q,λ_ _ _ q=>q,λ_ ps q=>⟨#[],by rw[q];simp⟩⟩
theorem Un.refl:Un fs ex H H h h:=Un.kept λ_ _ q=>q
theorem Un.laid(k: ∀b u,h.get? b=some u->h'.get? b=some u)(hp:h.objs.size<=a)(hn:H a=none):Un fs ex H (upd H a o) h h' where
 keep:=λb u q _ _ _=>k b u q
 slot:=λb u q _ _ _=>⟨u.slots,k b u q⟩
 free:=λb u q n _=>by rw[zI (JJ (Jy (JY q) hp))];exact n
 there:=λb u q _=>⟨u,k b u q⟩
 tups:=λb xs q=>by rw[zI (xP q hn)];exact q
 frzs:=λb u xs q=>by rw[zI (xP q hn)];exact q
 tbls:=λb ps q=>⟨#[],by rw[zI (xP q hn),q];simp⟩
theorem Un.write(mu:Mut (H x))(he:e=x\/H e=some (.own x))(k: ∀b u,b≠e->h.get? b=some u->h'.get? b=some u)(heo: ∃u,h'.get? e=some u):Un fs ex H (upd H x o) h h':=by
 have hx: ∀b,H b=none->b≠x:=λb n z=>by subst z;rw[n] at mu;exact mu
 have hb: ∀b,H b=none->b≠e:=λb n z=>by
  subst z;rcases he with r|r
  ·exact hx b n r
  ·rw[n] at r;cases r
 have hm: ∀b u,H b=some u-> ¬Mut (some u)->b≠x:=λb u q nm z=>by subst z;rw[q] at mu;exact nm mu
 refine⟨λb u q n _ _=>k b u (hb b n) q,λb u q n _ _=>⟨u.slots,k b u (hb b n) q⟩,λb u q n _=>by rw[zI (hx b n)];exact n,λb u q _=> ?_,
  λb xs q=>by rw[zI (hm b _ q λz=>z)];exact q,λb u xs q=>by rw[zI (hm b _ q λz=>z)];exact q,λb ps q=>⟨#[],by rw[zI (hm b _ q λz=>z),q];simp⟩⟩
 by_cases hbe:b=e
 ·subst hbe;exact heo
 ·exact⟨u,k b u hbe q⟩
end
def trk(h:Heap)(H:Hp):List Addr:=(List.range h.objs.size).filter λa=>(H a).isSome
def wv(h:Heap)(H:Hp):Heap:=PySem.W.hideAll h (trk h H)
theorem zim(h:Heap)(H:Hp):(wv h H).objs.size=h.objs.size:=PySem.W.hideAll_size _ _
theorem ziU{o:Obj}(e:h.get? b=some o)(n:H b=none):(wv h H).get? b=some o:=
 PySem.W.hideAll_get _ e λhm=>by
  have q:(H b).isSome=true:=(List.mem_filter.mp hm).2;rw[n] at q;simp at q
theorem zka{o:Obj}(e:(wv h H).get? b=some o):h.get? b=some o/\H b=none:=by
 have e':h.get? b=some o:=PySem.W.of_hideAll (trk h H) e;refine⟨e',?_⟩;cases q:H b with
 |none=>rfl
 |some x=>
  have hm:b∈trk h H:=List.mem_filter.mpr ⟨List.mem_range.mpr (JY e'),by simp [q]⟩;have z:(wv h H).get? b=none:=PySem.W.hideAll_none (trk h H) hm;rw[z] at e;cases e
def zkb(g h:Heap)(L:Addr):List (Addr×Obj):=(List.range h.objs.size).filterMap λa=>if a=L\/(g.get? a).isSome=true then none else (h.get? a).map λo=>(a,o)
def rest(g h:Heap)(L d:Addr):List (Addr×Obj):=(zkb g h L).filter λp=>decide (p.1≠d)
structure Mod (K:Fg) (mg:Str->Option Value) (base:Heap):Prop where
 kin:K.In base
 glob:base.Ns mainGlobals mg
 blt: ∃mb,base.Ns builtinsNs mb/\ ∀x:Str,x≠"__name__"->mb x=bootBuiltins x
 nolimit:base.NoLimit
set_option genInjectivity false in
set_option genSizeOf false in
structure Cx where
 prog:Program
 w:World
 K:Fg
 mg:Str->Option Value
 base:Heap
 A:Around
 N:List Str
 s₀:Shared
 H₀:Hp
 env:Env
 outer:List Env
 stack:List Env
 ex:List Addr
 fn:Str->Bool
 calm:Bool
 pn:List (Addr×Obj)
 xe:Value->Shared->Prop
def frs(l:List Env):List Addr:=l.filterMap (·.frame)
abbrev Cx.fs(X:Cx):List Addr:=frs X.outer
def Vis(sc:Scope)(x:Str):Prop:=sc.names.lookup x=some .local\/sc.names.lookup x=some .cell\/sc.names.lookup x=some .free
def Loc(sc:Scope)(x:Str):Prop:=sc.names.lookup x=some .local\/sc.names.lookup x=some .cell
def zmA(env:Env)(h:Heap)(m:Str->Option Value)(x:Str)(u:Value):Prop:=
 (env.kindOf x=some .local/\m x=some u)\/((env.kindOf x=some .cell\/env.kindOf x=some .free)/\ ∃c,env.cells.lookup x=some c/\h.IsCell c (some u))
structure Cx.Ok (X:Cx):Prop where
 mod:Mod X.K X.mg X.base
 kind:X.env.scope.kind= .function
 glob:X.env.globals=mainGlobals
 blt:X.env.builtins=builtinsNs
 above:X.s₀.heap.objs.size<=X.env.locals
 inj: ∀x y c,X.env.cells.lookup x=some c->X.env.cells.lookup y=some c->x=y
 has: ∀x,(X.env.kindOf x=some .cell\/X.env.kindOf x=some .free)-> ∃c,X.env.cells.lookup x=some c
 cab: ∀x c,X.fn x=true->X.env.cells.lookup x=some c->X.s₀.heap.objs.size<=c
 hd:X.calm=true->X.A.handled=none
 frames:X.A.frames=some X.stack
 stk:X.stack=X.outer\/(X.stack=X.env::X.outer/\X.env.frame=some X.env.locals)
 exf: ∀b∈X.ex,b≠X.env.locals/\ ∀x c,X.env.cells.lookup x=some c->c≠b
 bs: ∀b o,X.base.get? b=some o->X.s₀.heap.get? b=some o/\X.H₀ b=none
 bsz:X.base.objs.size<=X.s₀.heap.objs.size
 noex: ∀b o,X.base.get? b=some o->b∉X.ex
 exfs: ∀b∈X.ex,b∉X.fs
 funs:X.s₀.heap.FunFrames X.base X.outer
 frf: ∀b∈X.fs,X.H₀ b=none
structure Inv (X:Cx) (pins:List (Addr×Obj)) (σ:List (Option V)) (H:Hp) (s:Shared):Prop where
 ok:X.Ok
 os:s.os=X.s₀.os
 bare:AllBare s.gens
 base:Un X.fs X.ex X.H₀ H X.s₀.heap s.heap
 loc: ∃m,s.heap.Ns X.env.locals m/\ ∀(i:Nat) (x:Str) (v:V),X.N[i]? =some x->σ[i]? =some (some v)->Vis X.env.scope x-> ∃u,zF v u/\zmA X.env s.heap m x u
 cell: ∀x c,X.env.cells.lookup x=some c-> ∃v,s.heap.IsCell c v
 free:H X.env.locals=none
 freeC: ∀x c,X.env.cells.lookup x=some c->H c=none
 pin: ∀p∈X.pn++pins,s.heap.get? p.1=some p.2/\H p.1=none/\p.1≠X.env.locals/\p.1∉X.fs/\ ∀v,p.2.data≠ .cell v
 hok:HOk X.prog X.w H s.heap
 len:σ.length=X.N.length
section
variable {X:Cx} {pins:List (Addr×Obj)} {σ:List (Option V)} {H H':Hp} {s:Shared} {h':Heap}
theorem Cx.Ok.nofr(ok:X.Ok){o:Obj}(e:X.base.get? b=some o):b∉X.fs:=λhb=>by
 have:=(ok.funs.mem hb).1;rw[e] at this;cases this
theorem Inv.bs(I:Inv X pins σ H s): ∀b o,X.base.get? b=some o->s.heap.get? b=some o/\H b=none:=λb o e=>
 ⟨I.base.keep b o (I.ok.bs b o e).1 (I.ok.bs b o e).2 (I.ok.nofr e) (I.ok.noex b o e),I.base.free b o (I.ok.bs b o e).1 (I.ok.bs b o e).2 (I.ok.noex b o e)⟩
theorem Inv.bk(I:Inv X pins σ H s): ∀b o,X.base.get? b=some o->s.heap.get? b=some o:=λb o e=>(I.bs b o e).1
theorem Inv.mod(I:Inv X pins σ H s):Mod X.K X.mg X.base:=I.ok.mod
theorem Inv.kIn(I:Inv X pins σ H s):X.K.In s.heap:=I.ok.mod.kin.keeps I.bk
theorem Inv.nolimit(I:Inv X pins σ H s):s.heap.NoLimit:=I.ok.mod.nolimit.keeps I.bk
theorem Inv.fr(I:Inv X pins σ H s): ∃m,Fr X.base X.env.locals s.heap m:=
 let ⟨m,hn,_⟩:=I.loc
 ⟨m,hn,I.bk,JE I.ok.bsz I.ok.above⟩
theorem Inv.lt(I:Inv X pins σ H s):X.env.locals<s.heap.objs.size:=let ⟨_,hn,_⟩:=I.loc;hn.lt
theorem Inv.sz(I:Inv X pins σ H s):X.s₀.heap.objs.size<=s.heap.objs.size:=JE I.ok.above (Nat.le_of_lt I.lt)
theorem Inv.nofs(I:Inv X pins σ H s)(h:s.heap.objs.size<=a):a∉X.fs:=λhb=>by
 obtain⟨_,o,ho,_⟩:=I.ok.funs.mem hb;exact absurd (Jy (JY ho) (JE I.sz h)) (Nat.lt_irrefl _)
theorem Inv.cne(I:Inv X pins σ H s): ∀x c,X.env.cells.lookup x=some c->c≠X.env.locals:=λx c e z=>by
 obtain⟨v,o,ho,hd⟩:=I.cell x c e;obtain⟨m,⟨o',es,ep,ho',hd',_⟩,_⟩:=I.loc;rw[z,ho'] at ho;cases ho;rw[hd'] at hd;cases hd
theorem Inv.funs(I:Inv X pins σ H s):s.heap.FunFrames X.base X.outer:=by
 have all: ∀(l:List Env),(∀b∈frs l,b∈X.fs)->X.s₀.heap.FunFrames X.base l->s.heap.FunFrames X.base l:=by
  intro l;induction l with
  |nil=>intro _ _;trivial
  |cons env r ih=>
   intro hs hl;obtain⟨hk,⟨L,o,hf,hn,ho,hd⟩,hr⟩:=hl;have hL:L∈X.fs:=hs L (by unfold frs;rw[List.filterMap_cons,hf];exact Jq);obtain⟨sl,e⟩:=I.base.slot L o ho (I.ok.frf L hL) hL λz=>I.ok.exfs L z hL;exact⟨hk,⟨L,_,hf,hn,e,hd⟩,ih (λb hb=>hs b (by unfold frs;rw[List.filterMap_cons,hf];exact Jl _ hb)) hr⟩
 exact all X.outer (λ_ hb=>hb) I.ok.funs
theorem Inv.stack(I:Inv X pins σ H s):s.heap.FunFrames X.base X.stack:=by
 rcases I.ok.stk with e|⟨e,hf⟩
 ·rw[e];exact I.funs
 ·rw[e];obtain⟨m,hn,_⟩:=I.loc;refine .cons (by rw[I.ok.kind];decide) hf hn ?_ I.funs;exact Heap.get?_none_of_le (JE I.ok.bsz I.ok.above)
theorem Inv.stkSub(I:Inv X pins σ H s): ∀b∈frs X.stack,b∈X.env.locals::X.fs:=λb hb=>by
 rcases I.ok.stk with e|⟨e,hf⟩
 ·rw[e] at hb;exact Jl _ hb
 ·rw[e] at hb;unfold frs at hb;rw[List.filterMap_cons,hf] at hb;exact hb
theorem Inv.stkFree(I:Inv X pins σ H s): ∀b∈frs X.stack,H b=none:=λb hb=>by
 rcases JD.mp (I.stkSub b hb) with e|hb
 ·rw[e];exact I.free
 ·obtain⟨_,o,ho,_⟩:=I.ok.funs.mem hb;exact I.base.free b o ho (I.ok.frf b hb) λz=>I.ok.exfs b z hb
theorem Inv.step{g':Array GenState}{t':Nat}{d':Drawn}{ch:List Addr}(I:Inv X pins σ H s)
  (hch: ∀b∈ch,(b∈X.ex\/X.s₀.heap.objs.size<=b)/\b≠X.env.locals/\(∀x c,X.env.cells.lookup x=some c->c≠b)/\ ∀p∈X.pn++pins,p.1≠b)
  (keep: ∀b o,b≠X.env.locals->b∉X.fs->b∉ch->s.heap.get? b=some o->H b=none->h'.get? b=some o)
  (slot: ∀b o,b≠X.env.locals->b∈X.fs->b∉ch->s.heap.get? b=some o->H b=none-> ∃sl,h'.get? b=some {o with slots:=sl}) (free: ∀b o,b∉ch->s.heap.get? b=some o->H b=none->H' b=none)
  (there: ∀b o,b∉ch->s.heap.get? b=some o-> ∃o',h'.get? b=some o')
  (tups: ∀b xs,H b=some (.tup xs)->H' b=some (.tup xs)) (frzs: ∀b o u,H b=some (.frz o u)->H' b=some (.frz o u)) (tbls: ∀b ps,H b=some (.tbl ps)-> ∃more,H' b=some (.tbl (ps++more)))
  (ns: ∀m,s.heap.Ns X.env.locals m->h'.Ns X.env.locals m) (hok:HOk X.prog X.w H' h') (hg:AllBare g'):
  Inv X pins σ H' {s with heap:=h',gens:=g',drawn:=d',toks:=t'}:=by
 have neL: ∀b o,X.s₀.heap.get? b=some o->b≠X.env.locals:=λb o e=>JJ (Jy (JY e) I.ok.above);have neC: ∀b o,X.s₀.heap.get? b=some o->b∉X.ex->b∉ch:=λb o e hx hb=>by
  rcases (hch b hb).1 with z|z
  ·exact hx z
  ·exact absurd (Jy (JY e) z) (Nat.lt_irrefl _)
 have cellK: ∀x c,X.env.cells.lookup x=some c-> ∀v,s.heap.IsCell c v->h'.IsCell c v:=λx c e v ⟨o,ho,hd⟩=>by
  have nch:c∉ch:=λz=>(hch c z).2.2.1 x c e rfl;by_cases hc:c∈X.fs
  ·obtain⟨sl,q⟩:=slot c o (I.cne x c e) hc nch ho (I.freeC x c e);exact⟨_,q,hd⟩
  ·exact⟨o,keep c o (I.cne x c e) hc nch ho (I.freeC x c e),hd⟩
 refine⟨I.ok,I.os,hg,⟨λb o e n hb hx=> ?_,λb o e n hb hx=> ?_,λb o e n hx=> ?_,λb o e hx=> ?_,λb xs e=>tups b xs (I.base.tups b xs e),λb o xs e=>frzs b o xs (I.base.frzs b o xs e),λb ps e=> ?_⟩,?_,λx c e=> ?_,?_,λx c e=> ?_,λp hp=> ?_,hok,I.len⟩
 ·exact keep b o (neL b o e) hb (neC b o e hx) (I.base.keep b o e n hb hx) (I.base.free b o e n hx)
 ·obtain⟨sl,e1⟩:=I.base.slot b o e n hb hx;obtain⟨sl',e2⟩:=slot b _ (neL b o e) hb (neC b o e hx) e1 (I.base.free b o e n hx);exact⟨sl',e2⟩
 ·obtain⟨o',e1⟩:=I.base.there b o e hx;exact free b o' (neC b o e hx) e1 (I.base.free b o e n hx)
 ·obtain⟨o',e1⟩:=I.base.there b o e hx;exact there b o' (neC b o e hx) e1
 ·obtain⟨m1,e1⟩:=I.base.tbls b ps e;obtain⟨m2,e2⟩:=tbls b _ e1;exact⟨m1++m2,by rw[e2,Array.append_assoc]⟩
 ·obtain⟨m,hn,hl⟩:=I.loc;refine⟨m,ns m hn,λi x v e1 e2 e3=> ?_⟩;obtain⟨u,r,l⟩:=hl i x v e1 e2 e3;refine⟨u,r,?_⟩;rcases l with l|⟨k,c,e,z⟩
  ·exact .inl l
  ·exact .inr ⟨k,c,e,cellK x c e _ z⟩
 ·obtain⟨v,z⟩:=I.cell x c e;exact⟨v,cellK x c e v z⟩
 ·obtain⟨m,⟨o,_,_,ho,_⟩,_⟩:=I.loc;exact free _ o (λz=>(hch _ z).2.1 rfl) ho I.free
 ·obtain⟨v,o,ho,hd⟩:=I.cell x c e;exact free c o (λz=>(hch c z).2.2.1 x c e rfl) ho (I.freeC x c e)
 ·obtain⟨e,n,ne,nf,d⟩:=I.pin p hp;have nch:p.1∉ch:=λz=>(hch p.1 z).2.2.2 p hp rfl;exact⟨keep p.1 p.2 ne nf nch e n,free p.1 p.2 nch e n,ne,nf,d⟩
theorem Inv.un{t':Nat}(I:Inv X pins σ H s)(u:Un X.fs [] H H' s.heap h')(hok:HOk X.prog X.w H' h'):Inv X pins σ H' {s with heap:=h',toks:=t'}:=by
 obtain⟨m,⟨o,es,ep,ho,r⟩,_⟩:=id I.loc;obtain⟨sl,hL⟩:=u.any ho I.free (by simp);exact I.step (g':=s.gens) (d':=s.drawn) (ch:= []) (λ_ z=>nomatch z) (λb o _ hb _ e n=>u.keep b o e n hb (by simp)) (λb o _ hb _ e n=>u.slot b o e n hb (by simp)) (λb o _ e n=>u.free b o e n (by simp)) (λb o _ e=>u.there b o e (by simp)) u.tups u.frzs u.tbls (λm' hm=>by
  obtain⟨o',es',ep',ho',r'⟩:=hm;rw[ho] at ho';cases ho';exact⟨_,es',ep',hL,r'⟩) hok I.bare
theorem Inv.call{g':Array GenState}{t':Nat}{d':Drawn}(I:Inv X pins σ H s)(u:Un (frs X.stack) ch H H' s.heap h')(hok:HOk X.prog X.w H' h')(hg:AllBare g')
  (hch: ∀b∈ch,(b∈X.ex\/X.s₀.heap.objs.size<=b)/\b≠X.env.locals/\(∀x c,X.env.cells.lookup x=some c->c≠b)/\ ∀p∈X.pn++pins,p.1≠b):
  Inv X pins σ H' {s with heap:=h',gens:=g',drawn:=d',toks:=t'}:=by
 obtain⟨m,⟨o,es,ep,ho,r⟩,_⟩:=id I.loc;obtain⟨sl,hL⟩:=u.any ho I.free λz=>(hch _ z).2.1 rfl;exact I.step (ch:=ch) hch (λb o hL hb hc e n=>u.keep b o e n (λz=>(JD.mp (I.stkSub b z)).elim hL hb) hc) (λb o _ _ hc e n=>u.any e n hc) (λb o hc e n=>u.free b o e n hc) (λb o hc e=>u.there b o e hc) u.tups u.frzs u.tbls (λm' hm=>by
  obtain⟨o',es',ep',ho',r'⟩:=hm;rw[ho] at ho';cases ho';exact⟨_,es',ep',hL,r'⟩) hok hg
theorem Inv.turned{t':Nat}{it:Addr}(I:Inv X pins σ H s)(k: ∀b o,b≠it->s.heap.get? b=some o->h'.get? b=some o)(hn:H it=none)(hL:it≠X.env.locals)
  (h1:it∈X.ex\/X.s₀.heap.objs.size<=it) (h2: ∀x c,X.env.cells.lookup x=some c->c≠it) (h3: ∀p∈X.pn++pins,p.1≠it):Inv X pins σ H {s with heap:=h',toks:=t'}:=by
 have nit: ∀b u,H b=some u->b≠it:=λb u e z=>by rw[z,hn] at e;cases e
 refine I.step (g':=s.gens) (d':=s.drawn) (ch:= [it]) (λb hb=> ?_) (λb o _ _ hc e _=>k b o (λz=>hc (by simp [z])) e) (λb o _ _ hc e _=>⟨o.slots,k b o (λz=>hc (by simp [z])) e⟩) (λ_ _ _ _ n=>n)
  (λb o hc e=>⟨o,k b o (λz=>hc (by simp [z])) e⟩) (λ_ _ e=>e) (λ_ _ _ e=>e) (λb ps e=>⟨#[],by rw[e];simp⟩) (λm hm=> ?_) (λb u e=> ?_) I.bare
 ·have e:b=it:=by simpa using hb
  subst e;exact⟨h1,hL,h2,h3⟩
 ·obtain⟨o,es,ep,ho,r⟩:=hm;exact⟨o,es,ep,k _ o (Ne.symm hL) ho,r⟩
 ·refine(I.hok b u e).stay (λc v hc q=>k c v ?_ q) (λ_ q=>q) λ_ _ q=>q;rcases hc with z|z
  ·rw[z];exact nit b u e
  ·exact nit c _ z
theorem Inv.tok(I:Inv X pins σ H s)(t:Nat):Inv X pins σ H {s with toks:=t}:=I.un (h':=s.heap) (t':=t) Un.refl I.hok
theorem Inv.kept{t':Nat}(I:Inv X pins σ H s)(k: ∀b u,s.heap.get? b=some u->h'.get? b=some u):Inv X pins σ H {s with heap:=h',toks:=t'}:=I.un (Un.kept k) (I.hok.kept k)
theorem Inv.laid{a:Addr}{o:HO}{t':Nat}(I:Inv X pins σ H s)(k: ∀b u,s.heap.get? b=some u->h'.get? b=some u)(hp:s.heap.objs.size<=a)(new:ye X.prog X.w (upd H a o) h' a o):
  Inv X pins σ (upd H a o) {s with heap:=h',toks:=t'}:=I.un (Un.laid k hp (I.hok.fresh hp)) (I.hok.laid k hp new)
theorem Inv.write{x e:Addr}{o:HO}{t':Nat}(I:Inv X pins σ H s)(mu:Mut (H x))(he:e=x\/H e=some (.own x))(k: ∀b u,b≠e->s.heap.get? b=some u->h'.get? b=some u)(heo: ∃u,h'.get? e=some u)
  (new:ye X.prog X.w (upd H x o) h' x o):Inv X pins σ (upd H x o) {s with heap:=h',toks:=t'}:=I.un (Un.write mu he k heo) (I.hok.write mu he k heo new)
theorem Inv.weak{σ':List (Option V)}(I:Inv X pins σ H s)(hl:σ'.length=σ.length)(w: ∀(i:Nat) v,σ'[i]? =some (some v)->σ[i]? =some (some v)):Inv X pins σ' H s:=
 ⟨I.ok,I.os,I.bare,I.base,let ⟨m,hn,hl'⟩:=I.loc;⟨m,hn,λi x v e1 e2 e3=>hl' i x v e1 (w i v e2) e3⟩,I.cell,I.free,I.freeC,I.pin,I.hok,hl.trans I.len⟩
theorem Inv.pins_of{pins':List (Addr×Obj)}(I:Inv X pins σ H s)(h: ∀p∈pins',s.heap.get? p.1=some p.2/\H p.1=none/\p.1≠X.env.locals/\p.1∉X.fs/\ ∀v,p.2.data≠ .cell v):Inv X pins' σ H s:=
 ⟨I.ok,I.os,I.bare,I.base,I.loc,I.cell,I.free,I.freeC,λp hp=>(Jr.mp hp).elim (λz=>I.pin p (List.mem_append_left _ z)) (h p),I.hok,I.len⟩
theorem kT{N:List Str}(hN:N.Nodup)(a:N[i]? =some x)(b:N[j]? =some x):i=j:=by
 obtain⟨h1,e1⟩:=Jc.mp a;obtain⟨h2,e2⟩:=Jc.mp b;exact(List.getElem_inj hN).mp (e1.trans e2.symm)
theorem kU{M:Model}{A:Around}{E:Value->Shared->Prop}{Q:Unit->Shared->Prop}(I:Inv X pins σ H s)(hN:X.N.Nodup)(hi:X.N[i]? =some x)(hx:Loc X.env.scope x)(r:zF v u)
  (h: ∀s',Inv X pins (σ.set i (some v)) H s'->(∃a,Heap.SameBut a s.heap s'.heap/\(a=X.env.locals\/X.env.cells.lookup x=some a))->Q () s') (hf:X.fn x=true\/X.env.scope.names.lookup x=some .local:=by first|exact .inl rfl|exact .inr rfl|assumption):wpAny M A (storeName X.env x u) Q E s:=by
 obtain⟨m,hn,hl⟩:=id I.loc;have hcls:(X.env.scope.kind== .class||(X.env.scope.kind== .module && X.env.locals !=X.env.globals))=false:=by rw[I.ok.kind];rfl
 have hiσ:i<σ.length:=by rw[I.len];exact(Jc.mp hi).1
 have cne:=I.cne;have tracked: ∀{a:Addr} {h':Heap},(∃o,s.heap.get? a=some o/\H a=none)->Heap.SameBut a s.heap h'->HOk X.prog X.w H h':=fun {a h'} ha hs b ob e=>by
  obtain⟨_,_,hfree⟩:=ha;refine(I.hok b ob e).stay (λc w' hc q=>(hs.2 c ?_).trans q) (λ_ q=>q) λ_ _ q=>q;rintro rfl;rcases hc with rfl|hc
  ·rw[hfree] at e;cases e
  ·rw[hfree] at hc;cases hc
 rcases hx with hk|hk
 ·refine wpAny_storeName_local hk hn (λh' hn' hs=> ?_) hcls;obtain⟨oL,_,_,hoL,_⟩:=id hn;refine h _ ⟨I.ok,I.os,I.bare,⟨λb o e n hb hx=> ?_,λb o e n hb hx=> ?_,I.base.free,λb o e hx=> ?_,I.base.tups,I.base.frzs,I.base.tbls⟩,⟨_,hn',λj y v' e1 e2 e3=> ?_⟩,λy c e=> ?_,I.free,I.freeC,λp hp=> ?_,tracked ⟨oL,hoL,I.free⟩ hs,by simpa using I.len⟩ ⟨_,hs, .inl rfl⟩
  ·exact(hs.2 b (JJ (Jy (JY e) I.ok.above))).trans (I.base.keep b o e n hb hx)
  ·obtain⟨sl,e1⟩:=I.base.slot b o e n hb hx;exact⟨sl,(hs.2 b (JJ (Jy (JY e) I.ok.above))).trans e1⟩
  ·obtain⟨o',e1⟩:=I.base.there b o e hx;exact⟨o',(hs.2 b (JJ (Jy (JY e) I.ok.above))).trans e1⟩
  ·by_cases hj:j=i
   ·subst hj;rw[hi] at e1;cases e1;rw[List.getElem?_set_self hiσ] at e2;cases e2;exact⟨u,r, .inl ⟨hk,by simp⟩⟩
   ·rw[List.getElem?_set_ne (Ne.symm hj)] at e2;obtain⟨u',r',q⟩:=hl j y v' e1 e2 e3;refine⟨u',r',?_⟩;rcases q with⟨k,e⟩|⟨k,c,e,z⟩
    ·refine .inl ⟨k,?_⟩
     have:y≠x:=λe=>hj (kT hN e1 (e ▸ hi));simp [this,e]
    ·exact .inr ⟨k,c,e,z.sameBut hs (cne y c e)⟩
  ·obtain⟨w',z⟩:=I.cell y c e;exact⟨w',z.sameBut hs (cne y c e)⟩
  ·obtain⟨e,n,ne,nf,d⟩:=I.pin p hp;exact⟨(hs.2 p.1 ne).trans e,n,ne,nf,d⟩
 ·have hfn:X.fn x=true:=by
   rcases hf with z|z
   ·exact z
   ·rw[z] at hk;cases hk
  obtain⟨c,hc⟩:=I.ok.has x (.inl hk);obtain⟨w',z⟩:=I.cell x c hc;refine wpAny_storeName_cell I.ok.kind hk hc z (λh' hc' hs=> ?_);obtain⟨oc,hoc,hocd⟩:=id z;refine h {s with heap:=h'} ⟨I.ok,I.os,I.bare,⟨λb o e n hb hx=> ?_,λb o e n hb hx=> ?_,I.base.free,λb o e hx=> ?_,I.base.tups,I.base.frzs,I.base.tbls⟩,⟨m,hn.sameBut hs (Ne.symm (cne x c hc)),λj y v' e1 e2 e3=> ?_⟩,λy c' e=> ?_,I.free,I.freeC,λp hp=> ?_,tracked ⟨oc,hoc,I.freeC x c hc⟩ hs,by simpa using I.len⟩ ⟨c,hs, .inr hc⟩
  ·exact(hs.2 b (JJ (Jy (JY e) (I.ok.cab x c hfn hc)))).trans (I.base.keep b o e n hb hx)
  ·obtain⟨sl,e1⟩:=I.base.slot b o e n hb hx;exact⟨sl,(hs.2 b (JJ (Jy (JY e) (I.ok.cab x c hfn hc)))).trans e1⟩
  ·obtain⟨o',e1⟩:=I.base.there b o e hx;exact⟨o',(hs.2 b (JJ (Jy (JY e) (I.ok.cab x c hfn hc)))).trans e1⟩
  ·by_cases hj:j=i
   ·subst hj;rw[hi] at e1;cases e1;rw[List.getElem?_set_self hiσ] at e2;cases e2;exact⟨u,r, .inr ⟨.inl hk,c,hc,hc'⟩⟩
   ·rw[List.getElem?_set_ne (Ne.symm hj)] at e2;obtain⟨u',r',q⟩:=hl j y v' e1 e2 e3;refine⟨u',r',?_⟩;rcases q with q|⟨k,c',e,z'⟩
    ·exact .inl q
    ·refine .inr ⟨k,c',e,z'.sameBut hs ?_⟩;rintro rfl;exact hj (kT hN e1 (I.ok.inj _ _ _ e hc ▸ hi))
  ·by_cases hcc:c'=c
   ·subst hcc;exact⟨_,hc'⟩
   ·obtain⟨w2,z2⟩:=I.cell y c' e;exact⟨w2,z2.sameBut hs hcc⟩
  ·obtain⟨e,n,ne,nf,d⟩:=I.pin p hp;refine⟨(hs.2 p.1 ?_).trans e,n,ne,nf,d⟩;intro q;rw[q,hoc] at e;have q':oc=p.2:=JU e;exact d w' (by rw[<-q'];exact hocd)
theorem jE{M:Model}{A:Around}{E:Value->Shared->Prop}{Q:Unit->Shared->Prop}(I:Inv X pins σ H s)(hN:X.N.Nodup)(hi:X.N[i]? =some x)(hx:Loc X.env.scope x)(r:zF v u)
  (h: ∀s',Inv X pins (σ.set i (some v)) H s'->Q () s') (hf:X.fn x=true\/X.env.scope.names.lookup x=some .local:=by first|exact .inl rfl|exact .inr rfl|assumption):wpAny M A (storeName X.env x u) Q E s:=
 kU I hN hi hx r (λs' I' _=>h s' I') hf
theorem Inv.call'{s':Shared}(I:Inv X pins σ H s)(ho:s'.os=s.os)(u:Un (frs X.stack) ch H H' s.heap s'.heap)(hok:HOk X.prog X.w H' s'.heap)(hg:AllBare s'.gens)
  (hch: ∀b∈ch,(b∈X.ex\/X.s₀.heap.objs.size<=b)/\b≠X.env.locals/\(∀x c,X.env.cells.lookup x=some c->c≠b)/\ ∀p∈X.pn++pins,p.1≠b):Inv X pins σ H' s':=by
 obtain⟨h',g',d',t',o'⟩:=s';have e:o'=s.os:=ho;subst e;exact I.call (g':=g') (t':=t') (d':=d') u hok hg hch
end
abbrev XK:=Value->Option Addr->Hp->Prop
abbrev St:=List (Option V)
abbrev VK:=V->Hp->Prop
abbrev TE:=St->Hp->VK->Prop
abbrev TT:=St->Hp->(Bool->Hp->Prop)->Prop
abbrev TA:=St->Hp->(List V->Hp->Prop)->Prop
structure Ends where
 nx:St->Hp->Prop
 rt:VK
 bk:St->Hp->Prop:=λ_ _=>False
 ct:St->Hp->Prop:=λ_ _=>False
abbrev TS:=Ends->St->Hp->Prop
def EP(X:Cx)(pins:List (Addr×Obj))(σ:St)(Q:VK)(u:Value)(s':Shared):Prop:= ∃v H',Inv X pins σ H' s'/\zF v u/\Q v H'
def TP(X:Cx)(pins:List (Addr×Obj))(σ:St)(Q:Bool->Hp->Prop)(b:Bool)(s':Shared):Prop:= ∃H',Inv X pins σ H' s'/\Q b H'
def AP(X:Cx)(pins:List (Addr×Obj))(σ:St)(Q:List V->Hp->Prop)(us:List Value)(s':Shared):Prop:= ∃vs H',Inv X pins σ H' s'/\zB vs us/\Q vs H'
def SP(X:Cx)(pins:List (Addr×Obj))(D:Ends)(f:Flow)(s':Shared):Prop:=
 match f with
 | .next=> ∃σ' H',Inv X pins σ' H' s'/\D.nx σ' H'
 | .brk=> ∃σ' H',Inv X pins σ' H' s'/\D.bk σ' H'
 | .cont=> ∃σ' H',Inv X pins σ' H' s'/\D.ct σ' H'
 | .ret u=> ∃v σ' H',Inv X pins σ' H' s'/\zF v u/\D.rt v H'
def PE(X:Cx)(e:Expr)(t:TE):Prop:=
 ∀(pins:List (Addr×Obj)) (s:Shared) (σ:St) (H:Hp) (Q:VK),Inv X pins σ H s->t σ H Q->wpAny (model X.prog X.w) X.A (eval e X.env) (EP X pins σ Q) X.xe s
def PT(X:Cx)(e:Expr)(t:TT):Prop:=
 ∀(pins:List (Addr×Obj)) (s:Shared) (σ:St) (H:Hp) (Q:Bool->Hp->Prop),Inv X pins σ H s->t σ H Q->wpAny (model X.prog X.w) X.A (isTrue e X.env (eval e X.env)) (TP X pins σ Q) X.xe s
def PW(X:Cx)(e:Expr)(t:TT):Prop:=
 ∀(whole:Sem Value) (pins:List (Addr×Obj)) (s:Shared) (σ:St) (H:Hp) (Q:Bool->Hp->Prop),Inv X pins σ H s->t σ H Q->wpAny (model X.prog X.w) X.A (isTrue e X.env whole) (TP X pins σ Q) X.xe s
theorem PW.pt{X:Cx}{t:TT}(h:PW X e t):PT X e t:=h _
def PA(X:Cx)(es:List Expr)(t:TA):Prop:=
 ∀(pos:Pos) (pins:List (Addr×Obj)) (s:Shared) (σ:St) (H:Hp) (Q:List V->Hp->Prop),Inv X pins σ H s->t σ H Q->wpAny (model X.prog X.w) X.A (spliced (backTo pos (starEach es X.env))) (AP X pins σ Q) X.xe s
def PS(X:Cx)(st:Stmt)(t:TS):Prop:=
 ∀(pins:List (Addr×Obj)) (s:Shared) (σ:St) (H:Hp) (D:Ends),Inv X pins σ H s->t D σ H->wpAny (model X.prog X.w) X.A (exec st X.env) (SP X pins D) X.xe s
def PSs(X:Cx)(st:List Stmt)(t:TS):Prop:=
 ∀(pins:List (Addr×Obj)) (s:Shared) (σ:St) (H:Hp) (D:Ends),Inv X pins σ H s->t D σ H->wpAny (model X.prog X.w) X.A (execs st X.env) (SP X pins D) X.xe s
theorem thn{α:Type}{t:Sem α}{Q Q':α->Shared->Prop}(h:wpAny M A t Q E s)(hQ: ∀a s,Q a s->Q' a s):wpAny M A t Q' E s:=wpAny_mono h hQ λ_ _ x=>x
section
variable {X:Cx}
def yn(i:Nat):TE:=λσ H Q=> ∃v,σ[i]? =some (some v)/\Q v H
def tC(v:V):TE:=λ_ H Q=>Q v H
theorem zlc{pos:Pos}(hN:X.N[i]? =some x)(hv:Vis X.env.scope x)(hd:(x==("__debug__":Str))=false:=by decide)(hcd:(x==("__classdict__":Str))=false:=by decide):PE X (.Name x pos) (yn i):=by
 intro pins s σ H Q I h;obtain⟨v,e,h⟩:=h;obtain⟨m,hn,hl⟩:=I.loc;obtain⟨u,r,l⟩:=hl i x v hN e hv;have fin:EP X pins σ Q u s:=⟨v,H,I,r,h⟩
 rcases l with⟨hk,hm⟩|⟨hk,c,hc,hcell⟩
 ·exact wpAny_Name (wpAny_loadName_local I.ok.kind hk hn hm fin) hd
 ·rcases hk with hk|hk
  ·exact wpAny_Name (wpAny_loadName_cell I.ok.kind hk hc hcell fin) hd
  ·exact wpAny_Name (wpAny_loadName_free I.ok.kind hk hc hcell fin hcd) hd
theorem zd{i j pos}:PE X (.Constant (.int i) j pos) (tC (.int i)):=λ_ _ _ H _ I h=>wpAny_Constant_int ⟨.int i,H,I.tok _,⟨_,rfl⟩,h⟩
theorem xQ{b j pos}:PE X (.Constant (.bool b) j pos) (tC (.bl b)):=λ_ _ _ H _ I h=>Constant_bool ⟨.bl b,H,I,rfl,h⟩
theorem uM{j pos}:PE X (.Constant .none j pos) (tC .non):=λ_ _ _ H _ I h=>Constant_none ⟨.non,H,I,rfl,h⟩
theorem ww{x j pos}:PE X (.Constant (.str x) j pos) (tC (.str x)):=λ_ _ _ H _ I h=>Calls.Constant_str ⟨.str x,H,I.tok _,⟨_,rfl⟩,h⟩
def Gl(X:Cx)(x:Str):Prop:=X.env.kindOf x=some .globalImplicit
theorem uN{E:Value->Shared->Prop}{pos:Pos}{Q:Value->Shared->Prop}(I:Inv X pins σ H s)(hg:Gl X x)(hm:X.mg x=some u)(h:Q u s)
  (hd:(x==("__debug__":Str))=false:=by decide):wpAny (model X.prog X.w) X.A (eval (.Name x pos) X.env) Q E s:=
 Calls.Name_function_global I.ok.kind hg (Calls.loadGlobal_global (by rw[I.ok.glob];exact I.mod.glob.keeps I.bk) hm h) hd
theorem wx{E:Value->Shared->Prop}{pos:Pos}{Q:Value->Shared->Prop}(I:Inv X pins σ H s)(hg:Gl X x)(hm:X.mg x=none)(hv:bootBuiltins x=some u)(h:Q u s)
  (hn:x≠"__name__":=by decide) (hd:(x==("__debug__":Str))=false:=by decide):wpAny (model X.prog X.w) X.A (eval (.Name x pos) X.env) Q E s:=by
 obtain⟨mb,h1,h2⟩:=I.mod.blt;exact Calls.Name_function_global I.ok.kind hg (Calls.loadGlobal_builtin (by rw[I.ok.glob];exact I.mod.glob.keeps I.bk) hm (by rw[I.ok.blt];exact h1.keeps I.bk) ((h2 x hn).trans hv) h) hd
theorem xj{pos:Pos}(hg:Gl X x)(hm:X.mg x=some u)(r:zF v u)(hd:(x==("__debug__":Str))=false:=by decide):PE X (.Name x pos) (tC v):=
 λ_ _ _ H _ I h=>uN I hg hm ⟨v,H,I,r,h⟩ hd
theorem zkc{pos:Pos}(hg:Gl X x)(hm:X.mg x=none)(hv:bootBuiltins x=some u)(r:zF v u)(hn:x≠"__name__":=by decide)(hd:(x==("__debug__":Str))=false:=by decide):PE X (.Name x pos) (tC v):=
 λ_ _ _ H _ I h=>wx I hg hm hv ⟨v,H,I,r,h⟩ hn hd
variable {a b:Expr} {ta tb:TE} {pos:Pos}
def PC(X:Cx)(op:CmpOp)(a b:Expr)(t:TE):Prop:=
 ∀(pins:List (Addr×Obj)) (s:Shared) (σ:St) (H:Hp) (Q:VK),Inv X pins σ H s->t σ H Q->
  wpAny (model X.prog X.w) X.A (eval a X.env) (λv s₁=>wpAny (model X.prog X.w) X.A (eval b X.env) (λu s₂=>wpAny (model X.prog X.w) X.A (compareOp op v u) (EP X pins σ Q) X.xe s₂) X.xe s₁) X.xe s
theorem ziV(b:Expr)(h:op≠ .In)(h2:op≠ .NotIn):behindInMarks op b=false:=by
 have e1:(op==CmpOp.In)=false:=by cases op<;>first|rfl|exact absurd rfl h
 have e2:(op==CmpOp.NotIn)=false:=by cases op<;>first|rfl|exact absurd rfl h2
 cases b<;>simp [behindInMarks,e1,e2]
def tB(t:TE):TT:=λσ H Q=>t σ H λx H1=> ∃c,x= .bl c/\Q c H1
theorem zld(h:PC X op a b t)(h1:behindInMarks op b=false:=by first|exact ziV _ 'd' 'd'|rfl):PE X (.Compare a [op] [b] pos) t:=λpins s σ H Q I hw=>wpAny_Compare1 (h pins s σ H Q I hw) h1
theorem vp(h:PE X e t)(he: ∀whole,isTrue e X.env whole=(do let v<-whole;standAt e.pos;holding [v] (truthy v)):=by intro _;rfl):PT X e (tB t):=by
 intro pins s σ H Q I hw
 refine isTrue_plain (thn (h pins s σ H _ I hw) λv s1 ⟨x,H1,I1,r1,q1⟩=> ?_) (he _)
 obtain⟨d,rfl,q⟩:=q1
 cases r1
 exact wpAny_truthy_bool ⟨H1,I1,q⟩
variable {tA tB':TT} {rest:List Expr}
def yt(t u:TT):TT:=λσ H Q=>t σ H λc H1=>if c=true then u σ H1 Q else Q false H1
def tOr(t u:TT):TT:=λσ H Q=>t σ H λc H1=>if c=true then Q true H1 else u σ H1 Q
def yu(t:TT):TT:=λσ H Q=>t σ H λc H1=>Q (!c) H1
theorem uO(ha:PT X a tA):PW X (.BoolOp .And [a] pos) tA:=by
 intro wh pins s σ H Q I h;refine isTrue_and (thn (ha pins s σ H Q I h) λc s1 e=> ?_);cases c with
 |true=>exact isTrue_and_nil e
 |false=>exact e
theorem wk(ha:PT X a tA):PW X (.BoolOp .Or [a] pos) tA:=by
 intro wh pins s σ H Q I h;refine isTrue_or (thn (ha pins s σ H Q I h) λc s1 e=> ?_);cases c with
 |false=>exact isTrue_or_nil e
 |true=>exact e
theorem uP(ha:PT X a tA)(hb:PW X (.BoolOp .And (b::rest) pos) tB'):PW X (.BoolOp .And (a::b::rest) pos) (yt tA tB'):=by
 intro wh pins s σ H Q I h;refine isTrue_and (thn (ha pins s σ H _ I h) λc s1 ⟨H1,I1,q1⟩=> ?_);cases c with
 |true=>exact hb wh pins s1 σ H1 Q I1 q1
 |false=>exact⟨H1,I1,q1⟩
theorem xX(ha:PT X a tA)(hb:PW X (.BoolOp .Or (b::rest) pos) tB'):PW X (.BoolOp .Or (a::b::rest) pos) (tOr tA tB'):=by
 intro wh pins s σ H Q I h;refine isTrue_or (thn (ha pins s σ H _ I h) λc s1 ⟨H1,I1,q1⟩=> ?_);cases c with
 |true=>exact⟨H1,I1,q1⟩
 |false=>exact hb wh pins s1 σ H1 Q I1 q1
theorem uQ(ha:PT X a tA):PT X (.UnaryOp .Not a pos) (yu tA):=by
 intro pins s σ H Q I h;exact isTrue_not (ha pins s σ H (λc H1=>Q (!c) H1) I h)
def yv(ta tb:TE):TE:=λσ H Q=>ta σ H λx H1=> ∃c,x= .bl c/\if c=true then tb σ H1 Q else Q (.bl false) H1
def yw(ta tb:TE):TE:=λσ H Q=>ta σ H λx H1=> ∃c,x= .bl c/\if c=true then Q (.bl true) H1 else tb σ H1 Q
def yx(ta:TE):TE:=λσ H Q=>ta σ H λx H1=> ∃c,x= .bl c/\Q (.bl (!c)) H1
theorem wP{op}(h:PE X a t):PE X (.BoolOp op [a] pos) t:=λpins s σ H Q I hw=>BoolOp_one (h pins s σ H Q I hw)
theorem wy(ha:PE X a ta)(hb:PE X (.BoolOp .And (b::rest) pos) tb):PE X (.BoolOp .And (a::b::rest) pos) (yv ta tb):=by
 intro pins s σ H Q I h;refine BoolOp_and (thn (ha pins s σ H _ I h) λv s1 ⟨x,H1,I1,r1,q1⟩=> ?_);obtain⟨c,rfl,q1⟩:=q1;cases r1;refine wpAny_truthy_bool ?_;cases c with
 |true=>exact hb pins s1 σ H1 Q I1 q1
 |false=>exact⟨.bl false,H1,I1,rfl,q1⟩
theorem zl6(ha:PE X a ta)(hb:PE X (.BoolOp .Or (b::rest) pos) tb):PE X (.BoolOp .Or (a::b::rest) pos) (yw ta tb):=by
 intro pins s σ H Q I h;refine BoolOp_or (thn (ha pins s σ H _ I h) λv s1 ⟨x,H1,I1,r1,q1⟩=> ?_);obtain⟨c,rfl,q1⟩:=q1;cases r1;refine wpAny_truthy_bool ?_;cases c with
 |false=>exact hb pins s1 σ H1 Q I1 q1
 |true=>exact⟨.bl true,H1,I1,rfl,q1⟩
theorem zle(ha:PE X a ta):PE X (.UnaryOp .Not a pos) (yx ta):=by
 intro pins s σ H Q I h;refine UnaryOp_ (thn (ha pins s σ H _ I h) λv s1 ⟨x,H1,I1,r1,q1⟩=> ?_);obtain⟨c,rfl,q1⟩:=q1;cases r1;exact not_of (wpAny_truthy_bool ⟨.bl (!c),H1,I1,rfl,q1⟩)
def tIf(t:TT)(ta tb:TE):TE:=λσ H Q=>t σ H λc H1=>if c=true then ta σ H1 Q else tb σ H1 Q
end
def SqL(K:Fg)(H:Hp)(a:Addr)(xs:List V):Prop:=
 Rd H a (.lst xs)\/
  ∃(o:Obj) (its:Array Value) (n:Nat),K.lookup a=some o/\o.cls= .type "list"/\o.dict=none/\o.data= .seq its n/\its.size<=sizeLine/\zB xs its.toList
def SqT(K:Fg)(H:Hp)(a:Addr)(xs:List V):Prop:=
 Rd H a (.tup xs)\/
  ∃(o:Obj) (its:Array Value) (n:Nat),K.lookup a=some o/\o.cls= .type "tuple"/\o.data= .seq its n/\its.size<=sizeLine/\zB xs its.toList
def zmB:Value->Option V
 | .none=>some .non
 | .bool b=>some (.bl b)
 | .int i _=>some (.int i)
 | .str x _=>some (.str x)
 | .bytes b _=>some (.byt b)
 | .float b _=>some (.flt b)
 | .ref a=>some (.ref a)
 | .type n=>some (.ty n)
 |_=>none
theorem zF.abs{x:V}(r:zF x u):zmB u=some x:=by
 cases x with
 |non=>cases r;rfl
 |bl _=>cases r;rfl
 |int _=>obtain⟨t,rfl⟩:=r;rfl
 |str _=>obtain⟨t,rfl⟩:=r;rfl
 |byt _=>obtain⟨t,rfl⟩:=r;rfl
 |flt _=>obtain⟨t,rfl⟩:=r;rfl
 |ref _=>cases r;rfl
 |ty _=>cases r;rfl
theorem zF.inj{x y:V}{u:Value}(r:zF x u)(q:zF y u):x=y:=JU (r.abs.symm.trans q.abs)
theorem zB.inj: ∀{xs ys:List V} {us:List Value},zB xs us->zB ys us->xs=ys
 |_,_,_, .nil, .nil=>rfl
 |_,_,_, .cons r t, .cons r' t'=>by rw[r.inj r',zB.inj t t']
section
variable {X:Cx} {pins:List (Addr×Obj)} {σ:St} {H:Hp} {s:Shared} {a:Addr} {xs ys:List V}
theorem SqL.of(h:H a=some (.lst xs)):SqL K H a xs:= .inl (.inl h)
theorem SqT.of(h:H a=some (.tup xs)):SqT K H a xs:= .inl (.inl h)
theorem Inv.list(I:Inv X pins σ H s)(h:SqL X.K H a xs): ∃its:List Value,zB xs its/\PlainL s.heap a its.toArray/\xs.length<=sizeLine:=by
 rcases h with h|⟨o,its,n,hk,hc,hd,hs,hz,r⟩
 ·obtain⟨z,its,n,r,e⟩:=h.ok I.hok;exact⟨its,r,⟨_,n,e,rfl,rfl,rfl⟩,z⟩
 ·refine⟨its.toList,r,⟨o,n,I.kIn a o hk,hc,hd,by simpa using hs⟩,?_⟩;have e:=r.length;simp only[Jx] at e;omega
theorem Inv.tuple(I:Inv X pins σ H s)(h:SqT X.K H a xs): ∃its:List Value,zB xs its/\IsTup s.heap a its.toArray/\xs.length<=sizeLine:=by
 rcases h with h|⟨o,its,n,hk,hc,hs,hz,r⟩
 ·obtain⟨z,its,r,p⟩:=h.ok I.hok;exact⟨its,r,p,z⟩
 ·refine⟨its.toList,r,⟨o,I.kIn a o hk,hc,n,by simpa using hs⟩,?_⟩;have e:=r.length;simp only[Jx] at e;omega
theorem Inv.list_inj(I:Inv X pins σ H s)(h:SqL X.K H a xs)(h':SqL X.K H a ys):xs=ys:=by
 obtain⟨its,r,⟨o,n,e,_,_,d⟩,_⟩:=I.list h;obtain⟨its',r',⟨o',n',e',_,_,d'⟩,_⟩:=I.list h';rw[e] at e';cases e';rw[d] at d';injection d' with d1 _
 have:its=its':=by simpa using congrArg Array.toList d1
 subst this;exact r.inj r'
theorem Inv.tuple_inj(I:Inv X pins σ H s)(h:SqT X.K H a xs)(h':SqT X.K H a ys):xs=ys:=by
 obtain⟨its,r,⟨o,e,_,n,d⟩,_⟩:=I.tuple h;obtain⟨its',r',⟨o',e',_,n',d'⟩,_⟩:=I.tuple h';rw[e] at e';cases e';rw[d] at d';injection d' with d1 _
 have:its=its':=by simpa using congrArg Array.toList d1
 subst this;exact r.inj r'
end
section
variable {X:Cx} {pins:List (Addr×Obj)} {σ:St} {H:Hp} {s:Shared} {E:Value->Shared->Prop}
end
section
variable {X:Cx} {st:Stmt} {rest:List Stmt} {t u:TS} {e:Expr} {te:TE} {pos:Pos}
def yB:TS:=λD σ H=>D.nx σ H
def yC(t u:TS):TS:=λD σ H=>t {D with nx:=u D} σ H
theorem zN:PSs X [] yB:=λ_ _ σ H _ I h=>wpAny_execs_nil ⟨σ,H,I,h⟩
theorem zi(h1:PS X st t)(h2:PSs X rest u):PSs X (st::rest) (yC t u):=by
 intro pins s σ H D I h;refine wpAny_execs_cons (thn (h1 pins s σ H {D with nx:=u D} I h) λf s1 q=> ?_);cases f with
 |next=>
  obtain⟨σ',H',I',q⟩:=q;exact h2 pins s1 σ' H' D I' q
 |ret v=>exact q
 |brk=>exact q
 |cont=>exact q
theorem zp(h1:PS X st t):PSs X [st] t:=by
 intro pins s σ H D I h;refine wpAny_execs_cons (thn (h1 pins s σ H D I h) λf s1 q=> ?_);cases f with
 |next=>exact wpAny_execs_nil q
 |ret v=>exact q
 |brk=>exact q
 |cont=>exact q
def jF:TS:=λD σ H=>D.bk σ H
theorem kW:PS X (.Break pos) jF:=λ_ _ σ H _ I h=>wpAny_Break ⟨σ,H,I,h⟩
theorem Inv.quiet(I:Inv X pins σ H s):interactive X.env=false:=by simp [interactive,I.ok.kind]
def yD(te:TE):TS:=λD σ H=>te σ H λ_ H1=>D.nx σ H1
theorem qX(he:PE X e te)(hs:swapsWith e none pos.line X.env=pure false:=by rfl):PS X (.Expr e pos) (yD te):=by
 intro pins s σ H D I h;exact wpAny_Expr_any (thn (he pins s σ H _ I h) λv s1 ⟨x,H1,I1,r1,q1⟩=>⟨σ,H1,I1,q1⟩) I.quiet hs
def yE(te:TE):TS:=λD σ H=>te σ H D.rt
theorem zy(he:PE X e te):PS X (.Return (some e) pos) (yE te):=by
 intro pins s σ H D I h;exact wpAny_Return_some (thn (he pins s σ H _ I h) λv s1 ⟨x,H1,I1,r1,q1⟩=>⟨x,σ,H1,I1,r1,q1⟩)
def qa:TS:=λD _ H=>D.rt .non H
def yF(c:TT)(t u:TS):TS:=λD σ H=>c σ H λb H1=>if b=true then t D σ H1 else u D σ H1
theorem zL{c:Expr}{a b:List Stmt}{tc:TT}(hc:PT X c tc)(ha:PSs X a t)(hb:PSs X b u):PS X (.If c a b pos) (yF tc t u):=by
 intro pins s σ H D I h;refine wpAny_If (thn (hc pins s σ H _ I h) λd s1 ⟨H1,I1,q1⟩=> ?_);cases d with
 |true=>exact ha pins s1 σ H1 D I1 q1
 |false=>exact hb pins s1 σ H1 D I1 q1
def zlf:TS:=λ_ _ _=>False
theorem kX:PS X st zlf:=λ_ _ _ _ _ _ h=>h.elim
end
abbrev TG:=V->St->Hp->(St->Hp->Prop)->Prop
abbrev TGs:=List V->St->Hp->(St->Hp->Prop)->Prop
def PG(X:Cx)(target:Expr)(t:TG):Prop:=
 ∀(pins:List (Addr×Obj)) (s:Shared) (σ:St) (H:Hp) (v:V) (u:Value) (Q:St->Hp->Prop),Inv X pins σ H s->zF v u->t v σ H Q->
  wpAny (model X.prog X.w) X.A (assign target X.env u) (λ_ s'=> ∃σ' H',Inv X pins σ' H' s'/\Q σ' H') X.xe s
def PGs(X:Cx)(ts:List Expr)(t:TGs):Prop:=
 ∀(pins:List (Addr×Obj)) (s:Shared) (σ:St) (H:Hp) (vs:List V) (us:List Value) (Q:St->Hp->Prop),Inv X pins σ H s->zB vs us->t vs σ H Q->
  wpAny (model X.prog X.w) X.A (assignInOrder ((assignEach ts X.env).map (·.2)) us) (λ_ s'=> ∃σ' H',Inv X pins σ' H' s'/\Q σ' H') X.xe s
abbrev TIp:=V->V->Hp->VK->Prop
def PIp(X:Cx)(op:Operator)(t:TIp):Prop:=
 ∀(pins:List (Addr×Obj)) (s:Shared) (σ:St) (H:Hp) (x y:V) (v u:Value) (Q:VK),Inv X pins σ H s->zF x v->zF y u->t x y H Q->
  wpAny (model X.prog X.w) X.A (inplaceOp op v u) (EP X pins σ Q) X.xe s
section
variable {X:Cx} {pos:Pos}
def yh(i:Nat):TG:=λv σ H Q=>Q (σ.set i (some v)) H
theorem zD(hN:X.N.Nodup)(hi:X.N[i]? =some x)(hx:Loc X.env.scope x)(hf:X.fn x=true\/X.env.scope.names.lookup x=some .local:=by first|exact .inl rfl|exact .inr rfl|assumption):PG X (.Name x pos) (yh i):=by
 intro pins s σ H v u Q I r h;exact wpAny_assign_Name (jE I hN hi hx r (λs' I'=>⟨_,H,I',h⟩) hf)
def yo:TGs:=λvs σ H Q=>vs= []/\Q σ H
def yj(t:TG)(u:TGs):TGs:=λvs σ H Q=> ∃v r,vs=v::r/\t v σ H λσ' H'=>u r σ' H' Q
theorem qM:PGs X [] yo:=by
 intro pins s σ H vs us Q I r h;obtain⟨e,h⟩:=h;subst e;cases r;exact assignInOrder_nil ⟨σ,H,I,h⟩
theorem zT{es:List Expr}{t:TG}{u:TGs}(h1:PG X e t)(h2:PGs X es u)
  (hs:(assignEach (e::es) X.env).map (·.2)=assign e X.env::(assignEach es X.env).map (·.2):=by rfl):PGs X (e::es) (yj t u):=by
 intro pins s σ H vs us Q I r h;obtain⟨v,vr,e1,h⟩:=h;subst e1;cases r with
 |cons r rr=>
  rw[hs];refine assignInOrder_cons (thn (h1 pins s σ H _ _ _ I r h) λ_ s1 ⟨σ1,H1,I1,q1⟩=> ?_);exact h2 pins s1 σ1 H1 _ _ Q I1 rr q1
def kY(K:Fg)(n:Nat)(t:TGs):TG:=λv σ H Q=> ∃a xs,v= .ref a/\SqT K H a xs/\xs.length=n/\t xs σ H Q
theorem qN{es:List Expr}{k:Nat}{t:TGs}{n:Nat}(hc:X.calm=true)(h:PGs X es t)
  (hn:(assignEach es X.env).length=n:=by rfl) (hst:(assignEach es X.env).findIdx? (·.1)=none:=by rfl):PG X (.Tuple es k pos) (kY X.K n t):=by
 intro pins s σ H v u Q I r hw;obtain⟨a,xs,e1,hq,hl,hw⟩:=hw;subst e1;cases r;obtain⟨its,rv,ht,hz⟩:=I.tuple hq;refine assign_Tuple_tuple (I.ok.hd hc) ht (by simp [hn,<-hl,rv.length]) hst λh' hx=> ?_;have I1:Inv X pins σ H {s with heap:=h'}:=I.kept (t':=s.toks) λb o e=>hx b o (JJ (JY e)) e;exact h pins _ σ H xs _ Q I1 (by simpa using rv) hw
def yk(te:TE)(g:TG):TS:=λD σ H=>te σ H λx H1=>g x σ H1 D.nx
theorem xo(he:PE X e te)(hg:PG X tg g)(hs:swapsWithSole [tg] e pos.line X.env=pure false:=by rfl)(hw:swappedStores [tg] e X.env=pure none:=by rfl)
  (h1:(assignEach [tg] X.env).map (·.2)= [assign tg X.env]:=by rfl):PS X (.Assign [tg] e pos) (yk te g):=by
 intro pins s σ H D I h;refine wpAny_Assign_stores (thn (he pins s σ H _ I h) λv s1 ⟨x,H1,I1,r1,q1⟩=> ?_) hs hw;rw[h1];exact thn (hg pins s1 σ H1 x v _ I1 r1 q1) λ_ s2 q=>q
theorem zu{pos':Pos}(hN:X.N.Nodup)(hi:X.N[i]? =some x)(hx:Loc X.env.scope x)(he:PE X e te)(hs:swapsWith e (some (.Name x pos')) pos.line X.env=pure false:=by rfl)(hf:X.fn x=true\/X.env.scope.names.lookup x=some .local:=by first|exact .inl rfl|exact .inr rfl|assumption):
  PS X (.Assign [.Name x pos'] e pos) (yk te (yh i)):=by
 intro pins s σ H D I h;refine wpAny_Assign_Name (thn (he pins s σ H _ I h) λv s1 ⟨y,H1,I1,r1,q1⟩=> ?_) hs;exact jE I1 hN hi hx r1 (λs2 I2=>⟨_,H1,I2,q1⟩) hf
def yG(i:Nat)(te:TE)(ti:TIp):TS:=λD σ H=> ∃x,σ[i]? =some (some x)/\te σ H λy H1=>ti x y H1 λz H2=>D.nx (σ.set i (some z)) H2
theorem ud{op:Operator}{ti:TIp}{pos':Pos}(hN:X.N.Nodup)(hi:X.N[i]? =some x)(hx:Loc X.env.scope x)(he:PE X e te)(ho:PIp X op ti)(hf:X.fn x=true\/X.env.scope.names.lookup x=some .local:=by first|exact .inl rfl|exact .inr rfl|assumption):
  PS X (.AugAssign (.Name x pos') op e pos) (yG i te ti):=by
 intro pins s σ H D I h;obtain⟨v,e1,h⟩:=h;obtain⟨m,hn,hl⟩:=I.loc;have vis:Vis X.env.scope x:=by rcases hx with k|k;exact .inl k;exact .inr (.inl k)
 obtain⟨u,r,l⟩:=hl i x v hi e1 vis;refine wpAny_AugAssign_Name ?_;have go:wpAny (model X.prog X.w) X.A (eval e X.env) (λw s₂=>wpAny (model X.prog X.w) X.A (inplaceOp op u w) (λr s₃=>wpAny (model X.prog X.w) X.A (storeName X.env x r) (λ_=>SP X pins D .next) X.xe s₃) X.xe s₂) X.xe s:=by
  refine thn (he pins s σ H _ I h) λw s1 ⟨y,H1,I1,r1,q1⟩=> ?_;refine thn (ho pins s1 σ H1 v y u w _ I1 r r1 q1) λz s2 ⟨zv,H2,I2,r2,q2⟩=> ?_;exact jE I2 hN hi hx r2 (λs3 I3=>⟨_,H2,I3,q2⟩) hf
 rcases l with⟨hk,hm⟩|⟨hk,c,hc,hcell⟩
 ·exact wpAny_loadName_local I.ok.kind hk hn hm go
 ·rcases hk with hk|hk
  ·exact wpAny_loadName_cell I.ok.kind hk hc hcell go
  ·rcases hx with k|k
   ·have:X.env.scope.names.lookup x=some .free:=hk;rw[k] at this;cases this
   ·have:X.env.scope.names.lookup x=some .free:=hk;rw[k] at this;cases this
def ipI(f:Int->Int->Int):TIp:=λx y H Q=> ∃i j,x= .int i/\y= .int j/\Q (.int (f i j)) H
theorem jG:PIp X .Add (ipI λi j=>i+j):=by
 intro pins s σ H x y v u Q I r1 r2 h;obtain⟨i,j,e1,e2,q⟩:=h;subst e1;subst e2;obtain⟨t,rfl⟩:=r1;obtain⟨t',rfl⟩:=r2;exact iadd_int ⟨.int _,H,I.tok _,⟨_,rfl⟩,q⟩
theorem kZ:PIp X .Sub (ipI λi j=>i - j):=by
 intro pins s σ H x y v u Q I r1 r2 h;obtain⟨i,j,e1,e2,q⟩:=h;subst e1;subst e2;obtain⟨t,rfl⟩:=r1;obtain⟨t',rfl⟩:=r2;exact isub_int ⟨.int _,H,I.tok _,⟨_,rfl⟩,q⟩
end
section
variable {X:Cx} {pos:Pos}
def k6(c:TT)(tb:TS):TS:=λD σ H=> ∃W:Nat->St->Hp->Prop,(∃m,W m σ H)/\ ∀m σ H,W m σ H->
 c σ H λb H1=>if b=true then∃N:St->Hp->Prop,(∀σ' H',N σ' H'-> ∃m',m'<m/\W m' σ' H')/\tb {D with nx:=N,ct:=N,bk:=D.nx} σ H1 else D.nx σ H1
theorem vL{c:Expr}{tc:TT}(hp:PassesOwn (model X.prog X.w) X.A X.env X.xe)(hc:PT X c tc)(hb:PSs X body tb):PS X (.While c body [] pos) (k6 tc tb):=by
 intro pins s σ H D I h;obtain⟨W,⟨m0,w0⟩,turn⟩:=h;refine wpAny_While (codeAny_whileLoop (λn s'=> ∃σ' H',Inv X pins σ' H' s'/\W n σ' H') ?_ m0 ⟨σ,H,I,w0⟩);rintro n s1 ⟨σ1,H1,I1,w1⟩;refine wpAny_passesOwn hp (thn (hc pins s1 σ1 H1 _ I1 (turn n σ1 H1 w1)) λb s2 ⟨H2,I2,q2⟩=> ?_);cases b with
 |true=>
  obtain⟨N,hN,q2⟩:=q2;rw[Jg rfl];refine wpAny_passesOwn hp (thn (hb pins s2 σ1 H2 _ I2 q2) λf s3 q3=> ?_);cases f with
  |next=>
   obtain⟨σ3,H3,I3,n3⟩:=q3;obtain⟨m',hm,w3⟩:=hN σ3 H3 n3;exact⟨m',hm,σ3,H3,I3,w3⟩
  |cont=>
   obtain⟨σ3,H3,I3,n3⟩:=q3;obtain⟨m',hm,w3⟩:=hN σ3 H3 n3;exact⟨m',hm,σ3,H3,I3,w3⟩
  |brk=>exact q3
  |ret v=>exact q3
 |false=>
  rw[Jf Ju];exact wpAny_execs_nil ⟨σ1,H2,I2,q2⟩
end
structure It where
 go:Nat->Hp->Prop
 yld:Nat->Hp->V->Hp->Prop
 stop:Nat->Hp->Prop
def xY(X:Cx)(pins:List (Addr×Obj))(H:Hp)(b:Addr):Prop:=
 H b=none/\b≠X.env.locals/\b∉X.fs/\(b∈X.ex\/X.s₀.heap.objs.size<=b)/\(∀x c,X.env.cells.lookup x=some c->c≠b)/\ ∀p∈X.pn++pins,p.1≠b
theorem Inv.fpOk{X:Cx}{H':Hp}(I:Inv X pins σ H s)(hb:s.heap.objs.size<=b)(hn:H' b=none):xY X pins H' b:=by
 refine⟨hn,Nat.ne_of_gt (Jy I.lt hb),I.nofs hb, .inr (JE I.sz hb),λx c e z=> ?_,λp hp z=> ?_⟩
 ·obtain⟨v,q⟩:=I.cell x c e;exact absurd (Jy q.lt (by rw[z];exact hb)) (Nat.lt_irrefl _)
 ·exact absurd (Jy (JY (I.pin p hp).1) (by rw[z];exact hb)) (Nat.lt_irrefl _)
structure Turn (P:Program) (w:World) (K:Fg) (tg:Expr) (J:It) (fp:List Addr) (it:Addr) (tn:Nat->Heap->Prop):Prop where
 mem:it∈fp
 obj: ∀i h,tn i h-> ∀b∈fp,∃o,h.get? b=some o/\ ∀v,o.data≠ .cell v
 keep: ∀i h h',tn i h->(∀b∈fp,∀o,h.get? b=some o->h'.get? b=some o)->tn i h'
 item: ∀(X:Cx),X.prog=P->X.w=w->X.K=K->X.calm=true-> ∀(i:Nat) (pins:List (Addr×Obj)) (s:Shared) (σ:St) (H:Hp) (E:Value->Shared->Prop),Inv X pins σ H s->(∀b∈fp,xY X pins H b)->tn i s.heap->J.go i H->
  wpAny (model P w) X.A (pyNext (.ref it)) (λr s1=> ∃u,r=some u/\
   wpAny (model P w) X.A (letOwnedTupleGo tg (.ref it) u) (λ_ s2=> ∃x H',Inv X pins σ H' s2/\zF x u/\J.yld i H x H'/\tn (i+1) s2.heap/\ ∀b∈fp,H' b=none) E s1) E s
 done: ∀(X:Cx),X.prog=P->X.w=w->X.K=K->X.calm=true-> ∀(i:Nat) (pins:List (Addr×Obj)) (s:Shared) (σ:St) (H:Hp) (E:Value->Shared->Prop),Inv X pins σ H s->(∀b∈fp,xY X pins H b)->tn i s.heap->J.stop i H->
  wpAny (model P w) X.A (pyNext (.ref it)) (λr s1=>r=none/\Inv X pins σ H s1) E s
 self: ∀(A:Around) (i:Nat) (s:Shared) (Q:Value->Shared->Prop) (E:Value->Shared->Prop),tn i s.heap->Q (.ref it) s->wpAny (model P w) A (pyIter (.ref it)) Q E s
abbrev TI:=St->Hp->(It->Hp->Prop)->Prop
def PIE(X:Cx)(pins:List (Addr×Obj))(σ:St)(tg:Expr)(R:It->Hp->Prop)(itv:Value)(s2:Shared):Prop:=
 ∃(it:Addr) (fp:List Addr) (tn:Nat->Heap->Prop) (J:It) (H':Hp),itv= .ref it/\Inv X pins σ H' s2/\Turn X.prog X.w X.K tg J fp it tn/\tn 0 s2.heap/\(∀b∈fp,xY X pins H' b)/\R J H'
def PI(X:Cx)(tg iter:Expr)(wi:TI):Prop:=
 ∀(pins:List (Addr×Obj)) (s:Shared) (σ:St) (H:Hp) (R:It->Hp->Prop),Inv X pins σ H s->wi σ H R->
  wpAny (model X.prog X.w) X.A (eval iter X.env) (λv s1=>wpAny (model X.prog X.w) X.A (pyIter v) (PIE X pins σ tg R) X.xe s1) X.xe s
theorem jH{M:Model}{A:Around}{E:Value->Shared->Prop}{tg:Expr}{it:Addr}{u:Value}{o:Obj}{n:String}{vs:Array Value}{Q:Unit->Shared->Prop}(ho:s.heap.get? it=some o)(hc:o.cls= .type n)(hd:o.data= .fields vs)
  (hn: ["enumerate","zip","dict_itemiterator","dict_reverseitemiterator","odict_iterator","itertools.zip_longest","itertools.pairwise"].contains n=false) (hQ:Q () s):wpAny M A (letOwnedTupleGo tg (.ref it) u) Q E s:=by
 unfold letOwnedTupleGo;cases tg<;>first
  |exact JW hQ
  |(cases u<;>first
    |exact JW hQ
    |(refine JV (wpAny_load ho ?_)
      rw[hc,hd];show wpAny M A (if (["enumerate","zip","dict_itemiterator","dict_reverseitemiterator","odict_iterator","itertools.zip_longest","itertools.pairwise"].contains n && vs[0]? ==some (rawInt _))=true then _ else _) Q E s;rw[Jf (by intro h;rw[hn,Bool.false_and] at h;cases h)];exact JW hQ))
def Itl(K:Fg)(a:Addr):It:=
 ⟨λi H=> ∃xs x,SqL K H a xs/\xs[i]? =some x,λi H x H'=>H'=H/\ ∀xs,SqL K H a xs->xs[i]? =some x,λi H=> ∃xs,SqL K H a xs/\xs.length<=i⟩
def Itt(K:Fg)(a:Addr):It:=
 ⟨λi H=> ∃xs x,SqT K H a xs/\xs[i]? =some x,λi H x H'=>H'=H/\ ∀xs,SqT K H a xs->xs[i]? =some x,λi H=> ∃xs,SqT K H a xs/\xs.length<=i⟩
def Itr(lo:Int)(n:Nat):It:=⟨λi _=>i<n,λi H x H'=>H'=H/\x= .int (lo+i),λi _=>n<=i⟩
theorem zin(a it:Addr):Turn P w K tg (Itl K a) [it] it (λi h=>h.IsListIter it a i) where
 mem:=by simp
 obj:=λi h st b hb=>by
  have e:b=it:=by simpa using hb
  subst e;obtain⟨o,e,c,d⟩:=st;exact⟨o,e,λv z=>by rw[d] at z;cases z⟩
 keep:=λi h h' st k=>st.at λo e=>k it (by simp) o e
 item:=by
  intro X hP hw hK hc i pins s σ H E I hf st hg;subst hP hw hK;obtain⟨xs,x,hq,hx⟩:=hg;obtain⟨its,rv,p,hz⟩:=I.list hq;obtain⟨u,hu,ru⟩:=rv.get hx;obtain⟨f0,f1,f2,f3,f4,f5⟩:=hf it (by simp);refine wpAny_pyNext_list_item st p.isList (x:=u) (by simpa using hu) λh' st' sb=> ?_;have I1:Inv X pins σ H {s with heap:=h'}:=I.turned (t':=s.toks) (λb o hb e=>(sb.2 b hb).trans e) f0 f1 f3 f4 f5;obtain⟨o,e,c,d⟩:=id st';exact⟨u,rfl,jH (s:={s with heap:=h'}) e c d 'd' ⟨x,H,I1,ru,⟨rfl,λys hy=>by rw[I.list_inj hy hq];exact hx⟩,st',λb hb=>(hf b hb).1⟩⟩
 done:=by
  intro X hP hw hK hc i pins s σ H E I hf st hg;subst hP hw hK;obtain⟨xs,hq,hx⟩:=hg;obtain⟨its,rv,p,hz⟩:=I.list hq;obtain⟨f0,f1,f2,f3,f4,f5⟩:=hf it (by simp);have hl:=rv.length;exact wpAny_pyNext_list_end (I.ok.hd hc) st p.isList (by simp;omega) λh' eb=>⟨rfl,I.turned (t':=s.toks) (λb o hb e=>eb b o hb e) f0 f1 f3 f4 f5⟩
 self:=λ_ _ _ _ _ st h=>wpAny_pyIter_listiter st h
theorem zhd(it:Addr)(lo:Int)(n:Nat):Turn P w K tg (Itr lo n) [it] it (λi h=>IsRangeIter h it (lo+(i:Nat)*1) ((n:Int) - (i:Nat)) 1) where
 mem:=by simp
 obj:=λi h st b hb=>by
  have e:b=it:=by simpa using hb
  subst e;exact⟨_,st,λv z=>by
   have z':Data.fields _=Data.cell v:=z;cases z'⟩
 keep:=λi h h' st k=>k it (by simp) _ st
 item:=by
  intro X hP hw hK hc i pins s σ H E I hf st hg;subst hP hw hK;obtain⟨f0,f1,f2,f3,f4,f5⟩:=hf it (by simp);have W:=Walks.range (prog:=X.prog) (w:=X.w) (I.ok.hd hc) it lo 1 n;refine W.item i s _ _ hg st λv h' tk hv st' kk=> ?_;obtain⟨t,rfl⟩:=hv;have I1:Inv X pins σ H {s with heap:=h',toks:=tk}:=I.turned (λb o hb e=>kk b o (by simpa using hb) e) f0 f1 f3 f4 f5;refine⟨_,rfl,jH (s:={s with heap:=h',toks:=tk}) (n:="range_iterator") st' rfl rfl 'd' ⟨.int (lo+i),H,I1,⟨t,?_⟩,⟨rfl,rfl⟩,st',λb hb=>(hf b hb).1⟩⟩;rw[Int.mul_one]
 done:=by
  intro X hP hw hK hc i pins s σ H E I hf st hg;subst hP hw hK;obtain⟨f0,f1,f2,f3,f4,f5⟩:=hf it (by simp);exact wpAny_pyNext_range_end (I.ok.hd hc) st (by have:n<=i:=hg;omega) λh' eb=>⟨rfl,I.turned (t':=s.toks) (λb o hb e=>eb b o hb e) f0 f1 f3 f4 f5⟩
 self:=λ_ _ _ _ _ st h=>wpAny_pyIter_rangeiter st h
section
variable {X:Cx} {tg:Expr}
def xw(K:Fg)(tl:TE):TI:=λσ H R=>tl σ H λx H1=> ∃a,x= .ref a/\(∃xs,SqL K H1 a xs)/\R (Itl K a) H1
def k7(K:Fg)(tl:TE):TI:=λσ H R=>tl σ H λx H1=> ∃a,x= .ref a/\(∃xs,SqT K H1 a xs)/\R (Itt K a) H1
theorem qO{l:Expr}{tl:TE}(hl:PE X l tl):PI X tg l (xw X.K tl):=by
 intro pins s σ H R I h;refine thn (hl pins s σ H _ I h) λv s1 ⟨x,H1,I1,r1,q1⟩=> ?_;obtain⟨a,e,⟨xs,hq⟩,q⟩:=q1;subst e;cases r1;obtain⟨its,rv,p,hz⟩:=I1.list hq;refine wpAny_pyIter_list p.isList ?_;refine⟨s1.heap.objs.size, [s1.heap.objs.size],_,_,H1,rfl,I1.kept (t':=s1.toks) λb o e=>JX _ e,zin a _,⟨_,JZ _ rfl,rfl,rfl⟩,λb hb=> ?_,q⟩;have e:b=s1.heap.objs.size:=by simpa using hb
 subst e;exact I1.fpOk (Je _) (I1.hok.fresh (Je _))
theorem k8{R:It->Hp->Prop}{E:Value->Shared->Prop}{lo hi:Int}{t u v:Tok}{tk:Nat}(I:Inv X pins σ H s)(h1: -(2 ^ 62)<=lo)(h2:lo<2 ^ 62)(h3: -(2 ^ 62)<=hi)(h4:hi<2 ^ 62)
  (q:R (Itr lo (hi - lo).toNat) H):wpAny (model X.prog X.w) X.A (pyIter (.ref s.heap.objs.size)) (PIE X pins σ tg R) E {s with heap:=s.heap.push {cls:= .type "range",data:= .fields #[.int lo t, .int hi u, .int 1 v]},toks:=tk}:=by
 refine wpAny_pyIter_range (IsRange.new ..) (small_one h1 h2 h3 h4) ?_;have I1:Inv X pins σ H {s with heap:=s.heap.push {cls:= .type "range",data:= .fields #[.int lo t, .int hi u, .int 1 v]},toks:=tk}:=I.kept λb o e=>JX _ e;refine⟨(s.heap.push {cls:= .type "range",data:= .fields #[.int lo t, .int hi u, .int 1 v]}).objs.size, [(s.heap.push {cls:= .type "range",data:= .fields #[.int lo t, .int hi u, .int 1 v]}).objs.size],_,_,H,rfl,
  I1.kept (t':=tk) λb o e=>JX _ e,zhd _ lo (hi - lo).toNat,?_,λb hb=> ?_,q⟩
 ·have e1:lo+((0:Nat):Int)*1=lo:=by simp
  have e2:(((hi - lo).toNat:Nat):Int) - ((0:Nat):Int)=Builtin.Range.rangeSize lo hi 1:=by rw[rangeSize_one];split<;>omega
  show IsRangeIter _ _ (lo+((0:Nat):Int)*1) ((((hi - lo).toNat:Nat):Int) - ((0:Nat):Int)) 1;rw[e1,e2];exact JZ _ rfl
 ·have e:b=(s.heap.push {cls:= .type "range",data:= .fields #[.int lo t, .int hi u, .int 1 v]}).objs.size:=by simpa using hb
  subst e;exact I1.fpOk (Je _) (I1.hok.fresh (Je _))
def ue(ta:TA):TI:=λσ H R=>ta σ H λvs H1=> ∃j:Int,vs= [.int j]/\ -(2 ^ 62)<=j/\j<2 ^ 62/\R (Itr 0 j.toNat) H1
def jI(ta:TA):TI:=λσ H R=>ta σ H λvs H1=> ∃i j:Int,vs= [.int i, .int j]/\(-(2 ^ 62)<=i/\i<2 ^ 62/\ -(2 ^ 62)<=j/\j<2 ^ 62)/\R (Itr i (j - i).toNat) H1
theorem wz{a:Expr}{ta:TA}{p pos:Pos}(hg:Gl X "range")(hm:X.mg "range"=none)(ha:PA X [a] ta)(hs:starEach [a] X.env= [(false,eval a X.env)]:=by rfl):PI X tg (.Call (.Name "range" p) [a] [] pos) (ue ta):=by
 intro pins s σ H R I h;refine Call_ (wx I hg hm boot_range (PyProof.Rows.callWith_type1 (thn (ha pos pins s σ H _ I h) λus s1 ⟨vs,H1,I1,r1,q1⟩=> ?_) hs rfl));obtain⟨j,e,q1,q2,q⟩:=q1;subst e;cases r1 with
 |cons r rr=>
  cases rr;obtain⟨t,rfl⟩:=r;exact call_range_1 (k8 I1 'o' 'o' q1 q2 (by simpa using q))
theorem k9{a b:Expr}{ta:TA}{p pos:Pos}(hg:Gl X "range")(hm:X.mg "range"=none)(ha:PA X [a,b] ta)(hs:starEach [a,b] X.env= [(false,eval a X.env),(false,eval b X.env)]:=by rfl)(hs2:starEach [b] X.env= [(false,eval b X.env)]:=by rfl):
  PI X tg (.Call (.Name "range" p) [a,b] [] pos) (jI ta):=by
 intro pins s σ H R I h;refine Call_ (wx I hg hm boot_range (PyProof.Rows.callWith_type1 (thn (ha pos pins s σ H _ I h) λus s1 ⟨vs,H1,I1,r1,q1⟩=> ?_) (by rw[hs,hs2]) (by rw[hs2];rfl)));obtain⟨i,j,e,⟨q1,q2,q3,q4⟩,q⟩:=q1;subst e;cases r1 with
 |cons r rr=>
  cases rr with
  |cons r' rr=>
   cases rr;obtain⟨t,rfl⟩:=r;obtain⟨t',rfl⟩:=r';exact call_range_2 (k8 I1 q1 q2 q3 q4 q)
def zl9(wi:TI)(g:TG)(tb:TS):TS:=λD σ H=>wi σ H λJ H1=> ∃W:Nat->Nat->St->Hp->Prop,(∃m,W 0 m σ H1)/\ ∀i m σ H,W i m σ H->
 (J.stop i H/\D.nx σ H)\/(J.go i H/\ ∃N:St->Hp->Prop,(∀σ' H',N σ' H'-> ∃m',m'<m/\W (i+1) m' σ' H')/\ ∀x H',J.yld i H x H'->g x σ H' λσ2 H2=>tb {D with nx:=N,ct:=N,bk:=D.nx} σ2 H2)
def uf(fp:List Addr)(h:Heap):List (Addr×Obj):=fp.filterMap λb=>(h.get? b).map λo=>(b,o)
theorem uR{o:Obj}(hb:b∈fp)(e:h.get? b=some o):(b,o)∈uf fp h:=List.mem_filterMap.mpr ⟨b,hb,by rw[e];rfl⟩
theorem zio{p:Addr×Obj}(hp:p∈uf fp h):p.1∈fp/\h.get? p.1=some p.2:=by
 obtain⟨b,hb,e⟩:=List.mem_filterMap.mp hp;cases q:h.get? b with
 |none=>rw[q] at e;cases e
 |some o=>
  rw[q] at e;have e':(b,o)=p:=JU e;subst e';exact⟨hb,q⟩
theorem Inv.pinned(I:Inv X pins σ H s)(hf: ∀b∈fp,xY X pins H b)(ho: ∀b∈fp,∃o,s.heap.get? b=some o/\ ∀v,o.data≠ .cell v):Inv X (pins++uf fp s.heap) σ H s:=
 I.pins_of λp hp=>(Jr.mp hp).elim (λz=>I.pin p (List.mem_append_right _ z)) λz=>by
  obtain⟨hb,e⟩:=zio z;obtain⟨f0,f1,f2,_⟩:=hf p.1 hb;obtain⟨o,e',d⟩:=ho p.1 hb;rw[e] at e';cases e';exact⟨e,f0,f1,f2,d⟩
theorem Inv.unpinned{pl:List (Addr×Obj)}(I:Inv X (pins++pl) σ H s):Inv X pins σ H s:=I.pins_of λp hp=>I.pin p (List.mem_append_right _ (List.mem_append_left _ hp))
theorem xy{iter:Expr}{wi:TI}{pos:Pos}(hp:PassesOwn (model X.prog X.w) X.A X.env X.xe)(hc:X.calm=true)(hi:PI X tg iter wi)(hg:PG X tg g)(hb:PSs X body tb)
  (hs: ∀x,foldedSetIterable iter X.env x=pure x:=by intro _;rfl):PS X (.For tg iter body [] pos) (zl9 wi g tb):=by
 intro pins s σ H D I h;refine wpAny_For (thn (hi pins s σ H _ I h) λv s1 h1=>thn h1 λitv s2 h2=> ?_) hs;obtain⟨it,fp,tn,J,H2,e,I2,T,st2,f2,W,⟨m0,w0⟩,turn⟩:=h2;subst e;have stat: ∀{H':Hp},(∀b∈fp,H' b=none)-> ∀b∈fp,xY X pins H' b:=λhn b hb=>⟨hn b hb,(f2 b hb).2⟩
 refine codeAny_forLoop_any (λn s'=> ∃i σ' H',Inv X pins σ' H' s'/\tn i s'.heap/\(∀b∈fp,H' b=none)/\W i n σ' H') ?_ m0 ⟨0,σ,H2,I2,st2,λb hb=>(f2 b hb).1,w0⟩;rintro n s3 ⟨i,σ3,H3,I3,st3,fr3,w3⟩;rcases turn i n σ3 H3 w3 with⟨stop,qn⟩|⟨go,N,hN,step⟩
 ·refine wpAny_passesOwn hp (thn (T.done X rfl rfl rfl hc i pins s3 σ3 H3 X.xe I3 (stat fr3) st3 stop) λr s4 ⟨hr,I4⟩=> ?_);subst hr;exact wpAny_execs_nil ⟨σ3,H3,I4,qn⟩
 ·refine wpAny_passesOwn hp (thn (T.item X rfl rfl rfl hc i pins s3 σ3 H3 X.xe I3 (stat fr3) st3 go) λr s4 ⟨u,hr,h4⟩=> ?_);subst hr;refine wpAny_passesOwn hp (thn h4 λ_ s5 ⟨x,H5,I5,r5,y5,st5,fr5⟩=> ?_);have I5':=I5.pinned (stat fr5) (T.obj _ _ st5);refine wpAny_passesOwn hp (thn (hg _ s5 σ3 H5 x u _ I5' r5 (step x H5 y5)) λ_ s6 ⟨σ6,H6,I6,q6⟩=> ?_);refine wpAny_passesOwn hp (thn (hb _ s6 σ6 H6 _ I6 q6) λf s7 q7=> ?_);have again: ∀{σ7:St} {H7:Hp},Inv X (pins++uf fp s5.heap) σ7 H7 s7->N σ7 H7-> ∃m,m<n/\ ∃i σ' H',Inv X pins σ' H' s7/\tn i s7.heap/\(∀b∈fp,H' b=none)/\W i m σ' H':=fun {σ7 H7} I7 n7=>by
   obtain⟨m',hm,w7⟩:=hN σ7 H7 n7;refine⟨m',hm,i+1,σ7,H7,I7.unpinned,T.keep _ _ _ st5 λb hb o e=>(I7.pin (b,o) (List.mem_append_right _ (List.mem_append_right _ (uR hb e)))).1,λb hb=> ?_,w7⟩;obtain⟨o,e,d⟩:=T.obj _ _ st5 b hb;exact(I7.pin (b,o) (List.mem_append_right _ (List.mem_append_right _ (uR hb e)))).2.1
  cases f with
  |next=>obtain⟨σ7,H7,I7,n7⟩:=q7;exact again I7 n7
  |cont=>obtain⟨σ7,H7,I7,n7⟩:=q7;exact again I7 n7
  |brk=>obtain⟨σ7,H7,I7,q7⟩:=q7;exact⟨σ7,H7,I7.unpinned,q7⟩
  |ret v=>obtain⟨x7,σ7,H7,I7,r7,q7⟩:=q7;exact⟨x7,σ7,H7,I7.unpinned,r7,q7⟩
end
theorem vM{xs:List V}{g:TG}{tb:TS}{D:Ends}(Pv:Nat->St->Hp->Prop)(h0:Pv 0 σ H)(hl: ∀i σ H,i<=xs.length->Pv i σ H->SqL K H a xs)
  (hs: ∀i x σ H,xs[i]? =some x->Pv i σ H->g x σ H λσ2 H2=>tb {D with nx:=Pv (i+1),ct:=Pv (i+1),bk:=D.nx} σ2 H2) (hd: ∀σ H,Pv xs.length σ H->D.nx σ H):
  ∃W:Nat->Nat->St->Hp->Prop,(∃m,W 0 m σ H)/\ ∀i m σ H,W i m σ H->
   ((Itl K a).stop i H/\D.nx σ H)\/((Itl K a).go i H/\ ∃N:St->Hp->Prop,(∀σ' H',N σ' H'-> ∃m',m'<m/\W (i+1) m' σ' H')/\ ∀x H',(Itl K a).yld i H x H'->g x σ H' λσ2 H2=>tb {D with nx:=N,ct:=N,bk:=D.nx} σ2 H2):=by
 refine⟨λi m σ H=>m=xs.length - i/\i<=xs.length/\Pv i σ H,⟨xs.length,by simp,Jv _,h0⟩,?_⟩;rintro i m σ H ⟨rfl,hi,p⟩;have q:=hl i σ H hi p;by_cases hlt:i<xs.length
 ·refine .inr ⟨⟨xs,xs[i],q,by simp [hlt]⟩,Pv (i+1),λσ' H' p'=>⟨xs.length - (i+1),'o',rfl,hlt,p'⟩,λx H' y=> ?_⟩;obtain⟨e,y⟩:=y;subst e;exact hs i x σ _ (y xs q) p
 ·have e:i=xs.length:=by omega
  subst e;exact .inl ⟨⟨xs,q,Je _⟩,hd σ H p⟩
theorem vq{lo:Int}{n:Nat}{g:TG}{tb:TS}{D:Ends}(Pv:Nat->St->Hp->Prop)(h0:Pv 0 σ H)
  (hs: ∀i σ H,i<n->Pv i σ H->g (.int (lo+i)) σ H λσ2 H2=>tb {D with nx:=Pv (i+1),ct:=Pv (i+1),bk:=D.nx} σ2 H2) (hd: ∀σ H,Pv n σ H->D.nx σ H):
  ∃W:Nat->Nat->St->Hp->Prop,(∃m,W 0 m σ H)/\ ∀i m σ H,W i m σ H->
   ((Itr lo n).stop i H/\D.nx σ H)\/((Itr lo n).go i H/\ ∃N:St->Hp->Prop,(∀σ' H',N σ' H'-> ∃m',m'<m/\W (i+1) m' σ' H')/\ ∀x H',(Itr lo n).yld i H x H'->g x σ H' λσ2 H2=>tb {D with nx:=N,ct:=N,bk:=D.nx} σ2 H2):=by
 refine⟨λi m σ H=>m=n - i/\i<=n/\Pv i σ H,⟨n,by simp,Jv _,h0⟩,?_⟩;rintro i m σ H ⟨rfl,hi,p⟩;by_cases hlt:i<n
 ·refine .inr ⟨hlt,Pv (i+1),λσ' H' p'=>⟨n - (i+1),'o',rfl,hlt,p'⟩,λx H' y=> ?_⟩;obtain⟨e,y⟩:=y;subst e y;exact hs i σ _ hlt p
 ·have e:i=n:=by omega
  subst e;exact .inl ⟨Je _,hd σ H p⟩
theorem jJ{c:TT}{tb:TS}{D:Ends}(Pv:St->Hp->Prop)(μ:St->Hp->Nat)(h0:Pv σ H)
  (hs: ∀σ H,Pv σ H->c σ H λb H1=>if b=true then tb {D with nx:=λσ' H'=>Pv σ' H'/\μ σ' H'<μ σ H,ct:=λσ' H'=>Pv σ' H'/\μ σ' H'<μ σ H,bk:=D.nx} σ H1 else D.nx σ H1)
  (mono: ∀σ H Q Q',(∀b H1,Q b H1->Q' b H1)->c σ H Q->c σ H Q'):k6 c tb D σ H:=by
 refine⟨λm σ H=>m=μ σ H/\Pv σ H,⟨_,rfl,h0⟩,?_⟩;rintro m σ H ⟨rfl,p⟩;refine mono σ H _ _ (λb H1 q=> ?_) (hs σ H p);cases b with
 |true=>exact⟨_,λσ' H' ⟨p',l⟩=>⟨_,l,rfl,p'⟩,q⟩
 |false=>exact q
abbrev R2:=V->V->Hp->VK->Prop
def OpR(X:Cx)(f:Value->Value->Sem Value)(r:R2):Prop:=
 ∀(pins:List (Addr×Obj)) (s:Shared) (σ:St) (H:Hp) (x y:V) (v u:Value) (Q:VK),Inv X pins σ H s->zF x v->zF y u->r x y H Q->
  wpAny (model X.prog X.w) X.A (f v u) (EP X pins σ Q) X.xe s
def UnR(X:Cx)(f:Value->Sem Value)(r:V->Hp->VK->Prop):Prop:=
 ∀(pins:List (Addr×Obj)) (s:Shared) (σ:St) (H:Hp) (x:V) (v:Value) (Q:VK),Inv X pins σ H s->zF x v->r x H Q->
  wpAny (model X.prog X.w) X.A (f v) (EP X pins σ Q) X.xe s
def xb(X:Cx)(f:Value)(r:List V->Hp->VK->Prop):Prop:=
 ∀(pins:List (Addr×Obj)) (s:Shared) (σ:St) (H:Hp) (xs:List V) (us:List Value) (Q:VK),Inv X pins σ H s->zB xs us->r xs H Q->
  wpAny (model X.prog X.w) X.A (call f us) (EP X pins σ Q) X.xe s
def tOp(r:R2)(ta tb:TE):TE:=λσ H Q=>ta σ H λx H1=>tb σ H1 λy H2=>r x y H2 Q
def tUn(r:V->Hp->VK->Prop)(ta:TE):TE:=λσ H Q=>ta σ H λx H1=>r x H1 Q
def rI(C:Int->Int->Prop)(g:Int->Int->V):R2:=λx y H Q=> ∃i j,x= .int i/\y= .int j/\C i j/\Q (g i j) H
def rI0(g:Int->Int->V):R2:=λx y H Q=> ∃i j,x= .int i/\y= .int j/\Q (g i j) H
def rU(g:Int->V):V->Hp->VK->Prop:=λx H Q=> ∃i,x= .int i/\Q (g i) H
section
variable {X:Cx} {a b c:Expr} {ta tb tc:TE} {pos:Pos}
theorem jK(ha:PE X a ta)(hb:PE X b tb){R:V->V->Hp->Prop}(I:Inv X pins σ H s)
  (h:ta σ H λx H1=>tb σ H1 λy H2=>R x y H2) {Q:Value->Shared->Prop} {f:Value->Value->Sem Value}
  (hf: ∀v u s2 x y H2,Inv X pins σ H2 s2->zF x v->zF y u->R x y H2->wpAny (model X.prog X.w) X.A (f v u) Q X.xe s2):
  wpAny (model X.prog X.w) X.A (eval a X.env) (λv s₁=>wpAny (model X.prog X.w) X.A (eval b X.env) (λu s₂=>wpAny (model X.prog X.w) X.A (f v u) Q X.xe s₂) X.xe s₁) X.xe s:=by
 refine thn (ha pins s σ H _ I h) λv s1 ⟨x,H1,I1,r1,q1⟩=> ?_;refine thn (hb pins s1 σ H1 _ I1 q1) λu s2 ⟨y,H2,I2,r2,q2⟩=> ?_;exact hf v u s2 x y H2 I2 r1 r2 q2
theorem zg{op:Operator}(ho:OpR X (binaryOp op) r)(ha:PE X a ta)(hb:PE X b tb):PE X (.BinOp a op b pos) (tOp r ta tb):=by
 intro pins s σ H Q I h;exact wpAny_BinOp (jK ha hb I h λv u s2 x y H2 I2 rx ry q=>ho pins s2 σ H2 x y v u Q I2 rx ry q)
theorem vN{op:UnaryOp}{r:V->Hp->VK->Prop}(ho:UnR X (unaryOp op) r)(ha:PE X a ta):PE X (.UnaryOp op a pos) (tUn r ta):=by
 intro pins s σ H Q I h;exact UnaryOp_ (thn (ha pins s σ H _ I h) λv s1 ⟨x,H1,I1,r1,q1⟩=>ho pins s1 σ H1 x v Q I1 r1 q1)
theorem opI{f:Value->Value->Sem Value}{C:Int->Int->Prop}{g:Int->Int->Int}
  (rule: ∀(i j:Int) (t u:Tok) (s:Shared) (Q:Value->Shared->Prop) (E:Value->Shared->Prop),C i j->Q (.int (g i j) s.toks) {s with toks:=s.toks+1}->wpAny (model X.prog X.w) X.A (f (.int i t) (.int j u)) Q E s):
  OpR X f (rI C λi j=> .int (g i j)):=by
 intro pins s σ H x y v u Q I rx ry h;obtain⟨i,j,rfl,rfl,hc,q⟩:=h;obtain⟨t,rfl⟩:=rx;obtain⟨t',rfl⟩:=ry;exact rule i j t t' s _ _ hc ⟨.int (g i j),H,I.tok _,⟨_,rfl⟩,q⟩
theorem zma{f:Value->Value->Sem Value}{g:Int->Int->Int}
  (rule: ∀(i j:Int) (t u:Tok) (s:Shared) (Q:Value->Shared->Prop) (E:Value->Shared->Prop),Q (.int (g i j) s.toks) {s with toks:=s.toks+1}->wpAny (model X.prog X.w) X.A (f (.int i t) (.int j u)) Q E s):
  OpR X f (rI0 λi j=> .int (g i j)):=by
 intro pins s σ H x y v u Q I rx ry h;obtain⟨i,j,rfl,rfl,q⟩:=h;obtain⟨t,rfl⟩:=rx;obtain⟨t',rfl⟩:=ry;exact rule i j t t' s _ _ ⟨.int (g i j),H,I.tok _,⟨_,rfl⟩,q⟩
theorem uS{f:Value->Value->Sem Value}{g:Int->Int->Bool}
  (rule: ∀(i j:Int) (t u:Tok) (s:Shared) (Q:Value->Shared->Prop) (E:Value->Shared->Prop),Q (.bool (g i j)) s->wpAny (model X.prog X.w) X.A (f (.int i t) (.int j u)) Q E s):
  OpR X f (rI0 λi j=> .bl (g i j)):=by
 intro pins s σ H x y v u Q I rx ry h;obtain⟨i,j,rfl,rfl,q⟩:=h;obtain⟨t,rfl⟩:=rx;obtain⟨t',rfl⟩:=ry;exact rule i j t t' s _ _ ⟨.bl (g i j),H,I,rfl,q⟩
def yp(i j:Int):Prop:=0<j/\j<1073741824
def zmC(i j:Int):Prop:=0<=j/\j<=1000000/\i.natAbs<2 ^ 64
def uT(i j:Int):Prop:=(-(2 ^ 64)<i/\i<2 ^ 64)\/(-(2 ^ 64)<j/\j<2 ^ 64)
theorem uT.ok{i j:Int}(h:uT i j):IntMulOk i j:=by
 rcases h with⟨h1,h2⟩|⟨h1,h2⟩
 ·exact .of_left (intBits_le_64 h1 h2)
 ·exact .of_right (intBits_le_64 h1 h2)
theorem zK:OpR X (binaryOp .Add) (rI0 λi j=> .int (i+j)):=zma λ_ _ _ _ _ _ _ q=>add_int q
theorem yc:OpR X (binaryOp .Sub) (rI0 λi j=> .int (i - j)):=zma λ_ _ _ _ _ _ _ q=>sub_int q
theorem qY:OpR X (binaryOp .Mult) (rI uT λi j=> .int (i*j)):=opI λ_ _ _ _ _ _ _ hc q=>mul_int q hc.ok
theorem zP:OpR X (binaryOp .FloorDiv) (rI yp λi j=> .int (i / j)):=opI λi j _ _ _ _ _ hc q=>by
 have h1:(0:Int)<j:=hc.1;have h2:j<1073741824:=hc.2;exact floordiv_int 'o' (by rw[Int.fdiv_eq_ediv_of_nonneg i 'o'];exact q) (.inl (PyProof.noPylong_small 'o'))
theorem zH:OpR X (binaryOp .Mod) (rI (λ_ j=>0<j) λi j=> .int (i % j)):=opI λi j _ _ _ _ _ hc q=>by
 have h1:(0:Int)<j:=hc;exact mod_int' 'o' (by rw[Int.fmod_eq_emod_of_nonneg i 'o'];exact q)
theorem w9:OpR X (binaryOp .Pow) (rI zmC λi j=> .int (i ^ j.toNat)):=opI λ_ _ _ _ _ _ _ hc q=>pow_int_small hc.1 hc.2.1 hc.2.2 q
theorem unI{f:Value->Sem Value}{g:Int->Int}
  (rule: ∀(i:Int) (t:Tok) (s:Shared) (Q:Value->Shared->Prop) (E:Value->Shared->Prop),Q (.int (g i) s.toks) {s with toks:=s.toks+1}->wpAny (model X.prog X.w) X.A (f (.int i t)) Q E s):
  UnR X f (rU λi=> .int (g i)):=by
 intro pins s σ H x v Q I rx h;obtain⟨i,rfl,q⟩:=h;obtain⟨t,rfl⟩:=rx;exact rule i t s _ _ ⟨.int (g i),H,I.tok _,⟨_,rfl⟩,q⟩
theorem vO:UnR X (unaryOp .USub) (rU λi=> .int (-i)):=unI λ_ _ _ _ _ q=>neg_int q
end
def vt:V->V->Bool
 | .non, .non=>true| .non, .int _=>true| .int _, .non=>true| .non, .bl _=>true| .bl _, .non=>true| .non, .str _=>true| .str _, .non=>true
 | .int _, .int _=>true| .bl _, .bl _=>true| .str _, .str _=>true| .byt _, .byt _=>true
 | .int _, .str _=>true| .str _, .int _=>true| .bl _, .str _=>true| .str _, .bl _=>true
 |_,_=>false
def rEq:R2:=λx y H Q=>vt x y=true/\Q (.bl (decide (x=y))) H
def rNe:R2:=λx y H Q=>vt x y=true/\Q (.bl (!decide (x=y))) H
theorem zhK{i j:Int}:decide (V.int i=V.int j)=(i==j):=by
 rw[Bool.eq_iff_iff];simp
theorem zi0{i j:Bool}:decide (V.bl i=V.bl j)=(i==j):=by
 rw[Bool.eq_iff_iff];simp
theorem zhL{i j:Str}:decide (V.str i=V.str j)=(i==j):=by
 rw[Bool.eq_iff_iff];simp
theorem zhM{i j:Array UInt8}:decide (V.byt i=V.byt j)=(i.toList==j.toList):=by
 rw[Bool.eq_iff_iff];cases i;cases j;simp
section
variable {X:Cx} {a b c:Expr} {ta tb tc:TE} {pos:Pos}
theorem qb{Q:VK}{k k':Bool}(I:Inv X pins σ H s)(q:Q (.bl k) H)(e:k=k'):EP X pins σ Q (.bool k') s:=by
 subst e;exact⟨.bl k,H,I,rfl,q⟩
theorem yf:OpR X (compareOp .Eq) rEq:=by
 intro pins s σ H x y v u Q I rx ry h;obtain⟨hs,q⟩:=h;cases x with
 |non=>
  cases rx;cases y with
  |non=>cases ry;exact PySem.EqNone.eq_none_none (qb I q (by simp))
  |bl j=>cases ry;exact PySem.EqNone.eq_none_bool (qb I q (by simp))
  |int j=>obtain⟨t',rfl⟩:=ry;exact PySem.EqNone.eq_none_int (qb I q (by simp))
  |str j=>obtain⟨t',rfl⟩:=ry;exact PySem.EqNone.eq_none_str (qb I q (by simp))
  |_=>exact absurd (show false=true from hs) Ju
 |bl i=>
  cases rx;cases y with
  |non=>cases ry;exact PySem.EqNone.eq_bool_none (qb I q (by simp))
  |bl j=>cases ry;exact eq_bool (qb I q zi0)
  |str j=>obtain⟨t',rfl⟩:=ry;exact PySem.EqMixed.eq_bool_str (qb I q (by simp))
  |_=>exact absurd (show false=true from hs) Ju
 |int i=>
  obtain⟨t,rfl⟩:=rx;cases y with
  |non=>cases ry;exact PySem.EqNone.eq_int_none (qb I q (by simp))
  |int j=>obtain⟨t',rfl⟩:=ry;exact eq_int (qb I q zhK)
  |str j=>obtain⟨t',rfl⟩:=ry;exact PySem.EqMixed.eq_int_str (qb I q (by simp))
  |_=>exact absurd (show false=true from hs) Ju
 |str i=>
  obtain⟨t,rfl⟩:=rx;cases y with
  |non=>cases ry;exact PySem.EqNone.eq_str_none (qb I q (by simp))
  |bl j=>cases ry;exact PySem.EqMixed.eq_str_bool (qb I q (by simp))
  |int j=>obtain⟨t',rfl⟩:=ry;exact PySem.EqMixed.eq_str_int (qb I q (by simp))
  |str j=>obtain⟨t',rfl⟩:=ry;exact eq_str (qb I q zhL)
  |_=>exact absurd (show false=true from hs) Ju
 |byt i=>
  obtain⟨t,rfl⟩:=rx;cases y with
  |byt j=>obtain⟨t',rfl⟩:=ry;exact PySem.W.eq_bytes (qb I q zhM)
  |_=>exact absurd (show false=true from hs) Ju
 |_=>cases y<;>exact absurd (show false=true from hs) Ju
theorem wB:OpR X (compareOp .NotEq) rNe:=by
 intro pins s σ H x y v u Q I rx ry h;obtain⟨hs,q⟩:=h;cases x with
 |non=>
  cases rx;cases y with
  |non=>cases ry;exact PySem.EqNone.ne_none_none (qb I q (by simp))
  |bl j=>cases ry;exact PySem.EqNone.ne_none_bool (qb I q (by simp))
  |int j=>obtain⟨t',rfl⟩:=ry;exact PySem.EqNone.ne_none_int (qb I q (by simp))
  |str j=>obtain⟨t',rfl⟩:=ry;exact PySem.EqNone.ne_none_str (qb I q (by simp))
  |_=>exact absurd (show false=true from hs) Ju
 |bl i=>
  cases rx;cases y with
  |non=>cases ry;exact PySem.EqNone.ne_bool_none (qb I q (by simp))
  |bl j=>cases ry;exact ne_bool (qb I q (congrArg not zi0))
  |str j=>obtain⟨t',rfl⟩:=ry;exact PySem.EqMixed.ne_bool_str (qb I q (by simp))
  |_=>exact absurd (show false=true from hs) Ju
 |int i=>
  obtain⟨t,rfl⟩:=rx;cases y with
  |non=>cases ry;exact PySem.EqNone.ne_int_none (qb I q (by simp))
  |int j=>obtain⟨t',rfl⟩:=ry;exact ne_int (qb I q (congrArg not zhK))
  |str j=>obtain⟨t',rfl⟩:=ry;exact PySem.EqMixed.ne_int_str (qb I q (by simp))
  |_=>exact absurd (show false=true from hs) Ju
 |str i=>
  obtain⟨t,rfl⟩:=rx;cases y with
  |non=>cases ry;exact PySem.EqNone.ne_str_none (qb I q (by simp))
  |bl j=>cases ry;exact PySem.EqMixed.ne_str_bool (qb I q (by simp))
  |int j=>obtain⟨t',rfl⟩:=ry;exact PySem.EqMixed.ne_str_int (qb I q (by simp))
  |str j=>obtain⟨t',rfl⟩:=ry;exact ne_str (qb I q (congrArg not zhL))
  |_=>exact absurd (show false=true from hs) Ju
 |byt i=>
  obtain⟨t,rfl⟩:=rx;cases y with
  |byt j=>obtain⟨t',rfl⟩:=ry;exact PySem.W.ne_bytes (qb I q (congrArg not zhM))
  |_=>exact absurd (show false=true from hs) Ju
 |_=>cases y<;>exact absurd (show false=true from hs) Ju
theorem qP:OpR X (compareOp .Lt) (rI0 λi j=> .bl (decide (i<j))):=uS λ_ _ _ _ _ _ _ q=>lt_int q
theorem uU:OpR X (compareOp .LtE) (rI0 λi j=> .bl (decide (i<=j))):=uS λ_ _ _ _ _ _ _ q=>le_int q
theorem wD:OpR X (compareOp .Gt) (rI0 λi j=> .bl (decide (j<i))):=uS λ_ _ _ _ _ _ _ q=>gt_int q
theorem uV:OpR X (compareOp .GtE) (rI0 λi j=> .bl (decide (j<=i))):=uS λ_ _ _ _ _ _ _ q=>ge_int q
theorem zlh:OpR X (compareOp .Is) (λx y H Q=>y= .non/\Q (.bl (decide (x= .non))) H):=by
 intro pins s σ H x y v u Q I rx ry h;obtain⟨rfl,q⟩:=h;cases ry;refine is_none_gen (qb I q ?_);cases x<;>first
  |(cases rx;rfl)
  |(obtain⟨t,rfl⟩:=rx;rfl)
theorem zhP:OpR X (compareOp .IsNot) (λx y H Q=>y= .non/\Q (.bl (!decide (x= .non))) H):=by
 intro pins s σ H x y v u Q I rx ry h;obtain⟨rfl,q⟩:=h;cases ry;refine isnot_none_gen (qb I q ?_);cases x<;>first
  |(cases rx;rfl)
  |(obtain⟨t,rfl⟩:=rx;rfl)
theorem zx(b:Expr)(h:op≠ .In:=by decide)(h2:op≠ .NotIn:=by decide):behindInMarks op b=false:=by
 have e1:(op==CmpOp.In)=false:=by cases op<;>first|rfl|exact absurd rfl h
 have e2:(op==CmpOp.NotIn)=false:=by cases op<;>first|rfl|exact absurd rfl h2
 cases b<;>simp [behindInMarks,e1,e2]
theorem qT(ho:OpR X (compareOp op) r)(ha:PE X a ta)(hb:PE X b tb)(hm:behindInMarks op b=false):PE X (.Compare a [op] [b] pos) (tOp r ta tb):=by
 intro pins s σ H Q I h;exact wpAny_Compare1 (jK ha hb I h λv u s2 x y H2 I2 rx ry q=>ho pins s2 σ H2 x y v u Q I2 rx ry q) hm
def yH(t:TE):TT:=λσ H Q=>t σ H λx H'=> ∃k,x= .bl k/\Q k H'
theorem zC(ho:OpR X (compareOp op) r)(ha:PE X a ta)(hb:PE X b tb)(hm:behindInMarks op b=false):PT X (.Compare a [op] [b] pos) (yH (tOp r ta tb)):=by
 intro pins s σ H Q I h;refine wpAny_isTrue_Compare1 (thn (ha pins s σ H _ I h) λv s1 ⟨x,H1,I1,r1,q1⟩=>thn (hb pins s1 σ H1 _ I1 q1) λu s2 ⟨y,H2,I2,r2,q2⟩=>
  thn (ho pins s2 σ H2 x y v u _ I2 r1 r2 q2) λc s3 ⟨z,H3,I3,r3,k,e,q3⟩=> ?_) hm
 subst e;cases r3;exact wpAny_truthy_bool ⟨H3,I3,q3⟩
def qc(r r':R2)(ta tb tc:TE):TE:=λσ H Q=>ta σ H λx H1=>tb σ H1 λy H2=>r x y H2 λz H3=> ∃k,z= .bl k/\
 (if k=true then tc σ H3 λw' H4=>r' y w' H4 Q else Q (.bl false) H3)
theorem uW:(sizeLine:Nat)<2 ^ 63:=by rw[sizeLine_eq];decide
theorem xR{x:V}(r:zB [x] us): ∃u,us= [u]/\zF x u:=by
 cases r with
 |cons r1 r2=>cases r2;exact⟨_,rfl,r1⟩
theorem uX{x y:V}(r:zB [x,y] us): ∃u w',us= [u,w']/\zF x u/\zF y w':=by
 cases r with
 |cons r1 r2=>
  cases r2 with
  |cons r3 r4=>cases r4;exact⟨_,_,rfl,r1,r3⟩
theorem ziq(hc:X.calm=true):xb X (.builtin "max") (λxs H Q=> ∃i j,xs= [.int i, .int j]/\Q (.int (if j>i then j else i)) H):=by
 intro pins s σ H xs us Q I r h;obtain⟨i,j,rfl,q⟩:=h;obtain⟨u,w',rfl,⟨t,rfl⟩,⟨t',rfl⟩⟩:=uX r;refine max_two_ints (I.ok.hd hc) λh' tk k=>⟨_,H,I.kept k,?_,q⟩
 by_cases hj:j>i
 ·rw[Jg hj,Jg hj];exact⟨_,rfl⟩
 ·rw[Jf hj,Jf hj];exact⟨_,rfl⟩
theorem vb(hc:X.calm=true):xb X (.builtin "min") (λxs H Q=> ∃i j,xs= [.int i, .int j]/\Q (.int (if j<i then j else i)) H):=by
 intro pins s σ H xs us Q I r h;obtain⟨i,j,rfl,q⟩:=h;obtain⟨u,w',rfl,⟨t,rfl⟩,⟨t',rfl⟩⟩:=uX r;refine min_two_ints (I.ok.hd hc) λh' tk k=>⟨_,H,I.kept k,?_,q⟩
 by_cases hj:j<i
 ·rw[Jg hj,Jg hj];exact⟨_,rfl⟩
 ·rw[Jf hj,Jf hj];exact⟨_,rfl⟩
theorem ug:xb X (.type "int") (λxs H Q=>(∃i,xs= [.int i]/\Q (.int i) H)\/ ∃k,xs= [.bl k]/\Q (.int (if k then 1 else 0)) H):=by
 intro pins s σ H xs us Q I r h;rcases h with⟨i,rfl,q⟩|⟨k,rfl,q⟩
 ·obtain⟨u,rfl,t,rfl⟩:=xR r;exact call_int_int ⟨.int i,H,I,⟨_,rfl⟩,q⟩
 ·obtain⟨u,rfl,r1⟩:=xR r;cases r1;exact call_int_bool ⟨.int (if k then 1 else 0),H,I.tok _,⟨_,rfl⟩,q⟩
theorem zeK:xb X (.builtin "divmod") (λxs H Q=> ∃i j,xs= [.int i, .int j]/\yp i j/\ ∀p,H p=none->Q (.ref p) (upd H p (.tup [.int (i / j), .int (i % j)]))):=by
 intro pins s σ H xs us Q I r h;obtain⟨i,j,rfl,⟨h1,h2⟩,q⟩:=h;obtain⟨u,w',rfl,⟨t,rfl⟩,⟨t',rfl⟩⟩:=uX r;refine divmod_int 'o' ?_ (.inl (PyProof.noPylong_small 'o'));rw[Int.fdiv_eq_ediv_of_nonneg i 'o',Int.fmod_eq_emod_of_nonneg i 'o'];have hn:H s.heap.objs.size=none:=I.hok.fresh (Je _);refine⟨.ref s.heap.objs.size,_,?_,rfl,q _ hn⟩;refine I.laid (λb o e=>JX _ e) (Je _) ⟨by simp only[Jp,List.length_nil];rw[sizeLine_eq];decide, [.int (i / j) s.toks, .int (i % j) (s.toks+1)], .cons ⟨_,rfl⟩ (.cons ⟨_,rfl⟩ .nil),?_⟩;exact⟨_,JZ s.heap rfl,rfl,0,rfl⟩
end
structure ObjM (h:Heap) (x dx C:Addr) (mA:Str->Option Value):Prop where
 obj:h.get? x=some (PySem.W.instObj C dx)
 ns:h.Ns1 dx mA
 ne:dx≠x
theorem zir{dx:Addr}{mA:Str->Option Value}(n:h.Ns1 dx mA): ∃od,h.get? dx=some od/\ ∀name,PySem.W.lookIn name od=some (mA name):=by
 obtain⟨o,es,ep,ho,hd,hk,_,hm⟩:=n;refine⟨o,ho,λname=> ?_⟩;have e:=hm name;unfold nsFind findBy at e;rw[<-Array.find?_toList] at e;unfold PySem.W.lookIn;rw[hd];dsimp only;split
 ·rename_i y q;rw[q] at e;exact congrArg some e
 ·rename_i q;rw[q] at e;have a:es.toList.any (·.refKey)=false:=by
   rw[List.any_eq_false];intro y hy;obtain⟨z,t,hkey⟩:=hk y (Array.mem_toList_iff.mp hy);simp [DictEntry.refKey,hkey]
  have a': ¬es.toList.any (·.refKey)=true:=by rw[a];exact Ju
  rw[Jf a'];exact congrArg some e
theorem ObjM.look{x dx C:Addr}{mA:Str->Option Value}(I:ObjM h x dx C mA): ∃od,PySem.W.InstAt h x (PySem.W.instObj C dx) C (some od)/\ ∀name,PySem.W.lookIn name od=some (mA name):=
 let ⟨od,ho,hl⟩:=zir I.ns
 ⟨od,⟨I.obj,rfl,rfl,ho⟩,hl⟩
section
variable {prog:Program} {w:World} {A:Around} {E:Value->Shared->Prop} {s:Shared} {K:Fg} {x dx C f:Addr} {mA:Str->Option Value} {name:Str} {v:Value}
end
theorem xW.some_of{o:Option Value}(r:xW (some v) o): ∃u,o=some u/\zF v u:=by
 cases o with
 |none=>exact(show False from r).elim
 |some u=>exact⟨u,rfl,r⟩
section
variable {P:Program} {w:World} {H H':Hp} {h h':Heap} {a C dx:Addr} {fs fs':List (Str×V)}
theorem zkf(hok:HOk P w H h)(e:H a=some (.ins C dx fs)): ∃mA,ObjM h a dx C mA/\(∀f,xW (fs.lookup f) (mA f))/\PySem.Within mA (fs.map (·.1))/\fs.length<=1000/\H dx=some (.own a):=by
 obtain⟨d,z,ne,ob,mA,n,r,q⟩:=(show ye P w H h a (.ins C dx fs) from hok a _ e)
 exact⟨mA,⟨ob,n,ne⟩,r,q,z,d⟩
end
structure Cls (K:Fg) (C:Addr):Prop where
 pg:PySem.W.plainGet K C Str.empty=true
 hd:PySem.W.hasDictIn K C=true
 po:PySem.W.plainOver K C=true
 sa:PySem.W.findIn K (.ref C) "__setattr__"=some (some (.builtin "object.__setattr__"))
theorem Cls.get{C:Addr}(c:Cls K C)(f:Str):PySem.W.plainGet K C f=true:=c.pg
structure Con (K:Fg) (C:Addr) (f:Str) (v:V) (u:Value):Prop where
 at_:PySem.W.findIn K (.ref C) f=some (some u)
 rel:zF v u
 get:PySem.W.specialIn K u "__get__"=some none
 cp:PySem.W.copiedNames.contains f=false
structure Meth (K:Fg) (C:Addr) (m:Str) (f:Addr):Prop where
 at_:PySem.W.findIn K (.ref C) m=some (some (.ref f))
 fn:PySem.W.isFn K (.ref f)=true
 kp:PySem.W.keepIn K (.ref f)=true
section
variable {X:Cx} {pins:List (Addr×Obj)} {σ:St} {H:Hp} {s:Shared} {a C dx:Addr} {fs:List (Str×V)} {f:Str} {v:V} {A:Around} {E:Value->Shared->Prop}
end
section
variable {X:Cx} {o e value:Expr} {f:Str} {pos pos' tpos:Pos} {ta tv:TE}
end
section
variable {X:Cx} {pins:List (Addr×Obj)} {σ:St} {H:Hp} {s:Shared} {A:Around} {E:Value->Shared->Prop} {Q:Value->Shared->Prop} {c:Value} {b:Bool}
inductive TyOf (K:Fg) (H:Hp):V->Value->Prop where
 |non:TyOf K H .non (.type "NoneType")
 |bl (x:Bool):TyOf K H (.bl x) (.type "bool")
 |int (i:Int):TyOf K H (.int i) (.type "int")
 |str (x:Str):TyOf K H (.str x) (.type "str")
 |flt (x:UInt64):TyOf K H (.flt x) (.type "float")
 |lst {a:Addr} {xs:List V} (e:H a=some (.lst xs)):TyOf K H (.ref a) (.type "list")
 |frz {a:Addr} {o:Obj} {xs:List V} (e:H a=some (.frz o (.lst xs))):TyOf K H (.ref a) (.type "list")
 |tup {a:Addr} {xs:List V} (e:H a=some (.tup xs)):TyOf K H (.ref a) (.type "tuple")
 |dK {a:Addr} {kvs:List (Key×V)} (e:H a=some (.dK kvs)):TyOf K H (.ref a) (.type "dict")
 |dT {a:Addr} {kvs:List (List Key×V)} (e:H a=some (.dT kvs)):TyOf K H (.ref a) (.type "dict")
 |ins {a C dx:Addr} {fs:List (Str×V)} (e:H a=some (.ins C dx fs)) (cl:Cls K C) (ha:PySem.W.findIn K (.ref C) "__class__"=some (some (.builtin "object.__class__")))
   (hn:PySem.W.specialIn K (.builtin "object.__class__") "__get__"=some (some (.builtin "getset_descriptor.__get__"))) (htk:PySem.W.takesIn K (.builtin "object.__class__")=some true)
   (hm:PySem.W.mroIn K C (.type "object")=some true):TyOf K H (.ref a) (.ref C)
theorem zis{x:V}{t:Value}(I:Inv X pins σ H s)(rx:zF x u)(ty:TyOf X.K H x t)(e:PySem.W.kitOne X.K t c=some b)(h: ∀tk,Q (.bool b) {s with toks:=tk}):
  wpAny (model X.prog X.w) A (call (.builtin "isinstance") [u,c]) Q E s:=by
 cases ty with
 |non=>cases (show u=Value.none from rx);exact PySem.W.kia_one PySem.W.kitx_none I.kIn True.intro e (λz=>nomatch z) h
 |bl y=>cases (show u=Value.bool y from rx);exact PySem.W.kia_one PySem.W.kitx_bool I.kIn True.intro e (λz=>nomatch z) h
 |int i=>obtain⟨t,q⟩:=(show∃t,u=Value.int i t from rx);cases q;exact PySem.W.kia_one PySem.W.kitx_int I.kIn True.intro e (λz=>nomatch z) h
 |str y=>obtain⟨t,q⟩:=(show∃t,u=Value.str y t from rx);cases q;exact PySem.W.kia_one PySem.W.kitx_str I.kIn True.intro e (λz=>nomatch z) h
 |flt y=>obtain⟨t,q⟩:=(show∃t,u=Value.float y t from rx);cases q;exact PySem.W.kia_one PySem.W.kitx_float I.kIn True.intro e (λz=>nomatch z) h
 | @lst a xs ea=>
  cases (show u=Value.ref a from rx);obtain⟨_,_,n,_,h1⟩:=(show ye X.prog X.w H s.heap a (.lst xs) from I.hok a _ ea)
  exact PySem.W.kia_one PySem.W.kitx_list I.kIn ⟨_,h1,rfl⟩ e (λz=>nomatch z) h
 | @frz a ob xs ea=>
  cases (show u=Value.ref a from rx);obtain⟨_,_,_,n,_,h1⟩:=(show ye X.prog X.w H s.heap a (.frz ob (.lst xs)) from I.hok a _ ea)
  exact PySem.W.kia_one PySem.W.kitx_list I.kIn ⟨_,h1,rfl⟩ e (λz=>nomatch z) h
 | @tup a xs ea=>
  cases (show u=Value.ref a from rx);obtain⟨_,_,_,p⟩:=(show ye X.prog X.w H s.heap a (.tup xs) from I.hok a _ ea)
  obtain⟨o,h1,h2,_⟩:=p;exact PySem.W.kia_one PySem.W.kitx_tuple I.kIn ⟨o,h1,h2⟩ e (λz=>nomatch z) h
 | @dK a kvs ea=>
  cases (show u=Value.ref a from rx);obtain⟨_,_,vs,_,p⟩:=(show ye X.prog X.w H s.heap a (.dK kvs) from I.hok a _ ea)
  obtain⟨o,es,ep,h1,h2,_⟩:=p;exact PySem.W.kia_one PySem.W.kitx_dict I.kIn ⟨o,h1,h2.1⟩ e (λz=>nomatch z) h
 | @dT a kvs ea=>
  cases (show u=Value.ref a from rx);obtain⟨_,_,xs,_,o,es,ep,h1,h2,_⟩:=(show ye X.prog X.w H s.heap a (.dT kvs) from I.hok a _ ea)
  exact PySem.W.kia_one PySem.W.kitx_dict I.kIn ⟨o,h1,h2.1⟩ e (λz=>nomatch z) h
 | @ins a C dx fs ea cl ha hn htk hm=>
  cases (show u=Value.ref a from rx);obtain⟨mA,O,_⟩:=zkf I.hok ea;obtain⟨od,J,_⟩:=O.look;exact PySem.W.kia_one (PySem.W.kitx_own (cl.get _) cl.hd ha hn htk hm) I.kIn J e (λz=>nomatch z) h
end
structure Room (k:Nat) (A:Around):Prop where
 hd:A.handled=none
 dp:A.depth+3*k+5<recursionLimit
 un:A.units+16*k+200<cLine
theorem Room.mono{k:Nat}(r:Room k A)(h:j<=k):Room j A:=⟨r.hd,by have:=r.dp;omega,by have:=r.un;omega⟩
theorem Room.deeper{k:Nat}{A:Around}(r:Room (k+1) A)(env:Env):Room k (A.deeper env):=
 ⟨r.hd,by have:=r.dp;show A.depth+1+3*k+5<_;omega,by have:=r.un;show A.units+3+16*k+200<_;omega⟩
theorem Room.in1{k:Nat}{A:Around}(r:Room (k+1) A):Room k A.in1:=
 ⟨r.hd,by have:=r.dp;show A.depth+3*k+5<_;omega,by have:=r.un;show A.units+1+16*k+200<_;omega⟩
theorem Room.depth{k:Nat}{A:Around}(r:Room k A):A.depth<recursionLimit:=by have:=r.dp;omega
theorem Room.units{k:Nat}{A:Around}(r:Room k A):A.units+64<cLine:=by have:=r.un;omega
def yq:TA:=λ_ H Q=>Q [] H
def yr(ta:TE)(tr:TA):TA:=λσ H Q=>ta σ H λx H1=>tr σ H1 λxs H2=>Q (x::xs) H2
section
variable {X:Cx} {e:Expr} {es:List Expr} {te:TE} {t:TA} {pos:Pos}
theorem ze:PA X [] yq:=λ_ _ _ _ H Q I h=>Calls.spliced_nil ⟨[],H,I, .nil,h⟩
theorem zc(ha:PE X e te)(hr:PA X es t)(hs:starEach (e::es) X.env=(false,eval e X.env)::starEach es X.env:=by rfl):PA X (e::es) (yr te t):=by
 intro pos pins s σ H Q I h;rw[hs];show wpAny _ _ (spliced ((false,eval e X.env)::backTo pos (starEach es X.env))) _ _ s;refine Calls.spliced_cons (thn (ha pins s σ H _ I h) λu s1 ⟨x,H1,I1,r1,q1⟩=> ?_);exact thn (hr pos pins s1 σ H1 _ I1 q1) λus s2 ⟨xs,H2,I2,r2,q2⟩=>⟨x::xs,H2,I2, .cons r1 r2,q2⟩
def yI(t:TA):TE:=λσ H Q=>t σ H λxs H1=>xs.length<=sizeLine/\ ∀p,H1 p=none->Q (.ref p) (upd H1 p (.tup xs))
def qd(t:TA):TE:=λσ H Q=>t σ H λxs H1=>xs.length<=sizeLine/\ ∀p,H1 p=none->Q (.ref p) (upd H1 p (.lst xs))
theorem zli{x1}(h:PA X es t):PE X (.Tuple es x1 pos) (yI t):=by
 intro pins s σ H Q I hq;refine wpAny_Tuple_spliced (thn (h pos pins s σ H _ I hq) λus s1 ⟨xs,H1,I1,r,z,q⟩=>⟨by rw[<-r.length];exact z,?_⟩);have hf:H1 s1.heap.objs.size=none:=I1.hok.fresh (Je _);refine⟨.ref s1.heap.objs.size,upd H1 s1.heap.objs.size (.tup xs),I1.laid (t':=s1.toks) (λb u e=>JX _ e) (Je _) ?_,rfl,q _ hf⟩;exact⟨z,us,r,⟨_,JZ _ rfl,rfl,_,rfl⟩⟩
end
abbrev Sp:=List V->Hp->VK->XK->Prop
abbrev CXT:=List Env->Hp->Shared->XK->Value->Shared->Prop
structure Env0 (P:Program) (w:World) (K:Fg) (mg:Str->Option Value) (base:Heap) (A:Around) (outer:List Env) (s:Shared) (H:Hp):Prop where
 frames:A.frames=some outer
 mod:Mod K mg base
 bs: ∀b o,base.get? b=some o->s.heap.get? b=some o/\H b=none
 bsz:base.objs.size<=s.heap.objs.size
 funs:s.heap.FunFrames base outer
 frf: ∀b∈frs outer,H b=none
 hok:HOk P w H s.heap
 bare:AllBare s.gens
def CE(outer:List Env)(P:Program)(w:World)(H:Hp)(s:Shared)(Q:VK)(u:Value)(s':Shared):Prop:=
 ∃v H',s'.os=s.os/\AllBare s'.gens/\Un (frs outer) [] H H' s.heap s'.heap/\HOk P w H' s'.heap/\zF v u/\Q v H'
def CR(CX:CXT)(outer:List Env)(P:Program)(w:World)(H:Hp)(s:Shared)(Q:VK)(E:XK)(r:Result)(s':Shared):Prop:=
 match r with
 | .ok (.ret u)=>CE outer P w H s Q u s'
 | .ok _=>False
 | .error e=>CX outer H s E e s'
structure FnOk (P:Program) (w:World) (K:Fg) (mg:Str->Option Value) (base:Heap) (CX:CXT) (k:Nat) (f:Addr) (fd:FuncData) (ps:List Str) (sp:Sp):Prop where
 len: ∀vs H Q E,sp vs H Q E->vs.length=ps.length
 run: ∀(A:Around) (outer:List Env) (s:Shared) (H:Hp) (args:Args) (us:List Value) (vs:List V) (Q:VK) (E:XK),Room k A->Env0 P w K mg base A outer s H->BindsTo s fd args (ps.zip us)->zB vs us->sp vs H Q E->
  codeAny (model P w) A (.call (.ref f) args) (CR CX outer P w H s Q E) s
theorem FnOk.mono{P:Program}{w:World}{K:Fg}{mg:Str->Option Value}{base:Heap}{CX:CXT}{j k:Nat}{f:Addr}{fd:FuncData}{ps:List Str}{sp:Sp}(F:FnOk P w K mg base CX j f fd ps sp)(h:j<=k):
  FnOk P w K mg base CX k f fd ps sp:=⟨F.len,λA outer s H args us vs Q E hr=>F.run A outer s H args us vs Q E (hr.mono h)⟩
theorem FnOk.imp{k:Nat}{sp sp':Sp}(F:FnOk P w K mg base CX k f fd ps sp)
  (h: ∀vs H Q E,sp' vs H Q E->sp vs H Q E):FnOk P w K mg base CX k f fd ps sp':=
 ⟨λvs H Q E q=>F.len vs H Q E (h _ _ _ _ q),λA outer s H args us vs Q E hr he hb hv hs=>F.run A outer s H args us vs Q E hr he hb hv (h _ _ _ _ hs)⟩
theorem Env0.in1{P:Program}{w:World}{K:Fg}{mg:Str->Option Value}{base:Heap}{A:Around}{outer:List Env}{s:Shared}{H:Hp}(e:Env0 P w K mg base A outer s H):
  Env0 P w K mg base A.in1 outer s H:=⟨e.frames,e.mod,e.bs,e.bsz,e.funs,e.frf,e.hok,e.bare⟩
section
variable {X:Cx} {pins:List (Addr×Obj)} {σ:St} {H:Hp} {s s':Shared}
theorem Inv.env0(I:Inv X pins σ H s):Env0 X.prog X.w X.K X.mg X.base X.A X.stack s H:=
 ⟨I.ok.frames,I.ok.mod,I.bs,JE I.ok.bsz I.sz,I.stack,I.stkFree,I.hok,I.bare⟩
theorem Inv.after{Q:VK}(I:Inv X pins σ H s)(h:CE X.stack X.prog X.w H s Q u s'):EP X pins σ Q u s':=by
 obtain⟨v,H',os,bare,un,hok,r,q⟩:=h;obtain⟨hh,g,d,t,os'⟩:=s';obtain rfl:os'=s.os:=os;exact⟨v,H',I.call (h':=hh) (g':=g) (d':=d) (t':=t) (ch:= []) un hok bare (λb z=>absurd z (by simp)),r,q⟩
end
def zM(K:Fg)(fd:FuncData)(ps:List Str)(ds:List Value):Prop:=
 ∀(s:Shared) (us:List Value),K.In s.heap->(us++ds).length=ps.length->BindsTo s fd ⟨us, []⟩ (ps.zip (us++ds))
theorem zM.all(h: ∀us:List Value,us.length=ps.length->bindArgs fd ⟨us, []⟩=pure (ps.zip us)):zM K fd ps []:=λs us _ hl=>by
 rw[Jt] at hl ⊢;exact .of_eq (h us hl)
section
variable {X:Cx} {CX:CXT} {k:Nat} {f C:Addr} {fd:FuncData} {ps:List Str} {sp:Sp} {dvs:List V} {ds:List Value} {E:XK} {x m:Str} {p pos apos:Pos} {e o:Expr} {es:List Expr} {ta:TE} {t:TA}
structure Mk (K:Fg) (C f:Addr):Prop where
 makes:PySem.W.makesIn K C=true
 init:PySem.W.findIn K (.ref C) "__init__"=some (some (.ref f))
 fn:PySem.W.isFn K (.ref f)=true
 kp:PySem.W.keepIn K (.ref C)=true
end
def PK(X:Cx)(kws:List Keyword)(t:TA):Prop:=
 ∀(pos:Pos) (pins:List (Addr×Obj)) (s:Shared) (σ:St) (H:Hp) (Q:List V->Hp->Prop),Inv X pins σ H s->t σ H Q->wpAny (model X.prog X.w) X.A (evalAll ((backToKw pos (keywordEach kws X.env)).map (·.2))) (AP X pins σ Q) X.xe s
section
variable {X:Cx} {CX:CXT} {k:Nat} {f C:Addr} {fd:FuncData} {ps ks:List Str} {sp:Sp} {E:XK} {x m:Str} {p pos apos kpos:Pos} {e o:Expr} {es:List Expr} {kws:List Keyword} {te ta:TE} {t tk:TA} {nm:Option Str}
theorem zlj:PK X [] yq:=λ_ _ _ _ H Q I h=>wpAny_evalAll_nil ⟨[],H,I, .nil,h⟩
theorem zkg(ha:PE X e te)(hr:PK X kws t):PK X (⟨nm,e,kpos⟩::kws) (yr te t):=by
 intro pos pins s σ H Q I h;show wpAny _ _ (evalAll ((do let v<-eval e X.env;standAt pos;pure v)::(backToKw pos (keywordEach kws X.env)).map (·.2))) _ _ s;refine wpAny_evalAll_cons (JV (thn (ha pins s σ H _ I h) λu s1 ⟨x,H1,I1,r1,q1⟩=>JV (wpAny_standAt (JW ?_))));exact thn (hr pos pins s1 σ H1 _ I1 q1) λus s2 ⟨xs,H2,I2,r2,q2⟩=>⟨x::xs,H2,I2, .cons r1 r2,q2⟩
structure KBinds (K:Fg) (fd:FuncData) (ps ks:List Str) (g:List Value->List Value->List Value) (gV:List V->List V->List V):Prop where
 to: ∀(s:Shared) (us ws:List Value),K.In s.heap->(g us ws).length=ps.length->BindsTo s fd ⟨us,ks.zip ws⟩ (ps.zip (g us ws))
 rel: ∀{vs:List V} {us:List Value} {zs:List V} {ws:List Value},zB vs us->zB zs ws->zB (gV vs zs) (g us ws)
variable {g:List Value->List Value->List Value} {gV:List V->List V->List V}
end
structure FnScope (N P:List Str) (sc:Scope):Prop where
 kind:sc.kind= .function
 co:sc.isCoroutine=false
 gen:sc.isGenerator=false
 nd:N.Nodup
 pre:N.take P.length=P
 par: ∀x∈P,sc.names.lookup x=some .local\/sc.names.lookup x=some .cell
 nofree: ∀y∈sc.names,y.2≠ .free
theorem zfL{kindOf:Str->Option NameKind}{x:Str}: ∀{binds:List (Str×Value)} {m:Str->Option Value},(∀v,(x,v)∉binds)->bindL kindOf binds m x=m x
 | [],_,_=>rfl
 |(n,v)::r,m,h=>by
  unfold bindL;rw[zfL λw hw=>h w (Jl _ hw)];split
  ·have:x≠n:=by rintro rfl;exact h v Jq
   simp [this]
  ·rfl
theorem zfM{kindOf:Str->Option NameKind}{x:Str}: ∀{binds:List (Str×Value)} {m:Str->Option Value},(∀v,(x,v)∉binds)->bindC kindOf binds m x=m x
 | [],_,_=>rfl
 |(n,v)::r,m,h=>by
  unfold bindC;rw[zfM λw hw=>h w (Jl _ hw)];split
  ·rfl
  ·have:x≠n:=by rintro rfl;exact h v Jq
   simp [this]
theorem zfN{kindOf:Str->Option NameKind}{x:Str}{v:Value}: ∀{P:List Str} {vs:List Value} {i:Nat} {m:Str->Option Value},P.Nodup->P[i]? =some x->vs[i]? =some v->kindOf x=some .local->
  bindL kindOf (P.zip vs) m x=some v
 | [],_,_,_,_,h,_,_=>by simp at h
 |_::_, [],_,_,_,_,h,_=>by simp at h
 |p::P,w::vs,0,m,nd,h1,h2,hk=>by
  simp at h1 h2;subst h1;subst h2;show bindL kindOf ((p,w)::P.zip vs) m p=_;unfold bindL;rw[zfL λv hv=>(List.nodup_cons.mp nd).1 (List.of_mem_zip hv).1,Jg hk];simp
 |p::P,w::vs,i+1,m,nd,h1,h2,hk=>by
  show bindL kindOf ((p,w)::P.zip vs) m x=_;unfold bindL;exact zfN (i:=i) (List.nodup_cons.mp nd).2 (by simpa using h1) (by simpa using h2) hk
theorem zfO{kindOf:Str->Option NameKind}{x:Str}{v:Value}: ∀{P:List Str} {vs:List Value} {i:Nat} {m:Str->Option Value},P.Nodup->P[i]? =some x->vs[i]? =some v->kindOf x≠some .local->
  bindC kindOf (P.zip vs) m x=some v
 | [],_,_,_,_,h,_,_=>by simp at h
 |_::_, [],_,_,_,_,h,_=>by simp at h
 |p::P,w::vs,0,m,nd,h1,h2,hk=>by
  simp at h1 h2;subst h1;subst h2;show bindC kindOf ((p,w)::P.zip vs) m p=_;unfold bindC;rw[zfM λv hv=>(List.nodup_cons.mp nd).1 (List.of_mem_zip hv).1,Jf hk];simp
 |p::P,w::vs,i+1,m,nd,h1,h2,hk=>by
  show bindC kindOf ((p,w)::P.zip vs) m x=_;unfold bindC;exact zfO (i:=i) (List.nodup_cons.mp nd).2 (by simpa using h1) (by simpa using h2) hk
def start(N:List Str)(vs:List V):St:=vs.map some++List.replicate (N.length - vs.length) none
def xp(CX:CXT)(P:Program)(w:World)(K:Fg)(mg:Str->Option Value)(base:Heap)(N:List Str)(qual:Str)(scope:Scope)(f:Addr)(cd:Value)(A:Around)(outer:List Env)(s:Shared)(H:Hp)(E:XK):Cx where
 prog:=P
 w:=w
 K:=K
 mg:=mg
 base:=base
 A:=A.deeper (envOfC qual scope s.heap.objs.size f cd)
 N:=N
 s₀:=s
 H₀:=H
 env:=envOfC qual scope s.heap.objs.size f cd
 outer:=outer
 stack:=envOfC qual scope s.heap.objs.size f cd::outer
 ex:= []
 calm:=true
 fn:=λ_=>true
 pn:= []
 xe:=λe s'=>wpAny (model P w) (A.deeper (envOfC qual scope s.heap.objs.size f cd)) (leaving (envOfC qual scope s.heap.objs.size f cd) e) (λ_ s''=>CX outer H s E e s'') (λe' s''=>CX outer H s E e' s'') s'
theorem zgG{sc:Scope}(h:sc.names.lookup x=some .cell): ∃c,(cellsFrom n sc.names []).lookup x=some c:=by
 have q:=PySem.W.cellsFrom_some sc.names n [] (.inl h);exact Option.isSome_iff_exists.mp q
theorem zfP{CX:CXT}{P:Program}{w:World}{K:Fg}{mg:Str->Option Value}{base:Heap}{N ps:List Str}{qual:Str}{scope:Scope}{f:Addr}{cd:Value}{A:Around}{outer:List Env}{s s1:Shared}{H:Hp}{E:XK}{us:List Value}{vs:List V}
  (S:FnScope N ps scope) (hd:A.handled=none) (e0:Env0 P w K mg base A outer s H) (hl:vs.length=ps.length) (r:zB vs us)
  (x:InCallC s s.heap.objs.size (bindL (envOfC qual scope s.heap.objs.size f cd).kindOf (ps.zip us) λ_=>none) (cellsFrom (s.heap.objs.size+1) scope.names []) (bindC (envOfC qual scope s.heap.objs.size f cd).kindOf (ps.zip us) λ_=>none) s1):
  Inv (xp CX P w K mg base N qual scope f cd A outer s H E) [] (start N vs) H s1:=by
 have hpl:ps.length<=N.length:=by have:=congrArg List.length S.pre;rw[JB] at this;omega
 obtain⟨h1,tk,rfl,hk⟩:=x.done;have noA: ∀b:Addr,b∉(xp CX P w K mg base N qual scope f cd A outer s H E).ex:=λb z=>absurd (show b∈([]:List Addr) from z) (by simp);refine⟨⟨e0.mod,S.kind,rfl,rfl,Je _,λy z c h1 h2=> ?_,λy hy=> ?_,λy c _ h=> ?_,λ_=>hd,Around.frames_deeper e0.frames, .inr ⟨rfl,rfl⟩,λb z=>absurd z (noA b),e0.bs,e0.bsz,λb _ _=>noA b,λb z=>absurd z (noA b),e0.funs,e0.frf⟩,
  rfl,e0.bare,Un.kept hk,⟨_,x.toInCall.ns,λi y v h1 h2 h3=> ?_⟩,λy c h=>⟨_,x.cell y c h⟩,e0.hok.fresh (Je _),λy c h=> ?_,λp hp=>absurd (show p∈([]:List (Addr×Obj)) from hp) (by simp),e0.hok.kept hk,?_⟩
 ·exact name_of_addr x.apart (PySem.mem_of_lookup h1) (PySem.mem_of_lookup h2)
 ·have hy:scope.names.lookup y=some .cell\/scope.names.lookup y=some .free:=hy;rcases hy with hy|hy
  ·exact zgG hy
  ·exact absurd rfl (S.nofree _ (PySem.mem_of_lookup hy))
 ·exact Nat.le_of_lt (x.above y c (PySem.mem_of_lookup h))
 ·have hi:i<vs.length:=by
   unfold start at h2;by_cases hi:i<vs.length
   ·exact hi
   ·rw[List.getElem?_append_right (by simpa using hi)] at h2;rw[List.getElem?_replicate] at h2;split at h2<;>cases h2
  have ha:vs[i]? =some v:=by
   unfold start at h2;rw[List.getElem?_append_left (by simpa using hi),Jh] at h2;cases e:vs[i]? with
   |none=>rw[e] at h2;cases h2
   |some a=>rw[e] at h2;cases h2;rfl
  obtain⟨u,hu,rv⟩:=r.get ha;have hp:ps[i]? =some y:=by
   rw[<-S.pre,List.getElem?_take_of_lt 'o'];exact h1
  have ndP:ps.Nodup:=by rw[<-S.pre];exact S.nd.sublist (List.take_sublist _ _)
  refine⟨u,rv,?_⟩;rcases S.par y (Ji hp) with k|k
  ·exact .inl ⟨k,zfN ndP hp hu k⟩
  ·obtain⟨c,e⟩:=zgG (n:=s.heap.objs.size+1) k;refine .inr ⟨.inl k,c,e,?_⟩;have q:=x.cell y c e;rw[zfO ndP hp hu (by show scope.names.lookup y≠_;rw[k];decide)] at q;exact q
 ·exact e0.hok.fresh (Nat.le_of_lt (x.above y c (PySem.mem_of_lookup h)))
 ·unfold start;show _=N.length;rw[Jj,Ja,List.length_replicate];omega
theorem zkW{CX:CXT}{P:Program}{w:World}{K:Fg}{mg:Str->Option Value}{base:Heap}{k:Nat}{f:Addr}{name qual:Str}{params:Arguments}{body:List Stmt}{scope:Scope}{dV kV doc pm cdv ct oc:Value}{an od:Option Addr}
  {osl:Array (Option Value)} {N ps:List Str} {sp:Sp} (lk:K.lookup f=some ⟨oc,od, .func (PySem.W.fnOf name qual params body scope dV kV doc pm an cdv ct),osl⟩) (hcd:PySem.W.codeIn K cdv qual=true) (S:FnScope N ps scope)
  (len: ∀vs H Q E,sp vs H Q E->vs.length=ps.length)
  (hbody: ∀(A:Around) (outer:List Env) (s:Shared) (H:Hp) (vs:List V) (Q:VK) (E:XK),Room k (A.deeper (envOfC qual scope s.heap.objs.size f cdv))->sp vs H Q E->
   ∃t,PSs (xp CX P w K mg base N qual scope f cdv A outer s H E) body t/\t {nx:=λ_ H'=>Q .non H',rt:=Q} (start N vs) H):
  FnOk P w K mg base CX (k+1) f (PySem.W.fnOf name qual params body scope dV kV doc pm an cdv ct) ps sp:=by
 refine⟨len,λA outer s H args us vs Q E hr e0 hb r hsp=> ?_⟩;have hl:=len _ _ _ _ hsp;have KX:K.In s.heap:=e0.mod.kin.keeps λb o e=>(e0.bs b o e).1;have lim:s.heap.NoLimit:=e0.mod.nolimit.keeps λb o e=>(e0.bs b o e).1;have hkind: ∀y∈ps.zip us,scope.names.lookup y.1=some .local\/(scope.names.lookup y.1=some .cell/\((cellsFrom (s.heap.objs.size+1) scope.names []).lookup y.1).isSome=true):=λ⟨n,v⟩ hy=>by
  rcases S.par n (List.of_mem_zip hy).1 with q|q
  ·exact .inl q
  ·exact .inr ⟨q,PySem.W.cellsFrom_some _ _ _ (.inl q)⟩
 refine codeAny_call_function hr.depth (KX _ _ lk) rfl S.co S.gen rfl (PySem.W.codeRec_of KX hcd) (hb _ _ _ _ ?_);refine wpAny_newFunctionEnv_cells S.kind hkind λenv he s1 x=> ?_;subst he;refine⟨lim.keeps x.toInCall.keep,codeAny_func ?_⟩;obtain⟨t,ht,hq⟩:=hbody A outer s H vs Q E (hr.deeper _) hsp;have I:Inv (xp CX P w K mg base N qual scope f cdv A outer s H E) [] (start N vs) H s1:=zfP S hr.hd e0 hl r x;refine wpAny_mono (ht [] s1 (start N vs) H _ I hq) (λfl s' hs=> ?_) λe s' hs=>hs;have fin: ∀{σ':St} {H':Hp} {v:V} {u:Value},Inv (xp CX P w K mg base N qual scope f cdv A outer s H E) [] σ' H' s'->zF v u->Q v H'->CE outer P w H s Q u s':=
  fun {σ' H' v u} J rv q=>⟨v,H',J.os,J.bare,J.base,J.hok,rv,q⟩
 cases fl with
 |ret u=>
  obtain⟨v,σ',H',J,rv,q⟩:=hs;exact fin J rv q
 |next=>
  obtain⟨σ',H',J,q⟩:=hs;exact fin (v:=V.non) (u:=Value.none) J rfl q
 |brk=>
  obtain⟨_,_,_,q⟩:=hs;exact False.elim q
 |cont=>
  obtain⟨_,_,_,q⟩:=hs;exact False.elim q
section
variable {X:Cx} {x:Str} {p pos:Pos} {e:Expr} {es:List Expr} {t:TA} {id T:String} {r:List V->Hp->VK->Prop}
def tCB(r:List V->Hp->VK->Prop)(t:TA):TE:=λσ H Q=>t σ H λvs H1=>r vs H1 Q
theorem zZ(hc:xb X (.builtin id) r)(hg:Gl X x)(hm:X.mg x=none)(hv:bootBuiltins x=some (.builtin id))(ha:PA X (e::es) t)(hn:x≠"__name__":=by decide)(hdb:(x==("__debug__":Str))=false:=by decide)
  (he:starEach (e::es) X.env=(false,eval e X.env)::starEach es X.env:=by rfl) (hpl:(backTo pos (starEach es X.env)).any (·.1)=false:=by rfl):PE X (.Call (.Name x p) (e::es) [] pos) (tCB r t):=by
 intro pins s σ H Q I h;refine wpAny_Call_Name_kw (wx I hg hm hv ?_ hn hdb);exact PyProof.Rows.callWith_builtin1 (thn (ha pos pins s σ H _ I h) λus s1 ⟨vs,H1,I1,r1,q1⟩=>hc pins s1 σ H1 vs us Q I1 r1 q1) he hpl
theorem vw(hc:xb X (.type T) r)(hg:Gl X x)(hm:X.mg x=none)(hv:bootBuiltins x=some (.type T))(ha:PA X (e::es) t)(hn:x≠"__name__":=by decide)(hdb:(x==("__debug__":Str))=false:=by decide)
  (he:starEach (e::es) X.env=(false,eval e X.env)::starEach es X.env:=by rfl) (hpl:(backTo pos (starEach es X.env)).any (·.1)=false:=by rfl):PE X (.Call (.Name x p) (e::es) [] pos) (tCB r t):=by
 intro pins s σ H Q I h;refine wpAny_Call_Name_kw (wx I hg hm hv ?_ hn hdb);exact PyProof.Rows.callWith_type1 (thn (ha pos pins s σ H _ I h) λus s1 ⟨vs,H1,I1,r1,q1⟩=>hc pins s1 σ H1 vs us Q I1 r1 q1) he hpl
end
end L2
namespace HT
open PySem PyProof.Rows
section
open PySem.SeqAt
open PySem.AutoSeq1 (wpAny_loadPart')
open PySem.MeetsSeq PySem.MeetsSeq2 PySem.MeetsSeq3
end
section
variable {prog:Program} {w:World} {A:Around} {E:Value->Shared->Prop} {s:Shared}
def sIx(n d:Nat):Option Int->Nat
 |none=>d
 |some v=>if v<0 then (v+(n:Int)).toNat else min v.toNat n
theorem sIx_none(n d:Nat):sIx n d none=d:=rfl
theorem sIx_nat(n d k:Nat):sIx n d (some (k:Int))=min k n:=by
 show (if (k:Int)<0 then ((k:Int)+(n:Int)).toNat else min (k:Int).toNat n)=min k n;rw[Jf 'o',JF]
end
end HT
namespace L2
open PySem PySem.Spec PyProof.Rows
variable{α:Type}{n:Nat}{s:Shared}{x:V}{v:Value}
abbrev TO:=St->Hp->(Option Int->Hp->Prop)->Prop
def PO(X:Cx)(e:Option Expr)(t:TO):Prop:=
 ∀(pins:List (Addr×Obj)) (s:Shared) (σ:St) (H:Hp) (Q:Option Int->Hp->Prop),Inv X pins σ H s->t σ H Q->
  wpAny (model X.prog X.w) X.A (evalPart e X.env) (λu s'=> ∃o H',Inv X pins σ H' s'/\IsPart u o/\Q o H') X.xe s
def yJ:TO:=λ_ H Q=>Q none H
def yK(t:TE):TO:=λσ H Q=>t σ H λx H1=> ∃i,x= .int i/\Q (some i) H1
section
variable {X:Cx} {e:Expr} {te:TE} {lo hi:Option Expr} {tl th:TO} {pos p2:Pos}
theorem uY:PO X none yJ:=by
 intro pins s σ H Q I h;rw[evalPart_none];exact JW ⟨none,H,I, .none,h⟩
theorem xI(h:PE X e te):PO X (some e) (yK te):=by
 intro pins s σ H Q I hw;rw[evalPart_some];refine thn (h pins s σ H _ I hw) λu s1 ⟨x,H1,I1,r1,q1⟩=> ?_;obtain⟨i,rfl,q⟩:=q1;obtain⟨t,rfl⟩:=r1;exact⟨some i,H1,I1, .int i t,q⟩
def SlR(X:Cx)(r:V->Option Int->Option Int->Hp->VK->Prop):Prop:=
 ∀(pins:List (Addr×Obj)) (s:Shared) (σ:St) (H:Hp) (x:V) (v vl vu:Value) (lo hi:Option Int) (sl:Addr) (Q:VK),Inv X pins σ H s->zF x v->s.heap.IsSliceOf sl vl vu .none->IsPart vl lo->IsPart vu hi->r x lo hi H Q->
  ∃T id,typeLookup (.type T) "__getitem__"=pure (some (.builtin id))/\s.TypeIs v T/\wpAny (model X.prog X.w) X.A (getItem v (.ref sl)) (EP X pins σ Q) X.xe s
def tSl(r:V->Option Int->Option Int->Hp->VK->Prop)(te:TE)(tl th:TO):TE:=λσ H Q=>te σ H λx H1=>tl σ H1 λl H2=>th σ H2 λu H3=>r x l u H3 Q
theorem wQ{r:V->Option Int->Option Int->Hp->VK->Prop}(hr:SlR X r)(he:PE X e te)(hl:PO X lo tl)(hu:PO X hi th):PE X (.Subscript e (.Slice lo hi none p2) pos) (tSl r te tl th):=by
 intro pins s σ H Q I h;refine Subscript_ (thn (he pins s σ H _ I h) λv s1 ⟨x,H1,I1,r1,q1⟩=> ?_);refine wpAny_Slice (thn (hl pins s1 σ H1 _ I1 q1) λvl s2 ⟨l,H2,I2,pl,q2⟩=>thn (hu pins s2 σ H2 _ I2 q2) λvu s3 ⟨u,H3,I3,pu,q3⟩=> ?_);rw[evalPart_none];refine JW ?_;have I4:Inv X pins σ H3 {s3 with heap:=s3.heap.push {cls:= .type "slice",data:= .fields #[vl,vu, .none]} }:=I3.kept (t':=s3.toks) λb ob q=>JX _ q;obtain⟨T,id,hT,ht,hg⟩:=hr pins {s3 with heap:=s3.heap.push {cls:= .type "slice",data:= .fields #[vl,vu, .none]} } σ H3 x v vl vu l u s3.heap.objs.size Q I4 r1 (Heap.IsSliceOf.new ..) pl pu q3;show wpAny (model X.prog X.w) X.A (subscriptTail e (.Slice lo hi none p2) v (.ref s3.heap.objs.size)) (EP X pins σ Q) X.xe {s3 with heap:=s3.heap.push {cls:= .type "slice",data:= .fields #[vl,vu, .none]} };exact tail_any (ops:= [.ref s3.heap.objs.size,v]) ht hT hg (by with_unfolding_all rfl)
def xk(xs:List V)(lo hi:Option Int):List V:=(xs.drop (HT.sIx xs.length 0 lo)).take (HT.sIx xs.length xs.length hi - HT.sIx xs.length 0 lo)
theorem zgH(xs:List V)(lo hi:Option Int):(xk xs lo hi).length<=xs.length:=by
 unfold xk;rw[JB,List.length_drop];omega
end
def ixN(n:Nat)(i:Int):Option Nat:=if 0<=i then (if i<n then some i.toNat else none) else if -(n:Int)<=i then some (i+n).toNat else none
def atI(xs:List α)(i:Int):Option α:=(ixN xs.length i).bind λj=>xs[j]?
theorem zhR{i:Int}{j:Nat}(h:ixN n i=some j):seqIndex? i n=some j/\j<n/\ -(n:Int)<=i/\i<n:=by
 unfold ixN at h;by_cases h0:0<=i
 ·rw[Jg h0] at h;by_cases h1:i<n
  ·rw[Jg h1] at h;have e:i.toNat=j:=JU h;exact⟨by rw[seqIndex_of h0 h1,e],'o','o',h1⟩
  ·rw[Jf h1] at h;cases h
 ·rw[Jf h0] at h;by_cases h1: -(n:Int)<=i
  ·rw[Jg h1] at h;have e:(i+n).toNat=j:=JU h;exact⟨by rw[seqIndex_neg 'o' h1,e],'o',h1,'o'⟩
  ·rw[Jf h1] at h;cases h
theorem jL{xs:List α}{i:Int}{v:α}(h:atI xs i=some v): ∃j,seqIndex? i xs.length=some j/\xs[j]? =some v/\j<xs.length/\ -(xs.length:Int)<=i/\i<xs.length:=by
 unfold atI at h;cases e:ixN xs.length i with
 |none=>rw[e] at h;cases h
 |some j=>
  rw[e] at h;obtain⟨h1,h2,h3,h4⟩:=zhR e;exact⟨j,h1,h,h2,h3,h4⟩
theorem wq{xs:List α}{j:Nat}{v:α}(h:xs[j]? =some v):atI xs (j:Int)=some v:=by
 have hj:j<xs.length:=(Jc.mp h).1;have e:ixN xs.length (j:Int)=some j:=by
  unfold ixN;rw[Jg 'o',Jg 'o'];simp
 unfold atI;rw[e];exact h
def zkh(b:Expr):Prop:= ∀o i,subscripted b false o i=operate [o,i] (getItem o i)
def IxR(X:Cx)(r:R2):Prop:=
 ∀(value slice:Expr) (pins:List (Addr×Obj)) (s:Shared) (σ:St) (H:Hp) (x y:V) (v u:Value) (Q:VK),Inv X pins σ H s->zF x v->zF y u->r x y H Q->
  subscripted slice false v u=operate [v,u] (getItem v u)->wpAny (model X.prog X.w) X.A (subscriptTail value slice v u) (EP X pins σ Q) X.xe s
def MtR(X:Cx)(id:String)(r:V->List V->Hp->VK->Prop):Prop:=
 ∀(pins:List (Addr×Obj)) (s:Shared) (σ:St) (H:Hp) (x:V) (xs:List V) (v:Value) (us:List Value) (Q:VK),Inv X pins σ H s->zF x v->zB xs us->r x xs H Q->
  wpAny (model X.prog X.w) X.A (call (.builtin id) (v::us)) (EP X pins σ Q) X.xe s
section
variable {X:Cx} {a b:Expr} {ta tb:TE} {pos:Pos}
theorem IxR.or{r r':R2}(h:IxR X r)(h':IxR X r'):IxR X (λx y H Q=>r x y H Q\/r' x y H Q):=by
 intro value slice pins s σ H x y v u Q I rx ry q hs;rcases q with q|q
 ·exact h value slice pins s σ H x y v u Q I rx ry q hs
 ·exact h' value slice pins s σ H x y v u Q I rx ry q hs
theorem zq{r:R2}(hr:IxR X r)(ha:PE X a ta)(hb:PE X b tb)(hs:zkh b):PE X (.Subscript a b pos) (tOp r ta tb):=by
 intro pins s σ H Q I h;exact Subscript_ (jK ha hb I h λv u s2 x y H2 I2 rx ry q=>hr a b pins s2 σ H2 x y v u Q I2 rx ry q (hs _ _))
def jM(K:Fg):R2:=λx y H Q=> ∃p xs i v,x= .ref p/\y= .int i/\SqL K H p xs/\atI xs i=some v/\Q v H
def uZ(K:Fg):R2:=λx y H Q=> ∃p xs i v,x= .ref p/\y= .int i/\SqT K H p xs/\atI xs i=some v/\Q v H
def zmb:R2:=λx y H Q=> ∃z i c,x= .str z/\y= .int i/\z.length<=sizeLine/\atI z.cps.toList i=some c/\Q (.str ⟨#[c]⟩) H
theorem zG:IxR X (jM X.K):=by
 intro value slice pins s σ H x y v u Q I rx ry h hs;obtain⟨p,xs,i,z,rfl,rfl,hq,he,q⟩:=h;cases rx;obtain⟨t,rfl⟩:=ry;obtain⟨its,r,pl,hz⟩:=I.list hq;obtain⟨j,h1,h2,h3,h4,h5⟩:=jL he;obtain⟨w,ew,rw'⟩:=r.get h2;have hl:=r.length;have hn:=uW;have fin:EP X pins σ Q w s:=⟨z,H,I,rw',q⟩
 by_cases h0:0<=i
 ·have hj:i.toNat=j:=by
   rw[seqIndex_of h0 h5] at h1;exact JU h1
  exact item_listR pl.isList h0 'o' (by rw[hj];simpa using ew) fin hs
 ·have hj:(i+(its.toArray.size:Int)).toNat=j:=by
   rw[seqIndex_neg 'o' h4] at h1;rw[Jn,<-hl];exact JU h1
  exact subscriptTail_builtinR (x:=w) pl.isList.typeIs slot_list_getitem.lookup
   (wpAny_getItem_list_neg (Q:=λr s'=>r=w/\EP X pins σ Q r s') pl.isList 'o' (by rw[Jn]<;>omega) 'o' (by rw[hj];simpa using ew) ⟨rfl,fin⟩) hs
theorem zU:IxR X (uZ X.K):=by
 intro value slice pins s σ H x y v u Q I rx ry h hs;obtain⟨p,xs,i,z,rfl,rfl,hq,he,q⟩:=h;cases rx;obtain⟨t,rfl⟩:=ry;obtain⟨its,r,pl,hz⟩:=I.tuple hq;obtain⟨j,h1,h2,h3,h4,h5⟩:=jL he;obtain⟨w,ew,rw'⟩:=r.get h2;have hl:=r.length;have hn:=uW;have fin:EP X pins σ Q w s:=⟨z,H,I,rw',q⟩
 exact subscriptTail_builtinR (x:=w) pl.typeIs slot_tuple_getitem.lookup
  (getItem_tuple (j:=j) (Q:=λr s'=>r=w/\EP X pins σ Q r s') pl 'o' 'o' (by rw[Jn,<-hl];exact h1) (by simpa using ew) ⟨rfl,fin⟩) hs
theorem zi1:IxR X zmb:=by
 intro value slice pins s σ H x y v u Q I rx ry h hs;obtain⟨z,i,c,rfl,rfl,hz,he,q⟩:=h;obtain⟨t,rfl⟩:=rx;obtain⟨t',rfl⟩:=ry;obtain⟨j,h1,h2,h3,h4,h5⟩:=jL he;have hl:z.cps.toList.length=z.length:=by simp [Str.length]
 rw[hl] at h1 h4 h5;have hn:=uW;exact tail_any (typeIs_str s z t) slot_str_getitem.lookup (getItem_str (c:=c) (by
  have e1:decide (i< -(2 ^ 63:Int))=false:=JO 'o';have e2:decide (i≥2 ^ 63)=false:=JO 'o';rw[e1,e2,Bool.or_false]) (by rw[h1];simpa using h2) ⟨.str ⟨#[c]⟩,H,I.tok _,⟨_,rfl⟩,q⟩) hs
def rIx(K:Fg):R2:=λx y H Q=>jM K x y H Q\/uZ K x y H Q\/zmb x y H Q
theorem zi2:IxR X (rIx X.K):=zG.or (zU.or zi1)
theorem zgc(lo hi:Option Int)(n:Nat):(sliceBounds lo hi none n).1=((HT.sIx n 0 lo:Nat):Int)/\(sliceBounds lo hi none n).2.1=((HT.sIx n n hi:Nat):Int)/\(sliceBounds lo hi none n).2.2=1:=by
 refine⟨?_,?_,rfl⟩
 ·cases lo with
  |none=>simp [sliceBounds,HT.sIx]
  |some i=>
   simp only[sliceBounds,HT.sIx,Option.getD_none,show (1:Int)>0 by decide,if_true];by_cases h:i<0
   ·simp only[h,if_true]<;>omega
   ·simp only[h,if_false]<;>omega
 ·cases hi with
  |none=>simp [sliceBounds,HT.sIx]
  |some i=>
   simp only[sliceBounds,HT.sIx,Option.getD_none,show (1:Int)>0 by decide,if_true];by_cases h:i<0
   ·simp only[h,if_true]<;>omega
   ·simp only[h,if_false]<;>omega
theorem zfF(its:List Value)(lo hi:Option Int):slicePick its.toArray lo hi none=((its.drop (HT.sIx its.length 0 lo)).take (HT.sIx its.length its.length hi - HT.sIx its.length 0 lo)).toArray:=by
 obtain⟨h1,h2,h3⟩:=zgc lo hi its.toArray.size;unfold slicePick;rw[h1,h2,h3];simp only[sliceRange_one,pick_run,Jn]<;>rfl
def zmD(K:Fg):V->Option Int->Option Int->Hp->VK->Prop:=λx lo hi H Q=> ∃a xs,x= .ref a/\SqL K H a xs/\ ∀p,H p=none->Q (.ref p) (upd H p (.lst (xk xs lo hi)))
theorem zkj:SlR X (zmD X.K):=by
 intro pins s σ H x v vl vu lo hi sl Q I rx hs pl pu h;obtain⟨a,xs,rfl,hx,q⟩:=h;cases rx;obtain⟨its,r,ht,hz⟩:=I.list hx;have hlen:=r.length;refine⟨"list",_,slot_list_getitem.lookup,ht.isList.typeIs,?_⟩;refine wpAny_getItem_list_slice ht.isList hs pl pu .none (by simp) ?_ (by rw[Jn]<;>omega);rw[zfF,<-hlen];refine⟨.ref s.heap.objs.size,_,I.laid (t':=s.toks) (o:= .lst (xk xs lo hi)) (λb ob q=>JX _ q) (Je _) ?_,rfl,q _ (I.hok.fresh (Je _))⟩;exact⟨JE (zgH xs lo hi) hz,_,0,(r.drop (HT.sIx xs.length 0 lo)).take (HT.sIx xs.length xs.length hi - HT.sIx xs.length 0 lo),JZ _ rfl⟩
def xJ:V->Bool
 | .non=>true
 | .bl _=>true
 | .int _=>true
 | .str _=>true
 |_=>false
def eqV:V->V->Bool
 | .non, .non=>true
 | .bl a, .bl b=>a==b
 | .bl a, .int b=>(if a then 1 else 0)==b
 | .int a, .bl b=>a==(if b then 1 else 0)
 | .int a, .int b=>a==b
 | .str a, .str b=>a==b
 |_,_=>false
theorem u7{A:Around}{y:V}{u:Value}(ry:zF y u)(rx:zF x v)(fy:xJ y=true)(fx:xJ x=true):SeqAt.EqAt A s u v (eqV y x):=by
 cases y with
 |non=>
  cases ry;cases x with
  |non=>cases rx;exact SeqAt.EqAt.same _
  |bl b=>cases rx;exact SeqAt.EqAt.none_bool b
  |int b=>obtain⟨t,rfl⟩:=rx;exact SeqAt.EqAt.none_int b t
  |str b=>obtain⟨t,rfl⟩:=rx;exact SeqAt.EqAt.none_str b t
  |_=>exact absurd (show false=true from fx) Ju
 |bl a=>
  cases ry;cases x with
  |non=>cases rx;exact SeqAt.EqAt.bool_none a
  |bl b=>cases rx;exact SeqAt.EqAt.bool_bool a b
  |int b=>obtain⟨t,rfl⟩:=rx;exact SeqAt.EqAt.bool_int a b t
  |str b=>obtain⟨t,rfl⟩:=rx;exact SeqAt.EqAt.bool_str a b t
  |_=>exact absurd (show false=true from fx) Ju
 |int a=>
  obtain⟨t',rfl⟩:=ry;cases x with
  |non=>cases rx;exact SeqAt.EqAt.int_none a t'
  |bl b=>cases rx;exact SeqAt.EqAt.int_bool a t' b
  |int b=>obtain⟨t,rfl⟩:=rx;exact SeqAt.EqAt.int_int a t' b t
  |str b=>obtain⟨t,rfl⟩:=rx;exact SeqAt.EqAt.int_str a t' b t
  |_=>exact absurd (show false=true from fx) Ju
 |str a=>
  obtain⟨t',rfl⟩:=ry;cases x with
  |non=>cases rx;exact SeqAt.EqAt.str_none a t'
  |bl b=>cases rx;exact SeqAt.EqAt.str_bool a t' b
  |int b=>obtain⟨t,rfl⟩:=rx;exact SeqAt.EqAt.str_int a t' b t
  |str b=>obtain⟨t,rfl⟩:=rx;exact SeqAt.EqAt.str_str a t' b t
  |_=>exact absurd (show false=true from fx) Ju
 |_=>exact absurd (show false=true from fy) Ju
def eqU(x:V)(u:Value):Bool:=match u with
 | .none=>eqV .non x
 | .bool b=>eqV (.bl b) x
 | .int i _=>eqV (.int i) x
 | .str z _=>eqV (.str z) x
 |_=>false
theorem zi3{y:V}{u:Value}(r:zF y u)(f:xJ y=true):eqU x u=eqV y x:=by
 cases y with
 |non=>cases r;rfl
 |bl b=>cases r;rfl
 |int i=>obtain⟨t,rfl⟩:=r;rfl
 |str z=>obtain⟨t,rfl⟩:=r;rfl
 |_=>exact absurd (show false=true from f) Ju
theorem uh{x:V}: ∀{xs:List V} {us:List Value},zB xs us->xs.all xJ=true->us.any (eqU x)=xs.any λy=>eqV y x
 |_,_, .nil,_=>rfl
 |y::xs,u::us, .cons r t,f=>by
  rw[List.all_cons,Bool.and_eq_true] at f;rw[List.any_cons,List.any_cons,zi3 r f.1,uh t f.2]
theorem ui{A:Around}{s:Shared}{x:V}{v:Value}(rx:zF x v)(fx:xJ x=true): ∀{xs:List V} {us:List Value},zB xs us->xs.all xJ=true-> ∀u∈us,SeqAt.EqAt A s u v (eqU x u)
 |_,_, .nil,_=>λu hu=>by cases hu
 |y::xs,u::us, .cons r t,f=>λu' hu=>by
  rw[List.all_cons,Bool.and_eq_true] at f;rcases JD.mp hu with rfl|hu
  ·rw[zi3 r f.1];exact u7 r rx f.1 fx
  ·exact ui rx fx t f.2 u' hu
def inV(x:V)(xs:List V):Bool:=xs.any λy=>eqV y x
def rIn(K:Fg)(neg:Bool):R2:=λx y H Q=> ∃p xs,y= .ref p/\(SqL K H p xs\/SqT K H p xs)/\xJ x=true/\xs.all xJ=true/\Q (.bl (if neg then !inV x xs else inV x xs)) H
theorem u8:OpR X (compareOp .In) (rIn X.K false):=by
 intro pins s σ H x y v u Q I rx ry h;obtain⟨p,xs,rfl,hq,fx,fs,q⟩:=h;cases ry;rcases hq with hq|hq
 ·obtain⟨its,r,pl,hz⟩:=I.list hq;refine SeqAt.in_listAt (eqU x) pl.isList (λw hw=>ui rx fx r fs w (by simpa using hw)) ⟨.bl _,H,I,rfl,?_⟩;rw[show its.toArray.any (eqU x)=its.any (eqU x) by simp,uh r fs];exact q
 ·obtain⟨its,r,pl,hz⟩:=I.tuple hq;refine SeqAt.in_tupleAt (eqU x) pl (λw hw=>ui rx fx r fs w (by simpa using hw)) ⟨.bl _,H,I,rfl,?_⟩;rw[show its.toArray.any (eqU x)=its.any (eqU x) by simp,uh r fs];exact q
theorem jN:OpR X (compareOp .NotIn) (rIn X.K true):=by
 intro pins s σ H x y v u Q I rx ry h;obtain⟨p,xs,rfl,hq,fx,fs,q⟩:=h;cases ry;rcases hq with hq|hq
 ·obtain⟨its,r,pl,hz⟩:=I.list hq;refine SeqAt.notIn_listAt (eqU x) pl.isList (λw hw=>ui rx fx r fs w (by simpa using hw)) ⟨.bl _,H,I,rfl,?_⟩;rw[show its.toArray.any (eqU x)=its.any (eqU x) by simp,uh r fs];exact q
 ·obtain⟨its,r,pl,hz⟩:=I.tuple hq;refine SeqAt.notIn_tupleAt (eqU x) pl (λw hw=>ui rx fx r fs w (by simpa using hw)) ⟨.bl _,H,I,rfl,?_⟩;rw[show its.toArray.any (eqU x)=its.any (eqU x) by simp,uh r fs];exact q
theorem qI:xb X (.builtin "len") (λxs H Q=> ∃p ys,xs= [.ref p]/\(SqL X.K H p ys\/SqT X.K H p ys)/\Q (.int ys.length) H):=by
 intro pins s σ H xs us Q I r h;obtain⟨p,ys,rfl,hq,q⟩:=h;obtain⟨u,rfl,rx⟩:=xR r;cases rx;have hn:=uW;rcases hq with hq|hq
 ·obtain⟨its,r',pl,hz⟩:=I.list hq;have hlen:=r'.length;exact Calls.call_len_list pl.isList (by simp only[Jn]<;>omega) ⟨.int ys.length,H,I.tok _,⟨s.toks+1,by rw[Jn,hlen]⟩,q⟩
 ·obtain⟨its,r',pl,hz⟩:=I.tuple hq;have hlen:=r'.length;exact len_tuple pl (by simp only[Jn]<;>omega) ⟨.int ys.length,H,I.tok _,⟨s.toks+1,by rw[Jn,hlen]⟩,q⟩
theorem zge:xb X (.type "list") (λxs H Q=> ∃p ys,xs= [.ref p]/\(SqL X.K H p ys\/SqT X.K H p ys)/\ ∀l,H l=none->Q (.ref l) (upd H l (.lst ys))):=by
 intro pins s σ H xs us Q I r h;obtain⟨p,ys,rfl,hq,q⟩:=h;obtain⟨u,rfl,rx⟩:=xR r;cases rx;have fin: ∀(its:List Value),zB ys its->ys.length<=sizeLine-> ∀(h':Heap) (c':Nat),(∀b o',s.heap.get? b=some o'->h'.get? b=some o')->
   h'.get? s.heap.objs.size=some {cls:= .type "list",dict:=none,data:= .seq its.toArray c',slots:= #[]}->EP X pins σ Q (.ref s.heap.objs.size) {s with heap:=h'}:=λits r' hz h' c' kp e=>
  ⟨.ref s.heap.objs.size,_,I.laid (t':=s.toks) kp (Je _) (show ye X.prog X.w _ h' _ (.lst ys) from⟨hz,its,c',r',e⟩),rfl,q _ (I.hok.fresh (Je _))⟩
 rcases hq with hq|hq
 ·obtain⟨its,r',pl,hz⟩:=I.list hq;have hlen:=r'.length;obtain⟨o,ho,hc,n,hd⟩:=pl.isList;exact call_list_seq p (.inl rfl) ho hc hd (λh' c' kp e=>fin its r' hz h' c' kp e) (by simp only[Jn]<;>omega)
 ·obtain⟨its,r',pl,hz⟩:=I.tuple hq;have hlen:=r'.length;obtain⟨o,ho,hc,n,hd⟩:=pl;exact call_list_seq p (.inr rfl) ho hc hd (λh' c' kp e=>fin its r' hz h' c' kp e) (by simp only[Jn]<;>omega)
def tyV(K:Fg)(T:String)(x:V)(H:Hp):Prop:=match x with
 | .str _=>T="str"
 | .int _=>T="int"
 | .ref p=>(T="list"/\ ∃xs,SqL K H p xs)\/(T="tuple"/\ ∃o,K.lookup p=some o/\o.cls= .type "tuple"/\o.dict=none)\/
   (T="dict"/\((∃kvs,H p=some (.dK kvs))\/ ∃kvs,H p=some (.dT kvs)))\/(T="set"/\ ∃S n,H p=some (.set S n))
 |_=>False
theorem zll{pins:List (Addr×Obj)}{σ:St}{H:Hp}{T:String}(I:Inv X pins σ H s)(r:zF x v)(ty:tyV X.K T x H):
  s.TypeIs v T/\ ∀a,v= .ref a-> ∃ob,s.heap.get? a=some ob/\ob.dict=none:=by
 cases x with
 |str z=>
  obtain⟨t,rfl⟩:=r;cases (show T="str" from ty);exact⟨typeIs_str s z t,λ_ e=>nomatch e⟩
 |int i=>
  obtain⟨t,rfl⟩:=r;cases (show T="int" from ty);exact⟨typeIs_int s i t,λ_ e=>nomatch e⟩
 |ref p=>
  cases r;rcases ty with⟨rfl,xs,hq⟩|⟨rfl,o,hk,hc,hd⟩|⟨rfl,hk⟩|⟨rfl,S,n,hk⟩
  ·obtain⟨its,_,pl,_⟩:=I.list hq;refine⟨pl.isList.typeIs,λa e=> ?_⟩;cases e;obtain⟨o,n,e,c,hd,_⟩:=pl;exact⟨o,e,hd⟩
  ·refine⟨⟨o,I.kIn p o hk,hc⟩,λa e=> ?_⟩;cases e;exact⟨o,I.kIn _ o hk,hd⟩
  ·have z: ∃o,s.heap.get? p=some o/\o.ExactDict:=by
    rcases hk with⟨kvs,hk⟩|⟨kvs,hk⟩
    ·obtain⟨_,_,_,_,o,_,_,e,ex,_⟩:=I.hok p _ hk;exact⟨o,e,ex⟩
    ·obtain⟨_,_,_,_,o,_,_,e,ex,_⟩:=I.hok p _ hk;exact⟨o,e,ex⟩
   obtain⟨o,e,ex⟩:=z;refine⟨⟨o,e,ex.1⟩,λa e2=> ?_⟩;cases e2;exact⟨o,e,ex.2.1⟩
  ·obtain⟨o,_,_,_,e,ex,_⟩:=I.hok p _ hk;refine⟨⟨o,e,ex.1⟩,λa e2=> ?_⟩;cases e2;exact⟨o,e,ex.2.1⟩
 |_=>exact False.elim ty
def tBM(K:Fg)(T:String)(r:V->List V->Hp->VK->Prop)(to:TE)(t:TA):TE:=λσ H Q=>to σ H λx H1=>tyV K T x H1/\t σ H1 λxs H2=>r x xs H2 Q
variable {o e:Expr} {es:List Expr} {to:TE} {t:TA} {name:Str} {apos cpos:Pos} {T id:String} {r:V->List V->Hp->VK->Prop}
theorem qQ(pa:PlainAttrs T)(slot:Slot T name id)(hty:typeOf (.builtin id)=pure (.type "method_descriptor"))(hm:MtR X id r)(ho:PE X o to)(ha:PA X (e::es) t)
  (hbase:attributeBase o name X.env (eval o X.env)=eval o X.env:=by rfl)
  (hfew:((backTo cpos (starEach (e::es) X.env)).all (λx=> !x.1) && (backToKw cpos (keywordEach [] X.env)).all (λx=>x.1.isSome)
   && decide ((e::es).length+([]:List Keyword).length+(if ([]:List Keyword).isEmpty then 0 else 1)<30))=true:=by rfl)
  (hline:(apos.endLine==cpos.line)=true:=by rfl) (hs:starEach (e::es) X.env=(false,eval e X.env)::starEach es X.env:=by rfl) (hplain:(backTo cpos (starEach es X.env)).any (·.1)=false:=by rfl):
  PE X (.Call (.Attribute o name apos) (e::es) [] cpos) (tBM X.K T r to t):=by
 intro pins s σ H Q I h;refine wpAny_Call_method_late hbase hfew hline rfl (thn (ho pins s σ H _ I h) λv s1 ⟨x,H1,I1,r1,ty,q1⟩=> ?_);obtain⟨h1,h2⟩:=zll I1 r1 ty;refine⟨T,id,pa,slot,hty,h1,h2,?_⟩;have hA:=ha cpos pins s1 σ H1 _ I1 q1;rw[hs] at hA ⊢;refine Calls.callWith_builtin (by show (false||(backTo cpos (starEach es X.env)).any (·.1))=false;rw[hplain]<;>rfl) (Calls.evalArgs_plain ?_);exact thn hA λus s2 ⟨vs,H2,I2,r2,q2⟩=>hm pins s2 σ H2 x vs v us Q I2 r1 r2 q2
end
def MtM(X:Cx)(id:String)(r:V->List V->Hp->VK->Prop):Prop:=
 ∀(pins:List (Addr×Obj)) (s:Shared) (σ:St) (H:Hp) (x:V) (xs:List V) (v:Value) (us:List Value) (Q:VK),Inv X pins σ H s->zF x v->zB xs us->r x xs H Q->
  wpAny (model X.prog X.w) X.A (call (.builtin id) (v::us)) (EP X pins σ Q) X.xe s
theorem zB.one: ∀{x:V} {us:List Value},zB [x] us-> ∃u,us= [u]/\zF x u
 |_,_, .cons r .nil=>⟨_,rfl,r⟩
theorem zB.eraseIdx: ∀{xs:List V} {us:List Value} (i:Nat),zB xs us->zB (xs.eraseIdx i) (us.eraseIdx i)
 |_,_,_, .nil=> .nil
 |_,_,0, .cons _ t=>t
 |_,_,i+1, .cons r t=> .cons r (zB.eraseIdx i t)
theorem zB.reverse{xs:List V}{us:List Value}(h:zB xs us):zB xs.reverse us.reverse:=by
 induction h with
 |nil=>exact .nil
 |cons r t ih=>rw[List.reverse_cons,List.reverse_cons];exact zB.append ih (.cons r .nil)
theorem zB.rep{xs:List V}{us:List Value}(h:zB xs us): ∀k:Nat,zB (List.replicate k xs).flatten (List.replicate k us).flatten
 |0=> .nil
 |k+1=>by
  rw[List.replicate_succ,List.replicate_succ,List.flatten_cons,List.flatten_cons];exact zB.append h (zB.rep h k)
theorem zfQ{α:Type}: ∀(l:List α) (i:Nat),(l.eraseIdx i).length<=l.length
 | [],_=>Je _
 |_::_,0=>Nat.le_succ _
 |_::r,i+1=>Nat.succ_le_succ (zfQ r i)
theorem zfR(its:List Value): ∀(k:Nat) (acc:List Value),
  List.foldl (λx1 x2=>x1++x2) acc.toArray (List.replicate k its.toArray)=(acc++(List.replicate k its).flatten).toArray
 |0,acc=>by simp
 |k+1,acc=>by
  have e:acc.toArray++its.toArray=(acc++its).toArray:=by simp
  have e2:(acc++its)++(List.replicate k its).flatten=acc++(List.replicate (k+1) its).flatten:=by
   rw[List.replicate_succ,List.flatten_cons,JL]
  rw[<-e2,<-zfR its k (acc++its),<-e,List.replicate_succ,List.foldl_cons]
section
variable {X:Cx} {pins:List (Addr×Obj)} {σ:St} {H:Hp} {s:Shared} {l b:Addr} {xs ys zs:List V}
theorem Inv.lset{its its':List Value}{n:Nat}{f:Array Value->Array Value}{t':Nat}(I:Inv X pins σ H s)(hH:H l=some (.lst xs))
  (e:s.heap.get? l=some {cls:= .type "list",data:= .seq its.toArray n}) (hf:f its.toArray=its'.toArray) (hv:zB ys its') (hz:ys.length<=sizeLine):
  Inv X pins σ (upd H l (.lst ys)) {s with heap:=s.heap.update l (Obj.mapSeq f),toks:=t'}:=by
 have q:=PySem.IsL.update e f;rw[hf] at q;refine I.write (x:=l) (e:=l) (by rw[hH];exact trivial) (.inl rfl) (λb' u hb hu=>(Heap.get?_update_other s.heap (Obj.mapSeq f) (Ne.symm hb)).trans hu) ⟨_,q⟩ ?_;exact⟨hz,its',_,hv,q⟩
theorem Inv.lnew{its:List Value}{t':Nat}(I:Inv X pins σ H s)(hv:zB ys its)(hz:ys.length<=sizeLine):
  Inv X pins σ (upd H s.heap.objs.size (.lst ys)) {s with heap:=s.heap.push {cls:= .type "list",data:= .seq its.toArray},toks:=t'}:=
 I.laid (λ_ _ q=>JX _ q) (Je _) ⟨hz,its,0,hv,JZ _ rfl⟩
theorem Inv.fresh(I:Inv X pins σ H s):H s.heap.objs.size=none:=I.hok.fresh (Je _)
theorem Inv.lstM(I:Inv X pins σ H s)(hH:H l=some (.lst xs)):xs.length<=sizeLine/\ ∃(its:List Value) (n:Nat),zB xs its/\xs.length=its.length/\s.heap.get? l=some {cls:= .type "list",data:= .seq its.toArray n}:=by
 obtain⟨z,its,n,r,e⟩:=I.hok l _ hH;exact⟨z,its,n,r,r.length,e⟩
theorem zi4(h:n<=sizeLine):Builtin.List.listTooLong n=false:=by
 unfold Builtin.List.listTooLong;exact JO 'o'
end
section
variable {X:Cx}
def zkk:V->List V->Hp->VK->Prop:=λx vs H Q=> ∃l xs y,x= .ref l/\vs= [y]/\H l=some (.lst xs)/\xs.length<sizeLine/\Q .non (upd H l (.lst (xs++ [y])))
theorem xg:MtM X "list.append" zkk:=by
 intro pins s σ H x vs v us Q I rx rv h;obtain⟨l,xs,y,rfl,rfl,hH,hz,q⟩:=h;cases rx;obtain⟨u,rfl,ru⟩:=rv.one;obtain⟨z,its,n,r,hl,e⟩:=I.lstM hH;refine call_meets F.slot_list_append ⟨_,e,rfl⟩ F.entry_list_append (F.args_list_append_2 _ _) (PySem.list_append l its.toArray n u (by rw[Jn];omega)) ⟨e,?_⟩;refine⟨.non,_,I.lset (its':=its++ [u]) hH e (by simp) (r.append (.cons ru .nil)) ?_,rfl,q⟩;rw[Jj,List.length_singleton];omega
def zlm:V->List V->Hp->VK->Prop:=λx vs H Q=> ∃l xs i k y,x= .ref l/\vs= [.int i]/\H l=some (.lst xs)/\ -(2 ^ 63)<=i/\i<2 ^ 63/\seqIndex? i xs.length=some k/\xs[k]? =some y/\Q y (upd H l (.lst (xs.eraseIdx k)))
theorem zgI:MtM X "list.pop" zlm:=by
 intro pins s σ H x vs v us Q I rx rv h;obtain⟨l,xs,i,k,y,rfl,rfl,hH,h1,h2,hk,hy,q⟩:=h;cases rx;obtain⟨u,rfl,ru⟩:=rv.one;obtain⟨t,rfl⟩:=ru;obtain⟨z,its,n,r,hl,e⟩:=I.lstM hH;obtain⟨w,hw,rw'⟩:=r.get hy;refine call_meets F.slot_list_pop ⟨_,e,rfl⟩ F.entry_list_pop (F.args_list_pop_2 _ _)
  (MeetsSeq.list_pop_at l its.toArray n i t k w (fitsIndex_both h1 h2) (by rw[Jn,<-hl];exact hk) (by rw[<-JG];exact hw) (by rw[Jn];omega)) ⟨e,?_⟩
 refine⟨y,_,I.lset (its':=its.eraseIdx k) hH e ?_ (r.eraseIdx k) ?_,rw',q⟩
 ·show its.toArray.eraseIdxIfInBounds k=(its.eraseIdx k).toArray;rw[List.eraseIdxIfInBounds_toArray]
 ·have:=zfQ xs k;omega
def zmE:R2:=λx y H Q=> ∃l b xs zs,x= .ref l/\y= .ref b/\H l=some (.lst xs)/\H b=some (.lst zs)/\xs.length+zs.length<=sizeLine/\ ∀p,H p=none->Q (.ref p) (upd H p (.lst (xs++zs)))
theorem zln:OpR X (binaryOp .Add) zmE:=by
 intro pins s σ H x y v u Q I rx ry h;obtain⟨l,b,xs,zs,rfl,rfl,hH,hB,hz,q⟩:=h;cases rx;cases ry;obtain⟨z,its,n,r,hl,e⟩:=I.lstM hH;obtain⟨z2,its2,n2,r2,hl2,e2⟩:=I.lstM hB;refine PySem.P.add_list e e2 ?_ (by rw[Jn,Jn];omega);have ea:its.toArray++its2.toArray=(its++its2).toArray:=by simp
 rw[ea];exact⟨.ref _,_,I.lnew (t':=s.toks) (r.append r2) (by rw[Jj];omega),rfl,q _ I.fresh⟩
def zmF:R2:=λx y H Q=> ∃l k xs,x= .ref l/\y= .int k/\H l=some (.lst xs)/\ -(2 ^ 63)<=k/\k<2 ^ 63/\xs.length*k.toNat<=sizeLine/\
 ∀p,H p=none->Q (.ref p) (upd H p (.lst (List.replicate k.toNat xs).flatten))
theorem zkl(xs:List α)(k:Nat):(List.replicate k xs).flatten.length=k*xs.length:=by
 induction k with
 |zero=>simp
 |succ k ih=>rw[List.replicate_succ,List.flatten_cons,Jj,ih,Nat.succ_mul,Nat.add_comm]
theorem zlo:OpR X (binaryOp .Mult) zmF:=by
 intro pins s σ H x y v u Q I rx ry h;obtain⟨l,k,xs,rfl,rfl,hH,h1,h2,hz,q⟩:=h;cases rx;obtain⟨t,rfl⟩:=ry;obtain⟨z,its,n,r,hl,e⟩:=I.lstM hH;have hlen:its.toArray.size*k.toNat<=sizeLine:=by rw[Jn,<-hl];exact hz
 have hcap: ¬its.toArray.size*k.toNat>(2 ^ 63 - 1) / 8:=by
  have:(sizeLine:Nat)<=(2 ^ 63 - 1) / 8:=by decide
  omega
 have hfit: ¬(!Builtin.List.listFitsIndex k)=true:=by
  rw[fitsIndex_both h1 h2];exact Ju
 have hlong: ¬Builtin.List.listTooLong (its.toArray.size*k.toNat)=true:=by
  rw[zi4 hlen];exact Ju
 have hnew:List.foldl (λx1 x2=>x1++x2) #[] (List.replicate (if its.toArray.isEmpty=true then 0 else k.toNat) its.toArray)=(List.replicate k.toNat its).flatten.toArray:=by
  have f0: ∀m:Nat,List.foldl (λx1 x2=>x1++x2) #[] (List.replicate m its.toArray)=(List.replicate m its).flatten.toArray:=λm=>by
   have:=zfR its m [];rw[List.nil_append] at this;exact this
  rw[f0];cases its with
  |nil=>simp
  |cons a r'=>rw[Jf (by simp)]
 refine wpAny_binaryOp_repeat_ref (T:="list") (U:="int") 'd' ⟨_,e,rfl⟩ (λs'=>typeIs_int s' k t) noFill_list_mul F.fills_int_mul F.slot_int_rmul repeat_list F.slot_int_index.lookup
  (call_meets F.slot_int_rmul (typeIs_int s k t) F.entry_int_rmul (F.args_int_rmul_2 _ _) (int___rmul___int_list k t l its.toArray n)
   ⟨e,rfl,⟨_,e,rfl⟩,call_meets F.slot_list_mul ⟨_,e,rfl⟩ F.entry_list_mul (F.args_list_mul_2 _ _) (AutoListH.list___mul___list_int_3 l its.toArray n k t hfit hcap hlong) ⟨e,?_⟩⟩)
 rw[hnew];exact⟨.ref _,_,I.lnew (t':=s.toks) (r.rep k.toNat) (by rw[zkl,Nat.mul_comm];exact hz),rfl,q _ I.fresh⟩
end
section
variable {prog:Program} {w:World} {A:Around} {E:Value->Shared->Prop} {s:Shared}
end
section
variable {X:Cx}
end
end L2
namespace Att
open PySem PySem.W PySem.Calls PyProof.Rows
theorem zeU{P:Params}{h:Heap}: ∀(ns:List Int) (vs:List Value),WellAll P h vs (ns.map WData.int)->IntsAre vs ns:=by
 intro ns;induction ns with
 |nil=>
  intro vs w;rw[JQ] at w;cases w;exact .nil
 |cons n ns ih=>
  intro vs w;rw[JA] at w;cases w with
  |cons a b=>
   cases a;exact .cons _ _ (ih _ b)
theorem zit{l:OpenLaw}{n:Nat}(hn:l.most=some n){P:Params}{h:Heap}{args:List WData}{vals:List Value}
  (hpre:l.row.toRowW.claim.pre args=true) (hwl:WellAll P h vals args):
  ∃a vs ns,vals= [Value.ref a]/\args= [WData.list (ns.map WData.int)]/\h.get? a=some {cls:= .type "list",data:= .seq vs.toArray}/\IntsAre vs ns/\ns.length<=n:=by
 have hsh:WShape.hasAll [] args [.list .int]=true:=(pre_splitW hpre).1;have hc:l.pre.holds [] {args:=args}=true:=(pre_splitW hpre).2;obtain⟨d,r,rfl,h1,h2⟩:=hasAllW_cons hsh;obtain rfl:=hasAllW_nil h2;obtain⟨xs,rfl,h3⟩:=hasW_list h1;obtain⟨ns,rfl⟩:=items_int h3;have hlen:ns.length<=n:=by
  unfold OpenLaw.pre at hc;have h4:(WTm.not (.lt (.lit (.int (n:Int))) (.len (.arg 0)))).holds [] {args:= [.list (ns.map .int)]}=true:=by
   have h4:=(holds_andW hc).1;rw[hn] at h4;exact h4
  have h5:=condW_of h4 (w_not (w_lt w_lit (w_len_list (w_arg rfl))));rw[Ja] at h5;refine Nat.le_of_not_lt λq=> ?_;have q':(n:Int)<((ns.length:Nat):Int):=by omega
  first
   |(rw[JN q'] at h5;exact absurd h5 'd')
   |(simp at h5;omega)
 cases hwl with
 |cons w1 w2=>
  cases w2;cases w1 with
  |list ho hall=>exact⟨_,_,ns,rfl,rfl,ho,zeU ns _ hall,hlen⟩
theorem ziu(l:OpenLaw)(args:List WData):l.row.toRowW.claim.post args (.bool true) args=true:=
 postW_of (r:=l.row.toRowW) (X:=(true==true))
  (show WShape.has [] (.bool true) .bool=true by first|rfl|decide|simp [WShape.has,WShape.arms,WShape.armsAll])
  (show (WTm.eq .res (.lit (.bool true))).value [] {args:=args,res:=some (.bool true),after:=args}=some (.bool (true==true)) from w_eq_bool (w_res rfl) w_lit) rfl
theorem attach_call{l:OpenLaw}{n:Nat}{q:Program}{loose:List Str}{XP:(Str->Option Value)->Heap->Prop}{YP:World->Heap->Prop}{d:DefRec}
  (hn:l.most=some n) (hdf:d.params.defaults= [])
  (call: ∀(w:World) (s₀ s₁:Shared) (mg mb:Str->Option Value) (fa:Addr) (o:Obj) (pm cd doc:Value) (a:Addr) (vs:List Value) (ns:List Int),
   Ground q loose [] XP w s₀ mg mb s₁.heap->YP w s₁.heap->
   s₁.heap.get? fa=some o->o.data= .func (docDef d.name d.params d.body d.scope pm cd doc)->s₁.heap.CodeRec cd d.name->mg d.name=some (.ref fa)->
   s₁.heap.get? a=some {cls:= .type "list",data:= .seq vs.toArray}->IntsAre vs ns->ns.length<=n->s₁.gens= #[]->
   codeAny (model l.prog w) callerA (.call (.ref fa) ⟨[.ref a], []⟩) (λr s'=>r= .ok (.ret (.bool true))/\OldK s₁.heap s'.heap/\s'.os=s₁.os/\AllBare s'.gens) s₁):
  WalkO q loose XP YP l.row.toRowW d [] (λf vs=>PySem.call f vs):=by
 intro w s₀ s₁ mg mb G Y fa o pm cd doc dV kV ho hd hcd hD hmg hg args vals as hpre hlay hrd hwl hlo;obtain rfl:dV= .none:=Dflts.none hD hdf;obtain rfl:kV= .none:=Dflts.noKw hD;obtain⟨a,vs,ns,rfl,rfl,hobj,hints,hlen⟩:=zit hn hpre hwl;refine enter_call (codeAny_mono (call w s₀ s₁ mg mb fa o pm cd doc a vs ns G Y ho (fd_plain hd) hcd hmg hobj hints hlen hg) λr s' hq=> ?_);obtain⟨rfl,h2,h3,h4⟩:=hq;exact⟨.inl ⟨.bool true, .bool true, [],rfl,λ_=>rfl, .bool true,ziu l _,λ_=>⟨List.Pairwise.nil,λ_ hm=>(nomatch hm)⟩⟩,h2,h3,h4⟩
section
variable {prog:Program} {w:World} {A:Around} {E:Value->Shared->Prop} {s:Shared} {K:Frag}
end
end Att
namespace L2
open PySem PySem.Spec PyProof.Rows
variable{x:Str}{H:Hp}
theorem zfS: ∀{vs:List Value} {ns:List Int},IntsAre vs ns->zB (ns.map V.int) vs
 |_,_, .nil=> .nil
 |_,_, .cons n t h=> .cons ⟨t,rfl⟩ (zfS h)
abbrev KOf{K:Fg}{h:Heap}(_:K.In h):Fg:=K
def vP(s:Stmt):Arguments:=match s with
 | .FunctionDef _ a _ _ _ _ _ _ _ _=>a
 |_=>{posonlyargs:= [],args:= [],vararg:=none,kwonlyargs:= [],kw_defaults:= [],kwarg:=none,defaults:= []}
def vc(s:Stmt):List Stmt:=match s with
 | .FunctionDef _ _ b _ _ _ _ _ _ _=>b
 |_=> []
def zJ(s:Stmt):Scope:=match s with
 | .FunctionDef _ _ _ _ _ _ sc _ _ _=>sc
 |_=>{kind:= .function,names:= [],isGenerator:=false,isCoroutine:=false}
abbrev CX0:CXT:=λ_ _ _ _ _ _=>False
abbrev E0:XK:=λ_ _ _=>False
structure Fun (K:Fg) (x qual:Str) (st:Stmt) (f:Addr) (fd:FuncData):Prop where
 ex: ∃(oc:Value) (od:Option Addr) (kV doc pm:Value) (an:Option Addr) (cdv ct:Value) (osl:Array (Option Value)),
  fd=PySem.W.fnOf x qual (vP st) (vc st) (zJ st) .none kV doc pm an cdv ct/\K.lookup f=some ⟨oc,od, .func fd,osl⟩/\PySem.W.codeIn K cdv qual=true
 kp:PySem.W.keepIn K (.ref f)=true
section
variable {P:Program} {w:World} {K:Fg} {mg:Str->Option Value} {base:Heap}
theorem Fun.binds{qual:Str}{st:Stmt}{f:Addr}{fd:FuncData}{ps:List Str}(F:Fun K x qual st f fd)
  (h: ∀(kV doc pm:Value) (an:Option Addr) (cdv ct:Value) (us:List Value),us.length=ps.length->bindArgs (PySem.W.fnOf x qual (vP st) (vc st) (zJ st) .none kV doc pm an cdv ct) ⟨us, []⟩=pure (ps.zip us)):zM K fd ps []:=by
 obtain⟨oc,od,kV,doc,pm,an,cdv,ct,osl,rfl,lk,hcd⟩:=F.ex;exact .all (h kV doc pm an cdv ct)
theorem zt{qual:Str}{st:Stmt}{f:Addr}{oc:Value}{od an:Option Addr}{osl:Array (Option Value)}{kV doc pm cdv ct:Value}(l:K.lookup f=some ⟨oc,od, .func (PySem.W.fnOf x qual (vP st) (vc st) (zJ st) .none kV doc pm an cdv ct),osl⟩)
  (c:PySem.W.codeIn K cdv qual=true) (k:PySem.W.keepIn K (.ref f)=true):Fun K x qual st f (PySem.W.fnOf x qual (vP st) (vc st) (zJ st) .none kV doc pm an cdv ct):=⟨⟨oc,od,kV,doc,pm,an,cdv,ct,osl,rfl,l,c⟩,k⟩
end
theorem zkX{A:Around}{k:Nat}(hr:Room k A):A.units+1<cLine:=Nat.lt_of_le_of_lt (Nat.add_le_add_left (by decide:1<=64) _) hr.units
theorem uj{n:Nat}(h:n<=1000):n<sizeLine:=Nat.lt_of_le_of_lt h 'd'
section
variable {X:Cx}
theorem pv(i:Nat){pos:Pos}(hN:X.N[i]? =some x:=by rfl)(hv:Vis X.env.scope x:=by first|exact Or.inl rfl|exact Or.inr (Or.inl rfl)|exact Or.inr (Or.inr rfl))(hd:(x==("__debug__":Str))=false:=by decide)
  (hcd:(x==("__classdict__":Str))=false:=by decide):PE X (.Name x pos) (yn i):=zlc hN hv hd hcd
end
def zj(H H':Hp):Prop:= ∀b o,H b=some o->H' b=some o
theorem zj.refl(H:Hp):zj H H:=λ_ _ h=>h
theorem zj.trans{H1 H2:Hp}(a:zj H H1)(b:zj H1 H2):zj H H2:=λc o h=>b c o (a c o h)
theorem zj.free{H':Hp}(e:zj H H'){l:Addr}(h:H' l=Option.none):H l=Option.none:=by
 cases q:H l with
 |none=>rfl
 |some o=>
  rw[e l o q] at h;cases h
theorem zj.seq{K:Fg}{H':Hp}{a:Addr}{xs:List V}(e:zj H H')(h:SqL K H a xs):SqL K H' a xs:=by
 rcases h with(h|⟨o,h⟩)|h
 ·exact .inl (.inl (e _ _ h))
 ·exact .inl (.inr ⟨o,e _ _ h⟩)
 ·exact .inr h
end L2
set_option maxHeartbeats 4000000
namespace L2
open PySem PySem.Spec PyProof.Rows
variable{P:Program}{w:World}{H H1:Hp}{a:Addr}{o:HO}{K:Fg}{mg:Str->Option Value}{base:Heap}{N:List Str}{qual:Str}{scope:Scope}{f:D->V->Prop}{A:Around}{s:Shared}{pins:List (Addr×Obj)}{σ:St}{Q:VK}{x v y:V}{X:Cx}{n:Nat}{xs ys:List V}{i lo:Int}{α:Type}{env:Env}{wi:TI}{g:TG}{ds:List D}{d e:D}
theorem ye.is{h:Heap}(x:ye P w H h a o): ∃ob,h.get? a=some ob:=by
 cases o with
 |lst xs=>obtain⟨_,_,_,_,e⟩:=x;exact⟨_,e⟩
 |tup xs=>obtain⟨_,_,_,ob,e,_⟩:=x;exact⟨_,e⟩
 |dK kvs=>obtain⟨_,_,_,_,o,_,_,e,_⟩:=x;exact⟨_,e⟩
 |dT kvs=>obtain⟨_,_,_,_,o,_,_,e,_⟩:=x;exact⟨_,e⟩
 |set S n=>obtain⟨o,_,_,_,e,_⟩:=x;exact⟨_,e⟩
 |ins C dx fs=>obtain⟨_,_,_,e,_⟩:=x;exact⟨_,e⟩
 |own y=>obtain⟨_,e⟩:=x;exact⟨_,e⟩
 |xd fs=>obtain⟨_,⟨_,_,_,e,_⟩,_⟩:=x;exact⟨_,e⟩
 |rng lo hi=>obtain⟨_,_,_,e⟩:=x;exact⟨_,e⟩
 |frz ob u=>obtain⟨e,_⟩:=x;exact⟨_,e⟩
 |tbl ps=>exact⟨_,(show h.get? a=some _ from x)⟩
 |met f y=>exact⟨_,(show h.get? a=some _ from x)⟩
 |ext φ=>obtain⟨_,⟨_,e⟩,_⟩:=x;exact⟨_,e⟩
structure Fly (P:Program) (w:World) (l:List Env) (H:Hp) (s:Shared) (ea:Addr) (cls:Value) (H':Hp) (s':Shared):Prop where
 os:s'.os=s.os
 bare:AllBare s'.gens
 un:Un (frs l) [] H H' s.heap s'.heap
 ex: ∃B a0,Heap.FlyingW B l ea cls a0 s'.heap/\HOk P w H' B/\(∀b o,s.heap.get? b=some o->H b=none->b∉frs l->B.get? b=some o)/\
  ∀b o,s.heap.get? b=some o->b∉frs l-> ∃o',B.get? b=some o'
structure Cx.Own (X:Cx):Prop where
 stk:X.stack=X.env::X.outer
 fr:X.env.frame=some X.env.locals
 ex:X.ex= []
section
variable {X:Cx} {pins:List (Addr×Obj)} {σ:St} {H H':Hp} {s s':Shared} {ea:Addr} {cls a0:Value} {B h1 h2 h':Heap} {M:Model} {E:Value->Shared->Prop} {Q:Unit->Shared->Prop}
theorem Inv.fly_out(W:X.Own)(I:Inv X pins σ H s)(u:Un (frs X.stack) [] H H' s.heap h1)(up:h1.UpToSlots s'.heap)(ff:h1.FunFrames B X.stack)(fl:Heap.FlyingW B X.outer ea cls a0 s'.heap)(hok:HOk X.prog X.w H' B)
  (kp: ∀b o,s.heap.get? b=some o->H b=none->b∉frs X.stack->B.get? b=some o) (th: ∀b o,s.heap.get? b=some o->b∉frs X.stack-> ∃o',B.get? b=some o') (os:s'.os=s.os) (bare:AllBare s'.gens):
  Fly X.prog X.w X.outer X.H₀ X.s₀ ea cls H' s':=by
 have nst: ∀b o,X.s₀.heap.get? b=some o->b∉frs X.outer->b∉frs X.stack:=λb o e hb z=>by
  rcases JD.mp (I.stkSub b z) with q|q
  ·exact absurd q (JJ (Jy (JY e) I.ok.above))
  ·exact hb q
 have nx: ∀b,b∉X.ex:=λb=>by rw[W.ex];simp
 have nn: ∀b:Addr,b∉([]:List Addr):=λb=>by simp
 have inS: ∀b,b∈frs X.outer->b∈frs X.stack:=λb hb=>by
  rw[W.stk];obtain⟨env,he,hf⟩:=List.mem_filterMap.mp hb;exact List.mem_filterMap.mpr ⟨env,Jl _ he,hf⟩
 have kpo: ∀b o,X.s₀.heap.get? b=some o->X.H₀ b=none->b∉frs X.outer->B.get? b=some o:=λb o e n hb=>
  kp b o (I.base.keep b o e n hb (nx b)) (I.base.free b o e n (nx b)) (nst b o e hb)
 refine⟨os.trans I.os,bare,⟨λb o e n hb _=>fl.1 b o (kpo b o e n hb),λb o e n hb _=> ?_,λb o e n _=> ?_,λb o e _=> ?_,λb xs e=>u.tups b xs (I.base.tups b xs e),λb o xs e=>u.frzs b o xs (I.base.frzs b o xs e),λb ps e=> ?_⟩,
  B,a0,fl,hok,kpo,λb o e hb=> ?_⟩
 ·obtain⟨sl,e1⟩:=I.base.slot b o e n hb (nx b);obtain⟨sl2,e2⟩:=u.any e1 (I.base.free b o e n (nx b)) (nn b);obtain⟨_,o',ho',hnf⟩:=ff.mem (inS b hb);rw[e2] at ho';cases ho';obtain⟨sl3,e3⟩:=up b _ e2 hnf;exact⟨sl3,e3⟩
 ·obtain⟨o',e1⟩:=I.base.there b o e (nx b);exact u.free b o' e1 (I.base.free b o e n (nx b)) (nn b)
 ·obtain⟨o1,e1⟩:=I.base.there b o e (nx b);by_cases hb:b∈frs X.stack
  ·obtain⟨_,o',ho',hnf⟩:=ff.mem hb;obtain⟨sl3,e3⟩:=up b _ ho' hnf;exact⟨_,e3⟩
  ·obtain⟨o2,e2⟩:=th b o1 e1 hb;exact⟨o2,fl.1 b o2 e2⟩
 ·obtain⟨m1,e1⟩:=I.base.tbls b ps e;obtain⟨m2,e2⟩:=u.tbls b _ e1;exact⟨m1++m2,by rw[e2,Array.append_assoc]⟩
 ·obtain⟨o1,e1⟩:=I.base.there b o e (nx b);exact th b o1 e1 (nst b o e hb)
theorem zlp(W:X.Own)(I:Inv X pins σ H s)(F:Fly X.prog X.w X.stack H s ea cls H' s')
  (hQ: ∀h',Fly X.prog X.w X.outer X.H₀ X.s₀ ea cls H' {s' with heap:=h'}->Q () {s' with heap:=h'}):wpAny M X.A (leaving X.env (.ref ea)) Q E s':=by
 obtain⟨B,a0,fl,hok,kp,th⟩:=F.ex;have fl2:=fl;rw[W.stk] at fl2;refine wpAny_leaves_onW (by rw[I.ok.frames,W.stk]) W.fr fl2 λh' fl' up=>hQ h' ?_;exact I.fly_out W F.un up fl.2.2.1 fl' hok kp th F.os F.bare
theorem Inv.hide(I:Inv X pins σ H s):HOk X.prog X.w H (PySem.W.hideAll s.heap (frs X.stack))/\
  s.heap.FunFrames (PySem.W.hideAll s.heap (frs X.stack)) X.stack:=by
 refine⟨λa u e=>(I.hok a u e).stay (λb v hc q=>PySem.W.hideAll_get _ q λz=> ?_) (λ_ q=>q) λ_ _ q=>q,PySem.W.funFrames_hide I.stack λenv he a ha=>List.mem_filterMap.mpr ⟨env,he,ha⟩⟩;have n:=I.stkFree b z;rcases hc with rfl|hc
 ·rw[n] at e;cases e
 ·rw[n] at hc;cases hc
theorem zkm(W:X.Own)(I:Inv X pins σ H s){args:List Value}(hx:Heap.MadeExcOf s.heap h2 ea cls args)
  (hQ: ∀h',Fly X.prog X.w X.outer X.H₀ X.s₀ ea cls H {s with heap:=h'}->Q () {s with heap:=h'}):wpAny M X.A (leaving X.env (.ref ea)) Q E {s with heap:=h2}:=by
 obtain⟨hok,ff⟩:=I.hide;have ff2:=ff;rw[W.stk] at ff2;refine wpAny_leaves_madeW (s:={s with heap:=h2}) (base:=PySem.W.hideAll s.heap (frs X.stack)) (h:=s.heap) (by rw[I.ok.frames,W.stk]) W.fr (λb o q=>PySem.W.of_hideAll _ q) (by rw[<-W.stk];exact ff) hx λh' t fl tup bt up=>hQ h' ?_;exact I.fly_out (s':={s with heap:=h'}) W (Un.kept hx.keeps) up (ff.of_keeps λb o e _=>⟨o,hx.keeps b o e,rfl⟩) fl hok (λb o e _ hb=>PySem.W.hideAll_get _ e hb) (λb o e hb=>⟨o,PySem.W.hideAll_get _ e hb⟩) rfl I.bare
end
def CXE(P:Program)(w:World):CXT:=λl H s E e s'=> ∃ea cls H',e= .ref ea/\Fly P w l H s ea cls H' s'/\E cls none H'
structure Lv (X:Cx) (Ek:St->XK):Prop where
 call: ∀pins σ ea cls H H' s s',Inv X pins σ H s->Fly X.prog X.w X.stack H s ea cls H' s'->Ek σ cls none H'->X.xe (.ref ea) s'
structure LvR (X:Cx) (Ek:St->XK):Prop extends Lv X Ek where
 new: ∀pins σ ea cls args H s h2,Inv X pins σ H s->Heap.MadeExcOf s.heap h2 ea cls args->Ek σ cls none H->X.xe (.ref ea) {s with heap:=h2}
theorem zi5{P:Program}{w:World}{K:Fg}{mg:Str->Option Value}{base:Heap}{N:List Str}{qual:Str}{scope:Scope}{f:Addr}{cd:Value}{A:Around}{outer:List Env}{s:Shared}{H:Hp}{E:XK}:
  LvR (xp (CXE P w) P w K mg base N qual scope f cd A outer s H E) (λ_=>E):=by
 have W:(xp (CXE P w) P w K mg base N qual scope f cd A outer s H E).Own:=⟨rfl,rfl,rfl⟩
 refine⟨⟨λpins σ ea cls H1 H' s1 s' I F q=> ?_⟩,λpins σ ea cls args H1 s1 h2 I hx q=> ?_⟩
 ·exact zlp W I F λh' F=>⟨ea,cls,H',rfl,F,q⟩
 ·exact zkm W I hx λh' F=>⟨ea,cls,H1,rfl,F,q⟩
section
variable {X:Cx} {Ek:St->XK} {k:Nat} {f C:Addr} {fd:FuncData} {ps:List Str} {sp:Sp} {dvs:List V} {ds:List Value} {x:Str} {p pos:Pos} {e:Expr} {es:List Expr} {t:TA}
theorem zkn{pins:List (Addr×Obj)}{σ:St}{H:Hp}{s:Shared}{Q:VK}{us:List Value}{vs:List V}(L:Lv X Ek)(F:FnOk X.prog X.w X.K X.mg X.base (CXE X.prog X.w) k f fd ps sp)(hr:Room k X.A)(hb:zM X.K fd ps ds)(hd:zB dvs ds)
  (I:Inv X pins σ H s) (r:zB vs us) (h:sp (vs++dvs) H Q (Ek σ)):wpAny (model X.prog X.w) X.A (call (.ref f) us) (EP X pins σ Q) X.xe s:=by
 have r2:zB (vs++dvs) (us++ds):=r.append hd;have hl:(us++ds).length=ps.length:=by rw[<-r2.length];exact F.len _ _ _ _ h
 refine wpAny_call (codeAny_mono (F.run X.A X.stack s H ⟨us, []⟩ (us++ds) (vs++dvs) Q (Ek σ) hr I.env0 (hb s us I.kIn hl) r2 h) λr s' hq=> ?_);cases r with
 |error e=>
  obtain⟨ea,cls,H',rfl,fl,q⟩:=hq;exact L.call pins σ ea cls H H' s s' I fl q
 |ok fl=>
  cases fl with
  |ret u=>exact I.after hq
  |next=>exact False.elim hq
  |brk=>exact False.elim hq
  |cont=>exact False.elim hq
def yL(sp:Sp)(dvs:List V)(Ek:St->XK)(t:TA):TE:=λσ H Q=>t σ H λvs H1=>sp (vs++dvs) H1 Q (Ek σ)
theorem zr(L:Lv X Ek)(F:FnOk X.prog X.w X.K X.mg X.base (CXE X.prog X.w) k f fd ps sp)(hr:Room k X.A)(hg:Gl X x)(hm:X.mg x=some (.ref f))(hk:PySem.W.keepIn X.K (.ref f)=true)(hb:zM X.K fd ps ds)(hd:zB dvs ds)
  (ha:PA X (e::es) t) (hdb:(x==("__debug__":Str))=false:=by decide) (he:starEach (e::es) X.env=(false,eval e X.env)::starEach es X.env:=by rfl) (hpl:(backTo pos (starEach es X.env)).any (·.1)=false:=by rfl):
  PE X (.Call (.Name x p) (e::es) [] pos) (yL sp dvs Ek t):=by
 intro pins s σ H Q I h;refine wpAny_Call_Name_kw (uN I hg hm ?_ hdb);refine PySem.W.callWith_K (h₀:=X.base) I.ok.mod.kin hk (thn (ha pos pins s σ H _ I h) λus s1 ⟨vs,H1,I1,r,q⟩=>⟨I1.kIn,?_⟩) he hpl;exact zkn L F hr hb hd I1 r q
structure Exc (K:Fg) (C:Addr):Prop where
 ok: ∃bmB newId initId,ExcBaseFacts "ValueError" newId initId bmB/\PySem.W.excIn K C bmB newId=true
theorem zko{h:Heap}{bmB:List Value}{newId:String}(X:K.In h)(q:PySem.W.excIn K C bmB newId=true):
  ∃bm N nm q bs hdct sn sub ab col dd k0 k1 k2 k3 k5 mN,h.get? C=some (excClassObj nm q C N bs bm hdct sn sub ab col dd k0 k1 k2 k3 k5 newId)/\h.Ns N mN/\mN "__init__"=none/\OwnTail h bmB bm:=by
 unfold PySem.W.excIn at q;split at q
 case h_2=>cases q
 case h_1 dd cd sl ho=>
  split at q
  case h_2=>cases q
  case h_1 C1 bm1 a0 a1 a2 a3 nw a5 hm hs=>
   simp only[Bool.and_eq_true,beq_iff_eq,Bool.not_eq_true'] at q;obtain⟨⟨⟨⟨⟨e1,e2⟩,e3⟩,e4⟩,e5⟩,e6⟩:=q;subst e1;subst e2;cases cd with
   |mk nm bs mro ns qn hd sn sub ab col del=>
    have m1:mro= .ref C1::bm1:=hm;have m2:del=false:=e3;subst m1;subst m2;have z:sl= #[a0,a1,a2,a3,some (.builtin nw),a5]:=Array.toList_inj.mp hs;subst z;exact⟨bm1,ns,nm,qn,bs,hd,sn,sub,ab,col,dd,a0,a1,a2,a3,a5,_,X _ _ ho,Heap.Ns.of_isNs (PySem.W.isNs_of_in X e5),PySem.W.nsMap_none_of_in X e5 e6,PySem.W.tail_of_in X e4⟩
def yM(C:Addr)(Ek:St->XK)(t:TA):TS:=λ_ σ H=>t σ H λvs H1=>vs.length<=sizeLine/\Ek σ (.ref C) none H1
theorem wR(L:LvR X Ek)(O:Exc X.K C)(hc:X.calm=true)(hg:Gl X x)(hm:X.mg x=some (.ref C))(ha:PA X (e::es) t)(hdb:(x==("__debug__":Str))=false:=by decide)
  (he:starEach (e::es) X.env=(false,eval e X.env)::starEach es X.env:=by rfl) (hpl:(backTo pos (starEach es X.env)).any (·.1)=false:=by rfl) {rpos:Pos}:
  PS X (.Raise (some (.Call (.Name x p) (e::es) [] pos)) none rpos) (yM C Ek t):=by
 intro pins s σ H D I h;obtain⟨bmB,newId,initId,FB,q⟩:=O.ok;obtain⟨tl,N,nm,qn,bs,hdct,sn,sub,ab,col,dd,k0,k1,k2,k3,k5,mN,hC,hN,hni,T⟩:=zko I.ok.mod.kin q;refine wpAny_Raise_call_subT (C:=C) (nm:=nm) (q:=qn) (N:=N) (bs:=bs) (bm:=tl) (hdct:=hdct) (sn:=sn) (sub:=sub) (ab:=ab) (col:=col) (dd:=dd) (k0:=k0) (k1:=k1) (k2:=k2) (k3:=k3) (k5:=k5)
  FB (mN:=mN) (T.hasType FB.hasBase) (I.ok.hd hc) (by rw[he];show (false||(backTo pos (starEach es X.env)).any (·.1))=false;rw[hpl];rfl) hni (uN I hg hm ⟨rfl,?_⟩ hdb)
 have ha':=ha pos pins s σ H _ I h;rw[he] at ha' ⊢;refine Calls.evalArgs_plain (wpAny_mono ha' (λus s2 hq=> ?_) λ_ _ y=>y);obtain⟨vs,H1,I1,r,hl,q1⟩:=hq;refine⟨rfl,by rw[<-r.length];exact hl,I1.bk _ _ hC,hN.keeps I1.bk,T.keeps I1.bk,λh' ea hm=> ?_⟩;exact L.new pins σ ea _ us H1 s2 h' I1 hm q1
end
def zkY(ea:Addr)(cls:Value):HO:= .ext λh=> ∃o vs,h.get? ea=some o/\o.cls=cls/\o.data= .fields vs
section
variable {X:Cx} {pins:List (Addr×Obj)} {σ:St} {H H':Hp} {s s':Shared}
end
section
variable {X:Cx} {body suite:List Stmt} {b₀:Stmt} {n xn:Str} {i:Nat} {C:Addr} {tb:(St->XK)->TS} {ts:TS} {np hpos pos:Pos}
end
theorem Fun.okX{P:Program}{w:World}{mg:Str->Option Value}{base:Heap}{x:Str}{st:Stmt}{f:Addr}{fd:FuncData}{ps:List Str}{k:Nat}{sp:Sp}(F:Fun K x qual st f fd)(S:FnScope N ps (zJ st))(len: ∀vs H Q E,sp vs H Q E->vs.length=ps.length)
  (hbody: ∀(cdv:Value) (A:Around) (outer:List Env) (s:Shared) (H:Hp) (vs:List V) (Q:VK) (E:XK),LvR (xp (CXE P w) P w K mg base N qual (zJ st) f cdv A outer s H E) (λ_=>E)->Room k (A.deeper (envOfC qual (zJ st) s.heap.objs.size f cdv))->sp vs H Q E->
   ∃t,PSs (xp (CXE P w) P w K mg base N qual (zJ st) f cdv A outer s H E) (vc st) t/\t {nx:=λ_ H'=>Q .non H',rt:=Q} (start N vs) H):FnOk P w K mg base (CXE P w) (k+1) f fd ps sp:=by
 obtain⟨oc,od,kV,doc,pm,an,cdv,ct,osl,rfl,lk,hcd⟩:=F.ex;exact zkW lk hcd S len λA outer s H vs Q E hr hsp=>hbody cdv A outer s H vs Q E zi5 hr hsp
theorem qJ:bootBuiltins "len"=some (.builtin "len"):=by decide+kernel
theorem vd:bootBuiltins "min"=some (.builtin "min"):=by decide+kernel
theorem zlq:bootBuiltins "max"=some (.builtin "max"):=by decide+kernel
theorem zfT:bootBuiltins "divmod"=some (.builtin "divmod"):=by decide+kernel
theorem zd9:bootBuiltins "isinstance"=some (.builtin "isinstance"):=by decide+kernel
theorem vQ:bootBuiltins "int"=some (.type "int"):=by decide+kernel
theorem zkp:bootBuiltins "bool"=some (.type "bool"):=by decide+kernel
theorem u9:bootBuiltins "list"=some (.type "list"):=by decide+kernel
open PySem.Builtin PySem.Builtin.ObjectAttr PySem.Builtin.Getset_descriptor
structure ExcCls (K:Fg) (D:Addr):Prop where
 cls:(PySem.W.clsIn K D).isSome=true
 ga:PySem.W.findIn K (.ref D) "__getattribute__"=some (some (.builtin "BaseException.__getattribute__"))
 gt:PySem.W.findIn K (.ref D) "__getattr__"=some none
 cl:PySem.W.findIn K (.ref D) "__class__"=some (some (.builtin "object.__class__"))
 mo:PySem.W.mroIn K D (.type "object")=some true
 mb:PySem.W.mroIn K D (.type "BaseException")=some true
section
variable {prog:Program} {w:World} {A:Around} {E:Value->Shared->Prop} {h:Heap} {g:Array GenState} {d:Drawn} {t:Nat} {os:OsState} {K:Fg} {a D:Addr} {o:Obj}
theorem uk{M:Model}(hx:h.get? a=some o)(hc:o.cls= .ref D):PySem.W.Looks M h (typeOf (.ref a)) (.ref D):=hc ▸ (PySem.W.Looks.ld hx).andThen .now
theorem zfG{R:Result->Shared->Prop}(X:K.In h)(C:ExcCls K D)(hx:h.get? a=some o)(hc:o.cls= .ref D)(hq:R (.ok (.ret (.ref D))) ⟨h,g,d,t,os⟩):
  codeAny (model prog w) A (.call (.builtin "getset_descriptor.__get__") ⟨[.builtin "object.__class__", .ref a, .ref D], []⟩) R ⟨h,g,d,t,os⟩:=by
 have L0:=uk (M:=model prog w) hx hc;have L1:=PySem.W.looks_mroIn (M:=model prog w) X C.mo;have T5:(⟨h,g,d,t,os⟩:Shared).TypeIs (.builtin "object.__class__") "getset_descriptor":=F.typeOf_object_class;refine codeAny_call_builtin F.slot_gs_get.plain F.entry_gs_get (F.slot_gs_get.check _ _ _ _ _ _ _ _ T5 (F.args_gs_get _ _ _) ?_);unfold Builtin.«getset_descriptor.__get__» descrGet;rw[PySem.W.dga_obj];refine JV (JW ?_);unfold descrGetter descrCheckInstance descrNameAndClass;unfold isInstance;simp only[PySem.W.KF.owner_class];repeat lk
 refine⟨Code.quiet_builtin _ (by decide+kernel),codeAny_builtin F.entry_object_class ?_⟩;unfold Builtin.«object.__class__»;unfold shownTypeOf;repeat lk
 exact hq
theorem zeV{tk:Tok}{Q:Fin->Shared->Prop}(X:K.In h)(C:ExcCls K D)(hx:h.get? a=some o)(hc:o.cls= .ref D)(hq:Q (.done (.ret (.ref D))) ⟨h,g,d,t,os⟩):
  wpAny (model prog w) A (Builtin.«object.__getattribute__» ⟨[.ref a, .str "__class__" tk], []⟩) Q E ⟨h,g,d,t,os⟩:=by
 have L0:=uk (M:=model prog w) hx hc;have L1:=PySem.W.looks_findIn (M:=model prog w) X C.cl;have T5:(⟨h,g,d,t,os⟩:Shared).TypeIs (.builtin "object.__class__") "getset_descriptor":=F.typeOf_object_class;have f5:=F.typeOf_object_class;have f6:=F.slot_gs_get.lookup;have f7:=F.slot_gs_set.lookup;repeat (any_goals (first|assumption|(with_reducible refine wpAny_loadPart_at hx ?_;rw[hc])|with_reducible refine PySem.W.Looks.at L1 ?_|wp_step))
 refine zfG X C hx hc ?_;repeat (any_goals (first|assumption|wp_step))
theorem zfb{tk:Tok}{R:Result->Shared->Prop}(X:K.In h)(C:ExcCls K D)(hx:h.get? a=some o)(hc:o.cls= .ref D)(hq:R (.ok (.ret (.ref D))) ⟨h,g,d,t,os⟩)
  (hk: ∀(Q:Unit->Shared->Prop) (E:Value->Shared->Prop) (A:Around) (nameV:Value),Q () ⟨h,g,d,t,os⟩->wpAny (model prog w) A (checkBuiltinCall "BaseException.__getattribute__" ⟨[.ref a,nameV], []⟩) Q E ⟨h,g,d,t,os⟩):
  codeAny (model prog w) A (.call (.builtin "BaseException.__getattribute__") ⟨[.ref a, .str "__class__" tk], []⟩) R ⟨h,g,d,t,os⟩:=
 codeAny_call_builtin F.excAttr_ValueError.ga.plain F.entry_bexc_ga (hk _ _ _ _ (zeV X C hx hc hq))
theorem ziv{M:Model}{nameV:Value}{Q:Unit->Shared->Prop}(X:K.In h)(C:ExcCls K D)(hx:h.get? a=some o)(hc:o.cls= .ref D)(hq:Q () ⟨h,g,d,t,os⟩):
  wpAny M A (checkBuiltinCall "BaseException.__getattribute__" ⟨[.ref a,nameV], []⟩) Q E ⟨h,g,d,t,os⟩:=by
 have k1:builtinKind "BaseException.__getattribute__"=some .slot:=by decide+kernel
 have k2:splitId "BaseException.__getattribute__"=some ("BaseException","__getattribute__"):=by decide+kernel
 have L0:=uk (M:=M) hx hc;have L1:=PySem.W.looks_mroIn (M:=M) X C.mb;have k3:=F.args_bexc_ga (.ref a) nameV;simp only[checkBuiltinCall,k1,k2];refine JV ?_;unfold isInstance;repeat (any_goals (first|assumption|(with_reducible refine wpAny_loadPart_at hx ?_;rw[hc])|with_reducible refine PySem.W.Looks.at L1 ?_|wp_step))
theorem zfc{Q:Option Value->Shared->Prop}(X:K.In h)(C:ExcCls K D)(hx:h.get? a=some o)(hc:o.cls= .ref D)(hq:Q (some (.ref D)) ⟨h,g,d,t+1,os⟩):
  wpAny (model prog w) A (getAttr? (.ref a) "__class__") Q E ⟨h,g,d,t,os⟩:=by
 have L0:=uk (M:=model prog w) hx hc;have L1:=PySem.W.looks_findIn (M:=model prog w) X C.ga;have L2:=PySem.W.looks_findIn (M:=model prog w) X C.gt;have f3:=F.excAttr_ValueError.ga.bind (.ref a);have x2:(Value.builtin "BaseException.__getattribute__"==Value.builtin "object.__getattribute__")=false:=by decide+kernel
 have x1:(onTheHeap (Value.ref D) && Value.builtin "BaseException.__getattribute__"==Value.builtin "object.__getattribute__")=false:=by rw[x2];rfl
 have x0:(false && onTheHeap (Value.builtin "BaseException.__getattribute__"))=false:=rfl;unfold getAttr? getAttrBy?;repeat (any_goals (first|assumption|(with_reducible refine wpAny_loadPart_at hx ?_;rw[hc])|with_reducible refine PySem.W.Looks.at L1 ?_|with_reducible refine PySem.W.Looks.at L2 ?_|wp_step))
 refine zfb X C hx hc ?_ (λQ E A n q=>ziv X C hx hc q);repeat (any_goals (first|assumption|wp_step))
end
theorem zi6{D:Addr}(C:ExcCls K D):PySem.W.KitX K (.ref a) (.ref D) (λh=> ∃o vs,h.get? a=some o/\o.cls= .ref D/\o.data= .fields vs) where
 ty:=λ_ _ _ ⟨_,_,h1,h2,_⟩=>uk h1 h2
 it:=λ_ _ X _=>by
  obtain⟨cd,hc⟩:=Option.isSome_iff_exists.mp C.cls;unfold PySem.W.clsIn at hc;split at hc
  case h_2=>cases hc
  case h_1 ho=>
   intro A' Q' E' s' k q;unfold isType loadHead;exact JV (wpAny_loadPart (k _ _ (X _ _ ho)) (JW q))
 ne:=λh tp dd its n sl X htp=>by
  obtain⟨cd,hc⟩:=Option.isSome_iff_exists.mp C.cls;unfold PySem.W.clsIn at hc;refine Bool.eq_false_iff.mpr λq=> ?_;obtain rfl:D=tp:=Value.ref.inj (beq_iff_eq.mp q);split at hc
  case h_2=>cases hc
  case h_1 ho=>cases (X _ _ ho).symm.trans htp
 ca:=fun {_ _ _ _ _ s} X ⟨_,_,h1,h2,_⟩ k=>by
  obtain⟨h,g,d,t,os⟩:=s;exact zfc X C h1 h2 k
inductive TyX (K:Fg) (H:Hp):V->Value->Prop where
 |old {x:V} {t:Value} (h:TyOf K H x t):TyX K H x t
 |exc {a D:Addr} (e:H a=some (zkY a (.ref D))) (C:ExcCls K D):TyX K H (.ref a) (.ref D)
theorem zeL:xb X (.builtin "isinstance") (λxs H Q=> ∃x c t cv b,xs= [x,c]/\TyX X.K H x t/\zF c cv/\PySem.W.kitOne X.K t cv=some b/\Q (.bl b) H):=by
 intro pins s σ H xs us Q I r h;obtain⟨x,c,t,cv,b,rfl,ty,rc,e,q⟩:=h;obtain⟨u,u2,rfl,r1,r2⟩:=uX r;have e2:u2=cv:=by
  cases c<;>first
   |exact r2.trans rc.symm
   |(exfalso
     obtain⟨t2,z⟩:=rc;subst z;revert e
     unfold PySem.W.kitOne PySem.W.kitCls;cases ty with
     |exc e C=>simp
     |old h=>cases h<;>simp)
 subst e2;cases ty with
 |old h=>exact zis I r1 h e λtk=>⟨.bl b,H,I.tok tk,rfl,q⟩
 | @exc a D ea C=>
  cases (show u=Value.ref a from r1);obtain⟨p,_⟩:=(show ye X.prog X.w H s.heap a (zkY a (.ref D)) from I.hok a _ ea)
  exact PySem.W.kia_one (zi6 C) I.kIn p e (λz=>nomatch z) λtk=>⟨.bl b,H,I.tok tk,rfl,q⟩
structure ClsOk (K:Fg) (C:Addr):Prop where
 cls:(PySem.W.clsIn K C).isSome=true
 ty:PySem.W.typeIn K (.ref C)=some (.type "type")
 me:PySem.W.mroIn K C (.ref C)=some true
theorem zgJ:PySem.W.kitOne K (.type "int") (.type "int")=some true:=by
 unfold PySem.W.kitOne;rw[Jg 'd']
theorem zgf:PySem.W.kitOne K (.type "int") (.type "bool")=some false:=by
 unfold PySem.W.kitOne;rw[Jf 'd'];kernel_rfl
section
variable {X:Cx}
end
section
variable {X:Cx}
theorem zkZ{x:Str}{n:String}{pos:Pos}(hg:Gl X x)(hm:X.mg x=none)(hv:bootBuiltins x=some (.type n))(hn:x≠"__name__":=by decide)(hd:(x==("__debug__":Str))=false:=by decide):PE X (.Name x pos) (tC (.ty n)):=
 zkc (v:= .ty n) hg hm hv rfl hn hd
end
theorem qe{CX:CXT}{P:Program}{w:World}{K:Fg}{mg:Str->Option Value}{base:Heap}{N:List Str}{qual:Str}{scope:Scope}{f:Addr}{cd:Value}{A:Around}{outer:List Env}{s:Shared}{H:Hp}{E:XK}:
  (xp CX P w K mg base N qual scope f cd A outer s H E).K=K:=rfl
theorem slT(h:n<=1000):(n<=sizeLine)=True:=eq_true (JE h 'd')
theorem ixL{p:Addr}(h:SqL K H p xs)(e:atI xs i=some v)(q:Q v H):jM K (.ref p) (.int i) H Q:=⟨p,xs,i,v,rfl,rfl,h,e,q⟩
theorem ixT{p:Addr}(h:SqT K H p xs)(e:atI xs i=some v)(q:Q v H):uZ K (.ref p) (.int i) H Q:=⟨p,xs,i,v,rfl,rfl,h,e,q⟩
theorem xZ{xs:List Int}(h0:0<=i)(h1:i<xs.length):atI (xs.map V.int) i=some (.int (xs.getD i.toNat 0)):=by
 obtain⟨k,rfl⟩:=Int.eq_ofNat_of_zero_le h0;have hk:k<xs.length:=by omega
 refine wq ?_;rw[Jh,Jb hk,JF,Jo,Jb hk];rfl
theorem wS{p:Addr}(h:H p=none)(o:HO):zj H (upd H p o):=λb u q=>by rw[zI (xP q h)];exact q
theorem qf(a b:Int):(vt (.int a) (.int b)=true)=True:=eq_true rfl
theorem qg(a b:Bool):(vt (.bl a) (.bl b)=true)=True:=eq_true rfl
theorem qh(a b:Str):(vt (.str a) (.str b)=true)=True:=eq_true rfl
theorem qi(b:Int):(vt .non (.int b)=true)=True:=eq_true rfl
theorem qj(a:Int):(vt (.int a) .non=true)=True:=eq_true rfl
section
variable {X:Cx}
end
theorem vR{H':Hp}{p:Addr}(s:zj H H')(h:H p=none):zj H (upd H' p o):=λb u q=>by
 rw[zI (xP q h)];exact s b u q
theorem zj.sqT{H':Hp}(e:zj H H')(h:SqT K H a xs):SqT K H' a xs:=by
 rcases h with(h|⟨o,h⟩)|h
 ·exact .inl (.inl (e _ _ h))
 ·exact .inl (.inr ⟨o,e _ _ h⟩)
 ·exact .inr h
theorem ziw(h:xs.getLast? =some v):atI xs (-1)=some v:=by
 have hne:xs≠ []:=by
  intro z;rw[z] at h;cases h
 have hl:0<xs.length:=List.length_pos_iff.mpr hne;have e:ixN xs.length (-1)=some (xs.length - 1):=by
  unfold ixN;rw[Jf 'd',Jg 'o'];congr 1;omega
 unfold atI;rw[e,Option.bind_some,<-List.getLast?_eq_getElem?];exact h
def zmG(t:TS):TS:=λD σ H=> ∃R:St->Hp->Prop,t {D with nx:=R} σ H/\ ∀σ' H',R σ' H'->D.nx σ' H'
theorem xz{st:Stmt}{t:TS}(h:PS X st t):PS X st (zmG t):=by
 intro pins s σ H D I q;obtain⟨R,q1,q2⟩:=q;refine thn (h pins s σ H {D with nx:=R} I q1) λf s1 z=> ?_;cases f with
 |next=>
  obtain⟨σ',H',I',z⟩:=z;exact⟨σ',H',I',q2 _ _ z⟩
 |ret v=>exact z
 |brk=>exact z
 |cont=>exact z
section
variable {X:Cx} {Ek:St->XK} {k:Nat} {f:Addr} {fd:FuncData} {ps:List Str} {sp:Sp} {x:Str} {p pos:Pos} {e:Expr} {es:List Expr} {t:TA}
def qk(i:Nat)(f:Addr)(sp:Sp)(Ek:St->XK)(t:TA):TE:=λσ H Q=>σ[i]? =some (some (.ref f))/\t σ H λvs H1=>sp vs H1 Q (Ek σ)
end
section
variable {X:Cx} {K:Fg}
theorem zhS(e:X.K=K):IxR X (uZ K):=e ▸ zU
end
def SL(cs:List Nat):Str:=⟨cs.toArray⟩
theorem jO(cs:List Nat):(SL cs).length=cs.length:=by show cs.toArray.size=_;simp
theorem zi7(a b:List Nat):SL a++SL b=SL (a++b):=by
 show (⟨a.toArray++b.toArray⟩:Str)=⟨(a++b).toArray⟩;simp
theorem ya(a b:List Nat):(SL a=SL b)=(a=b):=by
 refine propext ⟨λh=> ?_,λh=>by rw[h]⟩
 have:=congrArg (λz:Str=>z.cps.toList) h;exact this
def Its(x:Str):It:=⟨λi _=>i<x.cps.size,λi H v H'=>H'=H/\ ∃c,x.cps[i]? =some c/\v= .str ⟨#[c]⟩,λi _=>i=x.cps.size⟩
section
variable {X:Cx} {tg:Expr}
def ql(tl:TE):TI:=λσ H R=>tl σ H λx H1=> ∃z,x= .str z/\R (Its z) H1
end
def dg(n:Nat):List Nat:=(Nat.toDigits 10 n).map Char.toNat
def sI(i:Int):List Nat:=if i<0 then 45::dg (-i).toNat else dg i.toNat
section
variable {X:Cx}
theorem zQ{x:Str}{cs:List Nat}{j pos}(e:x=SL cs):PE X (.Constant (.str x) j pos) (tC (.str (SL cs))):=e ▸ ww
theorem jP:IxR X (λx y H Q=> ∃cs i c,x= .str (SL cs)/\y= .int i/\cs.length<=sizeLine/\atI cs i=some c/\Q (.str (SL [c])) H):=by
 intro value slice pins s σ H x y v u Q I rx ry h hs;obtain⟨cs,i,c,rfl,rfl,hz,he,q⟩:=h;exact zi1 value slice pins s σ H _ _ v u Q I rx ry ⟨_,i,c,rfl,rfl,by rw[jO];exact hz,he,q⟩ hs
theorem zkq{ys:List (List Nat)}: ∀{us:List Value},zB (ys.map λy=>V.str (SL y)) us->StrsAre us (ys.map SL):=by
 induction ys with
 |nil=>intro us r;rw[JQ] at r;cases r;exact .nil
 |cons n ns ih=>
  intro us r;rw[JA] at r;cases r with
  |cons r1 r2=>
   obtain⟨t,e⟩:=r1;subst e;exact .cons _ t (ih r2)
end
def jn(sep:List Nat):List (List Nat)->List Nat
 | []=> []
 | [x]=>x
 |x::y::r=>x++sep++jn sep (y::r)
theorem zhT(sep:List Nat): ∀yss:List (List Nat),Str.join (SL sep) (yss.map SL)=SL (jn sep yss)
 | []=>rfl
 | [x]=>rfl
 |x::y::r=>by
  have e:=zhT sep (y::r);rw[JA] at e;show SL x++SL sep++Str.join (SL sep) (SL y::r.map SL)=_;rw[e,zi7,zi7];rfl
def zf(cs:List Nat)(n:Nat):List Nat:=List.replicate (n - cs.length) 48++cs
section
variable {X:Cx}
theorem zhU:MtR X "str.join" (λx vs H Q=> ∃sep p ys,x= .str (SL sep)/\vs= [.ref p]/\SqL X.K H p (List.map (λy=>V.str (SL y)) ys)/\sep.length<=16/\(ys.map List.length).sum+ys.length<=1048576/\Q (.str (SL (jn sep ys))) H):=by
 intro pins s σ H x vs v us Q I rx rv h;obtain⟨sep,p,ys,rfl,rfl,hS,hs,hw,q⟩:=h;obtain⟨t,rfl⟩:=rx;obtain⟨u,rfl,ru⟩:=xR rv;obtain rfl:u=Value.ref p:=ru;obtain⟨its,r,pl,hz⟩:=I.list hS;have e:Txt.join (SL sep) (ys.map SL)=SL (jn sep ys):=(StrLaws.glued_eq_join _ _).trans (zhT sep ys);refine join_listW pl.isList (zkq r) (by rw[jO];exact hs) ?_ λt' k=>⟨.str _,H,I.tok _,⟨_,rfl⟩,by rw[e];exact q⟩
 rw[List.map_map,Ja,show ((λx:Str=>x.length) ∘ SL)=List.length from funext λcs=>jO cs];exact hw
end
open PySem PySem.NumText
theorem vx{xs:List Int}{hi:Int}(h: ∀x∈xs,lo<=x/\x<=hi)(h0:0<=i)(h1:i<xs.length):lo<=xs.getD i.toNat 0/\xs.getD i.toNat 0<=hi:=by
 have hl:i.toNat<xs.length:=by omega
 rw[Jo,Jb hl];exact h _ (List.getElem_mem hl)
section
variable {prog:Program} {w:World} {A:Around} {E:Value->Shared->Prop}
end
section
variable {X:Cx} {pos:Pos}
end
def PEt(X:Cx)(e:Expr)(t:TE):Prop:=
 ∀(pins:List (Addr×Obj)) (s:Shared) (σ:St) (H:Hp) (Q:VK),0<s.toks->Inv X pins σ H s->t σ H Q->wpAny (model X.prog X.w) X.A (eval e X.env) (EP X pins σ Q) X.xe s
def PAt(X:Cx)(es:List Expr)(t:TA):Prop:=
 ∀(pos:Pos) (pins:List (Addr×Obj)) (s:Shared) (σ:St) (H:Hp) (Q:List V->Hp->Prop),0<s.toks->Inv X pins σ H s->t σ H Q->wpAny (model X.prog X.w) X.A (spliced (backTo pos (starEach es X.env))) (AP X pins σ Q) X.xe s
def PSst(X:Cx)(st:List Stmt)(t:TS):Prop:=
 ∀(pins:List (Addr×Obj)) (s:Shared) (σ:St) (H:Hp) (D:Ends),0<s.toks->Inv X pins σ H s->t D σ H->wpAny (model X.prog X.w) X.A (execs st X.env) (SP X pins D) X.xe s
section
variable {X:Cx} {a b e o:Expr} {es:List Expr} {te ta tb to:TE} {t:TA} {pos apos cpos:Pos}
end
theorem ja{ys:List (List Nat)}(h0:0<=i)(h1:i<ys.length): ∃y,y∈ys/\atI (ys.map λy=>V.str (SL y)) i=some (.str (SL y)):=by
 obtain⟨k,rfl⟩:=Int.eq_ofNat_of_zero_le h0;have hk:k<ys.length:=by omega
 refine⟨ys[k],List.getElem_mem hk,wq ?_⟩;rw[Jh,Jb hk];rfl
theorem zkr{ys:List α}(h0:0<=i)(h1:i<ys.length): ∃y,y∈ys/\atI ys i=some y:=by
 obtain⟨k,rfl⟩:=Int.eq_ofNat_of_zero_le h0;have hk:k<ys.length:=by omega
 exact⟨ys[k],List.getElem_mem hk,wq (Jb hk)⟩
section
variable {prog:Program} {w:World} {A:Around} {R:Result->Shared->Prop} {s:Shared}
abbrev NoE:Value->Shared->Prop:=λ_ _=>False
theorem zgK{elt target iter:Expr}{ifs:List Expr}{scope:Scope}{pos:Pos}{it acc:Value}{env:Env}(I:Nat->Shared->Prop)
  (turn: ∀n s,I n s->wpAny (model prog w) A (pyNext it) (λr s₁=>match r with
   |none=>R (.ok .next) s₁
   |some v=>wpAny (model prog w) A (letOwnedTupleGo target it v) (λ_ s₁'=>wpAny (model prog w) A (assign target env v) (λ_ s₂=>
     wpAny (model prog w) A (forIn ifs true λc r=>if r=true then do let ok<-isTrue c env (eval c env);pure (ForInStep.yield ok) else pure (ForInStep.yield r)) (λok s₃=>
      if ok=true then wpAny (model prog w) A (eval elt env) (λx s₄=>
       wpAny (model prog w) A (call (.builtin "list.append") [acc,x]) (λ_ s₅=> ∃m,m<n/\I m s₅) NoE s₄) NoE s₃
      else∃m,m<n/\I m s₃) NoE s₂) NoE s₁') NoE s₁) NoE s)
  (n:Nat) (h:I n s):
  codeAny (model prog w) A (.compLoop (.ListComp elt [⟨target,iter,ifs,0⟩] scope pos) 0 it acc env) R s:=by
 refine codeAny_loop rfl I (λn s hI=> ?_) n h;show wpAny _ A ((compTurn (.ListComp elt [⟨target,iter,ifs,0⟩] scope pos) 0 it acc env).onRaise (λx=>do noteFrame x env;theTreesLotGoes x)) _ _ s;refine wpAny_noted ?_;rw[compTurn_list];refine JV (wpAny_standAt (JV (wpAny_mono (turn n s hI) (λr s₁ h₁=> ?_) λ_ _ h'=>h'.elim)));cases r with
 |none=>exact JW h₁
 |some v=>
  refine JV (wpAny_mono h₁ (λ_ s₁' h₁'=> ?_) λ_ _ h'=>h'.elim);refine JV (wpAny_mono h₁' (λ_ s₂ h₂=>JV (wpAny_mono h₂ (λok s₃ h₃=> ?_) λ_ _ h'=>h'.elim)) λ_ _ h'=>h'.elim);cases ok with
  |false=>exact JW ⟨rfl,h₃⟩
  |true=>
   exact JV (JV (wpAny_mono h₃ (λx s₄ h₄=>JV (wpAny_mono h₄ (λ_ s₅ h₅=>JW (JW ⟨rfl,h₅⟩)) λ_ _ h'=>h'.elim)) λ_ _ h'=>h'.elim))
end
structure CA where
 cl:List (Str×Addr)
 C:Addr
 s:Shared
 H:Hp
 fp:List Addr
def Cx.comp(X:Cx)(scope:Scope)(N:List Str)(a:CA):Cx:=
 {X with N:=N,s₀:=a.s,H₀:=a.H,env:=compEnvC scope a.cl a.C X.env,outer:=X.stack,ex:=a.fp,fn:=λ_=>false,pn:= [],xe:=NoE}
theorem qm{a:CA}:(X.comp scope N a).K=X.K:=rfl
theorem vy:Lv X (λ_ _ _ _=>False):=⟨λ_ _ _ _ _ _ _ _ _ _ q=>q.elim⟩
def vz(outer:List (Str×NameKind))(oN:List Str)(inner:List (Str×NameKind))(N:List Str)(n:Nat)(js:List Nat):Bool:=
 N.length==n+js.length &&
 (inner.all λp=>p.2 != .cell && (p.2 != .local||inner.lookup p.1==some .local) && (p.2 != .free||(inner.lookup p.1==some .free && (outer.lookup p.1==some .cell||outer.lookup p.1==some .free)))) &&
 (List.range js.length).all λk=>match js[k]?,N[n+k]? with
  |some j,some x=>oN[j]? ==some x && (outer.lookup x==some .cell||outer.lookup x==some .free) && inner.lookup x==some .free
  |_,_=>false
def yd(σ:St)(n:Nat)(js:List Nat):St:=List.replicate n none++js.map λj=>(σ[j]?).join
def Sub(σ τ:St):Prop:=σ.length=τ.length/\ ∀(i:Nat) v,σ[i]? =some (some v)->τ[i]? =some (some v)
theorem qo:Sub [] []=True:=eq_true ⟨rfl,λi v h=>by simp at h⟩
theorem qp{τ:St}{x:Option V}:Sub (none::σ) (x::τ)=Sub σ τ:=by
 refine propext ⟨λh=>⟨by simpa using h.1,λi v e=>by simpa using h.2 (i+1) v (by simpa using e)⟩,λh=>⟨by simpa using h.1,λi v e=> ?_⟩⟩;cases i with
 |zero=>simp at e
 |succ i=>simpa using h.2 i v (by simpa using e)
theorem qq{τ:St}:Sub (some x::σ) (some x::τ)=Sub σ τ:=by
 refine propext ⟨λh=>⟨by simpa using h.1,λi v e=>by simpa using h.2 (i+1) v (by simpa using e)⟩,λh=>⟨by simpa using h.1,λi v e=> ?_⟩⟩;cases i with
 |zero=>simpa using e
 |succ i=>simpa using h.2 i v (by simpa using e)
theorem zhg(h: ∀p∈scope.names,p.2=NameKind.free-> ∃c,env.cells.lookup p.1=some c):
  ∃cl,closureFor scope env=pure cl/\(∀x c,cl.lookup x=some c->env.cells.lookup x=some c)/\ ∀p∈scope.names,p.2=NameKind.free-> ∃c,cl.lookup p.1=some c:=by
 have go: ∀(names:List (Str×NameKind)) (acc:List (Str×Addr)),(∀p∈names,p.2=NameKind.free-> ∃c,env.cells.lookup p.1=some c)->(∀x c,acc.lookup x=some c->env.cells.lookup x=some c)->
   ∃cl,(forIn names acc (λx r=>match x with|(name,kind)=>if (kind==NameKind.free)=true then do let c<-cellOf env name;pure (ForInStep.yield ((name,c)::r)) else pure (ForInStep.yield r)):Sem (List (Str×Addr)))=pure cl/\
    (∀x c,cl.lookup x=some c->env.cells.lookup x=some c)/\(∀p∈names,p.2=NameKind.free-> ∃c,cl.lookup p.1=some c)/\ ∀x,(∃c,acc.lookup x=some c)-> ∃c,cl.lookup x=some c:=by
  intro names;induction names with
  |nil=>intro acc _ ha;exact⟨acc,rfl,ha,λp hp=>absurd hp (by simp),λ_ q=>q⟩
  |cons p r ih=>
   intro acc hp ha;obtain⟨nm,k⟩:=p;by_cases hk:k=NameKind.free
   ·subst hk;obtain⟨c,hc⟩:=hp (nm, .free) Jq rfl;have ec:cellOf env nm=pure c:=by unfold cellOf;rw[hc]
    have ha': ∀x c',((nm,c)::acc).lookup x=some c'->env.cells.lookup x=some c':=λx c' e=>by
     rw[List.lookup_cons] at e;cases z:x==nm with
     |true=>rw[z] at e;cases e;rw[eq_of_beq z];exact hc
     |false=>rw[z] at e;exact ha x c' e
    obtain⟨cl,e,q1,q2,q3⟩:=ih ((nm,c)::acc) (λp hp'=>hp p (Jl _ hp')) ha';refine⟨cl,?_,q1,λp hp' hf=> ?_,λx hx=>q3 x ?_⟩
    ·rw[List.forIn_cons];simp only[beq_self_eq_true,if_true,ec];exact e
    ·rcases JD.mp hp' with rfl|hp'
     ·exact q3 nm ⟨c,by rw[List.lookup_cons,beq_self_eq_true]⟩
     ·exact q2 p hp' hf
    ·rw[List.lookup_cons];cases z:x==nm with
     |true=>exact⟨c,rfl⟩
     |false=>exact hx
   ·obtain⟨cl,e,q1,q2,q3⟩:=ih acc (λp hp'=>hp p (Jl _ hp')) ha;refine⟨cl,?_,q1,λp hp' hf=> ?_,q3⟩
    ·rw[List.forIn_cons];have z:(k==NameKind.free)=false:=by simpa using hk
     simp only[z,Js,if_false];exact e
    ·rcases JD.mp hp' with rfl|hp'
     ·exact absurd hf hk
     ·exact q2 p hp' hf
 obtain⟨cl,e,q1,q2,_⟩:=go scope.names [] h (λx c e=>by simp at e);refine⟨cl,?_,q1,q2⟩;unfold closureFor;simp only[pure_bind,bind_pure];exact e
theorem um{outer:List (Str×NameKind)}{oN:List Str}{inner:List (Str×NameKind)}{js:List Nat}(h:vz outer oN inner N n js=true):
  N.length=n+js.length/\(∀p∈inner,p.2≠NameKind.cell)/\(∀p∈inner,p.2=NameKind.local->inner.lookup p.1=some .local)/\
  (∀p∈inner,p.2=NameKind.free->inner.lookup p.1=some .free/\(outer.lookup p.1=some .cell\/outer.lookup p.1=some .free))/\
  ∀k j x,js[k]? =some j->N[n+k]? =some x->oN[j]? =some x/\(outer.lookup x=some .cell\/outer.lookup x=some .free)/\inner.lookup x=some .free:=by
 unfold vz at h;simp only[Bool.and_eq_true,beq_iff_eq,List.all_eq_true,List.mem_range] at h;obtain⟨⟨h1,h2⟩,h3⟩:=h;refine⟨h1,λp hp=>by simpa using (h2 p hp).1.1,λp hp e=> ?_,λp hp e=> ?_,λk j x e1 e2=> ?_⟩
 ·have z:=(h2 p hp).1.2;rw[e] at z;simpa using z
 ·have z:=(h2 p hp).2;rw[e] at z;simpa using z
 ·have z:=h3 k (Jc.mp e1).1;rw[e1,e2] at z;simpa [and_assoc] using z
theorem zdR{x:Str}:(relabel scope env).names.lookup x=(scope.names.lookup x).map (λk=>if (k==NameKind.free && env.scope.kind== .function && env.kindOf x==some .cell)=true then NameKind.cell else k):=by
 show (scope.names.map λ(n,k)=>if (k==NameKind.free && env.scope.kind== .function && env.kindOf n==some .cell)=true then (n,NameKind.cell) else (n,k)).lookup x=_;induction scope.names with
 |nil=>rfl
 |cons p r ih=>
  obtain⟨nm,k⟩:=p;rw[JA];dsimp only;cases z:x==nm with
  |true=>
   obtain rfl:=eq_of_beq z;by_cases c:(k==NameKind.free && env.scope.kind== .function && env.kindOf x==some .cell)=true
   ·simp only[c,if_true,List.lookup_cons,z,Option.map_some]
   ·rw[Jf c];simp only[List.lookup_cons,z,Option.map_some,Jf c]
  |false=>
   by_cases c:(k==NameKind.free && env.scope.kind== .function && env.kindOf nm==some .cell)=true
   ·rw[Jg c];simp only[List.lookup_cons,z];exact ih
   ·rw[Jf c];simp only[List.lookup_cons,z];exact ih
section
variable {X:Cx} {scope:Scope} {N:List Str} {n:Nat} {js:List Nat} {pins:List (Addr×Obj)} {σ:St} {H:Hp} {s₃:Shared} {cl:List (Str×Addr)} {fp:List Addr}
theorem zi8(cap:vz X.env.scope.names X.N scope.names N n js=true)(hkind:scope.kind= .function)(I:Inv X pins σ H s₃)(hc1: ∀x c,cl.lookup x=some c->X.env.cells.lookup x=some c)
  (hc2: ∀p∈scope.names,p.2=NameKind.free-> ∃c,cl.lookup p.1=some c) (hf: ∀b∈fp,xY X pins H b) (hlt: ∀b∈fp,b<s₃.heap.objs.size) {h₁:Heap} {t:Nat} {m:Str->Option Value}
  (hns:h₁.Ns s₃.heap.objs.size m) (hk: ∀b o,s₃.heap.get? b=some o->h₁.get? b=some o):
  Inv (X.comp scope N ⟨cl,s₃.heap.objs.size,s₃,H,fp⟩) [] (yd σ n js) H {s₃ with heap:=h₁,toks:=t}:=by
 obtain⟨k1,k2,k3,k4,k5⟩:=um cap;have kf: ∀x,((relabel scope X.env).names.lookup x=some .cell\/(relabel scope X.env).names.lookup x=some .free)->scope.names.lookup x=some .free:=λx h=>by
  rw[zdR] at h;cases e:scope.names.lookup x with
  |none=>rw[e] at h;simp at h
  |some k=>
   rw[e,Option.map_some] at h;cases k with
   |free=>rfl
   |cell=>exact absurd rfl (k2 (x, .cell) (PySem.mem_of_lookup e))
   | «local» =>simp at h
   |_=>simp at h
 have bf: ∀x,scope.names.lookup x=some .free->(relabel scope X.env).names.lookup x=some .cell\/(relabel scope X.env).names.lookup x=some .free:=λx h=>by
  rw[zdR,h,Option.map_some];split
  ·exact .inl rfl
  ·exact .inr rfl
 have isC: ∀c v,s₃.heap.IsCell c v->h₁.IsCell c v:=λc v ⟨o,ho,r⟩=>⟨o,hk _ _ ho,r⟩
 refine⟨⟨I.ok.mod,hkind,I.ok.glob,I.ok.blt,Je _,λx y c e1 e2=>I.ok.inj x y c (hc1 x c e1) (hc1 y c e2),λx h=>hc2 (x, .free) (PySem.mem_of_lookup (kf x h)) rfl,λx c h=>absurd h Ju,I.ok.hd,I.ok.frames, .inl rfl,
   λb hb=>⟨JJ (hlt b hb),λx c e=>(hf b hb).2.2.2.2.1 x c (hc1 x c e)⟩,I.bs,JE I.ok.bsz I.sz,λb o e hb=> ?_,λb hb hz=> ?_,I.stack,I.stkFree⟩,
  rfl,I.bare,Un.kept hk,⟨m,hns,λi x v e1 e2 e3=> ?_⟩,λx c e=> ?_,I.hok.fresh (Je _),λx c e=>I.freeC x c (hc1 x c e),λp hp=>absurd hp (by simp [Cx.comp]),I.hok.kept hk,?_⟩
 ·rcases (hf b hb).2.2.2.1 with z|z
  ·exact I.ok.noex b o e z
  ·exact absurd (Jy (JY e) (JE I.ok.bsz z)) (Nat.lt_irrefl _)
 ·rcases JD.mp (I.stkSub b hz) with z|z
  ·exact(hf b hb).2.1 z
  ·exact(hf b hb).2.2.1 z
 ·have e2':(yd σ n js)[i]? =some (some v):=e2;unfold yd at e2';by_cases hi:i<n
  ·rw[List.getElem?_append_left (by simpa using hi),List.getElem?_replicate,Jg hi] at e2';cases e2'
  ·rw[List.getElem?_append_right (by simpa using hi),List.length_replicate,Jh] at e2';cases ej:js[i - n]? with
   |none=>rw[ej] at e2';cases e2'
   |some j=>
    rw[ej,Option.map_some] at e2';have e4:(σ[j]?).join=some v:=JU e2';have e5:σ[j]? =some (some v):=by
     cases q:σ[j]? with
     |none=>rw[q] at e4;cases e4
     |some w=>rw[q] at e4;rw[show w=some v from e4]
    have e1':N[n+(i - n)]? =some x:=by rw[show n+(i - n)=i by omega];exact e1
    obtain⟨c1,c2,c3⟩:=k5 (i - n) j x ej e1';obtain⟨m',hn',hl'⟩:=I.loc;obtain⟨u,ru,lk⟩:=hl' j x v c1 e5 (.inr c2);refine⟨u,ru,?_⟩;rcases lk with⟨hk',_⟩|⟨_,c,hc,hcell⟩
    ·have hk'':X.env.scope.names.lookup x=some .local:=hk';rcases c2 with c2|c2<;>(rw[hk''] at c2;cases c2)
    ·obtain⟨c',hc'⟩:=hc2 (x, .free) (PySem.mem_of_lookup c3) rfl
     have:=hc1 x c' hc';rw[hc] at this;cases this;exact .inr ⟨bf x c3,c,hc',isC _ _ hcell⟩
 ·obtain⟨v,z⟩:=I.cell x c (hc1 x c e);exact⟨v,isC _ _ z⟩
 ·show (yd σ n js).length=N.length;unfold yd;rw[Jj,List.length_replicate,Ja,k1]
end
def PIf(X:Cx)(ifs:List Expr)(t:TT):Prop:=
 ∀(pins:List (Addr×Obj)) (s:Shared) (σ:St) (H:Hp) (Q:Bool->Hp->Prop),Inv X pins σ H s->t σ H Q->
  wpAny (model X.prog X.w) X.A (forIn ifs true λc r=>if r=true then do let ok<-isTrue c X.env (eval c X.env);pure (ForInStep.yield ok) else pure (ForInStep.yield r)) (TP X pins σ Q) X.xe s
def ym:TT:=λ_ H Q=>Q true H
theorem xh:PIf X [] ym:=λ_ _ _ H _ I h=>wpAny_tests_nil ⟨H,I,h⟩
theorem jb{c:Expr}{t:TT}(hc:PT X c t):PIf X [c] t:=λpins s σ H Q I h=>wpAny_tests_one (hc pins s σ H Q I h)
def uq(J:It)(σ0:St)(g:TG)(tc:TT)(te:TE)(l:Addr)(Q:VK)(H1:Hp):Prop:=
 ∃W:Nat->Nat->List V->Hp->Prop,(∃m,W 0 m [] (upd H1 l (.lst [])))/\ ∀i m xs H,W i m xs H->H l=some (.lst xs)/\xs.length<sizeLine/\
  ((J.stop i H/\Q (.ref l) H)\/(J.go i H/\ ∀x H',J.yld i H x H'->g x σ0 H' λσ2 H2=>Sub σ0 σ2/\tc σ2 H2 λb H3=>
   if b=true then te σ2 H3 λv H4=>H4 l=some (.lst xs)/\ ∃m',m'<m/\W (i+1) m' (xs++ [v]) (upd H4 l (.lst (xs++ [v]))) else∃m',m'<m/\W (i+1) m' xs H3))
section
variable {X:Cx} {tg elt iter:Expr} {ifs:List Expr} {scope:Scope} {pos:Pos} {N:List Str} {n:Nat} {js:List Nat} {g:CA->TG} {tc:CA->TT} {te:CA->TE}
theorem zfU{pins:List (Addr×Obj)}{σ:St}{H₁:Hp}{s₂:Shared}{E:Value->Shared->Prop}(cap:vz X.env.scope.names X.N scope.names N n js=true)(hkind:scope.kind= .function)(hcalm:X.calm=true)
  (hg: ∀a,PG (X.comp scope N a) tg (g a)) (hc: ∀a,PIf (X.comp scope N a) ifs (tc a)) (he: ∀a,PE (X.comp scope N a) elt (te a))
  (I:Inv X pins σ H₁ s₂) {it:Addr} {fp:List Addr} {tn:Nat->Heap->Prop} {J:It} (T:Turn X.prog X.w X.K tg J fp it tn) (h0:tn 0 s₂.heap) (hf: ∀b∈fp,xY X pins H₁ b)
  {cl:List (Str×Addr)} (hc1: ∀x c,cl.lookup x=some c->X.env.cells.lookup x=some c) (hc2: ∀p∈scope.names,p.2=NameKind.free-> ∃c,cl.lookup p.1=some c)
  {Q:VK} (hq: ∀l,H₁ l=none-> ∀a,uq J (yd σ n js) (g a) (tc a) (te a) l Q H₁)
  {RR:Value->Addr->Result->Shared->Prop}
  (hRR: ∀l C H' s' m,Inv X pins σ H' s'->s'.heap.Ns C m->H' C=none->C≠X.env.locals->X.s₀.heap.objs.size<=C->(∀x c,X.env.cells.lookup x=some c->c≠C)->(∀p∈X.pn++pins,p.1≠C)->C∉X.fs->Q (.ref l) H'->RR (.ref l) C (.ok .next) s'):
  wpAny (model X.prog X.w) X.A (newList []) (λacc s₃=>wpAny (model X.prog X.w) X.A (newFunctionEnv scope X.env.globals cl [] X.env.qual none .none (some X.env)) (λcenv s₄=>
   codeAny (model X.prog X.w) X.A (.compStart (.ListComp elt [⟨tg,iter,ifs,0⟩] scope pos) 0 (.ref it) acc {cenv with scope:=relabel scope X.env}) (RR acc cenv.locals) s₄) E s₃) E s₂:=by
 obtain⟨k1,k2,k3,k4,k5⟩:=um cap;refine wpAny_newObj_type (wpAny_newFunctionEnv k2 (by intro y hy;simp at hy) (λh₁ hns₁ hsb₁=> ?_) hkind);dsimp only at hns₁ hsb₁ ⊢;obtain⟨s3,hs3⟩: ∃s3:Shared,s3={s₂ with heap:=s₂.heap.push {cls:= .type "list",dict:=none,data:= .seq ([]:List Value).toArray} }:=⟨_,rfl⟩
 have eh:s₂.heap.push {cls:= .type "list",dict:=none,data:= .seq ([]:List Value).toArray}=s3.heap:=by rw[hs3]
 rw[eh] at hns₁ hsb₁ ⊢;have kp3: ∀b o,s₂.heap.get? b=some o->s3.heap.get? b=some o:=λb o e=>by rw[<-eh];exact JX _ e
 have hl0:H₁ s₂.heap.objs.size=none:=I.hok.fresh (Je _);have I3:Inv X pins σ (upd H₁ s₂.heap.objs.size (.lst [])) s3:=by
  rw[hs3];exact I.laid (t':=s₂.toks) (λb u e=>JX _ e) (Je _) ⟨Jv _, [],0, .nil,JZ _ rfl⟩
 have fpo: ∀b∈fp,∃o,s₂.heap.get? b=some o:=λb hb=>let ⟨o,e,_⟩:=T.obj _ _ h0 b hb;⟨o,e⟩;have fpl: ∀b∈fp,b≠s₂.heap.objs.size:=λb hb z=>let ⟨o,e⟩:=fpo b hb;Nat.lt_irrefl _ (z ▸ JY e);have hf3: ∀b∈fp,xY X pins (upd H₁ s₂.heap.objs.size (.lst [])) b:=λb hb=>⟨by rw[zI (fpl b hb)];exact(hf b hb).1,(hf b hb).2⟩
 have hlt3: ∀b∈fp,b<s3.heap.objs.size:=λb hb=>let ⟨o,e⟩:=fpo b hb;JY (kp3 b o e);have kp1: ∀b o,s3.heap.get? b=some o->h₁.get? b=some o:=λb o e=>hsb₁.extBut b o (JJ (JY e)) (JX _ e);have IC:=zi8 (t:=s3.toks) cap hkind I3 hc1 hc2 hf3 hlt3 hns₁ kp1;have hCl:X.env.locals<s3.heap.objs.size:=I3.lt;obtain⟨a,ha⟩: ∃a:CA,a=⟨cl,s3.heap.objs.size,s3,upd H₁ s₂.heap.objs.size (.lst []),fp⟩:=⟨_,rfl⟩
 rw[<-ha] at IC;have aC:a.C=s3.heap.objs.size:=by rw[ha]
 obtain⟨W,⟨m0,w0⟩,turn⟩:=hq _ hl0 a;have tn1:tn 0 h₁:=T.keep _ _ _ h0 λb _ o e=>kp1 b o (kp3 b o e);have stat: ∀{H':Hp},(∀b∈fp,H' b=none)-> ∀b∈fp,xY (X.comp scope N a) [] H' b:=fun {H'} hn b hb=>
  ⟨hn b hb,by show b≠a.C;rw[aC];exact JJ (hlt3 b hb),λhz=>by
    rcases JD.mp (I3.stkSub b hz) with z|z
    ·exact(hf b hb).2.1 z
    ·exact(hf b hb).2.2.1 z, .inl (by show b∈a.fp;rw[ha];exact hb),λx c e=>(hf b hb).2.2.2.2.1 x c (hc1 x c (by rw[ha] at e;exact e)),λp hp=>absurd hp (by simp [Cx.comp])⟩
 have loop: ∀s4:Shared,s4={s3 with heap:=h₁,toks:=s3.toks}->
   codeAny (model X.prog X.w) X.A (.compLoop (.ListComp elt [⟨tg,iter,ifs,0⟩] scope pos) 0 (.ref it) (.ref s₂.heap.objs.size) (X.comp scope N a).env) (RR (.ref s₂.heap.objs.size) s3.heap.objs.size) s4:=by
  rintro s4 rfl;refine zgK (λk s'=> ∃i xs H',Inv (X.comp scope N a) [] (yd σ n js) H' s'/\tn i s'.heap/\(∀b∈fp,H' b=none)/\W i k xs H') ?_ m0 ⟨0, [],_,IC,tn1,λb hb=>(hf3 b hb).1,w0⟩;rintro k s5 ⟨i,xs,H5,I5,t5,f5,w5⟩;obtain⟨hl5,hz5,alt⟩:=turn i k xs H5 w5;rcases alt with⟨stop,qn⟩|⟨go,step⟩
  ·refine thn (T.done (X.comp scope N a) rfl rfl rfl hcalm i [] s5 _ H5 NoE I5 (stat f5) t5 stop) λr s6 ⟨hr,I6⟩=> ?_;subst hr;obtain⟨m6,hn6,_⟩:=I6.loc;have hn6':s6.heap.Ns s3.heap.objs.size m6:=by rw[<-aC];exact hn6
   have u6:Un (frs X.stack) fp (upd H₁ s₂.heap.objs.size (.lst [])) H5 s3.heap s6.heap:=by
    have z:=I6.base;rw[ha] at z;exact z
   have os6:s6.os=s3.os:=by
    have z:=I6.os;rw[ha] at z;exact z
   have I7:Inv X pins σ H5 s6:=I3.call' os6 u6 I6.hok I6.bare λb hb=>⟨(hf b hb).2.2.2.1,(hf b hb).2.1,(hf b hb).2.2.2.2.1,(hf b hb).2.2.2.2.2⟩
   refine hRR _ _ H5 s6 m6 I7 hn6' (by have z:=I6.free;rw[show (X.comp scope N a).env.locals=s3.heap.objs.size from aC] at z;exact z) (Nat.ne_of_gt hCl) I3.sz (λx c e z=> ?_) (λp hp z=> ?_) (I3.nofs (Je _)) qn
   ·obtain⟨v,q⟩:=I3.cell x c e;exact Nat.lt_irrefl _ (z ▸ q.lt)
   ·exact Nat.lt_irrefl _ (z ▸ JY (I3.pin p hp).1)
  ·refine thn (T.item (X.comp scope N a) rfl rfl rfl hcalm i [] s5 _ H5 NoE I5 (stat f5) t5 go) λr s6 ⟨u,hr,h6⟩=> ?_;subst hr;refine thn h6 λ_ s7 ⟨x,H7,I7,r7,y7,t7,f7⟩=> ?_;have I7':=I7.pinned (stat f7) (T.obj _ _ t7);rw[List.nil_append] at I7';refine thn (hg a _ s7 _ H7 x u _ I7' r7 (step x H7 y7)) λ_ s8 ⟨σ8,H8,I8,sub8,q8⟩=> ?_;refine thn (hc a _ s8 σ8 H8 _ I8 q8) λok s9 ⟨H9,I9,q9⟩=> ?_;have back: ∀{σ':St} {H':Hp} {s':Shared},Inv (X.comp scope N a) (uf fp s7.heap) σ' H' s'->Sub (yd σ n js) σ'->Inv (X.comp scope N a) [] (yd σ n js) H' s'/\tn (i+1) s'.heap/\ ∀b∈fp,H' b=none:=fun {σ' H' s'} I' sb=>by
    refine⟨(I'.pins_of λp hp=>absurd hp (by simp)).weak sb.1 sb.2,T.keep _ _ _ t7 λb hb o e=>(I'.pin (b,o) (List.mem_append_right _ (uR hb e))).1,λb hb=> ?_⟩;obtain⟨o,e,d⟩:=T.obj _ _ t7 b hb;exact(I'.pin (b,o) (List.mem_append_right _ (uR hb e))).2.1
   cases ok with
   |false=>
    obtain⟨m',lt,w'⟩:=q9;obtain⟨b1,b2,b3⟩:=back I9 sub8;exact⟨m',lt,i+1,xs,H9,b1,b2,b3,w'⟩
   |true=>
    refine thn (he a _ s9 σ8 H9 _ I9 q9) λy s10 ⟨v,H10,I10,r10,hl10,m',lt,w'⟩=> ?_;refine thn (xg (X:=X.comp scope N a) _ s10 σ8 H10 (.ref s₂.heap.objs.size) [v] _ [y] (λ_ H'=>H'=upd H10 s₂.heap.objs.size (.lst (xs++ [v]))) I10 rfl (.cons r10 .nil) ⟨_,xs,v,rfl,rfl,hl10,hz5,rfl⟩) λ_ s11 ⟨_,H11,I11,_,e11⟩=> ?_;subst e11;obtain⟨b1,b2,b3⟩:=back I11 sub8;exact⟨m',lt,i+1,_,_,b1,b2,b3,w'⟩
 have eE:{newEnv scope s3.heap.objs.size X.env.globals cl X.env.qual none Value.none (some X.env) builtinsNs with scope:=relabel scope X.env}=(X.comp scope N a).env:=by rw[ha];rfl
 have lp:=loop _ rfl;rw[<-eE] at lp;have sf:=T.self X.A 0 {s3 with heap:=h₁,toks:=s3.toks} (λit' s'=>codeAny (model X.prog X.w) X.A (.compLoop (.ListComp elt [⟨tg,iter,ifs,0⟩] scope pos) 0 it' (.ref s₂.heap.objs.size) {newEnv scope s3.heap.objs.size X.env.globals cl X.env.qual none Value.none (some X.env) builtinsNs with scope:=relabel scope X.env}) (RR (.ref s₂.heap.objs.size) s3.heap.objs.size) s')
  (notedBy (model X.prog X.w) X.A {newEnv scope s3.heap.objs.size X.env.globals cl X.env.qual none Value.none (some X.env) builtinsNs with scope:=relabel scope X.env} λx s'=>RR (.ref s₂.heap.objs.size) s3.heap.objs.size (.error x) s') tn1 lp
 have fin:=codeAny_compStart_list lp sf;rw[hs3] at fin ⊢;exact fin
def xq(n:Nat)(js:List Nat)(wi:TI)(g:CA->TG)(tc:CA->TT)(te:CA->TE):TE:=λσ H Q=>wi σ H λJ H1=> ∀l,H1 l=none-> ∀a:CA,uq J (yd σ n js) (g a) (tc a) (te a) l Q H1
theorem zel(cap:vz X.env.scope.names X.N scope.names N n js=true)(I:Inv X pins σ H s):
  ∃cl,closureFor scope X.env=pure cl/\(∀x c,cl.lookup x=some c->X.env.cells.lookup x=some c)/\ ∀p∈scope.names,p.2=NameKind.free-> ∃c,cl.lookup p.1=some c:=
 zhg λp hp e=>I.ok.has p.1 ((um cap).2.2.2.1 p hp e).2
theorem xA(cap:vz X.env.scope.names X.N scope.names N n js=true)(hkind:scope.kind= .function)(hcalm:X.calm=true)(hi:PI X tg iter wi)
  (hg: ∀a,PG (X.comp scope N a) tg (g a)) (hc: ∀a,PIf (X.comp scope N a) ifs (tc a)) (he: ∀a,PE (X.comp scope N a) elt (te a))
  (hs: ∀x,foldedSetIterable iter X.env x=pure x:=by intro _;rfl):PE X (.ListComp elt [⟨tg,iter,ifs,0⟩] scope pos) (xq n js wi g tc te):=by
 intro pins s σ H Q I h;obtain⟨cl,hclos,hc1,hc2⟩:=zel cap I;rw[eval_ListComp];refine wpAny_comprehension_free (use:=none) rfl hs hclos hkind (um cap).2.2.1 (thn (hi pins s σ H _ I h) λv s1 h1=>thn h1 λitv s2 h2=> ?_);obtain⟨it,fp,tn,J,H2,rfl,I2,T,st2,f2,q⟩:=h2;refine zfU (RR:=λacc C=>compPost (model X.prog X.w) X.A X.xe none (EP X pins σ Q) acc C) cap hkind hcalm hg hc he I2 T st2 f2 hc1 hc2 q ?_;intro l C H' s' m I' hn hC hL hs0 hcell hpin hfs hq;exact⟨m,hn,λh' hsb=>⟨.ref l,H',I'.turned (t':=s'.toks) (λb o hb e=>(hsb.2 b hb).trans e) hC hL (.inr hs0) hcell hpin,rfl,hq⟩⟩
theorem vA{i:Nat}{y:Str}{py spos:Pos}(hN:X.N.Nodup)(hi:X.N[i]? =some y)(hy:X.env.scope.names.lookup y=some .local)(cap:vz X.env.scope.names X.N scope.names N n js=true)(hkind:scope.kind= .function)(hcalm:X.calm=true)(hw:PI X tg iter wi)
  (hg: ∀a,PG (X.comp scope N a) tg (g a)) (hc: ∀a,PIf (X.comp scope N a) ifs (tc a)) (he: ∀a,PE (X.comp scope N a) elt (te a))
  (hsw:swapsWith (.ListComp elt [⟨tg,iter,ifs,0⟩] scope pos) (some (.Name y py)) spos.line X.env=pure true:=by rfl)
  (hs: ∀x,foldedSetIterable iter X.env x=pure x:=by intro _;rfl):PS X (.Assign [.Name y py] (.ListComp elt [⟨tg,iter,ifs,0⟩] scope pos) spos) (yk (xq n js wi g tc te) (yh i)):=by
 intro pins s σ H D I h;obtain⟨cl,hclos,hc1,hc2⟩:=zel cap I;rw[exec_Assign_Name_used _ _ _ _ hsw];refine JV (wpAny_standAt (JV ?_));show wpAny _ X.A (do let _<-comprehension (.ListComp elt [⟨tg,iter,ifs,0⟩] scope pos) scope X.env _ (newList []) false (eval iter X.env) (some (assign (.Name y py) X.env))) _ _ s;refine JV (wpAny_mono (wpAny_comprehension_free (use:=some (assign (.Name y py) X.env)) (Q:=λ_ s'=>SP X pins D .next s') rfl hs hclos hkind (um cap).2.2.1
  (thn (hw pins s σ H _ I h) λv s1 h1=>thn h1 λitv s2 h2=> ?_)) (λ_ s' hq=>JW (JW hq)) λ_ _ e=>e)
 obtain⟨it,fp,tn,J,H2,rfl,I2,T,st2,f2,q⟩:=h2;refine zfU (Q:=λx H1=>D.nx (σ.set i (some x)) H1) (RR:=λacc C=>compPost (model X.prog X.w) X.A X.xe (some (assign (.Name y py) X.env)) (λ_ s'=>SP X pins D .next s') acc C) cap hkind hcalm hg hc he I2 T st2 f2 hc1 hc2 q ?_;intro l C H' s' m I' hn hC hL hs0 hcell hpin hfs hq;show wpAny _ X.A (assign (.Name y py) X.env (.ref l)) _ _ _;refine wpAny_assign_Name (kU I' hN hi (.inl hy) (v:= .ref l) rfl (λs3 I3 hsb=> ?_) (.inr hy));obtain⟨b,hsb,hb⟩:=hsb;have nb:C≠b:=by
  rcases hb with rfl|hb
  ·exact hL
  ·exact λz=>hcell y b hb z.symm
 refine⟨m,hn.sameBut hsb nb,λh' hsb'=> ?_⟩;exact⟨σ.set i (some (.ref l)),H',I3.turned (t':=s3.toks) (λc o hc e=>(hsb'.2 c hc).trans e) hC hL (.inr hs0) hcell hpin,hq⟩
end
structure Lists (J:It) (H1:Hp) (ys:List V):Prop where
 go: ∀i H,zj H1 H->i<ys.length->J.go i H
 stop: ∀H,zj H1 H->J.stop ys.length H
 yld: ∀i H x H',zj H1 H->J.yld i H x H'->i<ys.length->H'=H/\ys[i]? =some x
theorem xr(h:SqL K H1 a ys):Lists (Itl K a) H1 ys where
 go:=λi H sm hi=>⟨ys,ys[i],sm.seq h,Jb hi⟩
 stop:=λH sm=>⟨ys,sm.seq h,Je _⟩
 yld:=λi H x H' sm ⟨e,y⟩ _=>⟨e,y ys (sm.seq h)⟩
def rng(lo:Int)(n:Nat):List V:=(List.range n).map λ(i:Nat)=>V.int (lo+i)
theorem xi(lo:Int)(n:Nat):(rng lo n).length=n:=by unfold rng;rw[Ja,JI]
theorem jc{i:Nat}(h:i<n):(rng lo n)[i]? =some (.int (lo+i)):=by
 unfold rng;rw[Jh,List.getElem?_range h];rfl
theorem ur(lo:Int)(n:Nat)(H1:Hp):Lists (Itr lo n) H1 (rng lo n) where
 go:=λi H _ hi=>by rw[xi] at hi;exact hi
 stop:=λH _=>by rw[xi];exact Je _
 yld:=λi H x H' _ ⟨e,y⟩ hi=>⟨e,by rw[xi] at hi;rw[jc hi,y]⟩
theorem zix{J:It}{σ0:St}{g:TG}{tc:TT}{te:TE}{l:Addr}{Q:VK}(f:V->List V)(L:Lists J H1 ys)(hl:H1 l=none)(hz:ys.length<sizeLine)(hf: ∀x∈ys,(f x).length<=1)
  (hs: ∀x H (K1:VK) (K0:Hp->Prop),x∈ys->zj H1 H->(∀v H4,f x= [v]->zj H H4->K1 v H4)->(∀H3,f x= []->zj H H3->K0 H3)->g x σ0 H λσ2 H2=>Sub σ0 σ2/\tc σ2 H2 λb H3=>if b=true then te σ2 H3 K1 else K0 H3)
  (hd: ∀H,zj H1 H->H l=some (.lst (ys.flatMap f))->Q (.ref l) H):uq J σ0 g tc te l Q H1:=by
 have ll: ∀i,((ys.take i).flatMap f).length<=i:=λi=>by
  have z: ∀(zs:List V),(∀x∈zs,(f x).length<=1)->(zs.flatMap f).length<=zs.length:=λzs=>by
   induction zs with
   |nil=>intro _;exact Je _
   |cons x r ih=>
    intro h;rw[List.flatMap_cons,Jj,Jp]
    have:=h x Jq
    have:=ih λy hy=>h y (Jl _ hy);omega
  have:=z (ys.take i) λx hx=>hf x (List.mem_of_mem_take hx);rw[JB] at this;omega
 refine⟨λi m xs H=>i<=ys.length/\m=ys.length - i/\zj H1 H/\xs=(ys.take i).flatMap f/\H l=some (.lst xs),⟨ys.length,Jv _,'o',wS hl _,rfl,yg⟩,?_⟩;rintro i m xs H ⟨hi,rfl,sm,rfl,e⟩;refine⟨e,Nat.lt_of_le_of_lt (ll i) 'o',?_⟩;by_cases hlt:i<ys.length
 ·refine .inr ⟨L.go i H sm hlt,λx H' y=> ?_⟩;obtain⟨rfl,hx⟩:=L.yld i H x H' sm y hlt;have et:ys.take (i+1)=ys.take i++ [x]:=by rw[JH,hx];rfl
  have ef:(ys.take (i+1)).flatMap f=(ys.take i).flatMap f++f x:=by rw[et,List.flatMap_append,List.flatMap_singleton]
  refine hs x H' _ _ (Ji hx) sm (λv H4 ev s4=> ?_) (λH3 ev s3=> ?_)
  ·exact⟨s4 _ _ e,ys.length - (i+1),'o',hlt,rfl,vR (sm.trans s4) hl,by rw[ef,ev],yg⟩
  ·exact⟨ys.length - (i+1),'o',hlt,rfl,sm.trans s3,by rw[ef,ev,Jt],s3 _ _ e⟩
 ·have ei:i=ys.length:=by omega
  subst ei;rw[JC] at e;exact .inl ⟨L.stop H sm,hd H sm e⟩
theorem ut{J:It}{σ0:St}{g:TG}{te:TE}{l:Addr}{Q:VK}(f:V->V)(L:Lists J H1 ys)(hl:H1 l=none)(hz:ys.length<sizeLine)
  (hs: ∀x H (K1:VK),x∈ys->zj H1 H->(∀H4,zj H H4->K1 (f x) H4)->g x σ0 H λσ2 H2=>Sub σ0 σ2/\te σ2 H2 K1)
  (hd: ∀H,zj H1 H->H l=some (.lst (ys.map f))->Q (.ref l) H):uq J σ0 g ym te l Q H1:=by
 refine zix (λx=> [f x]) L hl hz (λ_ _=>Je _) (λx H K1 K0 hx sm k1 k0=> ?_) (λH sm e=>hd H sm ?_)
 ·simp only[ym,if_true];exact hs x H K1 hx sm λH4 s4=>k1 _ H4 rfl s4
 ·rw[e,List.map_eq_flatMap]
def Sm(i:Int):Prop:=i.natAbs<2 ^ 3000
theorem Sm.bits(h:Sm i):Builtin.Int.intBits i<=2 ^ 20:=by
 unfold Builtin.Int.intBits;by_cases z:i.natAbs=0
 ·obtain rfl:i=0:=by omega
  decide
 ·have q:i.natAbs.log2<3000:=(Nat.log2_lt z).mpr h;have e:(2:Nat) ^ 20=1048576:=by decide
  split<;>omega
theorem Sm.log(h:Sm i):i.natAbs.log2<9000:=by
 by_cases z:i.natAbs=0
 ·rw[z];decide
 ·have q:i.natAbs.log2<3000:=(Nat.log2_lt z).mpr h;omega
theorem Sm.pow10{k:Nat}(hk:k<=700)(h:i.natAbs<=10 ^ k):Sm i:=by
 refine Nat.lt_of_le_of_lt h ?_;refine Nat.lt_of_le_of_lt (Nat.pow_le_pow_left (show 10<=2 ^ 4 by decide) k) ?_;rw[<-Nat.pow_mul];exact Nat.pow_lt_pow_right 'd' 'o'
theorem Sm.small(h0: -1000000000000000000<=i)(h1:i<=1000000000000000000):Sm i:=by
 refine Sm.pow10 (k:=18) 'd' ?_;have e:(10:Nat) ^ 18=1000000000000000000:=by decide
 omega
section
variable {X:Cx}
theorem vS:OpR X (binaryOp .Mult) (rI (λi j=>uT i j\/(Sm i/\Sm j)) λi j=> .int (i*j)):=opI λ_ _ _ _ _ _ _ hc q=>mul_int q (by
 rcases hc with hc|⟨h1,h2⟩
 ·exact hc.ok
 ·exact IntMulOk.of_bits h1.bits h2.bits)
theorem uu:OpR X (binaryOp .FloorDiv) (rI (λ_ j=>0<j/\Sm j) λi j=> .int (i / j)):=opI λi j _ _ _ _ _ hc q=>by
 have h1:(0:Int)<j:=hc.1;exact floordiv_int 'o' (by rw[Int.fdiv_eq_ediv_of_nonneg i 'o'];exact q) (.inl (PyProof.noPylong_of_log2 hc.2.log))
theorem jd:bootBuiltins "sum"=some (.builtin "sum"):=by decide+kernel
theorem uv:bootBuiltins "sorted"=some (.builtin "sorted"):=by decide+kernel
theorem zeM(ns:List Int): ∀k,k<=ns.length->PySem.preSum (λi=>ns.getD i 0) k=(ns.take k).sum
 |0,_=>rfl
 |k+1,h=>by
  show PySem.preSum (λi=>ns.getD i 0) k+ns.getD k 0=_;rw[zeM ns k 'o',JH,List.sum_append,Jo,Jb 'o'];simp
theorem je(hc:X.calm=true):xb X (.builtin "sum") (λxs H Q=> ∃(p:Addr) (ns:List Int),xs= [.ref p]/\SqL X.K H p (ns.map V.int)/\Q (.int ns.sum) H):=by
 intro pins s σ H xs us Q I r h;obtain⟨p,ns,rfl,hq,q⟩:=h;obtain⟨u,rfl,ru⟩:=xR r;obtain rfl:u=Value.ref p:=ru;obtain⟨its,rv,pl,hz⟩:=I.list hq;have hl:ns.length=its.length:=by rw[<-rv.length,Ja]
 obtain⟨o0,n0,e0,_⟩:=id pl;have ne:p≠s.heap.objs.size:=JJ (JY e0);refine call_sum_walkG (wpAny_pyIter_list pl.isList ?_);refine⟨s.heap.objs.size,_,_,_,_,_,λi=>ns.getD i 0,rfl,Walks.list (show X.A.in1.handled=none from I.ok.hd hc) s.heap.objs.size p ne its.toArray,⟨⟨_,JZ _ rfl,rfl,rfl⟩,?_⟩,?_,?_,λh' tk t' hk=> ?_⟩
 ·exact pl.isList.at λo e=>JX _ e
 ·intro b hb;have hb':b=s.heap.objs.size\/b=p:=by simpa using hb
  show b<(s.heap.push _).objs.size;rw[Heap.size_push];rcases hb' with rfl|rfl
  ·exact Nat.lt_succ_self _
  ·exact Nat.lt_succ_of_lt (JY e0)
 ·intro i v hv;have hi:its[i]? =some v:=by simpa using hv
  obtain⟨hlt,_⟩:=Jc.mp hi;have hb:(ns.map V.int)[i]? =some (.int ns[i]):=by rw[Jh,Jb 'o'];rfl
  obtain⟨u',e',t,rfl⟩:=rv.get hb;rw[hi] at e';cases e';have z:ns.getD i 0=ns[i]:=by rw[Jo,Jb 'o'];rfl
  exact⟨t,by show Value.int ns[i] t=Value.int (ns.getD i 0) t;rw[z]⟩
 ·have e:PySem.preSum (λi=>ns.getD i 0) its.toArray.size=ns.sum:=by rw[Jn,<-hl,zeM ns _ (Je _),JC]
  rw[e];refine⟨.int _,H,I.kept (t':=tk) λb o hb=>hk b o (λz=> ?_) (JX _ hb),⟨_,rfl⟩,q⟩;have z':b=s.heap.objs.size:=by simpa using z
  exact absurd (z' ▸ JY hb) (Nat.lt_irrefl _)
end
inductive D where
 |non
 |bl (b:Bool)
 |int (i:Int)
 |str (cs:List Nat)
 |tup (ds:List D)
 |lst (ds:List D)
def all2(f:D->V->Prop):List D->List V->Prop
 | [], []=>True
 |d::ds,x::xs=>f d x/\all2 f ds xs
 |_,_=>False
def Dp(K:Fg)(H:Hp):Nat->D->V->Prop
 |_, .non,v=>v= .non
 |_, .bl b,v=>v= .bl b
 |_, .int i,v=>v= .int i
 |_, .str cs,v=>v= .str (SL cs)
 |n+1, .tup ds,v=> ∃a xs,v= .ref a/\SqT K H a xs/\all2 (Dp K H n) ds xs
 |n+1, .lst ds,v=> ∃a xs,v= .ref a/\SqL K H a xs/\all2 (Dp K H n) ds xs
 |0, .tup _,_=>False
 |0, .lst _,_=>False
def wH(f:D->D->Bool):List D->List D->Bool
 | [], []=>true
 |a::r,b::t=>f a b && wH f r t
 |_,_=>false
def eqb:Nat->D->D->Bool
 |_, .non, .non=>true
 |_, .bl a, .bl b=>a==b
 |_, .bl a, .int b=>(if a then 1 else 0)==b
 |_, .int a, .bl b=>a==(if b then 1 else 0)
 |_, .int a, .int b=>a==b
 |_, .str a, .str b=>a==b
 |n+1, .tup a, .tup b=>wH (eqb n) a b
 |n+1, .lst a, .lst b=>wH (eqb n) a b
 |_,_,_=>false
def vB:D->Bool
 | .tup _=>true
 | .lst _=>true
 |_=>false
def qR:Nat->D->D->Prop
 |n+1, .tup a, .tup b=> ∀(j:Nat) (x y:D),a[j]? =some x->b[j]? =some y->qR n x y
 |n+1, .lst a, .lst b=> ∀(j:Nat) (x y:D),a[j]? =some x->b[j]? =some y->qR n x y
 |_,a,b=>vB a=false/\vB b=false
theorem xK{f:D->V->Prop}: ∀{ds:List D} {xs:List V},all2 f ds xs->ds.length=xs.length
 | [], [],_=>rfl
 |_::_,_::_,h=>by rw[Jp,Jp,xK h.2]
 | [],_::_,h=>h.elim
 |_::_, [],h=>h.elim
theorem vT{f:D->V->Prop}: ∀{ds:List D} {xs:List V} {j:Nat} {d:D} {x:V},all2 f ds xs->ds[j]? =some d->xs[j]? =some x->f d x
 | [], [],_,_,_,_,h,_=>by simp at h
 |a::r,b::t,0,d,x,h,h1,h2=>by
  simp at h1 h2;rw[<-h1,<-h2];exact h.1
 |a::r,b::t,j+1,d,x,h,h1,h2=>vT h.2 (by simpa using h1) (by simpa using h2)
 | [],_::_,_,_,_,h,_,_=>h.elim
 |_::_, [],_,_,_,h,_,_=>h.elim
theorem jQ{f:D->D->Bool}: ∀{ds:List D},(∀d∈ds,f d d=true)->wH f ds ds=true
 | [],_=>rfl
 |d::r,h=>by
  unfold wH;rw[h d Jq,jQ λx hx=>h x (Jl _ hx)];rfl
theorem jf(h:all2 f ds xs)(hd:d∈ds): ∃x,f d x:=by
 obtain⟨j,hj,rfl⟩:=List.getElem_of_mem hd;have hl:=xK h;exact⟨xs[j],vT h (Jb hj) (Jb 'o')⟩
theorem uw{K:Fg}{H:Hp}: ∀{n:Nat} {d:D} {v:V},Dp K H n d v->eqb n d d=true
 |_, .non,_,_=>by unfold eqb;rfl
 |_, .bl _,_,_=>by unfold eqb;simp
 |_, .int _,_,_=>by unfold eqb;simp
 |_, .str _,_,_=>by unfold eqb;simp
 |n+1, .tup ds,v,h=>by
  unfold Dp at h;obtain⟨a,xs,e,hq,hs⟩:=h;unfold eqb;exact jQ λd hd=>let ⟨x,hx⟩:=jf hs hd;uw hx
 |n+1, .lst ds,v,h=>by
  unfold Dp at h;obtain⟨a,xs,e,hq,hs⟩:=h;unfold eqb;exact jQ λd hd=>let ⟨x,hx⟩:=jf hs hd;uw hx
 |0, .tup _,_,h=>by unfold Dp at h;exact h.elim
 |0, .lst _,_,h=>by unfold Dp at h;exact h.elim
theorem jg{K:Fg}{H:Hp}: ∀{n:Nat} {d:D} {v:V},Dp K H n d v->qR n d d
 |0, .non,_,_=>⟨rfl,rfl⟩
 |0, .bl _,_,_=>⟨rfl,rfl⟩
 |0, .int _,_,_=>⟨rfl,rfl⟩
 |0, .str _,_,_=>⟨rfl,rfl⟩
 |_+1, .non,_,_=>⟨rfl,rfl⟩
 |_+1, .bl _,_,_=>⟨rfl,rfl⟩
 |_+1, .int _,_,_=>⟨rfl,rfl⟩
 |_+1, .str _,_,_=>⟨rfl,rfl⟩
 |n+1, .tup ds,v,h=>by
  unfold Dp at h;obtain⟨a,xs,e,hq,hs⟩:=h;intro j x y h1 h2;rw[h1] at h2;cases h2;obtain⟨z,hz⟩:=jf hs (Ji h1);exact jg hz
 |n+1, .lst ds,v,h=>by
  unfold Dp at h;obtain⟨a,xs,e,hq,hs⟩:=h;intro j x y h1 h2;rw[h1] at h2;cases h2;obtain⟨z,hz⟩:=jf hs (Ji h1);exact jg hz
 |0, .tup _,_,h=>by unfold Dp at h;exact h.elim
 |0, .lst _,_,h=>by unfold Dp at h;exact h.elim
def sc:D->Option V
 | .non=>some .non
 | .bl b=>some (.bl b)
 | .int i=>some (.int i)
 | .str cs=>some (.str (SL cs))
 |_=>none
theorem Dp.sc{K:Fg}{H:Hp}{n:Nat}{d:D}{v x:V}(h:sc d=some x):Dp K H n d v=(v=x):=by
 cases d with
 |non=>cases h;unfold Dp;rfl
 |bl b=>cases h;unfold Dp;rfl
 |int i=>cases h;unfold Dp;rfl
 |str cs=>cases h;unfold Dp;rfl
 |tup ds=>cases h
 |lst ds=>cases h
theorem Dp.flat(h:Dp K H 0 d v): ∃x,L2.sc d=some x:=by
 cases d with
 |tup ds=>unfold Dp at h;exact h.elim
 |lst ds=>unfold Dp at h;exact h.elim
 |_=>exact⟨_,rfl⟩
theorem Dp.isRef(h:L2.sc d=none)(p:Dp K H n d v): ∃a,v= .ref a:=by
 cases d with
 |tup ds=>
  cases n with
  |zero=>unfold Dp at p;exact p.elim
  |succ n=>unfold Dp at p;obtain⟨a,_,e,_⟩:=p;exact⟨a,e⟩
 |lst ds=>
  cases n with
  |zero=>unfold Dp at p;exact p.elim
  |succ n=>unfold Dp at p;obtain⟨a,_,e,_⟩:=p;exact⟨a,e⟩
 |non=>cases h
 |bl _=>cases h
 |int _=>cases h
 |str _=>cases h
theorem sc_ref(h:sc d=some x):x≠ .ref a:=by
 cases d<;>cases h<;>(intro z;cases z)
theorem sc_flat(h:sc d=some x):xJ x=true:=by
 cases d<;>cases h<;>rfl
theorem sc_inj(h:sc d=some x)(g:sc e=some x):d=e:=by
 cases d<;>cases h<;>cases e<;>first
  |rfl
  |(cases g;rfl)
  |cases g
  |(have z:=V.str.inj (JU g)
    rw[ya] at z;rw[z])
theorem zi9(h:sc d=some x)(g:sc e=none): ¬qR n d e:=by
 intro c;cases n<;>cases d<;>cases h<;>cases e<;>first
  |(unfold qR at c;obtain⟨_,z⟩:=c;cases z;done)
  |(cases g;done)
theorem zja(h:sc d=none)(g:sc e=some x): ¬qR n d e:=by
 intro c;cases n<;>cases e<;>cases g<;>cases d<;>first
  |(unfold qR at c;obtain⟨z,_⟩:=c;cases z;done)
  |(cases h;done)
theorem zls(a b:List Nat):(SL a==SL b)=(a==b):=by
 rw[Bool.eq_iff_iff,beq_iff_eq,beq_iff_eq,ya]
theorem zjb(h:sc d=some x)(g:sc e=some y):eqb n d e=eqV x y:=by
 cases d<;>cases h<;>cases e<;>cases g<;>(unfold eqb eqV)<;>first
  |rfl
  |exact(zls _ _).symm
section
variable {X:Cx} {pins:List (Addr×Obj)} {σ:St} {H:Hp} {s:Shared}
theorem zgM(I:Inv X pins σ H s)(h:SqT X.K H a xs)(g:SqL X.K H a ys):False:=by
 obtain⟨i1,_,⟨o1,e1,c1,_⟩,_⟩:=I.tuple h;obtain⟨i2,_,⟨o2,n2,e2,c2,_⟩,_⟩:=I.list g;rw[e1] at e2;cases e2;rw[c1] at c2;revert c2
 simp
theorem jR{f g:D->V->Prop}: ∀{ds es:List D} {xs:List V},(∀d∈ds,∀e x,f d x->g e x->d=e)->all2 f ds xs->all2 g es xs->ds=es
 | [], [], [],_,_,_=>rfl
 |d::r,e::t,x::z,h,p,q=>by rw[h d Jq e x p.1 q.1,jR (λd hd=>h d (Jl _ hd)) p.2 q.2]
 | [],_::_, [],_,_,q=>q.elim
 | [],_::_,_::_,_,p,_=>p.elim
 |_::_, [], [],_,p,_=>p.elim
 |_::_, [],_::_,_,_,q=>q.elim
 |_::_,_::_, [],_,p,_=>p.elim
 | [], [],_::_,_,p,_=>p.elim
theorem Dp.det(I:Inv X pins σ H s): ∀{n:Nat} {d e:D} {v:V},Dp X.K H n d v->Dp X.K H n e v->d=e:=by
 intro n;induction n with
 |zero=>
  intro d e v p q;obtain⟨x,hx⟩:=Dp.flat p;obtain⟨y,hy⟩:=Dp.flat q;rw[Dp.sc hx] at p;rw[Dp.sc hy] at q;exact sc_inj hx (by rw[hy,<-q,p])
 |succ n ih=>
  intro d e v p q;cases hx:L2.sc d with
  |some x=>
   rw[Dp.sc hx] at p;cases hy:L2.sc e with
   |some y=>
    rw[Dp.sc hy] at q;exact sc_inj hx (by rw[hy,<-q,p])
   |none=>
    obtain⟨a,e2⟩:=Dp.isRef hy q;exact absurd (p.symm.trans e2) (sc_ref hx)
  |none=>
   cases hy:L2.sc e with
   |some y=>
    rw[Dp.sc hy] at q;obtain⟨a,e2⟩:=Dp.isRef hx p;exact absurd (q.symm.trans e2) (sc_ref hy)
   |none=>
    cases d with
    |tup ds=>
     unfold Dp at p;obtain⟨a,xs,rfl,h1,p⟩:=p;cases e with
     |tup es=>
      unfold Dp at q;obtain⟨b,ys,eb,h2,q⟩:=q;cases eb;have exy:=I.tuple_inj h1 h2;subst exy;exact congrArg D.tup (jR (f:=Dp X.K H n) (g:=Dp X.K H n) (λd _ e x p q=>ih p q) p q)
     |lst es=>
      unfold Dp at q;obtain⟨b,ys,eb,h2,q⟩:=q;cases eb;exact(zgM I h1 h2).elim
     |non=>cases hy
     |bl _=>cases hy
     |int _=>cases hy
     |str _=>cases hy
    |lst ds=>
     unfold Dp at p;obtain⟨a,xs,rfl,h1,p⟩:=p;cases e with
     |lst es=>
      unfold Dp at q;obtain⟨b,ys,eb,h2,q⟩:=q;cases eb;have exy:=I.list_inj h1 h2;subst exy;exact congrArg D.lst (jR (f:=Dp X.K H n) (g:=Dp X.K H n) (λd _ e x p q=>ih p q) p q)
     |tup es=>
      unfold Dp at q;obtain⟨b,ys,eb,h2,q⟩:=q;cases eb;exact(zgM I h2 h1).elim
     |non=>cases hy
     |bl _=>cases hy
     |int _=>cases hy
     |str _=>cases hy
    |non=>cases hx
    |bl _=>cases hx
    |int _=>cases hx
    |str _=>cases hx
theorem jh: ∀(ds es:List D),((List.range (min ds.length es.length)).all (λj=>eqb n (ds.getD j .non) (es.getD j .non)) && ds.length==es.length)=wH (eqb n) ds es:=by
 intro ds es;rw[Bool.eq_iff_iff,Bool.and_eq_true,List.all_eq_true,beq_iff_eq];induction ds generalizing es with
 |nil=>
  cases es with
  |nil=>simp [wH]
  |cons e t=>simp [wH]
 |cons d r ih=>
  cases es with
  |nil=>simp [wH]
  |cons e t=>
   unfold wH;rw[Bool.and_eq_true,<-ih t];constructor
   ·rintro⟨h,hl⟩;refine⟨by simpa using h 0 (List.mem_range.mpr (by simp)),λj hj=> ?_,by simpa using hl⟩
    have:=h (j+1) (List.mem_range.mpr (by rw[Jp,Jp];have:=List.mem_range.mp hj;omega));simpa using this
   ·rintro⟨h0,h,hl⟩;refine⟨λj hj=> ?_,by simpa using hl⟩;cases j with
    |zero=>simpa using h0
    |succ j=>
     have hj':=List.mem_range.mp hj;rw[Jp,Jp] at hj';simpa using h j (List.mem_range.mpr 'o')
theorem ve{its:List Value}(h:all2 (Dp X.K H n) ds xs)(r:zB xs its)(j:Nat)(hj:j<its.toArray.size): ∃x,ds[j]? =some (ds.getD j .non)/\Dp X.K H n (ds.getD j .non) x/\zF x its.toArray[j]:=by
 have hl:=xK h;have hr:=r.length;have hj':j<its.length:=by simpa using hj
 have e1:ds[j]? =some (ds.getD j .non):=by
  rw[Jo,Jb 'o'];rfl
 have e2:xs[j]? =some xs[j]:=Jb 'o';obtain⟨u,eu,ru⟩:=r.get e2;refine⟨xs[j],e1,vT h e1 e2,?_⟩;rw[Jb hj'] at eu;rw[List.getElem_toArray];rw[JU eu];exact ru
theorem jS(I:Inv X pins σ H s): ∀{n:Nat} {d e:D} {v w:V} {u u':Value} {A:Around},qR n d e->Dp X.K H n d v->Dp X.K H n e w->zF v u->zF w u'->A.units+n<cLine->SeqAt.EqAt A s u u' (eqb n d e):=by
 intro n;induction n with
 |zero=>
  intro d e v w u u' A c p q rv rw' hu;obtain⟨x,hx⟩:=Dp.flat p;obtain⟨y,hy⟩:=Dp.flat q;rw[Dp.sc hx] at p;rw[Dp.sc hy] at q;subst p q;rw[zjb hx hy];exact u7 rv rw' (sc_flat hx) (sc_flat hy)
 |succ n ih=>
  intro d e v w u u' A c p q rv rw' hu;cases hx:L2.sc d with
  |some x=>
   cases hy:L2.sc e with
   |some y=>
    rw[Dp.sc hx] at p;rw[Dp.sc hy] at q;subst p q;rw[zjb hx hy];exact u7 rv rw' (sc_flat hx) (sc_flat hy)
   |none=>exact absurd c (zi9 hx hy)
  |none=>
   cases hy:L2.sc e with
   |some y=>exact absurd c (zja hx hy)
   |none=>
    by_cases same:v=w
    ·subst same;have ed:=Dp.det I p q;subst ed;rw[uw p];have eu:u=u':=by
      obtain⟨a,rfl⟩:=Dp.isRef hx p;cases rv;cases rw';rfl
     subst eu;exact SeqAt.EqAt.same _
    ·cases d with
     |tup ds=>
      cases e with
      |tup es=>
       unfold Dp at p q;obtain⟨a,xs,rfl,h1,p⟩:=p;obtain⟨b,ys,rfl,h2,q⟩:=q;cases rv;cases rw';obtain⟨i1,r1,t1,_⟩:=I.tuple h1;obtain⟨i2,r2,t2,_⟩:=I.tuple h2;have l1:=xK p;have l2:=xK q;have l3:=r1.length;have l4:=r2.length;refine SeqAt.EqAt.of_refs (λz=>same (by rw[z])) ?_;have fin:=SeqAt.RcAt.tuples (A:=A) (e:=λj=>eqb n (ds.getD j .non) (es.getD j .non)) t1 t2 'o' (λj j1 j2=> ?_)
       ·rw[Jn,Jn,show i1.length=ds.length by omega,show i2.length=es.length by omega,jh] at fin;unfold eqb;exact fin
       ·obtain⟨x,g1,d1,f1⟩:=ve p r1 j j1;obtain⟨y,g2,d2,f2⟩:=ve q r2 j j2;exact ih (c j _ _ g1 g2) d1 d2 f1 f2 (by show A.units+1+n<cLine;omega)
      |lst es=>exact absurd c (by unfold qR;simp [vB])
      |non=>cases hy
      |bl _=>cases hy
      |int _=>cases hy
      |str _=>cases hy
     |lst ds=>
      cases e with
      |lst es=>
       unfold Dp at p q;obtain⟨a,xs,rfl,h1,p⟩:=p;obtain⟨b,ys,rfl,h2,q⟩:=q;cases rv;cases rw';obtain⟨i1,r1,t1,_⟩:=I.list h1;obtain⟨i2,r2,t2,_⟩:=I.list h2;have l1:=xK p;have l2:=xK q;have l3:=r1.length;have l4:=r2.length;refine SeqAt.EqAt.of_refs (λz=>same (by rw[z])) ?_;have r0:=jh (n:=n) ds es;unfold eqb;by_cases hs:i1.length=i2.length
       ·have fin:=SeqAt.RcAt.lists (A:=A) (e:=λj=>eqb n (ds.getD j .non) (es.getD j .non)) t1.isList t2.isList (by simpa using hs) 'o' (λj j1 j2=> ?_)
        ·have e1:ds.length=es.length:=by omega
         rw[<-e1,Nat.min_self,beq_self_eq_true,Bool.and_true] at r0;rw[Jn,show i1.length=ds.length by omega,r0] at fin;exact fin
        ·obtain⟨x,g1,d1,f1⟩:=ve p r1 j j1;obtain⟨y,g2,d2,f2⟩:=ve q r2 j j2;exact ih (c j _ _ g1 g2) d1 d2 f1 f2 (by show A.units+1+n<cLine;omega)
       ·have fin:=SeqAt.RcAt.lists_lengths (A:=A) t1.isList t2.isList (by simpa using hs) 'o';have z:(ds.length==es.length)=false:=by
         rw[beq_eq_false_iff_ne];omega
        rw[z,Bool.and_false] at r0;rw[<-r0];exact fin
      |tup es=>exact absurd c (by unfold qR;simp [vB])
      |non=>cases hy
      |bl _=>cases hy
      |int _=>cases hy
      |str _=>cases hy
     |non=>cases hx
     |bl _=>cases hx
     |int _=>cases hx
     |str _=>cases hx
theorem zfV(I:Inv X pins σ H s){w:V}{u u':Value}(c:qR (n+1) d e)(p:Dp X.K H (n+1) d v)(q:Dp X.K H (n+1) e w)(hx:sc d=none)(hy:sc e=none)(rv:zF v u)(rw':zF w u')(hu:A.units+(n+1)<cLine):
  SeqAt.RcAt A s u u' (eqb (n+1) d e)/\SeqAt.RcNeAt A s u u' (!eqb (n+1) d e):=by
 cases d with
 |tup ds=>
  cases e with
  |tup es=>
   unfold Dp at p q;obtain⟨a,xs,rfl,h1,p⟩:=p;obtain⟨b,ys,rfl,h2,q⟩:=q;cases rv;cases rw';obtain⟨i1,r1,t1,_⟩:=I.tuple h1;obtain⟨i2,r2,t2,_⟩:=I.tuple h2;have l1:=xK p;have l2:=xK q;have l3:=r1.length;have l4:=r2.length;have el: ∀j (j1:j<i1.toArray.size) (j2:j<i2.toArray.size),SeqAt.EqAt A.in1 s i1.toArray[j] i2.toArray[j] (eqb n (ds.getD j .non) (es.getD j .non)):=λj j1 j2=>by
    obtain⟨x,g1,d1,f1⟩:=ve p r1 j j1;obtain⟨y,g2,d2,f2⟩:=ve q r2 j j2;exact jS I (c j _ _ g1 g2) d1 d2 f1 f2 (by show A.units+1+n<cLine;omega)
   have f1:=SeqAt.RcAt.tuples (A:=A) (e:=λj=>eqb n (ds.getD j .non) (es.getD j .non)) t1 t2 'o' el;have f2:=SeqAt.RcNeAt.tuples (A:=A) (e:=λj=>eqb n (ds.getD j .non) (es.getD j .non)) t1 t2 'o' el;rw[Jn,Jn,show i1.length=ds.length by omega,show i2.length=es.length by omega,jh] at f1 f2;unfold eqb;exact⟨f1,f2⟩
  |lst es=>exact absurd c (by unfold qR;simp [vB])
  |non=>cases hy
  |bl _=>cases hy
  |int _=>cases hy
  |str _=>cases hy
 |lst ds=>
  cases e with
  |lst es=>
   unfold Dp at p q;obtain⟨a,xs,rfl,h1,p⟩:=p;obtain⟨b,ys,rfl,h2,q⟩:=q;cases rv;cases rw';obtain⟨i1,r1,t1,_⟩:=I.list h1;obtain⟨i2,r2,t2,_⟩:=I.list h2;have l1:=xK p;have l2:=xK q;have l3:=r1.length;have l4:=r2.length;have el: ∀j (j1:j<i1.toArray.size) (j2:j<i2.toArray.size),SeqAt.EqAt A.in1 s i1.toArray[j] i2.toArray[j] (eqb n (ds.getD j .non) (es.getD j .non)):=λj j1 j2=>by
    obtain⟨x,g1,d1,f1⟩:=ve p r1 j j1;obtain⟨y,g2,d2,f2⟩:=ve q r2 j j2;exact jS I (c j _ _ g1 g2) d1 d2 f1 f2 (by show A.units+1+n<cLine;omega)
   have r0:=jh (n:=n) ds es;unfold eqb;by_cases hs:i1.length=i2.length
   ·have f1:=SeqAt.RcAt.lists (A:=A) (e:=λj=>eqb n (ds.getD j .non) (es.getD j .non)) t1.isList t2.isList (by simpa using hs) 'o' el;have f2:=SeqAt.RcNeAt.lists (A:=A) (e:=λj=>eqb n (ds.getD j .non) (es.getD j .non)) t1.isList t2.isList (by simpa using hs) 'o' el;have e1:ds.length=es.length:=by omega
    rw[<-e1,Nat.min_self,beq_self_eq_true,Bool.and_true] at r0;rw[Jn,show i1.length=ds.length by omega,r0] at f1 f2;exact⟨f1,f2⟩
   ·have f1:=SeqAt.RcAt.lists_lengths (A:=A) t1.isList t2.isList (by simpa using hs) 'o';have f2:=SeqAt.RcNeAt.lists_lengths (A:=A) t1.isList t2.isList (by simpa using hs) 'o';have z:(ds.length==es.length)=false:=by
     rw[beq_eq_false_iff_ne];omega
    rw[z,Bool.and_false] at r0;rw[<-r0];exact⟨f1,f2⟩
  |tup es=>exact absurd c (by unfold qR;simp [vB])
  |non=>cases hy
  |bl _=>cases hy
  |int _=>cases hy
  |str _=>cases hy
 |non=>cases hx
 |bl _=>cases hx
 |int _=>cases hx
 |str _=>cases hx
end
section
variable {X:Cx}
def jj(K:Fg)(neg:Bool):R2:=λx y H Q=> ∃n d e,Dp K H (n+1) d x/\Dp K H (n+1) e y/\sc d=none/\sc e=none/\n<=50/\qR (n+1) d e/\Q (.bl (if neg then !eqb (n+1) d e else eqb (n+1) d e)) H
theorem zlt{k:Nat}(hr:Room k X.A):OpR X (compareOp .Eq) (jj X.K false):=by
 intro pins s σ H x y v u Q I rx ry h;obtain⟨n,d,e,p,q,hx,hy,hn,c,hq⟩:=h;have hu:=hr.units;exact(zfV I (A:=X.A) c p q hx hy rx ry 'o').1 X.prog X.w _ _ ⟨.bl _,H,I,rfl,hq⟩
theorem wT{k:Nat}(hr:Room k X.A):OpR X (compareOp .NotEq) (jj X.K true):=by
 intro pins s σ H x y v u Q I rx ry h;obtain⟨n,d,e,p,q,hx,hy,hn,c,hq⟩:=h;have hu:=hr.units;exact(zfV I (A:=X.A) c p q hx hy rx ry 'o').2 X.prog X.w _ _ ⟨.bl _,H,I,rfl,hq⟩
theorem eqD(p:Dp K H (n+1) d x)(q:Dp K H (n+1) d y)(hx:sc d=none)(hn:n<=50)(h:Q (.bl true) H):jj K false x y H Q:=
 ⟨n,d,d,p,q,hx,hx,hn,jg p,by rw[uw p];exact h⟩
theorem neD(p:Dp K H (n+1) d x)(q:Dp K H (n+1) d y)(hx:sc d=none)(hn:n<=50)(h:Q (.bl false) H):jj K true x y H Q:=
 ⟨n,d,d,p,q,hx,hx,hn,jg p,by rw[uw p];exact h⟩
end
theorem wJ(h:SqT K H a xs)(q:all2 (Dp K H n) ds xs):Dp K H (n+1) (.tup ds) (.ref a):=by
 unfold Dp;exact⟨a,xs,rfl,h,q⟩
theorem wK(h:SqL K H a xs)(q:all2 (Dp K H n) ds xs):Dp K H (n+1) (.lst ds) (.ref a):=by
 unfold Dp;exact⟨a,xs,rfl,h,q⟩
theorem xB:Dp K H n (.int i) (.int i):=by unfold Dp;rfl
theorem xL{cs:List Nat}:Dp K H n (.str cs) (.str (SL cs)):=by unfold Dp;rfl
theorem zlu:Dp K H n .non .non:=by unfold Dp;rfl
def New(H:Hp)(o:HO)(Q:VK):Prop:= ∀p H',H p=none->zj H H'->H' p=some o->Q (.ref p) H'
theorem New.at(h:New H o Q){p:Addr}(hp:H p=none):Q (.ref p) (upd H p o):=h p _ hp (wS hp o) yg
section
variable {X:Cx} {es:List Expr} {t:TA} {pos:Pos}
def yN(t:TA):TE:=λσ H Q=>t σ H λxs H1=>xs.length<=sizeLine/\New H1 (.tup xs) Q
def yP(t:TA):TE:=λσ H Q=>t σ H λxs H1=>xs.length<=sizeLine/\New H1 (.lst xs) Q
theorem zR{x1}(h:PA X es t):PE X (.Tuple es x1 pos) (yN t):=by
 intro pins s σ H Q I hq;refine wpAny_Tuple_spliced (thn (h pos pins s σ H _ I hq) λus s1 ⟨xs,H1,I1,r,z,q⟩=>⟨by rw[<-r.length];exact z,?_⟩);have hf:H1 s1.heap.objs.size=none:=I1.hok.fresh (Je _);refine⟨.ref s1.heap.objs.size,upd H1 s1.heap.objs.size (.tup xs),I1.laid (t':=s1.toks) (λb u e=>JX _ e) (Je _) ?_,rfl,q.at hf⟩;exact⟨z,us,r,⟨_,JZ _ rfl,rfl,_,rfl⟩⟩
theorem zY(h:PA X es t):PE X (.List es pos) (yP t):=by
 intro pins s σ H Q I hq;refine wpAny_List_spliced (thn (h pos pins s σ H _ I hq) λus s1 ⟨xs,H1,I1,r,z,q⟩=>⟨by rw[<-r.length];exact z,?_⟩);have hf:H1 s1.heap.objs.size=none:=I1.hok.fresh (Je _);refine⟨.ref s1.heap.objs.size,upd H1 s1.heap.objs.size (.lst xs),I1.laid (t':=s1.toks) (λb u e=>JX _ e) (Je _) ?_,rfl,q.at hf⟩;exact⟨z,us,0,r,JZ _ rfl⟩
theorem OpR.imp{f:Value->Value->Sem Value}{r r':R2}(h:OpR X f r)(i: ∀x y H Q,r' x y H Q->r x y H Q):OpR X f r':=λpins s σ H x y v u Q I rx ry q=>h pins s σ H x y v u Q I rx ry (i _ _ _ _ q)
theorem SlR.imp{r r':V->Option Int->Option Int->Hp->VK->Prop}(h:SlR X r)(i: ∀x lo hi H Q,r' x lo hi H Q->r x lo hi H Q):SlR X r':=
 λpins s σ H x v vl vu lo hi sl Q I rx hs pl pu q=>h pins s σ H x v vl vu lo hi sl Q I rx hs pl pu (i _ _ _ _ _ q)
theorem xb.imp{f:Value}{r r':List V->Hp->VK->Prop}(h:xb X f r)(i: ∀xs H Q,r' xs H Q->r xs H Q):xb X f r':=λpins s σ H xs us Q I rx q=>h pins s σ H xs us Q I rx (i _ _ _ q)
def zmc:R2:=λx y H Q=> ∃p q xs ys,x= .ref p/\y= .ref q/\H p=some (.lst xs)/\H q=some (.lst ys)/\xs.length+ys.length<=sizeLine/\New H (.lst (xs++ys)) Q
theorem wb:OpR X (binaryOp .Add) zmc:=zln.imp λ_ _ _ _ ⟨p,q,xs,ys,e1,e2,h1,h2,hz,hq⟩=>⟨p,q,xs,ys,e1,e2,h1,h2,hz,λ_ hp=>hq.at hp⟩
def zmd:R2:=λx y H Q=> ∃l k xs,x= .ref l/\y= .int k/\H l=some (.lst xs)/\ -(2 ^ 63)<=k/\k<2 ^ 63/\xs.length*k.toNat<=sizeLine/\New H (.lst (List.replicate k.toNat xs).flatten) Q
theorem zhV:OpR X (binaryOp .Mult) zmd:=zlo.imp λ_ _ _ _ ⟨l,k,xs,e1,e2,h1,h2,h3,h4,q⟩=>⟨l,k,xs,e1,e2,h1,h2,h3,h4,λ_ hp=>q.at hp⟩
def zme(K:Fg):V->Option Int->Option Int->Hp->VK->Prop:=λx lo hi H Q=> ∃a xs,x= .ref a/\SqL K H a xs/\New H (.lst (xk xs lo hi)) Q
theorem wU:SlR X (zme X.K):=zkj.imp λ_ _ _ _ _ ⟨a,xs,e,h,q⟩=>⟨a,xs,e,h,λ_ hp=>q.at hp⟩
theorem zeb:xb X (.type "list") (λxs H Q=> ∃p ys,xs= [.ref p]/\(SqL X.K H p ys\/SqT X.K H p ys)/\New H (.lst ys) Q):=zge.imp λ_ _ _ ⟨p,ys,e,h,q⟩=>⟨p,ys,e,h,λ_ hp=>q.at hp⟩
end
theorem jk(h:x∈rng lo n): ∃i:Nat,i<n/\x= .int (lo+i):=by
 obtain⟨i,hi,e⟩:=Jw.mp h;exact⟨i,List.mem_range.mp hi,e.symm⟩
def mI(g:Int->V):V->V
 | .int k=>g k
 |_=> .non
theorem zjc(g:Int->V)(k:Int):mI g (.int k)=g k:=rfl
theorem jT(lo:Int)(n:Nat)(g:Int->V):(rng lo n).map (mI g)=(List.range n).map λ(i:Nat)=>g (lo+i):=by
 unfold rng;rw[List.map_map];rfl
theorem yQ(h:n<=1000):n<sizeLine:=Nat.lt_of_le_of_lt h 'd'
theorem qC(h:n<=1000):n<=sizeLine:=Nat.le_of_lt (yQ h)
def qr(t u:TE):TE:=λσ H Q=>t σ H Q\/u σ H Q
def zmf(g:TG)(tb:TS)(D:Ends)(σ:St)(J:It)(H1:Hp):Prop:= ∃W:Nat->Nat->St->Hp->Prop,(∃m,W 0 m σ H1)/\ ∀i m σ H,W i m σ H->
 (J.stop i H/\D.nx σ H)\/(J.go i H/\ ∃N:St->Hp->Prop,(∀σ' H',N σ' H'-> ∃m',m'<m/\W (i+1) m' σ' H')/\ ∀x H',J.yld i H x H'->g x σ H' λσ2 H2=>tb {D with nx:=N,ct:=N,bk:=D.nx} σ2 H2)
theorem xM{tb:TS}{D:Ends}(k: ∀R:It->Hp->Prop,(∀J H1,zmf g tb D σ J H1->R J H1)->wi σ H R):zl9 wi g tb D σ H:=k _ λ_ _ h=>h
def Itz(K:Fg)(a b:Addr):It:=
 ⟨λi H=> ∃xs ys x y,SqL K H a xs/\SqL K H b ys/\xs[i]? =some x/\ys[i]? =some y,
  λi H v H'=> ∃p,v= .ref p/\H p=none/\zj H H'/\ ∃x y,H' p=some (.tup [x,y])/\(∀xs,SqL K H a xs->xs[i]? =some x)/\ ∀ys,SqL K H b ys->ys[i]? =some y,
  λi H=> ∃xs ys,SqL K H a xs/\SqL K H b ys/\(xs.length<=i\/ys.length<=i)⟩
section
variable {X:Cx} {pins:List (Addr×Obj)} {σ:St} {H:Hp} {s:Shared} {h':Heap} {ch:List Addr} {t':Nat}
theorem Inv.turnedL(I:Inv X pins σ H s)(hf: ∀b∈ch,xY X pins H b)(k: ∀b o,b∉ch->s.heap.get? b=some o->h'.get? b=some o):Inv X pins σ H {s with heap:=h',toks:=t'}:=by
 have nit: ∀b u,H b=some u->b∉ch:=λb u e z=>by rw[(hf b z).1] at e;cases e
 refine I.step (g':=s.gens) (d':=s.drawn) (ch:=ch) (λb hb=> ?_) (λb o _ _ hc e _=>k b o hc e) (λb o _ _ hc e _=>⟨o.slots,k b o hc e⟩) (λ_ _ _ _ n=>n)
  (λb o hc e=>⟨o,k b o hc e⟩) (λ_ _ e=>e) (λ_ _ _ e=>e) (λb ps e=>⟨#[],by rw[e];simp⟩) (λm hm=> ?_) (λb u e=> ?_) I.bare
 ·obtain⟨_,f1,_,f3,f4,f5⟩:=hf b hb;exact⟨f3,f1,f4,f5⟩
 ·obtain⟨o,es,ep,ho,r⟩:=hm;exact⟨o,es,ep,k _ o (λz=>(hf _ z).2.1 rfl) ho,r⟩
 ·refine(I.hok b u e).stay (λc v hc q=>k c v ?_ q) (λ_ q=>q) λ_ _ q=>q;rcases hc with z|z
  ·rw[z];exact nit b u e
  ·exact nit c _ z
theorem Inv.laidL(I:Inv X pins σ H s)(hf: ∀b∈ch,xY X pins H b)(k: ∀b o,b∉ch->s.heap.get? b=some o->h'.get? b=some o)(hp:s.heap.objs.size<=a)(new:ye X.prog X.w (upd H a o) h' a o):
  Inv X pins σ (upd H a o) {s with heap:=h',toks:=t'}:=by
 have hn:=I.hok.fresh hp;have nit: ∀b u,H b=some u->b∉ch:=λb u e z=>by rw[(hf b z).1] at e;cases e
 refine I.step (g':=s.gens) (d':=s.drawn) (ch:=ch) (λb hb=> ?_) (λb o _ _ hc e _=>k b o hc e) (λb o _ _ hc e _=>⟨o.slots,k b o hc e⟩)
  (λb u _ e n=>by rw[zI (JJ (Jy (JY e) hp))];exact n)
  (λb o hc e=>⟨o,k b o hc e⟩) (λb xs e=>by rw[zI (xP e hn)];exact e) (λb o u e=>by rw[zI (xP e hn)];exact e) (λb ps e=>⟨#[],by rw[zI (xP e hn),e];simp⟩) (λm hm=> ?_) (λb u e=> ?_) I.bare
 ·obtain⟨_,f1,_,f3,f4,f5⟩:=hf b hb;exact⟨f3,f1,f4,f5⟩
 ·obtain⟨o,es,ep,ho,r⟩:=hm;exact⟨o,es,ep,k _ o (λz=>(hf _ z).2.1 rfl) ho,r⟩
 ·by_cases hb:b=a
  ·subst hb;rw[yg] at e;cases e;exact new
  ·rw[zI hb] at e;refine(I.hok b u e).stay (λc v hc q=>k c v ?_ q) (λc q=>by rw[zI (xP q hn)];exact q) λc xs q=>by rw[zI (xP q hn)];exact q
   rcases hc with z|z
   ·rw[z];exact nit b u e
   ·exact nit c _ z
end
def zmg(K:Fg)(ta:TA):TI:=λσ H R=>ta σ H λvs H1=> ∃a b,vs= [.ref a, .ref b]/\(∃xs,SqL K H1 a xs)/\(∃ys,SqL K H1 b ys)/\R (Itz K a b) H1
theorem zjd(xs:List V){k:Int}(h0:0<=k)(h1:k<=xs.length):xk xs none (some k)=xs.take k.toNat:=by
 obtain⟨j,rfl⟩:=Int.eq_ofNat_of_zero_le h0;unfold xk;rw[HT.sIx_none,HT.sIx_nat,JF,List.drop_zero,Nat.sub_zero,Nat.min_eq_left 'o']
theorem zje(xs:List V){k:Int}(h0:0<=k)(h1:k<=xs.length):xk xs (some k) none=xs.drop k.toNat:=by
 obtain⟨j,rfl⟩:=Int.eq_ofNat_of_zero_le h0;unfold xk;rw[HT.sIx_none,HT.sIx_nat,JF,Nat.min_eq_left 'o',List.take_of_length_le (by rw[List.length_drop];omega)]
section
variable {X:Cx}
end
section
variable {X:Cx} {Ek:St->XK} {k:Nat} {f:Addr} {fd:FuncData} {ps ks:List Str} {sp:Sp} {x:Str} {p pos:Pos} {e:Expr} {es:List Expr} {kws:List Keyword} {t tk:TA} {g:List Value->List Value->List Value} {gV:List V->List V->List V}
def qt(sp:Sp)(gV:List V->List V->List V)(Ek:St->XK)(t tk:TA):TE:=λσ H Q=>t σ H λvs H1=>tk σ H1 λzs H2=>sp (gV vs zs) H2 Q (Ek σ)
end
structure FunD (K:Fg) (x qual:Str) (st:Stmt) (f:Addr) (fd:FuncData):Prop where
 ex: ∃(dV oc:Value) (od:Option Addr) (kV doc pm:Value) (an:Option Addr) (cdv ct:Value) (osl:Array (Option Value)),
  fd=PySem.W.fnOf x qual (vP st) (vc st) (zJ st) dV kV doc pm an cdv ct/\K.lookup f=some ⟨oc,od, .func fd,osl⟩/\PySem.W.codeIn K cdv qual=true
 kp:PySem.W.keepIn K (.ref f)=true
def kwG(us ws:List α):List α:=match us,ws with
 | [a], [b]=> [a,b]
 |_,_=> []
theorem qu(a b:α):kwG [a] [b]= [a,b]:=rfl
end L2
namespace Parts
variable {A s:Int}
end Parts
namespace L2
open PySem
variable{c:Prop}{a b l:Addr}{xs:List (List Key×Addr×Value)}{f e:Int}{u:Value}{y:V}{P:Program}{w:World}{H H':Hp}{kvs:List (List Key×V)}{Q:Value->Shared->Prop}{pos:Pos}{X:Cx}{K:Fg}{ys:List V}{zs:List En}{n:Nat}{nms:List (List Nat)}
section
variable {env:Env} {es:List Expr} {p:Pos}
theorem zw{c:Const}{j:Nat}:starEach (.Constant c j p::es) env=(false,eval (.Constant c j p) env)::starEach es env:=rfl
theorem zh{x:Str}:starEach (.Name x p::es) env=(false,eval (.Name x p) env)::starEach es env:=rfl
theorem zO{a b:Expr}{o:Operator}:starEach (.BinOp a o b p::es) env=(false,eval (.BinOp a o b p) env)::starEach es env:=rfl
theorem xt{xs:List Expr}{k}:starEach (.Tuple xs k p::es) env=(false,eval (.Tuple xs k p) env)::starEach es env:=rfl
theorem z6{a b:Expr}:starEach (.Subscript a b p::es) env=(false,eval (.Subscript a b p) env)::starEach es env:=rfl
theorem qv{f:Expr}{xs:List Expr}{ks:List Keyword}:starEach (.Call f xs ks p::es) env=(false,eval (.Call f xs ks p) env)::starEach es env:=rfl
end
open PySem PySem.Spec PyProof.Rows
def PSt(X:Cx)(st:Stmt)(t:TS):Prop:=
 ∀(pins:List (Addr×Obj)) (s:Shared) (σ:St) (H:Hp) (D:Ends),0<s.toks->Inv X pins σ H s->t D σ H->wpAny (model X.prog X.w) X.A (exec st X.env) (SP X pins D) X.xe s
def PTt(X:Cx)(e:Expr)(t:TT):Prop:=
 ∀(pins:List (Addr×Obj)) (s:Shared) (σ:St) (H:Hp) (Q:Bool->Hp->Prop),0<s.toks->Inv X pins σ H s->t σ H Q->wpAny (model X.prog X.w) X.A (isTrue e X.env (eval e X.env)) (TP X pins σ Q) X.xe s
def PWt(X:Cx)(e:Expr)(t:TT):Prop:=
 ∀(whole:Sem Value) (pins:List (Addr×Obj)) (s:Shared) (σ:St) (H:Hp) (Q:Bool->Hp->Prop),0<s.toks->Inv X pins σ H s->t σ H Q->wpAny (model X.prog X.w) X.A (isTrue e X.env whole) (TP X pins σ Q) X.xe s
section
variable {X:Cx} {st:Stmt} {sts rest:List Stmt} {e a b:Expr} {es:List Expr} {u v:TS} {te ta tb to:TE} {tc tA tB':TT} {tl:TA} {pos:Pos}
end
def PEm(X:Cx)(e:Expr)(t:TE):Prop:=
 ∀(pins:List (Addr×Obj)) (s:Shared) (σ:St) (H:Hp) (Q:VK),Inv X pins σ H s->t σ H Q->wpAny (model X.prog X.w) X.A (eval e X.env) (λv s'=>0<s'.toks/\EP X pins σ Q v s') X.xe s
def PSm(X:Cx)(st:Stmt)(t:TS):Prop:=
 ∀(pins:List (Addr×Obj)) (s:Shared) (σ:St) (H:Hp) (D:Ends),Inv X pins σ H s->t D σ H->wpAny (model X.prog X.w) X.A (exec st X.env) (λf s'=>0<s'.toks/\SP X pins D f s') X.xe s
section
variable {X:Cx} {st:Stmt} {rest:List Stmt} {e a:Expr} {t u:TS} {te ta:TE} {pos cp:Pos}
end
structure FnOkT (P:Program) (w:World) (K:Fg) (mg:Str->Option Value) (base:Heap) (CX:CXT) (k:Nat) (f:Addr) (fd:FuncData) (ps:List Str) (sp:Sp):Prop where
 len: ∀vs H Q E,sp vs H Q E->vs.length=ps.length
 run: ∀(A:Around) (outer:List Env) (s:Shared) (H:Hp) (args:Args) (us:List Value) (vs:List V) (Q:VK) (E:XK),0<s.toks->Room k A->Env0 P w K mg base A outer s H->BindsTo s fd args (ps.zip us)->zB vs us->sp vs H Q E->
  codeAny (model P w) A (.call (.ref f) args) (CR CX outer P w H s Q E) s
section
variable {P:Program} {w:World} {K:Fg} {mg:Str->Option Value} {base:Heap} {x qual:Str} {st:Stmt} {f:Addr} {fd:FuncData} {N ps:List Str} {k:Nat} {sp:Sp}
end
section
variable {X:Cx} {Ek:St->XK} {k:Nat} {f:Addr} {fd:FuncData} {ps ks:List Str} {sp:Sp} {x:Str} {p pos:Pos} {e:Expr} {es:List Expr} {kws:List Keyword} {t tk:TA} {g:List Value->List Value->List Value} {gV:List V->List V->List V} {dvs:List V} {ds:List Value}
end
section
variable {X:Cx} {body suite:List Stmt} {b₀:Stmt} {n xn:Str} {i:Nat} {C:Addr} {tb:(St->XK)->TS} {ts:TS} {np hpos pos:Pos}
end
section
variable {X:Cx}
end
open PySem PySem.NumText
theorem qE{A B:Prop}[Decidable c](h1:c->A)(h2: ¬c->B):if c then A else B:=by
 by_cases h:c
 ·rw[Jg h];exact h1 h
 ·rw[Jf h];exact h2 h
section
variable {κ:Type} [DecidableEq κ]
def xu(kvs:List (κ×V))(k:κ):Option V:=(kvs.find? λkv=>decide (kv.1=k)).map (·.2)
def xN(kvs:List (κ×V))(k:κ)(v:V):List (κ×V):=
 if (kvs.any λkv=>decide (kv.1=k))=true then kvs.map (λkv=>if kv.1=k then (kv.1,v) else kv) else kvs++ [(k,v)]
def vf(kvs:List (κ×V))(k:κ):List (κ×V):=kvs.filter λkv=>decide (kv.1≠k)
theorem jm{p:κ×V}{r:List (κ×V)}{k:κ}(e:p.1=k):xu (p::r) k=some p.2:=by simp [xu,List.find?_cons,e]
theorem jo{p:κ×V}{r:List (κ×V)}{k:κ}(e: ¬p.1=k):xu (p::r) k=xu r k:=by simp [xu,List.find?_cons,e]
theorem jU(k:κ): ∀kvs:List (κ×V),(kvs.any λkv=>decide (kv.1=k))=(xu kvs k).isSome
 | []=>rfl
 |p::r=>by
  rw[List.any_cons];by_cases e:p.1=k
  ·simp only[jm e,JN e,Bool.true_or,Option.isSome_some]
  ·rw[jo e,JO e,Bool.false_or];exact jU k r
theorem zeO(kvs:List (κ×V))(k:κ)(v:V):(xN kvs k v).length<=kvs.length+1:=by
 unfold xN;split
 ·rw[Ja];omega
 ·rw[Jj,Jp,List.length_nil];omega
theorem zjf{kvs:List (κ×V)}{k:κ}(v:V)(h:xu kvs k=none):xN kvs k v=kvs++ [(k,v)]:=by
 unfold xN;rw[jU,h];exact Jf 'd'
theorem xW.isSome_eq{o:Option V}{u:Option Value}(r:xW o u):o.isSome=u.isSome:=by
 cases o with
 |none=>cases u with
  |none=>rfl
  |some _=>exact(show False from r).elim
 |some _=>cases u with
  |none=>exact(show False from r).elim
  |some _=>rfl
theorem xW.getD{o:Option V}{u:Option Value}{d:V}{d':Value}(r:xW o u)(rd:zF d d'):zF (o.getD d) (u.getD d'):=by
 cases o with
 |none=>cases u with
  |none=>exact rd
  |some _=>exact(show False from r).elim
 |some _=>cases u with
  |none=>exact(show False from r).elim
  |some _=>exact r
theorem KV.val{kvs:List (κ×V)}{vs:List (κ×Value)}(r:KV kvs vs)(k:κ):xW (xu kvs k) (valueAt vs k):=by
 unfold KV at r;induction r with
 |nil=>exact True.intro
 | @cons p q ps qs h t ih=>
  obtain⟨h1,h2⟩:=h;by_cases e:p.1=k
  ·have e':q.1=k:=h1.symm.trans e;have b:valueAt (q::qs) k=some q.2:=by simp [valueAt,List.find?_cons,e']
   rw[jm e,b];exact h2
  ·have e': ¬q.1=k:=λz=>e (h1.trans z);have b:valueAt (q::qs) k=valueAt qs k:=by simp [valueAt,List.find?_cons,e']
   rw[jo e,b];exact ih
theorem KV.any{kvs:List (κ×V)}{vs:List (κ×Value)}(r:KV kvs vs)(k:κ):(kvs.any λkv=>decide (kv.1=k))=vs.any λkv=>decide (kv.1=k):=by
 unfold KV at r;induction r with
 |nil=>rfl
 |cons h t ih=>rw[List.any_cons,List.any_cons,ih,h.1]
theorem KV.repl{kvs:List (κ×V)}{vs:List (κ×Value)}(r:KV kvs vs)(k:κ)(ry:zF y u):
  KV (kvs.map λkv=>if kv.1=k then (kv.1,y) else kv) (vs.map λkv=>if kv.1=k then (kv.1,u) else kv):=by
 unfold KV at r ⊢;induction r with
 |nil=>exact .nil
 | @cons p q ps qs h t ih=>
  rw[JA,JA];refine .cons ?_ ih;obtain⟨h1,h2⟩:=h;by_cases e:p.1=k
  ·rw[Jg e,Jg (h1.symm.trans e)];exact⟨h1,ry⟩
  ·rw[Jf e,Jf (λz=>e (h1.trans z))];exact⟨h1,h2⟩
theorem KV.put{kvs:List (κ×V)}{vs:List (κ×Value)}(r:KV kvs vs)(k:κ)(ry:zF y u):KV (xN kvs k y) (stored vs k u):=by
 unfold xN stored;rw[r.any k];by_cases e:(vs.any λkv=>decide (kv.1=k))=true
 ·rw[Jg e,Jg e];exact r.repl k ry
 ·rw[Jf e,Jf e];exact Paired.snoc r ⟨rfl,ry⟩
theorem KV.drop{kvs:List (κ×V)}{vs:List (κ×Value)}(r:KV kvs vs)(k:κ):KV (vf kvs k) (without vs k):=by
 unfold KV at r ⊢;unfold vf without;induction r with
 |nil=>exact .nil
 | @cons p q ps qs h t ih=>
  obtain⟨h1,h2⟩:=h;rw[JT,JT];by_cases e:p.1=k
  ·have a: ¬decide (p.1≠k)=true:=by simp [e]
   have b: ¬decide (q.1≠k)=true:=by simp [h1.symm.trans e]
   rw[Jf a,Jf b];exact ih
  ·have e': ¬q.1=k:=λz=>e (h1.trans z);have a:decide (p.1≠k)=true:=by simp [e]
   have b:decide (q.1≠k)=true:=by simp [e']
   rw[Jg a,Jg b];exact .cons ⟨h1,h2⟩ ih
theorem KV.length{kvs:List (κ×V)}{vs:List (κ×Value)}(r:KV kvs vs):kvs.length=vs.length:=Paired.length r
theorem zjg(kvs:List (κ×V))(k:κ):(vf kvs k).length<=kvs.length:=List.length_filter_le _ _
end
theorem vU{k:Key}(r:zF (kV k) u):(qL P w).is k u=true:=by
 cases k with
 |inl i=>obtain⟨t,e⟩:=(show∃t,u=Value.int i t from r);subst e;exact zgz P w i t
 |inr x=>obtain⟨t,e⟩:=(show∃t,u=Value.str x t from r);subst e;exact zgA P w x t
theorem zfX{P:Program}{w:World}: ∀{ks:List Key} {us:List Value},zB (ks.map kV) us->ItemsAre (qL P w) ks us
 | [],_,r=>by rw[JQ] at r;cases r;exact .nil
 |k::ks,_,r=>by
  rw[JA] at r;cases r with
  |cons h t=>exact .cons (vU h) (zfX t)
abbrev KT(H:Hp):List (List Key×V)->List (List Key×Addr×Value)->Prop:=Paired λp q=>p.1=q.1/\H q.2.1=some (.tup (p.1.map kV))/\zF p.2 q.2.2
theorem KT.val(r:KT H kvs xs)(k:List Key):xW (xu kvs k) ((atKey xs k).map (·.2)):=by
 induction r with
 |nil=>exact True.intro
 | @cons p q ps qs h t ih=>
  obtain⟨h1,_,h2⟩:=h;by_cases e:p.1=k
  ·have e':q.1=k:=h1.symm.trans e;have b:atKey (q::qs) k=some q.2:=by simp [atKey,List.find?_cons,e']
   rw[jm e,b];exact h2
  ·have e': ¬q.1=k:=λz=>e (h1.trans z);have b:atKey (q::qs) k=atKey qs k:=by simp [atKey,List.find?_cons,e']
   rw[jo e,b];exact ih
theorem KT.repl(r:KT H kvs xs)(k:List Key)(ry:zF y u):
  KT H (kvs.map λkv=>if kv.1=k then (kv.1,y) else kv) (xs.map (putAt k u)):=by
 induction r with
 |nil=>exact .nil
 | @cons p q ps qs h t ih=>
  rw[JA,JA];refine .cons ?_ ih;obtain⟨h1,h2,h3⟩:=h;unfold putAt;by_cases e:p.1=k
  ·rw[Jg e,Jg (h1.symm.trans e)];exact⟨h1,h2,ry⟩
  ·rw[Jf e,Jf (λz=>e (h1.trans z))];exact⟨h1,h2,h3⟩
theorem KT.put(r:KT H kvs xs)(k:List Key)(hb:H b=some (.tup (k.map kV)))(ry:zF y u):
  KT H (xN kvs k y) (storedH xs k b u):=by
 have e:(kvs.any λkv=>decide (kv.1=k))=(atKey xs k).isSome:=by
  rw[jU,(r.val k).isSome_eq,Option.isSome_map]
 unfold xN storedH;rw[e];by_cases q:(atKey xs k).isSome=true
 ·rw[Jg q,Jg q];exact r.repl k ry
 ·rw[Jf q,Jf q];exact Paired.snoc r ⟨rfl,hb,ry⟩
theorem KT.keeps(r:KT H kvs xs)(ht: ∀b ys,H b=some (.tup ys)->H' b=some (.tup ys)):KT H' kvs xs:=
 Paired.mapP r λ_ _ z=>⟨z.1,ht _ _ z.2.1,z.2.2⟩
section
variable {P:Program} {w:World} {H:Hp} {h:Heap} {a:Addr}
theorem zk0{u:HO}(ok:HOk P w H h)(e:Rd H a u):ye P w H h a u:=e.ok ok
theorem jV{kvs:List (Key×V)}(ok:HOk P w H h)(e:Rd H a (.dK kvs)):kvs.length<=sizeLine/\(a==sysModules)=false/\ ∃vs,KV kvs vs/\h.DictOf (qL P w) a vs:=
 show ye P w H h a (.dK kvs) from zk0 ok e
theorem jp{kvs:List (Key×V)}(ok:HOk P w H h)(e:H a=some (.dK kvs)):kvs.length<=sizeLine/\(a==sysModules)=false/\ ∃vs,KV kvs vs/\h.DictOf (qL P w) a vs:=jV ok (.inl e)
theorem jW{ks:List Key}(ok:HOk P w H h)(e:H a=some (.tup (ks.map kV))):(tupleKind (qL P w)).is h ks a:=by
 obtain⟨_,its,r,o,h1,h2,n,h3⟩:=(show ye P w H h a (.tup (ks.map kV)) from ok a _ e)
 exact⟨o,its.toArray,n,h1,h2,h3,by simpa using zfX r⟩
theorem jX(ok:HOk P w H h)(e:Rd H a (.dT kvs)):kvs.length<=sizeLine/\(a==sysModules)=false/\
  ∃xs,KT H kvs xs/\h.DictOfH (tupleKind (qL P w)) a xs:=by
 obtain⟨z,y,xs,r,o,es,ep,h1,h2,h3,h4,h5⟩:=(show ye P w H h a (.dT kvs) from zk0 ok e)
 refine⟨z,y,xs,r,o,es,ep,h1,h2,h3,h4,λx hx=> ?_,h5⟩;have all: ∀{l:List (List Key×V)} {m:List (List Key×Addr×Value)},KT H l m-> ∀x∈m,(tupleKind (qL P w)).is h x.1 x.2.1:=by
  intro l m q;induction q with
  |nil=>intro x hx;exact nomatch hx
  | @cons p q ps qs hq t ih=>
   intro x hx;rcases JD.mp hx with e|hx
   ·subst e;exact jW ok (by rw[<-hq.1];exact hq.2.1)
   ·exact ih x hx
 exact all r x hx
theorem zmh(ok:HOk P w H h)(e:H a=some (.dT kvs)):kvs.length<=sizeLine/\(a==sysModules)=false/\
  ∃xs,KT H kvs xs/\h.DictOfH (tupleKind (qL P w)) a xs:=jX ok (.inl e)
end
def vg(H:Hp)(a:Addr)(y:V)(r:Option V):Prop:=
 (∃kvs k,Rd H a (.dK kvs)/\y=kV k/\r=xu kvs k)\/ ∃kvs k b,Rd H a (.dT kvs)/\y= .ref b/\H b=some (.tup (k.map kV))/\r=xu kvs k
def ux(H:Hp)(a:Addr)(y v:V)(H':Hp):Prop:=
 (∃kvs k,H a=some (.dK kvs)/\y=kV k/\kvs.length<sizeLine/\H'=upd H a (.dK (xN kvs k v)))\/
 ∃kvs k b,H a=some (.dT kvs)/\y= .ref b/\H b=some (.tup (k.map kV))/\kvs.length<sizeLine/\H'=upd H a (.dT (xN kvs k v))
theorem vg.k{H:Hp}{a:Addr}{kvs:List (Key×V)}{k:Key}(e:H a=some (.dK kvs)):vg H a (kV k) (xu kvs k):= .inl ⟨kvs,k, .inl e,rfl,rfl⟩
theorem ux.k{H:Hp}{a:Addr}{kvs:List (Key×V)}{k:Key}{v:V}(e:H a=some (.dK kvs))(hl:kvs.length<sizeLine):ux H a (kV k) v (upd H a (.dK (xN kvs k v))):= .inl ⟨kvs,k,e,rfl,hl,rfl⟩
section
variable {X:Cx} {pins:List (Addr×Obj)} {σ:St} {H:Hp} {s:Shared} {a:Addr} {y v:V} {u r:Value} {o:Option V} {A:Around} {E:Value->Shared->Prop}
theorem Inv.big(I:Inv X pins σ H s):sysModules<s.heap.objs.size:=by
 have h:mainGlobals<s.heap.objs.size:=(I.mod.glob.keeps I.bk).lt;exact Nat.lt_trans 'd' h
theorem zmH(hu:A.units+1<cLine)(I:Inv X pins σ H s)(g:vg H a y o)(ry:zF y u)(h: ∀s',Inv X pins σ H s'->Q (.bool o.isSome) s'):
  wpAny (model X.prog X.w) A (compareOp .In u (.ref a)) Q E s:=by
 rcases g with⟨kvs,k,e,ey,l⟩|⟨kvs,k,b,e,ey,eb,l⟩
 ·subst ey;obtain⟨z,hd,vs,rel,dd⟩:=jV I.hok e;refine wpAny_in_of (vU ry) hd dd.mapOf ?_;rw[<-(rel.val k).isSome_eq,<-l];exact h _ (I.tok _)
 ·subst ey;cases (show u=Value.ref b from ry);obtain⟨z,hd,xs,rel,dd⟩:=jX I.hok e;refine wpAny_in_heap (tupleKind_room_in1 hu) (jW I.hok eb) hd dd ?_;have q:=(rel.val k).isSome_eq;rw[Option.isSome_map] at q;rw[<-q,<-l];exact h _ (I.tok _)
theorem jY{h':Heap}{t':Nat}{ob:HO}(I:Inv X pins σ H s)(mu:Mut (H a))(hs:Heap.SameBut a s.heap h')(he: ∃q,h'.get? a=some q)(new:ye X.prog X.w (upd H a ob) h' a ob):
  Inv X pins σ (upd H a ob) {s with heap:=h',toks:=t'}:=
 I.write (x:=a) (e:=a) mu (.inl rfl) (λb q hb z=>(hs.2 b hb).trans z) he new
theorem zjk{H':Hp}{h':Heap}{kvs:List (Key×V)}{vs:List (Key×Value)}(z:kvs.length<=sizeLine)(hd:(a==sysModules)=false)(rel:KV kvs vs)(dd:h'.DictOf (qL P w) a vs):
  ye P w H' h' a (.dK kvs):=⟨z,hd,vs,rel,dd⟩
theorem ziy{Q:Unit->Shared->Prop}(hu:A.units+1<cLine)(I:Inv X pins σ H s)(g:ux H a y v H')(ry:zF y u)(rv:zF v r)(h: ∀s',Inv X pins σ H' s'->Q () s'):
  wpAny (model X.prog X.w) A (setItem (.ref a) u r) Q E s:=by
 rcases g with⟨kvs,k,e,ey,l,eH⟩|⟨kvs,k,b,e,ey,eb,l,eH⟩
 ·subst ey eH;obtain⟨z,hd,vs,rel,dd⟩:=jp I.hok e;have hz:vs.length<=sizeLine:=by rw[<-rel.length];exact z
  have hl:(xN kvs k v).length<=sizeLine:=by have:=zeO kvs k v;omega
  refine wpAny_setItem_pairs (hsz:=hz) (vU ry) dd λh' dd' hs=>h _ ?_;have he: ∃q,h'.get? a=some q:=let ⟨q,_,_,hq,_⟩:=dd';⟨q,hq⟩;exact jY I (by rw[e];exact True.intro) hs he (zjk hl hd (rel.put k rv) dd')
 ·subst ey eH;cases (show u=Value.ref b from ry);obtain⟨z,hd,xs,rel,dd⟩:=zmh I.hok e;have hz:xs.length<=sizeLine:=by rw[<-Paired.length rel];exact z
  have hl:(xN kvs k v).length<=sizeLine:=by have:=zeO kvs k v;omega
  refine wpAny_setItem_heap (hsz:=hz) (tupleKind_room_in1 hu) (jW I.hok eb) dd λh' dd' hs=>h _ ?_;obtain⟨q,es,ep,hq,h2,h3,h4,_,h5⟩:=dd';refine jY I (by rw[e];exact True.intro) hs ⟨q,hq⟩ ⟨hl,hd,_,(rel.put k eb rv).keeps λc ys ec=> ?_,q,es,ep,hq,h2,h3,h4,h5⟩;rw[zI (zl5 ec e (λz=>nomatch z))];exact ec
end
section
variable {X:Cx} {pins:List (Addr×Obj)} {σ:St} {H:Hp} {s:Shared} {a:Addr} {kvs:List (Key×V)} {k:Key} {u:Value} {A:Around} {E:Value->Shared->Prop}
theorem zmi{v:V}{more:List Value}{Q:Value->Shared->Prop}(I:Inv X pins σ H s)(e:H a=some (.dK kvs))(ry:zF (kV k) u)(l:xu kvs k=some v)(hm:more= []\/ ∃x,more= [x])
  (h: ∀w' s',Inv X pins σ (upd H a (.dK (vf kvs k))) s'->zF v w'->Q w' s'):wpAny (model X.prog X.w) A (call (.builtin "dict.pop") (.ref a::u::more)) Q E s:=by
 obtain⟨z,hd,vs,rel,dd⟩:=jp I.hok e;obtain⟨w',hw,rw'⟩:=xW.some_of (v:=v) (o:=valueAt vs k) (by rw[<-l];exact rel.val k);have hp:(keyPart u).isSome=true:=by
  cases k with
  |inl i=>obtain⟨t,q⟩:=(show∃t,u=Value.int i t from ry);subst q;rfl
  |inr x=>obtain⟨t,q⟩:=(show∃t,u=Value.str x t from ry);subst q;rfl
 have ha:argsOk "dict.pop" ⟨.ref a::u::more, []⟩:=by
  rcases hm with q|⟨x,q⟩
  ·subst q;exact PySem.F.args_dict_pop_2 _ _
  ·subst q;exact PySem.F.args_dict_pop_3 _ _ _
 refine call_meetsIn PySem.F.slot_dict_pop dd.typeIs PySem.F.entry_dict_pop ha (meets_dict_pop_there (qL X.prog X.w) a (vU ry) more hm hp)
  ⟨vs,w',dd,by rw[<-rel.length];exact z,hw,λh' dd' hs=>h w' _ ?_ rw'⟩
 have he: ∃q,h'.get? a=some q:=let ⟨q,_,_,hq,_⟩:=dd';⟨q,hq⟩;exact jY I (by rw[e];exact True.intro) hs he (zjk (JE (zjg kvs k) z) hd (rel.drop k) dd')
end
def zmj(i:Expr):Prop:= ∀ov iv,subscripted i false ov iv=operate [ov,iv] (getItem ov iv)
theorem zkt{prog:Program}{w:World}{A:Around}{E:Value->Shared->Prop}{s:Shared}{env:Env}{value slice:Expr}{pos:Pos}{T id:String}{Q:Value->Shared->Prop}
  (hl:typeLookup (.type T) "__getitem__"=pure (some (.builtin id))) (hs:zmj slice)
  (h:wpAny (model prog w) A (eval value env) (λo s₁=>wpAny (model prog w) A (eval slice env) (λi s₂=>s₂.TypeIs o T/\wpAny (model prog w) A (getItem o i) Q E s₂) E s₁) E s):
  wpAny (model prog w) A (eval (.Subscript value slice pos) env) Q E s:=by
 refine Subscript_ (wpAny_mono h (λo s₁ h₁=>wpAny_mono h₁ (λi s₂ h₂=> ?_) λ_ _ x=>x) λ_ _ x=>x);obtain⟨hT,h₂⟩:=h₂;unfold subscriptTail;refine JV ?_;rw[getitemInPython_of_ne hT.not_modules];refine JV (wpAny_specialOf hT hl ?_);have fin:wpAny (model prog w) A (subscripted slice false o i) (λr s₃=>wpAny (model prog w) A (letTemporaryGo value o r>>=λ_=>pure r) Q E s₃) E s₂:=by
  rw[hs o i];exact wpAny_operating (wpAny_mono h₂ (λr s₃ h₃=>JV (wpAny_letTemporaryGo (JW h₃))) λ_ _ x=>x)
 first
  |exact JW (JV fin)
  |exact JV (JW (JV fin))
  |exact JV fin
def qw(td ty:TE):TE:=λσ H Q=>td σ H λx H1=>ty σ H1 λy H2=> ∃a v,x= .ref a/\vg H2 a y (some v)/\Q v H2
def yR(ty td:TE):TE:=λσ H Q=>ty σ H λy H1=>td σ H1 λx H2=> ∃a o,x= .ref a/\vg H2 a y o/\Q (.bl o.isSome) H2
def qx(ty td:TE):TE:=λσ H Q=>ty σ H λy H1=>td σ H1 λx H2=> ∃a o,x= .ref a/\vg H2 a y o/\Q (.bl (!o.isSome)) H2
def yT(td ty tv:TE):TS:=λD σ H=>tv σ H λv H1=>td σ H1 λx H2=>ty σ H2 λy H3=> ∃a H4,x= .ref a/\ux H3 a y v H4/\D.nx σ H4
section
variable {X:Cx} {o i e value:Expr} {pos pos' tpos:Pos} {td ty tv:TE}
theorem zlv(hu:X.A.units+1<cLine)(hi:PE X i ty)(ho:PE X o td):PC X .In i o (yR ty td):=by
 intro pins s σ H Q I h;refine thn (hi pins s σ H _ I h) λiv s1 ⟨y,H1,I1,ry,q1⟩=>thn (ho pins s1 σ H1 _ I1 q1) λu s2 ⟨x,H2,I2,rx,a,ov,ex,g,q2⟩=> ?_;subst ex;obtain rfl:u=Value.ref a:=rx;exact zmH hu I2 g ry λs3 I3=>⟨.bl ov.isSome,H2,I3,rfl,q2⟩
theorem zku(hu:X.A.units+1<cLine)(ho:PE X o td)(hi:PE X i ty)(hv:PE X value tv)(hs:swapsWith value (some (.Subscript o i pos')) pos.line X.env=pure false):
  PS X (.Assign [.Subscript o i pos'] value pos) (yT td ty tv):=by
 intro pins s σ H D I h;refine wpAny_Assign_Subscript (thn (hv pins s σ H _ I h) λr s1 ⟨v,H1,I1,rv,q1⟩=>thn (ho pins s1 σ H1 _ I1 q1) λu s2 ⟨x,H2,I2,rx,q2⟩=>thn (hi pins s2 σ H2 _ I2 q2) λiv s3 ⟨y,H3,I3,ry,a,H4,ex,g,q3⟩=> ?_) hs;subst ex;obtain rfl:u=Value.ref a:=rx;exact ziy hu I3 g ry rv λs4 I4=>⟨σ,H4,I4,q3⟩
end
theorem zjl(h:Heap)(hb:sysModules<h.objs.size):ye P w H (h.push {cls:= .type "dict",data:= .dict #[]}) h.objs.size (.dK []):=
 ⟨Jv _,beq_eq_false_iff_ne.mpr (Ne.symm (JJ hb)), [], .nil,Heap.DictOf.new h⟩
def zlw:TE:=λ_ H Q=> ∀p,H p=none->Q (.ref p) (upd H p (.dK []))
section
variable {X:Cx} {pos:Pos}
theorem zjm:PE X (.Dict [] [] pos) zlw:=λpins s σ H Q I h=>
 wpAny_Dict_empty ⟨.ref s.heap.objs.size,_,I.laid (a:=s.heap.objs.size) (o:= .dK []) (t':=s.toks) (λ_ _ q=>JX _ q) (Je _) (zjl s.heap I.big),rfl,h _ (I.hok.fresh (Je _))⟩
end
structure M1 (X:Cx) (o:Expr) (m:Str) (apos:Pos) (e:Expr) (cpos:Pos):Prop where
 base:attributeBase o m X.env (eval o X.env)=eval o X.env
 few:((backTo cpos (starEach [e] X.env)).all (λx=> !x.1) && (backToKw cpos (keywordEach [] X.env)).all (λx=>x.1.isSome)
  && decide (([e]:List Expr).length+([]:List Keyword).length+(if ([]:List Keyword).isEmpty then 0 else 1)<30))=true
 line:(apos.endLine==cpos.line)=true
 trees:backTo cpos (starEach [e] X.env)= [(false,eval e X.env)]
structure M2 (X:Cx) (o:Expr) (m:Str) (apos:Pos) (e f:Expr) (cpos:Pos):Prop where
 base:attributeBase o m X.env (eval o X.env)=eval o X.env
 few:((backTo cpos (starEach [e,f] X.env)).all (λx=> !x.1) && (backToKw cpos (keywordEach [] X.env)).all (λx=>x.1.isSome)
  && decide (([e,f]:List Expr).length+([]:List Keyword).length+(if ([]:List Keyword).isEmpty then 0 else 1)<30))=true
 line:(apos.endLine==cpos.line)=true
 trees:backTo cpos (starEach [e,f] X.env)= [(false,eval e X.env),(false,eval f X.env)]
def IsD(H:Hp)(a:Addr):Prop:=(∃kvs,Rd H a (.dK kvs))\/ ∃kvs,Rd H a (.dT kvs)
theorem zlx{pins:List (Addr×Obj)}{σ:St}{s:Shared}(I:Inv X pins σ H s)(d:IsD H a):
  s.TypeIs (.ref a) "dict"/\(∀b,Value.ref a= .ref b-> ∃ob,s.heap.get? b=some ob/\ob.dict=none)/\(a==sysModules)=false:=by
 rcases d with⟨kvs,e⟩|⟨kvs,e⟩
 ·obtain⟨_,hd,vs,_,dd⟩:=jV I.hok e;refine⟨dd.typeIs,λb q=> ?_,hd⟩;cases q;obtain⟨ob,_,_,h1,h2,_⟩:=dd;exact⟨ob,h1,h2.2.1⟩
 ·obtain⟨_,hd,xs,_,dd⟩:=jX I.hok e;refine⟨dd.typeIs,λb q=> ?_,hd⟩;cases q;obtain⟨ob,_,_,h1,h2,_⟩:=dd;exact⟨ob,h1,h2.2.1⟩
section
variable {X:Cx} {pins:List (Addr×Obj)} {σ:St} {H:Hp} {s:Shared} {a:Addr} {y d:V} {u r:Value} {o:Option V} {A:Around} {E:Value->Shared->Prop}
end
def qy(td ty tx:TE):TE:=λσ H Q=>td σ H λx H1=> ∃a,x= .ref a/\IsD H1 a/\ty σ H1 λy H2=>tx σ H2 λz H3=> ∃o,vg H3 a y o/\Q (o.getD z) H3
def yU(td ty:TE):TE:=λσ H Q=>td σ H λx H1=> ∃a,x= .ref a/\IsD H1 a/\ty σ H1 λy H2=> ∃kvs k v,H2 a=some (.dK kvs)/\y=kV k/\xu kvs k=some v/\Q v (upd H2 a (.dK (vf kvs k)))
section
variable {X:Cx} {o e f:Expr} {apos cpos:Pos} {td ty tx:TE}
theorem zjn(ho:PE X o td)(he:PE X e ty)(m:M1 X o "pop" apos e cpos):PE X (.Call (.Attribute o "pop" apos) [e] [] cpos) (yU td ty):=by
 intro pins s σ H Q I h;refine wpAny_Call_method m.base m.few m.line PySem.F.plainAttrs_dict PySem.F.slot_dict_pop PySem.F.type_dict_pop (thn (ho pins s σ H _ I h) λu s1 ⟨x,H1,I1,rx,a,ex,d,q1⟩=> ?_);subst ex;obtain rfl:u=Value.ref a:=rx;obtain⟨t1,t2,_⟩:=zlx I1 d;refine⟨t1,t2,?_⟩;rw[m.trees];refine Calls.callWith_builtin rfl (Calls.evalArgs_plain (Calls.spliced_cons (thn (he pins s1 σ H1 _ I1 q1) λiv s2 ⟨y,H2,I2,ry,kvs,k,v,ea,ey,l,q2⟩=>Calls.spliced_nil ?_)));subst ey;exact zmi I2 ea ry l (.inl rfl) λw' s3 I3 rw'=>⟨v,_,I3,rw',q2⟩
end
def yV:TE:=λ_ H Q=>New H (.dK []) Q
theorem zjo:PE X (.Dict [] [] pos) yV:=λpins s σ H Q I h=>zjm pins s σ H Q I λp hp=>h.at hp
theorem zgO:PySem.W.kitOne K (.type "str") (.type "int")=some false:=by
 unfold PySem.W.kitOne;rw[Jf 'd'];kernel_rfl
def sv:D->V
 | .int i=> .int i
 | .str cs=> .str (SL cs)
 |_=> .non
def jZ(d:D):Prop:=(∃i,d= .int i)\/ ∃cs:List Nat,d= .str cs/\cs.length<=sizeLine
def isI:D->Bool
 | .int _=>true
 |_=>false
def btw(lo hi:Int):D->Bool
 | .int i=>decide (lo<=i) && decide (i<=hi)
 |_=>false
theorem xl{J:It}{H1:Hp}{σ0:St}{g:TG}{tc:TT}{te:TE}{Q:VK}(Pv:Nat->List V->Hp->Prop)(L:Lists J H1 ys)(hl:H1 l=none)(hz:ys.length<sizeLine)
  (h0: ∀H,zj H1 H->Pv 0 [] H)
  (hs: ∀i x xs H (K1:VK) (K0:Hp->Prop),ys[i]? =some x->zj H1 H->Pv i xs H->H l=some (.lst xs)->
   (∀v H4,zj H H4->(∀H5,(∀b o,b≠l->H4 b=some o->H5 b=some o)->Pv (i+1) (xs++ [v]) H5)->K1 v H4)->(∀H3,zj H H3->Pv (i+1) xs H3->K0 H3)->
   g x σ0 H λσ2 H2=>Sub σ0 σ2/\tc σ2 H2 λb H3=>if b=true then te σ2 H3 K1 else K0 H3)
  (hd: ∀xs H,zj H1 H->Pv ys.length xs H->xs.length<=ys.length->H l=some (.lst xs)->Q (.ref l) H):uq J σ0 g tc te l Q H1:=by
 refine⟨λi m xs H=>i<=ys.length/\m=ys.length - i/\zj H1 H/\Pv i xs H/\xs.length<=i/\H l=some (.lst xs),⟨ys.length,Jv _,'o',wS hl _,h0 _ (wS hl _),Je _,yg⟩,?_⟩;rintro i m xs H ⟨hi,rfl,sm,pv,hx,e⟩;refine⟨e,Nat.lt_of_le_of_lt hx 'o',?_⟩;by_cases hlt:i<ys.length
 ·refine .inr ⟨L.go i H sm hlt,λx H' y=> ?_⟩;obtain⟨rfl,hx'⟩:=L.yld i H x H' sm y hlt;refine hs i x xs H' _ _ hx' sm pv e (λv H4 s4 p4=> ?_) (λH3 s3 p3=> ?_)
  ·exact⟨s4 _ _ e,ys.length - (i+1),'o',hlt,rfl,vR (sm.trans s4) hl,p4 _ λb o hb q=>by rw[zI hb];exact q,by rw[Jj];simp only[Jp,List.length_nil];omega,yg⟩
  ·exact⟨ys.length - (i+1),'o',hlt,rfl,sm.trans s3,p3,'o',s3 _ _ e⟩
 ·have ei:i=ys.length:=by omega
  subst ei;exact .inl ⟨L.stop H sm,hd xs H sm pv hx e⟩
abbrev azL:List Nat:= [97,98,99,100,101,102,103,104,105,106,107,108,109,110,111,112,113,114,115,116,117,118,119,120,121,122]
theorem j3{r:Int}(h0:0<=r)(h1:r<26):atI azL r=some (97+r.toNat):=by
 obtain⟨n,rfl⟩:=Int.eq_ofNat_of_zero_le h0
 have: ∀n:Nat,n<26->atI azL (n:Int)=some (97+n):=by decide
 exact this n 'o'
theorem zmk(c:Nat):c∈azL↔97<=c/\c<=122:=by
 have e:azL=(List.range 26).map (97+ ·):=by decide
 rw[e,Jw];exact⟨λ⟨a,h1,h2⟩=>by have:=List.mem_range.mp h1;omega,λh=>⟨c - 97,List.mem_range.mpr 'o','o'⟩⟩
theorem zlz: ∀c∈azL,∃rest,Builtin.Str.occurrences (SL azL) (SL [c]) 0 (SL azL).length 1=(c - 97)::rest:=by
 have h: ∀c∈azL,Builtin.Str.occurrences (SL azL) (SL [c]) 0 (SL azL).length 1= [c - 97]:=by decide+kernel
 exact λc hc=>⟨[],h c hc⟩
theorem zjq:MtR X "str.index" (λx vs H Q=> ∃c:Nat,x= .str (SL azL)/\vs= [.str (SL [c])]/\97<=c/\c<=122/\Q (.int ((c - 97:Nat):Int)) H):=by
 intro pins s σ H x vs v us Q I rx rv h;obtain⟨c,rfl,rfl,c0,c1,q⟩:=h;obtain⟨t,rfl⟩:=rx;obtain⟨u,rfl,t',rfl⟩:=xR rv;obtain⟨rest,e⟩:=zlz c ((zmk c).mpr ⟨c0,c1⟩);exact SC.index e ⟨.int _,H,I.tok _,⟨_,rfl⟩,q⟩
theorem j4: ∀bs:List Nat,jn [] (bs.map λb=> [b])=bs
 | []=>rfl
 | [b]=>rfl
 |b::c::r=>by
  have ih:=j4 (c::r);show [b]++ []++jn [] ((c::r).map λb=> [b])=_;rw[ih];rfl
abbrev Pl:=List Nat×Int×Int
def jq(w:List Nat):Prop:=1<=w.length/\w.length<=8/\ ∀c∈w,97<=c/\c<=122
def vV(x:Pl):Prop:=jq x.1/\0<=x.2.1/\x.2.1<10 ^ 30/\0<=x.2.2/\x.2.2<=400
def j5(xs:List Pl):Prop:=1<=xs.length/\xs.length<=8/\(∀x∈xs,vV x)/\(xs.map (·.1)).Nodup
def jr(K:Fg)(H:Hp)(z:V×Pl):Prop:= ∃p,z.1= .ref p/\SqT K H p [.str (SL z.2.1), .int z.2.2.1, .int z.2.2.2]
def wc(K:Fg)(H:Hp)(zs:List (V×Pl)):Prop:= ∀z∈zs,jr K H z
theorem jr.same{z:V×Pl}(h:jr K H z)(s:zj H H'):jr K H' z:=let ⟨p,e,q⟩:=h;⟨p,e,s.sqT q⟩
theorem wc.same{K:Fg}{H H':Hp}{zs:List (V×Pl)}(h:wc K H zs)(s:zj H H'):wc K H' zs:=λz hz=>(h z hz).same s
theorem vV.len{x:Pl}(h:vV x):x.1.length<=sizeLine:=qC (by have:=h.1.2.1;omega)
theorem zjs{xs:List Int}{i:Int}(h0:0<=i)(h1:i<xs.length):xs.getD i.toNat 0∈xs:=by
 have hl:i.toNat<xs.length:=by omega
 rw[Jo,Jb hl];exact List.getElem_mem hl
theorem zeW{α:Type}{f:Nat->α}(h: ∀k k',k<n->k'<n->f k=f k'->k=k'):((List.range n).map f).Nodup:=by
 unfold List.Nodup;rw[List.pairwise_map];refine List.Pairwise.imp_of_mem ?_ List.nodup_range;intro a b ha hb ne e;exact ne (h a b (List.mem_range.mp ha) (List.mem_range.mp hb) e)
theorem j6: ∀bs:List Nat,((bs.map λb=> [b]).map List.length).sum=bs.length
 | []=>rfl
 |b::r=>by
  rw[JA,JA,List.sum_cons,j6 r,Jp];show 1+r.length=r.length+1;omega
theorem zhX{p:Addr}{xs:List V}{o:HO}(h:SqT K H p xs)(e:H l=some (.lst ys)):SqT K (upd H l o) p xs:=by
 rcases h with(h|⟨ob,h⟩)|h
 ·have np:p≠l:=λz=>by rw[z,e] at h;cases h
  exact .inl (.inl (by rw[zI np];exact h))
 ·have np:p≠l:=λz=>by rw[z,e] at h;cases h
  exact .inl (.inr ⟨ob,by rw[zI np];exact h⟩)
 ·exact .inr h
theorem ziA{ds:List Int}(h:ds.length=11): ∃d0 d1 d2 d3 d4 d5 d6 d7 d8 d9 d10,ds= [d0,d1,d2,d3,d4,d5,d6,d7,d8,d9,d10]:=
 match ds,h with
 | [d0,d1,d2,d3,d4,d5,d6,d7,d8,d9,d10],_=>⟨d0,d1,d2,d3,d4,d5,d6,d7,d8,d9,d10,rfl⟩
theorem zkx(xs:List V){k:Int}(h0:1<=k)(h1:k<=xs.length):xk xs (some 1) (some k)=(xs.drop 1).take (k - 1).toNat:=by
 obtain⟨j,rfl⟩:=Int.eq_ofNat_of_zero_le (show 0<=k by omega);unfold xk;rw[show (1:Int)=((1:Nat):Int) from rfl,HT.sIx_nat,HT.sIx_nat,Nat.min_eq_left 'o',Nat.min_eq_left 'o'];congr 1;omega
theorem vC(w:List Nat): ∀ws:List (List Nat),inV (.str (SL w)) (ws.map λx=>V.str (SL x))=decide (w∈ws)
 | []=>rfl
 |x::r=>by
  have ih:=vC w r;unfold inV at ih ⊢;rw[JA,List.any_cons,ih];show ((SL x==SL w)||decide (w∈r))=decide (w∈x::r);have e:(SL x==SL w)=decide (x=w):=by
   rw[Bool.eq_iff_iff,beq_iff_eq,decide_eq_true_eq,ya]
  rw[e,Bool.eq_iff_iff,Bool.or_eq_true,decide_eq_true_eq,decide_eq_true_eq,decide_eq_true_eq,JD];constructor
  ·rintro(h|h)
   ·exact .inl h.symm
   ·exact .inr h
  ·rintro(h|h)
   ·exact .inl h.symm
   ·exact .inr h
theorem zhY(xs:List V)(k:Nat):xk xs none (some (k:Int))=xs.take k:=by
 unfold xk;rw[HT.sIx_none,HT.sIx_nat,List.drop_zero,Nat.sub_zero,<-List.take_take,JC]
theorem wV{p:Addr}{xs:List V}(h:SqT K H p xs)(e:H l=some (.lst ys))(k: ∀b o,b≠l->H b=some o->H' b=some o):SqT K H' p xs:=by
 rcases h with(h|⟨ob,h⟩)|h
 ·have np:p≠l:=λz=>by rw[z,e] at h;cases h
  exact .inl (.inl (k _ _ np h))
 ·have np:p≠l:=λz=>by rw[z,e] at h;cases h
  exact .inl (.inr ⟨ob,k _ _ np h⟩)
 ·exact .inr h
def Ite(K:Fg)(a:Addr):It:=
 ⟨λi H=> ∃xs x,SqL K H a xs/\xs[i]? =some x,
  λi H v H'=> ∃p,v= .ref p/\H p=none/\zj H H'/\ ∃x,H' p=some (.tup [.int i,x])/\ ∀xs,SqL K H a xs->xs[i]? =some x,
  λi H=> ∃xs,SqL K H a xs/\xs.length<=i⟩
theorem ziB{P:Program}{w:World}{K:Fg}{es:List Expr}{n:Nat}{ps:Pos}(e it l:Addr)(hne:e≠it):
  Turn P w K (.Tuple es n ps) (Ite K l) [e,it] e (λi h=>(∃old,IsEnum h e it i old)/\h.IsListIter it l i) where
 mem:=by simp
 obj:=λi h st b hb=>by
  obtain⟨⟨old,he⟩,⟨o1,e1,_,d1⟩⟩:=st;have hb':b=e\/b=it:=by simpa using hb
  rcases hb' with rfl|rfl
  ·exact⟨_,he,λv q=>by
    have q':Data.fields _=Data.cell v:=q;cases q'⟩
  ·exact⟨_,e1,λv q=>by rw[d1] at q;cases q⟩
 keep:=λi h h' st k=>by
  obtain⟨⟨old,he⟩,h1⟩:=st;exact⟨⟨old,k e (by simp) _ he⟩,h1.at λo e=>k it (by simp) o e⟩
 item:=by
  intro X hP hw hK hc i pins s σ H E I hf st hg;subst hP hw hK;obtain⟨xs,x,hx,ex⟩:=hg;obtain⟨⟨old,he⟩,h1⟩:=st;obtain⟨us,rv,p,_⟩:=I.list hx;obtain⟨u,hu,ru⟩:=rv.get ex;refine wpAny_pyNext_enum_item he h1 p.isList (x:=u) (by simpa using hu) hne λh' a1 a2 a3 a4 hk=> ?_;refine⟨_,rfl,wpAny_letOwnedTupleGo_enum (s:={s with heap:=h',toks:=s.toks+1}) a1 λh2' hz' sb=> ?_⟩;have lt: ∀{c o},s.heap.get? c=some o->s.heap.objs.size≠c:=λe=>Nat.ne_of_gt (JY e);have hp:=I.hok.fresh (Je s.heap.objs.size);have pr:=sb.extBut _ _ (lt he) a3;have I1:Inv X pins σ (upd H s.heap.objs.size (.tup [.int i,x])) {s with heap:=h2',toks:=s.toks+1}:=by
   refine I.laidL (ch:= [e,it]) (t':=s.toks+1) (λb hb=>hf b hb) (λb o hb e'=> ?_) (Je _) ⟨qC (by simp), [.int i s.toks,u], .cons ⟨_,rfl⟩ (.cons ru .nil),⟨_,pr,rfl,_,rfl⟩⟩;have hb': ¬(b=e\/b=it):=λq=>hb (by simpa using q);exact sb.extBut _ _ (λq=>hb' (.inl q)) (hk b o (λq=>hb' (.inl q)) (λq=>hb' (.inr q)) e')
  refine⟨.ref s.heap.objs.size,_,I1,rfl,⟨_,rfl,hp,wS hp _,x,yg,λws hw=> ?_⟩,⟨⟨_,hz'⟩,a2.extBut sb.extBut hne.symm⟩,λb hb=> ?_⟩
  ·rw[I.list_inj hw hx];exact ex
  ·have hb':b=e\/b=it:=by simpa using hb
   have hs: ∃o,s.heap.get? b=some o:=by
    rcases hb' with rfl|rfl
    ·exact⟨_,he⟩
    ·exact⟨_,h1.choose_spec.1⟩
   obtain⟨o,e⟩:=hs;rw[zI (lt e).symm];exact(hf b hb).1
 done:=by
  intro X hP hw hK hc i pins s σ H E I hf st hg;subst hP hw hK;obtain⟨xs,hx,hl⟩:=hg;obtain⟨⟨old,he⟩,h1⟩:=st;obtain⟨us,rv,p,_⟩:=I.list hx;have e1:=rv.length;refine wpAny_pyNext_enum_end (I.ok.hd hc) he h1 p.isList (by simp;omega) λh' hk=>⟨rfl,?_⟩
  refine I.turnedL (ch:= [it]) (t':=s.toks) (λb hb=>hf b ?_) (λb o hb e=> ?_)
  ·have hb':b=it:=by simpa using hb
   simp [hb']
  ·exact hk b o (λq=>hb (by simpa using q)) e
 self:=λ_ _ _ _ _ st h=>wpAny_pyIter_enum st.1.choose_spec h
def j7(K:Fg)(ta:TA):TI:=λσ H R=>ta σ H λvs H1=> ∃a,vs= [.ref a]/\(∃xs,SqL K H1 a xs)/\R (Ite K a) H1
theorem zhZ{es:List Expr}{n:Nat}{ps:Pos}{a:Expr}{ta:TA}{p pos:Pos}(hg:Gl X "enumerate")(hm:X.mg "enumerate"=none)(ha:PA X [a] ta)(hs:starEach [a] X.env= [(false,eval a X.env)]:=by rfl):
  PI X (.Tuple es n ps) (.Call (.Name "enumerate" p) [a] [] pos) (j7 X.K ta):=by
 intro pins s σ H R I h;refine Call_ (wx I hg hm boot_enumerate (PyProof.Rows.callWith_type1 (thn (ha pos pins s σ H _ I h) λus s1 ⟨vs,H1,I1,r1,q1⟩=> ?_) (by rw[hs];rfl) (by rfl)));obtain⟨i,e,⟨xs,hx⟩,q⟩:=q1;subst e;cases r1 with
 |cons r rr=>
  cases rr;cases r;obtain⟨us,rv,pl,_⟩:=I1.list hx;refine call_enumerate_list pl.isList λh' hz hi1 hsz hk=>wpAny_pyIter_enum hz ?_;refine⟨_, [s1.heap.objs.size+1,s1.heap.objs.size],_,_,H1,rfl,I1.kept (t':=s1.toks) hk,ziB _ _ _ (Nat.succ_ne_self _),⟨⟨_,hz⟩,hi1⟩,λb hb=> ?_,q⟩;have hb':b=s1.heap.objs.size+1\/b=s1.heap.objs.size:=by simpa using hb
  have le:s1.heap.objs.size<=b:=by
   rcases hb' with rfl|rfl
   ·exact Nat.le_add_right _ _
   ·exact Je _
  exact I1.fpOk le (I1.hok.fresh le)
theorem zgP{xs:List V}{j k:Nat}{tb:TS}{D:Ends}{σ:St}(Pv:Nat->St->Hp->Prop)(h0:Pv 0 σ H)(hl: ∀i σ H,i<=xs.length->Pv i σ H->SqL K H a xs)
  (hp: ∀i σ H H',Pv i σ H->zj H H'->Pv i σ H')
  (hs: ∀i x σ H,xs[i]? =some x->Pv i σ H->tb {D with nx:=Pv (i+1),ct:=Pv (i+1),bk:=D.nx} ((σ.set j (some (.int i))).set k (some x)) H) (hd: ∀σ H,Pv xs.length σ H->D.nx σ H):
  zmf (kY K 2 (yj (yh j) (yj (yh k) yo))) tb D σ (Ite K a) H:=by
 refine⟨λi m σ H=>m=xs.length - i/\i<=xs.length/\Pv i σ H,⟨xs.length,by simp,Jv _,h0⟩,?_⟩;rintro i m σ H ⟨rfl,hi,p⟩;have q1:=hl i σ H hi p;by_cases hlt:i<xs.length
 ·refine .inr ⟨⟨xs,xs[i],q1,by simp [hlt]⟩,Pv (i+1),λσ' H' p'=>⟨xs.length - (i+1),'o',rfl,hlt,p'⟩,λv H' yl=> ?_⟩;obtain⟨pp,rfl,_,sm,x,e,ex⟩:=yl;exact⟨pp, [.int i,x],rfl,SqT.of e,rfl, .int i, [x],rfl,x, [],rfl,rfl,hs i x σ H' (ex xs q1) (hp i σ H H' p sm)⟩
 ·have e:i=xs.length:=by omega
  subst e;exact .inl ⟨⟨xs,q1,Je _⟩,hd σ H p⟩
inductive Ch where
 |plan (d:Int) (nm:List Nat)
 |seats (d n:Int)
 |word (w:Nat) (d:Int)
 |undo (k:Int)
 |grant (a:Int)
 |back
def xS:Nat->List Nat
 |0=> [104,111,108,100]
 |1=> [103,111]
 |2=> [115,116,111,112]
 |_=> [108,97,115,116]
def chD:Ch->List D
 | .plan d nm=> [.str [112,108,97,110], .int d, .str nm]
 | .seats d n=> [.str [115,101,97,116,115], .int d, .int n]
 | .word w d=> [.str (xS w), .int d]
 | .undo k=> [.str [117,110,100,111], .int k]
 | .grant a=> [.str [103,114,97,110,116], .int a]
 | .back=> [.str [98,97,99,107]]
theorem qZ[Decidable c]{a b:Prop}(h:c)(x:a):if c then a else b:=by rw[Jg h];exact x
theorem zW[Decidable c]{a b:Prop}(h: ¬c)(x:b):if c then a else b:=by rw[Jf h];exact x
theorem qU{a b:List Nat}(h:a≠b): ¬V.str (SL a)=V.str (SL b):=λz=>h (by rw[V.str.injEq,ya] at z;exact z)
theorem zj.put(s:zj H H')(n:H a=none)(o:HO):zj H (upd H' a o):=λb u e=>by
 rw[zI (xP e n)];exact s b u e
abbrev En:=V×Addr×Int×Ch
def zV:Ch->Bool
 | .plan _ _=>true
 | .seats _ _=>true
 | .word _ _=>true
 |_=>false
def wf(n:Nat)(L:List Int):Ch->List Int
 | .undo k=>L.erase k
 | .grant _=>L
 | .back=>L
 |_=>L++ [(n:Int)]
def vD(cs:List Ch)(s:Nat×List Int):Nat×List Int:=cs.foldl (λs c=>(s.1+1,wf s.1 s.2 c)) s
def zX(cs:List Ch):List Int:=(vD cs (0, [])).2
theorem j8(P:Nat->List Int->Prop)(hs: ∀n L c,P n L->P (n+1) (wf n L c)): ∀(cs:List Ch) (s:Nat×List Int),P s.1 s.2->P (vD cs s).1 (vD cs s).2
 | [],_,h=>h
 |c::r,s,h=>j8 P hs r (s.1+1,wf s.1 s.2 c) (hs _ _ _ h)
theorem jt: ∀(cs:List Ch) (s:Nat×List Int),(vD cs s).1=s.1+cs.length
 | [],_=>rfl
 |c::r,s=>by
  show (vD r (s.1+1,_)).1=_;rw[jt r,Jp];omega
theorem vE(cs:List Ch)(c:Ch):zX (cs++ [c])=wf cs.length (zX cs) c:=by
 unfold zX vD;rw[List.foldl_append];show wf (vD cs (0, [])).1 _ c=_;rw[jt];show wf (0+cs.length) _ c=_;rw[Nat.zero_add]
theorem wL(cs:List Ch):(zX cs).Nodup/\ ∀k∈zX cs,0<=k/\k<cs.length:=by
 have h:=j8 (λn L=>L.Nodup/\ ∀k∈L,0<=k/\k<(n:Int)) (λn L c ⟨h1,h2⟩=>by
  have old: ∀k∈L,0<=k/\k<((n+1:Nat):Int):=λk hk=>⟨(h2 k hk).1,by have:=(h2 k hk).2;omega⟩
  have new:(L++ [(n:Int)]).Nodup/\ ∀k∈L++ [(n:Int)],0<=k/\k<((n+1:Nat):Int):=by
   refine⟨List.nodup_append.mpr ⟨h1,List.nodup_cons.mpr ⟨λz=>(nomatch z),List.nodup_nil⟩,λa ha b hb e=> ?_⟩,λk hk=> ?_⟩
   ·rw[Jm.mp hb] at e
    have:=(h2 a ha).2;omega
   ·rcases Jr.mp hk with z|z
    ·exact old k z
    ·rw[Jm.mp z];omega
  cases c with
  |plan=>exact new
  |seats=>exact new
  |word=>exact new
  |undo k=>exact⟨h1.erase k,λk' hk=>old k' (List.mem_of_mem_erase hk)⟩
  |grant=>exact⟨h1,old⟩
  |back=>exact⟨h1,old⟩) cs (0, []) ⟨List.nodup_nil,λk hk=>(nomatch hk)⟩
 refine⟨h.1,λk hk=> ?_⟩
 have:=h.2 k hk;rw[jt] at this;have e:(0,([]:List Int)).1+cs.length=cs.length:=Nat.zero_add _;rw[e] at this;exact this
theorem j9(cs:List Ch):(zX cs).length<=cs.length:=by
 have h:=j8 (λn L=>L.length<=n) (λn L c h=>by
  cases c with
  |plan=>show (L++ [(n:Int)]).length<=n+1;rw[Jj,List.length_singleton];omega
  |seats=>show (L++ [(n:Int)]).length<=n+1;rw[Jj,List.length_singleton];omega
  |word=>show (L++ [(n:Int)]).length<=n+1;rw[Jj,List.length_singleton];omega
  |undo k=>exact JE (JE (List.length_erase_le ..) h) (Nat.le_succ n)
  |grant=>exact Nat.le_succ_of_le h
  |back=>exact Nat.le_succ_of_le h) cs (0, []) (Je 0)
 rw[jt] at h;have e:(0,([]:List Int)).1+cs.length=cs.length:=Nat.zero_add _;rw[e] at h;exact h
def kvG(g:Int->V)(L:List Int):List (Key×V):=L.map λk=>((Sum.inl k:Key),g k)
theorem ju(g:Int->V)(x:Int): ∀L:List Int,xu (kvG g L) (Sum.inl x)=if x∈L then some (g x) else none
 | []=>rfl
 |k::r=>by
  unfold kvG;rw[JA];by_cases e:k=x
  ·subst e;rw[jm rfl,Jg Jq]
  ·rw[jo (by intro z;exact e (Sum.inl.inj z))];have ih:=ju g x r;unfold kvG at ih;rw[ih];by_cases h:x∈r
   ·rw[Jg h,Jg (Jl _ h)]
   ·rw[Jf h,Jf (λz=>(JD.mp z).elim (λq=>e q.symm) h)]
theorem zlA(g:Int->V){x:Int}{L:List Int}(h:x∉L):xN (kvG g L) (Sum.inl x) (g x)=kvG g (L++ [x]):=by
 rw[zjf _ (by rw[ju,Jf h])];unfold kvG;rw[Jd];rfl
theorem zh0(g:Int->V)(x:Int): ∀{L:List Int},L.Nodup->vf (kvG g L) (Sum.inl x)=kvG g (L.erase x)
 | [],_=>rfl
 |k::r,h=>by
  obtain⟨h1,h2⟩:=List.nodup_cons.mp h;have ih:=zh0 g x h2;unfold kvG vf at ih ⊢;rw[JA,JT];by_cases e:k=x
  ·subst e;rw[Jf (by simp),List.erase_cons_head,ih,List.erase_of_not_mem h1]
  ·rw[Jg (by simpa using e),List.erase_cons_tail (by simpa using e),JA,ih]
def zmI(K:Fg)(H:Hp)(z:En):Prop:= ∃p,z.1= .ref p/\SqT K H p [.int z.2.2.1, .ref z.2.1]/\SqT K H z.2.1 ((chD z.2.2.2).map sv)
def yX(K:Fg)(H:Hp)(zs:List En):Prop:= ∀z∈zs,zmI K H z
theorem yX.same(h:yX K H zs)(s:zj H H'):yX K H' zs:=λz hz=>
 let ⟨p,e,q1,q2⟩:=h z hz;⟨p,e,s.sqT q1,s.sqT q2⟩
theorem yX.take{K:Fg}{H:Hp}{zs:List En}(h:yX K H zs)(n:Nat):yX K H (zs.take n):=λz hz=>h z (List.mem_of_mem_take hz)
theorem yX.off(h:yX K H zs)(e:H l=some (.lst ys))(k: ∀b o,b≠l->H b=some o->H' b=some o):yX K H' zs:=λz hz=>
 let ⟨p,e1,q1,q2⟩:=h z hz;⟨p,e1,wV q1 e k,wV q2 e k⟩
def enD(z:En):D:= .tup [.int z.2.2.1, .tup (chD z.2.2.2)]
def wg(nms:List (List Nat))(f e:Int)(L:List Int):Ch->Prop
 | .plan d nm=>f<=d/\d<e/\nm∈nms
 | .seats d n=>f<=d/\d<e/\0<=n/\n<=1000000
 | .word w d=>w<4/\f<=d/\d<e
 | .undo k=>k∈L
 | .grant a=>1<=a/\a<10 ^ 30
 | .back=>True
def chs(zs:List En):List Ch:=zs.map λz=>z.2.2.2
theorem vW(zs:List En)(n:Nat):chs (zs.take n)=(chs zs).take n:=List.map_take
theorem xT(zs:List En):(chs zs).length=zs.length:=Ja ..
def qS(nms:List (List Nat))(f e:Int)(zs:List En):Prop:= ∀i z,zs[i]? =some z->f<=z.2.2.1/\z.2.2.1<e/\(∀y∈zs.take i,y.2.2.1<=z.2.2.1)/\wg nms f e (zX (chs (zs.take i))) z.2.2.2
theorem zhi{i:Nat}{z:En}(h:zs[i]? =some z):zX (chs (zs.take (i+1)))=wf i (zX (chs (zs.take i))) z.2.2.2:=by
 have hi:=(Jc.mp h).1;have e:chs (zs.take (i+1))=chs (zs.take i)++ [z.2.2.2]:=by
  unfold chs;rw[JH,h,Jd];rfl
 rw[e,vE,xT,JB,Nat.min_eq_left 'o']
theorem qS.nil:qS nms f e []:=λi z h=>by rw[List.getElem?_nil] at h;cases h
theorem qS.take{nms:List (List Nat)}{f e:Int}{zs:List En}(h:qS nms f e zs)(n:Nat):qS nms f e (zs.take n):=λi z hz=>by
 rw[List.getElem?_take] at hz;split at hz
 ·rename_i hi;rw[List.take_take,Nat.min_eq_left 'o'];exact h i z hz
 ·cases hz
theorem qS.snoc{z:En}(h:qS nms f e zs)(h1:f<=z.2.2.1)(h2:z.2.2.1<e)(h3: ∀y∈zs,y.2.2.1<=z.2.2.1)(h4:wg nms f e (zX (chs zs)) z.2.2.2):qS nms f e (zs++ [z]):=λi y hy=>by
 by_cases hi:i<zs.length
 ·rw[List.getElem?_append_left hi] at hy;rw[List.take_append_of_le_length 'o'];exact h i y hy
 ·rw[List.getElem?_append_right 'o'] at hy;have e0:i=zs.length:=by
   have:=(Jc.mp hy).1;rw[List.length_singleton] at this;omega
  subst e0;rw[Nat.sub_self] at hy;cases hy;rw[List.take_append_of_le_length (Je _),JC];exact⟨h1,h2,h3,h4⟩
theorem zju{p m:Addr}{xs ws:List V}(h:SqT K H p xs)(e:H l=some (.lst ys))(e2:H m=some (.lst ws))(k: ∀b o,b≠l->b≠m->H b=some o->H' b=some o):SqT K H' p xs:=by
 rcases h with(h|⟨ob,h⟩)|h
 ·exact .inl (.inl (k _ _ (λz=>by rw[z,e] at h;cases h) (λz=>by rw[z,e2] at h;cases h) h))
 ·exact .inl (.inr ⟨ob,k _ _ (λz=>by rw[z,e] at h;cases h) (λz=>by rw[z,e2] at h;cases h) h⟩)
 ·exact .inr h
structure EnInv (K:Fg) (H0 H:Hp) (le ll:Addr) (nms:List (List Nat)) (f e:Int) (zs:List En):Prop where
 same:zj H0 H
 n1:H0 le=none
 n2:H0 ll=none
 ne:le≠ll
 e1:H le=some (.lst (zs.map (·.1)))
 e2:H ll=some (.lst ((zX (chs zs)).map V.int))
 at':yX K H zs
 ok:qS nms f e zs
def chW:Ch->List Nat
 | .plan _ _=> [112,108,97,110]
 | .seats _ _=> [115,101,97,116,115]
 | .word w _=>xS w
 | .undo _=> [117,110,100,111]
 | .grant _=> [103,114,97,110,116]
 | .back=> [98,97,99,107]
theorem uy(c:Ch): ∃r,(chD c).map sv= .str (SL (chW c))::r:=by
 cases c<;>exact⟨_,rfl⟩
theorem zgQ(c:Ch):all2 (Dp K H n) (chD c) ((chD c).map sv):=by
 cases c with
 |plan d nm=>exact⟨xL,xB,xL,trivial⟩
 |seats d m=>exact⟨xL,xB,xB,trivial⟩
 |word w d=>exact⟨xL,xB,trivial⟩
 |undo k=>exact⟨xL,xB,trivial⟩
 |grant a=>exact⟨xL,xB,trivial⟩
 |back=>exact⟨xL,trivial⟩
theorem yX.all2{K:Fg}{H:Hp}: ∀{zs:List En},yX K H zs->all2 (Dp K H 2) (zs.map enD) (zs.map (·.1))
 | [],_=>trivial
 |z::r,h=>by
  obtain⟨p,e,q1,q2⟩:=h z Jq;refine⟨?_,yX.all2 λy hy=>h y (Jl _ hy)⟩;show Dp K H 2 (enD z) z.1;rw[e];exact wJ q1 ⟨xB,wJ q2 (zgQ _),trivial⟩
theorem ke(ns:List Int)(lo hi:Option Int): ∃ms:List Int,xk (ns.map V.int) lo hi=ms.map V.int/\ms.length<=ns.length:=by
 unfold xk;rw[<-List.map_drop,<-List.map_take];exact⟨_,rfl,by rw[JB,List.length_drop];omega⟩
section
variable {X:Cx} {pins:List (Addr×Obj)} {σ:St} {H H':Hp} {s:Shared} {h':Heap} {t':Nat}
theorem Inv.laidAll(I:Inv X pins σ H s)(k: ∀b o,s.heap.get? b=some o->h'.get? b=some o)(ext: ∀b u,H b=some u->H' b=some u)(new: ∀b u,H' b=some u->H b=none->s.heap.objs.size<=b/\ye X.prog X.w H' h' b u):
  Inv X pins σ H' {s with heap:=h',toks:=t'}:=by
 refine I.step (g':=s.gens) (d':=s.drawn) (ch:= []) (λb hb=>(nomatch hb)) (λb o _ _ hc e _=>k b o e) (λb o _ _ hc e _=>⟨o.slots,k b o e⟩)
  (λb u _ e n=> ?_)
  (λb o hc e=>⟨o,k b o e⟩) (λb xs e=>ext _ _ e) (λb o u e=>ext _ _ e) (λb ps e=>⟨#[],by rw[ext _ _ e];simp⟩) (λm hm=> ?_) (λb u e=> ?_) I.bare
 ·rcases q:H' b with _|v
  ·rfl
  ·exact absurd (JY e) (Nat.not_lt.mpr (new b v q n).1)
 ·obtain⟨o,es,ep,ho,r⟩:=hm;exact⟨o,es,ep,k _ o ho,r⟩
 ·rcases q:H b with _|v
  ·exact(new b u e q).2
  ·have e2:=ext b v q;rw[e] at e2;cases e2;exact(I.hok b u q).stay (λc v hc q=>k c v q) (λc q=>ext _ _ q) λc xs q=>ext _ _ q
end
def xC:List Addr->List (Key×V)->Hp->Hp
 |a::as,kv::kvs,H=>upd (xC as kvs H) a (.tup [kV kv.1,kv.2])
 |_,_,H=>H
theorem zfm{H:Hp}{b:Addr}: ∀{as:List Addr} {kvs:List (Key×V)},b∉as->xC as kvs H b=H b
 | [],_,_=>by unfold xC;rfl
 |_::_, [],_=>by unfold xC;rfl
 |a::as,kv::kvs,h=>by
  unfold xC;rw[zI (λz=>h (by rw[z];exact Jq)),zfm λz=>h (Jl _ z)]
theorem zfY{H:Hp}: ∀{as:List Addr} {kvs:List (Key×V)} {i:Nat} {p:Addr} {kv:Key×V},as.Pairwise (· < ·)->as[i]? =some p->kvs[i]? =some kv->xC as kvs H p=some (.tup [kV kv.1,kv.2])
 |a::as,kv::kvs,0,_,_,_,h1,h2=>by
  cases h1;cases h2;unfold xC;exact yg
 |a::as,kv::kvs,i+1,p,kv',hp,h1,h2=>by
  obtain⟨q1,q2⟩:=List.pairwise_cons.mp hp;have h1':as[i]? =some p:=by simpa using h1
  unfold xC;rw[zI (Nat.ne_of_gt (q1 p (Ji h1')))];exact zfY q2 h1' (by simpa using h2)
theorem zfZ{H:Hp}{b:Addr}{u:HO}: ∀{as:List Addr} {kvs:List (Key×V)},as.Pairwise (· < ·)->xC as kvs H b=some u->H b=some u\/ ∃(i:Nat) (kv:Key×V),as[i]? =some b/\kvs[i]? =some kv/\u= .tup [kV kv.1,kv.2]
 | [],_,_,h=>by unfold xC at h;exact .inl h
 |_::_, [],_,h=>by unfold xC at h;exact .inl h
 |a::as,kv::kvs,hp,h=>by
  unfold xC at h;by_cases e:b=a
  ·subst e;rw[yg] at h;exact .inr ⟨0,kv,rfl,rfl,(JU h).symm⟩
  ·rw[zI e] at h;rcases zfZ (List.pairwise_cons.mp hp).2 h with q|⟨i,kv',q1,q2,q3⟩
   ·exact .inl q
   ·exact .inr ⟨i+1,kv',by simpa using q1,by simpa using q2,q3⟩
theorem zh1{kvs:List (Key×V)}{vs:List (Key×Value)}(h:KV kvs vs): ∀{i:Nat} {kv:Key×V} {k:Key} {y:Value},kvs[i]? =some kv->vs[i]? =some (k,y)->kv.1=k/\zF kv.2 y:=by
 unfold KV at h;induction h with
 |nil=>intro i kv k y h1;rw[List.getElem?_nil] at h1;cases h1
 |cons r t ih=>
  intro i kv k y h1 h2;cases i with
  |zero=>cases h1;cases h2;exact r
  |succ i=>exact ih (i:=i) (by simpa using h1) (by simpa using h2)
theorem zfn: ∀as:List Addr,zB (as.map V.ref) (as.map Value.ref)
 | []=> .nil
 |_::r=> .cons rfl (zfn r)
def yY(td:TE):TE:=λσ H Q=>td σ H λx H1=> ∃a kvs,x= .ref a/\H1 a=some (.dK kvs)/\ ∀l H2 (as:List Addr),H1 l=none->zj H1 H2->as.length=kvs.length->(∀(i:Nat) (kv:Key×V) (p:Addr),kvs[i]? =some kv->as[i]? =some p->H2 p=some (.tup [kV kv.1,kv.2]))->H2 l=some (.lst (as.map V.ref))->Q (.ref l) H2
theorem zgl{o:Expr}{td:TE}{p pos ap cp:Pos}(hc:X.calm=true)(hg:Gl X "list")(hm:X.mg "list"=none)(ho:PE X o td)(hb:attributeBase o "items" X.env (eval o X.env)=eval o X.env)(hline:(ap.endLine==cp.line)=true):
  PE X (.Call (.Name "list" p) [.Call (.Attribute o "items" ap) [] [] cp] [] pos) (yY td):=by
 intro pins s σ H Q I h;refine wpAny_Call_Name_kw (wx I hg hm u9 ?_ 'd' 'd');refine PyProof.Rows.callWith_type1 ?_ qv rfl;show wpAny _ _ (spliced ((false,eval (.Call (.Attribute o "items" ap) [] [] cp) X.env)::backTo pos (starEach [] X.env))) _ _ s;refine Calls.spliced_cons ?_;refine wpAny_Call_method (T:="dict") (id:="dict.items") hb rfl hline PySem.F.plainAttrs_dict PySem.F.slot_dict_items PySem.F.type_dict_items (thn (ho pins s σ H _ I h) λu s1 ⟨x,H1,I1,rx,a,kvs,ex,ea,q⟩=> ?_);subst ex;obtain rfl:u=Value.ref a:=rx;obtain⟨z,hd,vs,rel,dd⟩:=jp I1.hok ea;refine⟨dd.typeIs,dd.mapOf.noDict,?_⟩;show wpAny _ _ (callWith cp (.builtin "dict.items") [.ref a] [] []) _ _ s1;refine method_meetsIn PySem.F.slot_dict_items PySem.F.entry_dict_items rfl (PySem.evalArgs_none ⟨rfl,dd.typeIs,PySem.F.args_dict_items_1 _,_,meets_dict_items _ a hd,⟨vs,dd⟩,?_⟩);refine Calls.spliced_nil ?_;obtain⟨ep,hat⟩:=dd.dictAt;have kp0: ∀b o,s1.heap.get? b=some o->(s1.heap.push {cls:= .type "dict_items",data:= .fields #[.ref a]}).get? b=some o:=λb o e=>JX _ e;refine PySem.W.kdx_call (knd:=qL X.prog X.w) (kvs:=vs) (ep:=ep) (I.ok.hd hc) ⟨_,JZ _ rfl,rfl,rfl⟩ (hat.at' λo e=>JX _ e) (by rw[<-rel.length];exact z) λh' tk acc c as hk hS hl hG hacc=> ?_;obtain⟨l,hl0⟩: ∃l,l=s1.heap.objs.size+1:=⟨_,rfl⟩
 have el:(s1.heap.push {cls:= .type "dict_items",data:= .fields #[.ref a]}).objs.size=l:=by rw[Heap.size_push,hl0]
 replace hS:h'.get? l=some {cls:= .type "list",dict:=none,data:= .seq acc c,slots:= #[]}:=by rw[<-el];exact hS
 replace hG:PySem.W.KdxG (qL X.prog X.w) vs l h' as:=by rw[<-el];exact hG
 have kp: ∀b o,s1.heap.get? b=some o->h'.get? b=some o:=λb o e=>hk b o (kp0 b o e);have lkv:as.length=kvs.length:=hl.trans (show kvs.length=vs.length from rel.length).symm;have la:l∉as:=λm=>Nat.lt_irrefl _ (hG.above l m);have fresh: ∀b,s1.heap.objs.size<=b->H1 b=none:=λb hb=>I1.hok.fresh hb;have ext: ∀b u,H1 b=some u->upd (xC as kvs H1) l (.lst (as.map V.ref)) b=some u:=λb u e=>by
  have b1:b≠l:=λz=>by rw[z,fresh l 'o'] at e;cases e
  have b2:b∉as:=λm=>by rw[fresh b (Nat.le_of_lt (Nat.lt_trans (hl0 ▸ Nat.lt_succ_self _) (hG.above b m)))] at e;cases e
  rw[zI b1,zfm b2];exact e
 have new: ∀b u,upd (xC as kvs H1) l (.lst (as.map V.ref)) b=some u->H1 b=none->s1.heap.objs.size<=b/\ye X.prog X.w (upd (xC as kvs H1) l (.lst (as.map V.ref))) h' b u:=λb u e n=>by
  by_cases b1:b=l
  ·subst b1;rw[yg] at e;cases e;refine⟨'o',show ye X.prog X.w _ h' _ (.lst (as.map V.ref)) from⟨by rw[Ja,lkv];exact z,as.map Value.ref,c,zfn as,?_⟩⟩;rw[<-hacc,Array.toArray_toList];exact hS
  ·rw[zI b1] at e;rcases zfZ hG.rise e with e1|⟨i,kv,q1,q2,rfl⟩
   ·rw[n] at e1;cases e1
   ·obtain⟨key,k,x,v1,v2,v3⟩:=hG.pairs i b q1;obtain⟨r1,r2⟩:=zh1 rel q2 v1;have rk:zF (kV kv.1) key:=by
     rw[r1];rcases wu v2 with⟨j,t,rfl,ej⟩|⟨y,t,rfl,ej⟩
     ·rw[ej];exact⟨t,rfl⟩
     ·rw[ej];exact⟨t,rfl⟩
    refine⟨Nat.le_of_lt (Nat.lt_trans (hl0 ▸ Nat.lt_succ_self _) (hG.above b (Ji q1))),show ye X.prog X.w _ h' _ (.tup [kV kv.1,kv.2]) from⟨qC (by simp), [key,x], .cons rk (.cons r2 .nil),⟨_,v3,rfl,_,rfl⟩⟩⟩
 have ev:(s1.heap.push {cls:= .type "dict_items",data:= .fields #[.ref a]}).objs.size=l:=el;show EP X pins σ Q (Value.ref (s1.heap.push {cls:= .type "dict_items",data:= .fields #[.ref a]}).objs.size) {s1 with heap:=h',toks:=tk};rw[ev];exact⟨.ref l,_,I1.laidAll (t':=tk) kp ext new,rfl,q l _ as (fresh l 'o') ext lkv (λi kv p' h1 h2=>by rw[zI (λz=>la (by rw[<-z];exact Ji h2))];exact zfY hG.rise h2 h1) yg⟩
def qz(K:Fg)(te:TE)(th:TO):TE:=λσ H Q=>te σ H λx H1=>th σ H1 λu H2=>u=some (-1)/\ ∃a xs,x= .ref a/\SqL K H2 a xs/\New H2 (.lst xs.reverse) Q
def enL(mo:Int)(z:En):Bool:=decide (z.2.2.1<=mo)
def mOf(zs:List En)(mo:Int):Nat:=(zs.filter (enL mo)).length
theorem zfo(mo:Int): ∀{zs:List En},zs.Pairwise (λa b=>a.2.2.1<=b.2.2.1)->zs.filter (enL mo)=zs.take (mOf zs mo)/\ ∀(j:Nat) (z:En),zs[j]? =some z->(z.2.2.1<=mo↔j<mOf zs mo)
 | [],_=>⟨rfl,λj z h=>by rw[List.getElem?_nil] at h;cases h⟩
 |z::r,h=>by
  obtain⟨h1,h2⟩:=List.pairwise_cons.mp h;obtain⟨e,ih⟩:=zfo mo h2;unfold mOf at e ih ⊢;by_cases q:z.2.2.1<=mo
  ·rw[List.filter_cons_of_pos (show enL mo z=true from JN q),Jp];refine⟨by rw[List.take_succ_cons,<-e],λj y hy=> ?_⟩;cases j with
   |zero=>cases hy;exact⟨λ_=>Nat.succ_pos _,λ_=>q⟩
   |succ j=>
    have:=ih j y (by simpa using hy);rw[this];omega
  ·rw[List.filter_cons_of_neg (show¬enL mo z=true from by unfold enL;simpa using q)];have nil:r.filter (enL mo)= []:=by
    rw[List.filter_eq_nil_iff];intro y hy
    have:=h1 y hy;unfold enL;simp only[decide_eq_true_eq];omega
   rw[nil];refine⟨rfl,λj y hy=>⟨λle=> ?_,λz0=>absurd z0 (Nat.not_lt_zero _)⟩⟩;cases j with
   |zero=>cases hy;exact absurd le q
   |succ j=>
    have:=h1 y (Ji (show r[j]? =some y by simpa using hy));omega
theorem qS.pair(h:qS nms f e zs):zs.Pairwise (λa b=>a.2.2.1<=b.2.2.1):=by
 rw[List.pairwise_iff_getElem];intro i j hi hj lt;refine(h j zs[j] (Jb hj)).2.2.1 zs[i] ?_;rw[List.mem_take_iff_getElem];exact⟨i,'o',rfl⟩
def z7:List Ch->List Int
 | []=> []
 | .undo k::r=>k::z7 r
 |_::r=>z7 r
theorem zeP: ∀a b:List Ch,z7 (a++b)=z7 a++z7 b
 | [],_=>rfl
 |c::r,b=>by
  have ih:=zeP r b;cases c with
  |undo k=>show k::z7 (r++b)=k::z7 r++z7 b;rw[ih];rfl
  |plan=>exact ih
  |seats=>exact ih
  |word=>exact ih
  |grant=>exact ih
  |back=>exact ih
def wj(o:Option Ch):Bool:=(o.map zV).getD false
def wX(cs:List Ch)(gs:List Int)(n:Nat):List Int:=((List.range n).filter (λj:Nat=>wj cs[j]? && !decide ((j:Int)∈gs))).map λj:Nat=>(j:Int)
theorem zgR(cs:List Ch)(gs:List Int)(n:Nat):wX cs gs (n+1)=wX cs gs n++(if (wj cs[n]? && !decide ((n:Int)∈gs))=true then [(n:Int)] else []):=by
 unfold wX;rw[JP,JS,Jd];congr 1;by_cases h:(wj cs[n]? && !decide ((n:Int)∈gs))=true
 ·rw[Jg h,JT];exact congrArg (List.map _) (Jg h)
 ·rw[Jf h,JT];exact congrArg (List.map _) (Jf h)
def xD(cs:List Ch):Prop:= ∀(i:Nat) (k:Int),cs[i]? =some (.undo k)->k∈zX (cs.take i)
theorem xD.take{cs:List Ch}(h:xD cs)(n:Nat):xD (cs.take n):=λi k hi=>by
 rw[List.getElem?_take] at hi;split at hi
 ·rw[List.take_take,Nat.min_eq_left 'o'];exact h i k hi
 ·cases hi
theorem kg(cs:List Ch)(ok:xD cs): ∀n,n<=cs.length->zX (cs.take n)=wX cs (z7 (cs.take n)) n/\ ∀k∈z7 (cs.take n),k<n
 |0,_=>by
  rw[List.take_zero];exact⟨rfl,λk h=>(nomatch h)⟩
 |n+1,h=>by
  obtain⟨ih,lt⟩:=kg cs ok n 'o';obtain⟨c,hc⟩: ∃c,cs[n]? =some c:=⟨cs[n],Jb 'o'⟩
  have et:cs.take (n+1)=cs.take n++ [c]:=by rw[JH,hc];rfl
  have ln:(cs.take n).length=n:=by rw[JB];omega
  have sn:zX (cs.take (n+1))=wf n (zX (cs.take n)) c:=by rw[et,vE,ln]
  have gn:z7 (cs.take (n+1))=z7 (cs.take n)++z7 [c]:=by rw[et,zeP]
  rw[sn,gn,zgR,hc];have nin:(n:Int)∉z7 (cs.take n):=λz=>by have:=lt _ z;omega
  have up: ∀k∈z7 (cs.take n),k<((n+1:Nat):Int):=λk hk=>by have:=lt k hk;omega
  have term:zV c=true->z7 [c]= []->wf n (zX (cs.take n)) c=zX (cs.take n)++ [(n:Int)]->wf n (zX (cs.take n)) c=wX cs (z7 (cs.take n)++z7 [c]) n++(if (wj (some c) && !decide ((n:Int)∈z7 (cs.take n)++z7 [c]))=true then [(n:Int)] else [])/\ ∀k∈z7 (cs.take n)++z7 [c],k<((n+1:Nat):Int):=λh1 h2 h3=>by
   rw[h2,Jt,h3,ih];refine⟨?_,up⟩;rw[Jg (by show (zV c && !decide _)=true;rw[h1,JO nin];rfl)]
  have other:zV c=false->z7 [c]= []->wf n (zX (cs.take n)) c=zX (cs.take n)->wf n (zX (cs.take n)) c=wX cs (z7 (cs.take n)++z7 [c]) n++(if (wj (some c) && !decide ((n:Int)∈z7 (cs.take n)++z7 [c]))=true then [(n:Int)] else [])/\ ∀k∈z7 (cs.take n)++z7 [c],k<((n+1:Nat):Int):=λh1 h2 h3=>by
   rw[h2,Jt,h3,ih];refine⟨?_,up⟩;rw[Jf (by show¬(zV c && _)=true;rw[h1,Bool.false_and];exact Ju),Jt]
  cases c with
  |plan=>exact term rfl rfl rfl
  |seats=>exact term rfl rfl rfl
  |word=>exact term rfl rfl rfl
  |grant=>exact other rfl rfl rfl
  |back=>exact other rfl rfl rfl
  |undo k=>
   have hk:=ok n k hc;have nd:=(wL (cs.take n)).1;have kb:=(wL (cs.take n)).2 k hk;rw[ln] at kb;refine⟨?_,λk' hk'=> ?_⟩
   ·rw[Jf (by show¬(false && _)=true;rw[Bool.false_and];exact Ju),Jt];show (zX (cs.take n)).erase k=_;rw[nd.erase_eq_filter,ih];unfold wX;rw[List.filter_map,List.filter_filter];congr 1;refine List.filter_congr λj _=> ?_;show ((j:Int) !=k && (wj cs[j]? && !decide ((j:Int)∈z7 (cs.take n))))=(wj cs[j]? && !decide ((j:Int)∈z7 (cs.take n)++ [k]));have e1:decide ((j:Int)∈z7 (cs.take n)++ [k])=(decide ((j:Int)∈z7 (cs.take n))||decide ((j:Int)=k)):=by
     rw[Bool.eq_iff_iff,decide_eq_true_eq,Bool.or_eq_true,decide_eq_true_eq,decide_eq_true_eq,Jr,Jm]
    rw[e1];have e2:((j:Int) !=k)= !decide ((j:Int)=k):=by
     rw[bne,Bool.beq_eq_decide_eq]
    rw[e2];cases wj cs[j]? <;>cases decide ((j:Int)∈z7 (cs.take n))<;>cases decide ((j:Int)=k)<;>rfl
   ·rcases Jr.mp hk' with q|q
    ·exact up _ q
    ·have:k'=k:=Jm.mp q;omega
end L2
namespace L2.So
open PySem PySem.W PyProof.Rows
variable{α:Type}{n i j m:Nat}{r:Nat->Int}
def Ev(n:Nat)(r:Nat->Int){α:Type}:KasT α->(α->Prop)->Prop
 | .ret a,Q=>Q a
 | .ask i j k,Q=>(i<n/\j<n/\i≠j)/\Ev n r (k (decide (r i<r j))) Q
theorem Ev.bind{n:Nat}{r:Nat->Int}{α β:Type}{f:α->KasT β}{Q:β->Prop}: ∀{t:KasT α},Ev n r t (λa=>Ev n r (f a) Q)->Ev n r (t.bind f) Q
 | .ret _,h=>h
 | .ask _ _ k,h=>⟨h.1,Ev.bind (t:=k _) h.2⟩
theorem Ev.mono{n:Nat}{r:Nat->Int}{α:Type}{Q Q':α->Prop}(hq: ∀a,Q a->Q' a): ∀{t:KasT α},Ev n r t Q->Ev n r t Q'
 | .ret a,h=>hq a h
 | .ask _ _ k,h=>⟨h.1,Ev.mono hq (t:=k _) h.2⟩
theorem Ev.wp{n:Nat}{r:Nat->Int}{α:Type}{cmp:Nat->Nat->(Bool->Shared->Prop)->Shared->Prop}{s:Shared}(hc: ∀i j C,i<n->j<n->i≠j->C (decide (r i<r j)) s->cmp i j C s){Q:α->Prop}{G:α->Shared->Prop}(hq: ∀a,Q a->G a s): ∀{t:KasT α},Ev n r t Q->t.kasWp cmp G s
 | .ret a,h=>hq a h
 | .ask i j k,h=>hc i j _ h.1.1 h.1.2.1 h.1.2.2 (Ev.wp hc hq (t:=k _) h.2)
theorem Ev.yes{k:Bool->KasT α}{Q:α->Prop}(hi:i<n)(hj:j<n)(h:r i<r j)(e:Ev n r (k true) Q):Ev n r (.ask i j k) Q:=⟨⟨hi,hj,λz=>by rw[z] at h;omega⟩,by rw[JN h];exact e⟩
theorem Ev.no{k:Bool->KasT α}{Q:α->Prop}(hi:i<n)(hj:j<n)(hn:i≠j)(h: ¬r i<r j)(e:Ev n r (k false) Q):Ev n r (.ask i j k) Q:=⟨⟨hi,hj,hn⟩,by rw[JO h];exact e⟩
def fv(r:Nat->Int)(p:Array Nat)(k:Nat):Int:=r (p.getD k 0)
def Ok(n:Nat)(p:Array Nat):Prop:=p.Perm (List.range n).toArray
def Up(r:Nat->Int)(p:Array Nat)(m:Nat):Prop:= ∀i j,i<j->j<m->fv r p i<fv r p j
def Dn(r:Nat->Int)(p:Array Nat)(m:Nat):Prop:= ∀i j,i<j->j<m->fv r p j<fv r p i
theorem Ok.size{n:Nat}{p:Array Nat}(h:Ok n p):p.size=n:=by
 have:=h.size_eq;simpa using this
theorem Ok.lt{p:Array Nat}(h:Ok n p){k:Nat}(hk:k<n):p.getD k 0<n:=by
 have hs:=h.size;have e:p.getD k 0=p[k]:=by simp [Array.getD,hs,hk]
 have m:p[k]∈p:=Array.getElem_mem _;rw[e]
 have:=(h.mem_iff).mp m;simpa using this
theorem Ok.ne{p:Array Nat}(h:Ok n p)(hij:i<j)(hj:j<n):p.getD i 0≠p.getD j 0:=by
 have hs:=h.size;have e1:p.getD i 0=p.toList[i]'(by simp;omega):=by simp [Array.getD,hs,show i<n by omega]
 have e2:p.getD j 0=p.toList[j]'(by simp;omega):=by simp [Array.getD,hs,hj]
 have nd:p.toList.Nodup:=(h.toList.nodup_iff).mpr (by simpa using List.nodup_range);rw[e1,e2];exact List.pairwise_iff_getElem.mp nd i j _ _ hij
def Inj(n:Nat)(r:Nat->Int):Prop:= ∀i j,i<n->j<n->i≠j->r i≠r j
theorem Ok.fne(hr:Inj n r){p:Array Nat}(h:Ok n p)(hij:i<j)(hj:j<n):fv r p i≠fv r p j:=hr _ _ (h.lt 'o') (h.lt hj) (h.ne hij hj)
theorem Up.one{p:Array Nat}(h:Up r p m)(h1:1<=m)(hl:fv r p (m - 1)<fv r p m):Up r p (m+1):=λi j hij hj=>by
 by_cases e:j=m
 ·subst e;by_cases e2:i=j - 1
  ·rw[e2];exact hl
  ·exact Int.lt_trans (h i (j - 1) 'o' 'o') hl
 ·exact h i j hij 'o'
theorem Dn.one{p:Array Nat}(h:Dn r p m)(h1:1<=m)(hl:fv r p m<fv r p (m - 1)):Dn r p (m+1):=λi j hij hj=>by
 by_cases e:j=m
 ·subst e;by_cases e2:i=j - 1
  ·rw[e2];exact hl
  ·exact Int.lt_trans hl (h i (j - 1) 'o' 'o')
 ·exact h i j hij 'o'
section
variable {n:Nat} {r:Nat->Int} (hr:Inj n r)
include hr
theorem asc_{p:Array Nat}(ho:Ok n p): ∀(f m:Nat),m+f=n->1<=m->Up r p m->Ev n r (kas_asc p f m) (λx=>1<=x/\m<=x/\x<=n/\Up r p x/\(x=n\/fv r p x<fv r p (x - 1)))
 |0,m,hm,h1,hu=>⟨h1,Je _,'o',hu, .inl 'o'⟩
 |f+1,m,hm,h1,hu=>by
  unfold kas_asc;by_cases c:fv r p m<fv r p (m - 1)
  ·refine Ev.yes (ho.lt 'o') (ho.lt 'o') c ?_;rw[Jg rfl];exact⟨h1,Je _,'o',hu, .inr c⟩
  ·refine Ev.no (ho.lt 'o') (ho.lt 'o') (ho.ne 'o' 'o').symm c ?_;rw[Jf 'd']
   have:=ho.fne hr (i:=m - 1) (j:=m) 'o' 'o';exact(asc_ ho f (m+1) 'o' 'o' (hu.one h1 'o')).mono λx h=>⟨h.1,'o',h.2.2⟩
theorem desc_{p:Array Nat}(ho:Ok n p): ∀(f m:Nat),m+f=n->1<=m->Dn r p m->Ev n r (kas_desc f p m 0) (λx=>x.1=p/\x.2.2=0/\m<=x.2.1/\x.2.1<=n/\Dn r p x.2.1)
 |0,m,hm,h1,hu=>⟨rfl,rfl,Je _,by show m<=n;omega,hu⟩
 |f+1,m,hm,h1,hu=>by
  unfold kas_desc;by_cases c:fv r p m<fv r p (m - 1)
  ·refine Ev.yes (ho.lt 'o') (ho.lt 'o') c ?_;rw[Jg rfl,Jf 'd'];exact(desc_ ho f (m+1) 'o' 'o' (hu.one h1 c)).mono λx h=>⟨h.1,h.2.1,'o',h.2.2.2⟩
  ·have:=ho.fne hr (i:=m - 1) (j:=m) 'o' 'o';refine Ev.no (ho.lt 'o') (ho.lt 'o') (ho.ne 'o' 'o').symm c ?_;rw[Jf 'd'];refine Ev.yes (ho.lt 'o') (ho.lt 'o') (show fv r p (m - 1)<fv r p m by omega) ?_;rw[Jg rfl];exact⟨rfl,rfl,Je _,by show m<=n;omega,hu⟩
theorem zjv{p:Array Nat}(ho:Ok n p)(i j:Nat):Ok n (kas_rev p i j):=(mirror_perm p i j _).trans ho
theorem zjw{p:Array Nat}(ho:Ok n p)(hm:m<=n){k:Nat}(hk:k<m):fv r (kas_rev p 0 m) k=fv r p (m - 1 - k):=by
 have e:=getElem?_mirror_all (xs:=p) (i:=0) (j:=m) (by rw[ho.size];exact hm) k;rw[Jg ⟨'o',hk⟩] at e;unfold fv kas_rev;rw[Array.getD_eq_getD_getElem?,Array.getD_eq_getD_getElem?,e,Nat.zero_add]
theorem tail_{p:Array Nat}(ho:Ok n p)(h1:1<=m)(hm:m<=n)(hd:Dn r p m):Ev n r (kas_tail3 m n p) (λx=>1<=x.1/\x.1<=n/\Ok n x.2/\Up r x.2 x.1):=by
 unfold kas_tail3;refine Ev.bind ((asc_ hr (zjv hr ho 0 m) (n - m) m 'o' h1 λi j hij hj=> ?_).mono λx h=>⟨h.1,h.2.2.1,zjv hr ho 0 m,h.2.2.2.1⟩);rw[zjw hr ho hm 'o',zjw hr ho hm hj];exact hd _ _ 'o' 'o'
theorem count_{p:Array Nat}(ho:Ok n p)(h1:1<=n):Ev n r (kas_count n p) (λx=>1<=x.1/\x.1<=n/\Ok n x.2/\Up r x.2 x.1):=by
 unfold kas_count;refine Ev.bind ((asc_ hr ho (n - 1) 1 'o' (Je _) λi j hij hj=>by omega).mono λx h=> ?_);obtain⟨a1,_,a2,hu,hx⟩:=h;by_cases e:x=n
 ·rw[Jg (by simp [e])];exact⟨a1,a2,ho,hu⟩
 rw[Jf (by simp [e])];by_cases e1:x>1
 ·rw[Jg e1];refine Ev.yes (ho.lt 'o') (ho.lt 'o') (hu 0 (x - 1) 'o' 'o') ?_;rw[Jg rfl];exact⟨a1,a2,ho,hu⟩
 rw[Jf e1];obtain rfl:x=1:=by omega
 have c:fv r p 1<fv r p 0:=hx.resolve_left e;unfold kas_descPart;refine Ev.bind ((desc_ hr ho (n - 2) 2 'o' 'o' λi j hij hj=> ?_).mono λy h=> ?_)
 ·obtain rfl:i=0:=by omega
  obtain rfl:j=1:=by omega
  exact c
 ·obtain⟨y1,y2,y3⟩:=y;obtain⟨b1,b2,b3,b4,b5⟩:=h;dsimp only at b1 b2 b3 b4 b5 ⊢;subst b1 b2;rw[Jf 'd'];exact tail_ hr ho 'o' b4 b5
theorem place_{p:Array Nat}(ho:Ok n p){k:Nat}(hk:k<n)(hu:Up r p k): ∀(f a b:Nat),b - a<=f->a<=b->b<=k->(∀i,i<a->fv r p i<fv r p k)->(∀i,b<=i->i<k->fv r p k<fv r p i)->Ev n r (kas_place p k f a b) (λl=>l<=k/\(∀i,i<l->fv r p i<fv r p k)/\ ∀i,l<=i->i<k->fv r p k<fv r p i)
 |0,a,b,hf,ab,bk,h1,h2=>by
  obtain rfl:a=b:=by omega
  exact⟨bk,h1,h2⟩
 |f+1,a,b,hf,ab,bk,h1,h2=>by
  unfold kas_place;by_cases e:a≥b
  ·rw[Jg e];obtain rfl:a=b:=by omega
   exact⟨bk,h1,h2⟩
  rw[Jf e];by_cases c:fv r p k<fv r p ((a+b) / 2)
  ·refine Ev.yes (ho.lt hk) (ho.lt 'o') c ?_;rw[Jg rfl];refine place_ ho hk hu f a ((a+b) / 2) 'o' 'o' 'o' h1 λi hi ik=> ?_;by_cases z:i=(a+b) / 2
   ·rw[z];exact c
   ·exact Int.lt_trans c (hu _ _ 'o' ik)
  ·refine Ev.no (ho.lt hk) (ho.lt 'o') (ho.ne 'o' hk).symm c ?_;rw[Jf 'd']
   have:=ho.fne hr (i:=(a+b) / 2) (j:=k) 'o' hk;refine place_ ho hk hu f ((a+b) / 2+1) b 'o' 'o' bk (λi hi=> ?_) h2;by_cases z:i=(a+b) / 2
   ·rw[z];omega
   ·exact Int.lt_trans (hu i ((a+b) / 2) 'o' 'o') 'o'
theorem bin_: ∀(f k:Nat) {p:Array Nat},Ok n p->k+f=n->Up r p k->Ev n r (kas_bin f p k) (λq=>Ok n q/\Up r q n)
 |0,k,p,ho,hk,hu=>⟨ho,by
  obtain rfl:k=n:=by omega
  exact hu⟩
 |f+1,k,p,ho,hk,hu=>by
  unfold kas_bin;refine Ev.bind ((place_ hr ho 'o' hu k 0 k 'o' 'o' (Je _) (λi hi=>by omega) λi h1 h2=>by omega).mono λl h=> ?_);obtain⟨lk,h1,h2⟩:=h;have ho':Ok n (bubble p k (k - l)):=(bubble_perm p k _).trans ho;refine bin_ f (k+1) ho' 'o' λi j hij hj=> ?_;have at_: ∀x,fv r (bubble p k (k - l)) x=if x=l then fv r p k else if l<x/\x<=k then fv r p (x - 1) else fv r p x:=λx=>by
   have e:=getElem?_bubble (xs:=p) (src:=k) (by rw[ho.size];omega) (k - l) 'o' x;rw[show k - (k - l)=l by omega] at e;unfold fv;rw[Array.getD_eq_getD_getElem?,e];by_cases z1:x=l
   ·rw[Jg z1,Jg z1,Array.getD_eq_getD_getElem?]
   ·rw[Jf z1,Jf z1];by_cases z2:l<x/\x<=k
    ·rw[Jg z2,Jg z2,Array.getD_eq_getD_getElem?]
    ·rw[Jf z2,Jf z2,Array.getD_eq_getD_getElem?]
  rw[at_,at_];by_cases z1:i=l
  ·rw[Jg z1,Jf 'o',Jg 'o'];exact h2 _ 'o' 'o'
  ·rw[Jf z1];by_cases z2:l<i
   ·rw[Jg 'o',Jf 'o',Jg 'o'];exact hu _ _ 'o' 'o'
   ·rw[Jf 'o'];by_cases z3:j=l
    ·rw[Jg z3];exact h1 i 'o'
    ·rw[Jf z3];by_cases z4:l<j
     ·rw[Jg 'o'];exact hu _ _ 'o' 'o'
     ·rw[Jf 'o'];exact hu _ _ hij 'o'
theorem sort_(h1:1<=n):Ev n r (kas_sort n) (λp=>Ok n p/\Up r p n):=by
 unfold kas_sort;refine Ev.bind ((count_ hr (Array.Perm.refl _) h1).mono λx h=> ?_);obtain⟨a1,a2,ho,hu⟩:=h;by_cases e:x.1<n
 ·rw[Jg e,Nat.max_eq_left a1];exact bin_ hr (n - x.1) x.1 ho 'o' hu
 ·rw[Jf e];obtain e2:x.1=n:=by omega
  rw[e2] at hu;exact⟨ho,hu⟩
end
end L2.So
namespace L2.So
open PySem PySem.W PySem.Calls PyProof.Rows
def Tr(h:Heap)(v:Value)(a b c:Int):Prop:= ∃ad o xs k t1 t2 t3 rest,v= .ref ad/\h.get? ad=some o/\o.cls= .type "tuple"/\o.data= .seq xs k/\xs.toList= .int a t1:: .int b t2:: .int c t3::rest
theorem Tr.keep{h h':Heap}{v:Value}{a b c:Int}(k: ∀b o,h.get? b=some o->h'.get? b=some o):Tr h v a b c->Tr h' v a b c
 |⟨ad,o,xs,n,t1,t2,t3,rest,e1,e2,r⟩=>⟨ad,o,xs,n,t1,t2,t3,rest,e1,k _ _ e2,r⟩
section
variable {prog:Program} {w:World} {A:Around} {E:Value->Shared->Prop} {s:Shared}
theorem uz{b fin:Bool}{Q:Bool->Shared->Prop}{x y:Int}{t u:Tok}{r:List (Value×Value)}{i:Nat}(h1:x=y->KatLex prog w A b fin Q r (i+1) s)(h2:x≠y->wpAny (model prog w) A (oneLt' (b && i==0) (.int x t) (.int y u)) Q (λ_ _=>False) s):KatLex prog w A b fin Q ((.int x t, .int y u)::r) i s:=by
 refine kat_cons (wpAny_eqBool_int (kat_go (λe=>kat_yes (h1 (by simpa using e))) λe=>kat_no (h2 (by simpa using e))))
theorem zml{v v':Value}{a b c a' b' c':Int}{Q:Bool->Shared->Prop}{R R':Int}(h:Tr s.heap v a b c)(h':Tr s.heap v' a' b' c')(hc:c≠c')(hR:R<R'↔a<a'\/a=a'/\(b<b'\/b=b'/\c<c'))(q:Q (decide (R<R')) s):wpAny (model prog w) A (keyLt' (tuples' true) v v') Q E s:=by
 obtain⟨ad,o,xs,n,t1,t2,t3,rest,rfl,e2,_,e4,e5⟩:=h;obtain⟨ad',o',xs',n',u1,u2,u3,rest',rfl,f2,_,f4,f5⟩:=h';refine kat_lt e2 e4 f2 f4 ?_;rw[e5,f5];refine uz (λz1=>uz (λz2=>uz (λz3=>absurd z3 hc) λz3=> ?_) λz2=> ?_) λz1=> ?_
 ·refine kat_one _ _ (PyProof.Rows.lt_int (show Q (decide (c<c')) s from ?_));rw[show (decide (c<c'))=decide (R<R') from decide_eq_decide.mpr (by rw[hR];omega)];exact q
 ·refine kat_one _ _ (PyProof.Rows.lt_int (show Q (decide (b<b')) s from ?_));rw[show (decide (b<b'))=decide (R<R') from decide_eq_decide.mpr (by rw[hR];omega)];exact q
 ·refine oneLt_int ?_;rw[show (decide (a<a'))=decide (R<R') from decide_eq_decide.mpr (by rw[hR];omega)];exact q
end
end L2.So
namespace L2.So
open PySem PySem.W PySem.Calls PyProof.Rows
variable{h:Heap}
section
variable {prog:Program} {w:World} {A:Around} {E:Value->Shared->Prop} {s:Shared} {vs:List Value} {r:Nat->Int} {ka kb kc:Nat->Int}
structure Keys (h:Heap) (vs:List Value) (r ka kb kc:Nat->Int):Prop where
 tup: ∀i,i<vs.length->Tr h (vs.getD i Value.none) (ka i) (kb i) (kc i)
 num: ∀i j,i<vs.length->j<vs.length->i≠j->kc i≠kc j
 rank: ∀i j,i<vs.length->j<vs.length->(r i<r j↔ka i<ka j\/ka i=ka j/\(kb i<kb j\/kb i=kb j/\kc i<kc j))
theorem Keys.keep{h h':Heap}(k: ∀b o,h.get? b=some o->h'.get? b=some o)(H:Keys h vs r ka kb kc):Keys h' vs r ka kb kc:=⟨λi hi=>(H.tup i hi).keep k,H.num,H.rank⟩
theorem Keys.inj(H:Keys h vs r ka kb kc):Inj vs.length r:=λi j hi hj hn e=>by
 have:=H.num i j hi hj hn;have h1:=H.rank i j hi hj;have h2:=H.rank j i hj hi;rcases Int.lt_trichotomy (kc i) (kc j) with z|z|z
 ·omega
 ·exact this z
 ·omega
theorem zh2{h:Heap}{ka kb kc:Nat->Int}: ∀(vs:List Value) (o:Nat),(∀i,i<vs.length->Tr h (vs.getD i Value.none) (ka (o+i)) (kb (o+i)) (kc (o+i)))-> ∃fs,KatTups h vs fs/\fs.length=vs.length/\ ∀v∈fs,∃x t,v=Value.int x t
 | [],_,_=>⟨[],trivial,rfl,λ_ hv=>nomatch hv⟩
 |v::vs,o,H=>by
  obtain⟨fs,h1,h2,h3⟩:=zh2 (ka:=ka) (kb:=kb) (kc:=kc) vs (o+1) λi hi=>by
   have:=H (i+1) (by rw[Jp];omega);rwa[List.getD_cons_succ,show o+(i+1)=o+1+i by omega] at this
  obtain⟨ad,ob,xs,k,t1,t2,t3,rest,e1,e2,e3,e4,e5⟩:=H 0 (by rw[Jp];omega);rw[List.getD_cons_zero] at e1;subst e1;refine⟨.int (ka (o+0)) t1::fs,KatTups.cons e2 e3 e4 ?_ h1,by rw[Jp,Jp,h2],λv hv=> ?_⟩
  ·rw[<-JG,e5];rfl
  ·rcases JD.mp hv with rfl|hv
   ·exact⟨_,_,rfl⟩
   ·exact h3 v hv
theorem zhj{a:Addr}{n:Nat}{P:PySem.Fin->Shared->Prop}(ho:s.heap.get? a=some (seqObj "list" vs.toArray n))(hK:Keys s.heap vs r ka kb kc)(hna: ∀i,i<vs.length->vs.getD i Value.none≠ .ref a)(h2:2<=vs.length)(h64:vs.length<64)
  (h: ∀p:Array Nat,Ok vs.length p->Up r p vs.length->P (.done (.ret .none)) {s with heap:=sortedHeap s.heap a vs (List.toArray (p.toList.map λi=>vs.getD i Value.none))}):wpAny (model prog w) A (Builtin.«list.sort» ⟨[.ref a], []⟩) P E s:=by
 have ha:a<s.heap.objs.size:=JY ho;obtain⟨e1,g1⟩: ∃e1,(s.heap.update a (Obj.mapSeq λ_=>(#[]:Array Value))).get? a=some (seqObj "list" #[] e1):=⟨_,get?_update_seq ho λ_=> #[]⟩
 obtain⟨h3,hh3⟩: ∃h3,h3=((s.heap.update a (Obj.mapSeq λ_=>(#[]:Array Value))).push (seqObj "tuple" vs.toArray 0)).push (seqObj "list" #[] 0):=⟨_,rfl⟩
 have g3:h3.get? a=some (seqObj "list" #[] e1):=by rw[hh3];exact JX _ (JX _ g1)
 have K3:Keys h3 vs r ka kb kc:=⟨λi hi=>by
  obtain⟨ad,o,xs,k,t1,t2,t3,rest,q1,q2,q3⟩:=hK.tup i hi;refine⟨ad,o,xs,k,t1,t2,t3,rest,q1,?_,q3⟩;rw[hh3];refine JX _ (JX _ ?_);rw[Heap.get?_update_ne _ _ _ _ λz=>hna i hi (by rw[q1,z])];exact q2,hK.num,hK.rank⟩
 rw[list_sort_plain];refine JV (listItems_at ho rfl (JV (listUpdate_at ho rfl ?_ (by rw[Jn,sizeLine_eq];omega) (Jv _))));refine JV (seqEpoch_at g1 rfl (JV (wpAny_newTuple ?_ (by show vs.length<=_;rw[sizeLine_eq];omega))));refine JV (wpAny_newList (wpAny_holding ?_) (Jv _));show wpAny (model prog w) A _ P E {s with heap:=((s.heap.update a (Obj.mapSeq λ_=> #[])).push (seqObj "tuple" vs.toArray 0)).push (seqObj "list" #[] 0)};rw[<-hh3];dsimp only;have n2: ¬vs.toArray.size<2:=by rw[Jn];omega
 rw[Jf n2,Jf n2];obtain⟨fs,f1,f2,f3⟩:=zh2 (ka:=ka) (kb:=kb) (kc:=kc) vs 0 (λi hi=>by rw[Nat.zero_add];exact K3.tup i hi);refine JV (kat_kind (s:={s with heap:=h3}) (T:= .type "int") f1 'o' (λv hv=> ?_) 'd' ?_)
 ·obtain⟨x,t,rfl⟩:=f3 v hv;exact .now
 refine JV (wpAny_mono (kat_run (Q:=λst' s'=> ∃p:Array Nat,Ok vs.length p/\Up r p vs.length/\arrOf st'=p.map (kas_item (vs.toArray.zip vs.toArray))/\failedOf st'=none/\s'={s with heap:=h3})
  (G:=λp s'=>Ok vs.length p/\Up r p vs.length/\s'={s with heap:=h3}) rfl h2 h64 (λp st' s' a1 a2 a3 a4=>⟨p,a4.1,a4.2.1,a2,a3,a4.2.2⟩) (Ev.wp (λi j C hi hj hn q=> ?_) (λp q=>⟨q.1,q.2,rfl⟩) (sort_ K3.inj 'o'))) ?_ λ_ _ e=>e)
 ·exact zml (K3.tup i hi) (K3.tup j hj) (K3.num i j hi hj hn) (K3.rank i j hi hj) q
 rintro⟨⟨⟩,st'⟩ s' ⟨p,a1,a2,a3,a4,rfl⟩;dsimp only;have hout:=kat_snds rfl a3;have hsz:(List.toArray (p.toList.map λi=>vs.getD i Value.none)).size=vs.length:=by rw[Jn,Ja,Jx,a1.size]
 rw[hout];refine JV (seqEpoch_at g3 rfl (JV (listUpdate_at g3 rfl ?_ (Jv _) (JE (Nat.le_of_eq hsz) (by rw[sizeLine_eq];omega)))));rw[a4];simp only[bne_self_eq_false,Js,if_false];refine JW ?_
 have:=h p a1 a2;unfold sortedHeap at this;rw[<-hh3] at this;exact this
theorem sorted_tups{l:Addr}{Q:Value->Shared->Prop}(hl:s.heap.IsList l vs.toArray)(hK:Keys s.heap vs r ka kb kc)(h2:2<=vs.length)(h64:vs.length<64)
  (h: ∀p:Array Nat,Ok vs.length p->Up r p vs.length->Q (.ref (s.heap.objs.size+1)) {s with heap:=sortedAll s.heap vs (List.toArray (p.toList.map λi=>vs.getD i Value.none))}):wpAny (model prog w) A (call (.builtin "sorted") [.ref l]) Q E s:=by
 obtain⟨h2',hh2⟩: ∃h2',h2'=((s.heap.push (seqObj "list" #[] 0)).update s.heap.objs.size (Obj.mapSeq (· ++vs.toArray))).push (seqObj "list" vs.toArray 0):=⟨_,rfl⟩
 have hsz:((s.heap.push (seqObj "list" #[] 0)).update s.heap.objs.size (Obj.mapSeq (· ++vs.toArray))).objs.size=s.heap.objs.size+1:=by rw[Heap.size_update];exact size_push' ..
 have g2:h2'.get? (s.heap.objs.size+1)=some (seqObj "list" vs.toArray 0):=by rw[hh2,<-hsz];exact JZ _ rfl
 have keep: ∀b o,s.heap.get? b=some o->h2'.get? b=some o:=λb o q=>by
  have hlt:b<s.heap.objs.size:=JY q;rw[hh2];refine JX _ ?_;rw[Heap.get?_update_ne _ _ _ _ (JJ hlt)];exact JX _ q
 refine Calls.call_function_entry kind_sorted plain_sorted entry_sorted (args_sorted1 _) ?_;unfold Builtin.«sorted»;refine JV (m:=checkCount "sorted" 1 1 _) (JW (JV (collect_list hl (JV (wpAny_newList ?_ (by rw[sizeLine_eq];omega))) (by rw[sizeLine_eq];omega))));show wpAny _ _ _ _ _ {s with heap:=((s.heap.push (seqObj "list" #[] 0)).update s.heap.objs.size (Obj.mapSeq (· ++vs.toArray))).push _};rw[hsz,<-hh2];refine JV (wpAny_holding (wpAny_call_entry slot_list_sort ⟨_,g2,rfl⟩ entry_list_sort (zhj (s:={s with heap:=h2'}) g2 (hK.keep keep) (λi hi z=> ?_) h2 h64 λp a1 a2=>⟨_,rfl,JW ⟨_,rfl,?_⟩⟩) (args_list_sort _)))
 ·obtain⟨ad,o,xs,k,t1,t2,t3,rest,q1,q2,q3⟩:=hK.tup i hi;rw[z] at q1;cases q1;exact absurd (JY q2) (Nat.not_lt.mpr (Nat.le_succ _))
 ·have:=h p a1 a2;unfold sortedAll at this;rw[<-hh2] at this;exact this
end
end L2.So
namespace L2
open PySem PySem.Spec PyProof.Rows
abbrev Tz:=Addr×Int×Int×Int
def rkT(z:Tz):Int:=(z.2.1*4000000+z.2.2.1)*64+z.2.2.2
def uA(z:Tz):Prop:=(0<=z.2.1/\z.2.1<4000000)/\(0<=z.2.2.1/\z.2.2.1<4000000)/\0<=z.2.2.2/\z.2.2.2<64
theorem kh: ∀as:List Addr,zB (as.map V.ref) (as.map Value.ref)
 | []=> .nil
 |_::r=> .cons rfl (kh r)
theorem km: ∀{zs:List Tz} {its:List Value},zB (zs.map λz=>V.ref z.1) its->its=zs.map λz=>Value.ref z.1
 | [],_,h=>by cases h;rfl
 |z::zs,_,h=>by
  cases h with
  |cons r t=>
   rw[km t];rw[show _=Value.ref z.1 from r];rfl
theorem vh{x:V}{xs:List V}{its:List Value}(h:zB (x::xs) its): ∃u us,its=u::us/\zF x u/\zB xs us:=by
 cases h with
 |cons r t=>exact⟨_,_,rfl,r,t⟩
theorem wt{α:Type}{l:List α}{i:Nat}{d:α}(h:i<l.length):l.getD i d∈l:=by
 rw[Jo,Jb h];exact List.getElem_mem h
theorem uB{α:Type}(d:α)(l:List α):(List.range l.length).map (λi=>l.getD i d)=l:=by
 refine List.ext_getElem (by simp) λi h1 h2=> ?_;simp [Jo,Jb h2]
theorem zgn{X:Cx}:xb X (.builtin "sorted") (λxs H Q=> ∃(p:Addr) (zs:List Tz),xs= [.ref p]/\H p=some (.lst (zs.map λz=>V.ref z.1))/\2<=zs.length/\zs.length<64/\(∀z∈zs,uA z/\ ∃r,H z.1=some (.tup (.int z.2.1:: .int z.2.2.1:: .int z.2.2.2::r)))/\zs.Pairwise (λx y=>x.2.2.2≠y.2.2.2)/\ ∀ws:List Tz,ws.Perm zs->ws.Pairwise (λx y=>x.2.1<=y.2.1/\rkT x<rkT y)->New H (.lst (ws.map λz=>V.ref z.1)) Q):=by
 intro pins s σ H xs us Q I r h;obtain⟨p,zs,rfl,hp,h2,h64,hz,hn,q⟩:=h;obtain⟨u,rfl,ru⟩:=xR r;obtain rfl:u=Value.ref p:=ru;obtain⟨hln,its,n,rv,pl⟩:=I.hok _ _ hp;have ei:its=zs.map λz=>Value.ref z.1:=by
  have:=km rv;exact this
 subst ei;have hl:(zs.map λz=>Value.ref z.1).length=zs.length:=Ja ..;have gz: ∀i,i<zs.length->(zs.map λz=>Value.ref z.1).getD i Value.none=Value.ref (zs.getD i (0,0,0,0)).1:=λi hi=>by
  rw[Jo,Jh,Jo,Jb hi];rfl
 have inb: ∀i,i<zs.length->uA (zs.getD i (0,0,0,0)):=λi hi=>(hz _ (wt hi)).1;have hK:So.Keys s.heap (zs.map λz=>Value.ref z.1) (λi=>((zs.getD i (0,0,0,0)).2.1*4000000+(zs.getD i (0,0,0,0)).2.2.1)*64+(zs.getD i (0,0,0,0)).2.2.2) (λi=>(zs.getD i (0,0,0,0)).2.1) (λi=>(zs.getD i (0,0,0,0)).2.2.1) (λi=>(zs.getD i (0,0,0,0)).2.2.2):=by
  refine⟨λi hi=> ?_,λi j hi hj hij=> ?_,λi j hi hj=> ?_⟩
  ·rw[hl] at hi;rw[gz i hi];obtain⟨_,rest,e⟩:=hz _ (wt (d:=(0,0,0,0)) hi);obtain⟨_,ts,tv,o,e1,e2,k,e3⟩:=I.hok _ _ e;obtain⟨x1,ts1,rfl,⟨t1,rfl⟩,tv1⟩:=vh tv;obtain⟨x2,ts2,rfl,⟨t2,rfl⟩,tv2⟩:=vh tv1;obtain⟨x3,ts3,rfl,⟨t3,rfl⟩,tv3⟩:=vh tv2;exact⟨_,o,_,k,t1,t2,t3,ts3,rfl,e1,e2,e3,rfl⟩
  ·rw[hl] at hi hj;show (zs.getD i (0,0,0,0)).2.2.2≠(zs.getD j (0,0,0,0)).2.2.2;rw[Jo,Jo,Jb hi,Jb hj];rcases Nat.lt_or_gt_of_ne hij with z|z
   ·exact List.pairwise_iff_getElem.mp hn i j hi hj z
   ·exact(List.pairwise_iff_getElem.mp hn j i hj hi z).symm
  ·rw[hl] at hi hj;have b1:=inb i hi;have b2:=inb j hj;unfold uA at b1 b2;generalize zs.getD i (0,0,0,0)=u at b1 ⊢;generalize zs.getD j (0,0,0,0)=v at b2 ⊢;omega
 refine So.sorted_tups ⟨_,pl,rfl,_,rfl⟩ hK (by rw[hl];exact h2) (by rw[hl];exact h64) λpm a1 a2=> ?_;rw[hl] at a1 a2;obtain⟨ws,hw⟩: ∃ws,ws=pm.toList.map λi=>zs.getD i (0,0,0,0):=⟨_,rfl⟩
 have pz:pm.toList.length=zs.length:=by rw[Jx,a1.size]
 have inp: ∀i∈pm.toList,i<zs.length:=λi hi=>by
  have:=a1.toList.mem_iff.mp hi;simpa using this
 have ew:(pm.toList.map λi=>(zs.map λz=>Value.ref z.1).getD i Value.none)=ws.map λz=>Value.ref z.1:=by
  rw[hw,List.map_map];exact List.map_congr_left λi hi=>gz i (inp i hi)
 rw[ew];have wp:ws.Perm zs:=by
  have:=(a1.toList.map λi=>zs.getD i (0,0,0,0))
  rw[<-hw] at this;rw[show (List.range zs.length).toArray.toList=List.range zs.length from rfl,uB] at this;exact this
 have wl:ws.length=zs.length:=wp.length_eq;have wo:ws.Pairwise (λx y=>x.2.1<=y.2.1/\rkT x<rkT y):=by
  rw[hw,List.pairwise_map,List.pairwise_iff_getElem];intro i j hi hj hij;have e:=a2 i j hij 'o';unfold So.fv at e;have g: ∀(k:Nat) (hk:k<pm.toList.length),pm.getD k 0=pm.toList[k]:=λk hk=>by
   have:k<pm.size:=by simpa using hk
   simp [Array.getD,this]
  rw[g i hi,g j hj] at e;dsimp only at e;have b1:=inb _ (inp _ (List.getElem_mem hi));have b2:=inb _ (inp _ (List.getElem_mem hj));unfold uA at b1 b2;unfold rkT;generalize zs.getD pm.toList[i] (0,0,0,0)=u at e b1 ⊢;generalize zs.getD pm.toList[j] (0,0,0,0)=v at e b2 ⊢;omega
 obtain⟨ep,at_⟩:=sortedAll_at s.heap (zs.map λz=>Value.ref z.1) (List.toArray (ws.map λz=>Value.ref z.1));have hf:H (s.heap.objs.size+1)=none:=I.hok.fresh (Nat.le_succ _);refine⟨.ref (s.heap.objs.size+1),upd H (s.heap.objs.size+1) (.lst (ws.map λz=>V.ref z.1)),I.laid (t':=s.toks) (λb u e=>sortedAll_old e) (Nat.le_succ _) ?_,rfl,(q ws wp wo).at hf⟩;refine⟨by rw[Ja,wl];rw[Ja] at hln;exact hln,ws.map λz=>Value.ref z.1,ep,?_,at_⟩
 have:=kh (ws.map (·.1));rw[List.map_map,List.map_map] at this;exact this
def jv(w:World):List DictEntry->List (Str×V)->Prop
 | [], []=>True
 |e::es,kv::r=>(∃t,e.key= .str kv.1 t)/\e.hash=PyData.keyHash w.params kv.1/\zF kv.2 e.val/\jv w es r
 |_,_=>False
theorem zk1(P:Program){w:World}: ∀{es:List DictEntry} {kvs:List (Str×V)},jv w es kvs-> ∃vs:List (Key×Value),vs.map (·.1)=kvs.map (λkv=>Sum.inr kv.1)/\(∀e∈es,∃k,(qL P w).is k e.key=true/\e.hash=(qL P w).hash k)/\Pairs (qL P w) es vs/\ ∀k v,kvs.lookup k=some v-> ∃u,valueAt vs (Sum.inr k)=some u/\zF v u
 | [], [],_=>⟨[],rfl,(λ_ h=>nomatch h), .nil,(λ_ _ h=>nomatch h)⟩
 |e::es,kv::r,h=>by
  obtain⟨⟨t,h1⟩,h2,h3,h4⟩:=h;obtain⟨vs,a1,a2,a3,a4⟩:=zk1 P h4;have ki:(qL P w).is (Sum.inr kv.1) e.key=true:=by rw[h1];exact vU (k:=Sum.inr kv.1) ⟨t,rfl⟩
  refine⟨(Sum.inr kv.1,e.val)::vs,by rw[JA,JA,a1],λx hx=> ?_, .cons ki rfl a3,λk v hk=> ?_⟩
  ·rcases JD.mp hx with rfl|hx
   ·exact⟨Sum.inr kv.1,ki,h2⟩
   ·exact a2 x hx
  ·obtain⟨kn,kd⟩:=kv;rw[List.lookup_cons] at hk;by_cases z:k=kn
   ·subst z;rw[beq_self_eq_true] at hk;cases hk;exact⟨e.val,by unfold valueAt;rw[List.find?_cons_of_pos (by simp)];rfl,h3⟩
   ·rw[beq_false_of_ne z] at hk;obtain⟨u,b1,b2⟩:=a4 k v hk;refine⟨u,?_,b2⟩;unfold valueAt at b1 ⊢;rw[List.find?_cons_of_neg (by simp only[decide_eq_true_eq];exact λq=>z (Sum.inr.inj q).symm)];exact b1
 | [],_::_,h=>h.elim
 |_::_, [],h=>h.elim
def tDc(kvs:List (Str×V))(ty:TE):TE:=λσ H Q=>ty σ H λy H1=> ∃k v,y= .str k/\kvs.lookup k=some v/\Q v H1
def zmm(w:World)(K:Fg)(mg:Str->Option Value)(x:Str)(kvs:List (Str×V)):Prop:= ∃(a:Addr) (es:Array DictEntry) (ep:Nat),mg x=some (.ref a)/\K.lookup a=some ⟨.type "dict",none, .dict es ep, #[]⟩/\jv w es.toList kvs/\(kvs.map (·.1)).Nodup
theorem zjy{X:Cx}{x:Str}{i:Expr}{ty:TE}{kvs:List (Str×V)}{p pos:Pos}(hg:Gl X x)(hc:zmm X.w X.K X.mg x kvs)(hi:PE X i ty)(hs:zmj i)(hd:(x==("__debug__":Str))=false:=by decide):PE X (.Subscript (.Name x p) i pos) (tDc kvs ty):=by
 obtain⟨a,es,ep,hm,hl,he,hn⟩:=hc;intro pins s σ H Q I h;refine zkt PySem.F.slot_dict_getitem.lookup hs (uN I hg hm (thn (hi pins s σ H _ I h) λiv s2 ⟨y,H2,I2,ry,k,v,ey,hk,q2⟩=> ?_) hd);subst ey;have ha:=I2.kIn a _ hl;obtain⟨vs,a1,a2,a3,a4⟩:=zk1 X.prog he;obtain⟨u,b1,b2⟩:=a4 k v hk;have nd:(vs.map (·.1)).Nodup:=by
  rw[a1,show (kvs.map λkv=>(Sum.inr kv.1:Key))=(kvs.map (·.1)).map Sum.inr by rw[List.map_map];rfl];exact hn.map _ λ_ _ h q=>h (Sum.inr.inj q)
 have dd:s2.heap.DictOf (qL X.prog X.w) a vs:=⟨_,es,ep,ha,⟨rfl,rfl,rfl⟩,rfl,λe he=>a2 e (Array.mem_toList_iff.mpr he),a3,nd⟩
 exact⟨dd.typeIs,wpAny_getItem_of (vU (k:=Sum.inr k) ry) dd.mapOf b1 ⟨v,H2,I2.tok _,b2,q2⟩⟩
end L2
namespace L2.So
open PySem PySem.W PySem.Calls PyProof.Rows
section
variable {prog:Program} {w:World} {A:Around} {E:Value->Shared->Prop} {s:Shared} {vs:List Value}
theorem zgS{a:Addr}{n:Nat}{P:PySem.Fin->Shared->Prop}(ho:s.heap.get? a=some (seqObj "list" vs.toArray n))(h2:vs.length<2)(h:P (.done (.ret .none)) {s with heap:=sortedHeap s.heap a vs vs.toArray}):wpAny (model prog w) A (Builtin.«list.sort» ⟨[.ref a], []⟩) P E s:=by
 obtain⟨e1,g1⟩: ∃e1,(s.heap.update a (Obj.mapSeq λ_=>(#[]:Array Value))).get? a=some (seqObj "list" #[] e1):=⟨_,get?_update_seq ho λ_=> #[]⟩
 obtain⟨h3,hh3⟩: ∃h3,h3=((s.heap.update a (Obj.mapSeq λ_=>(#[]:Array Value))).push (seqObj "tuple" vs.toArray 0)).push (seqObj "list" #[] 0):=⟨_,rfl⟩
 have g3:h3.get? a=some (seqObj "list" #[] e1):=by rw[hh3];exact JX _ (JX _ g1)
 rw[list_sort_plain];refine JV (listItems_at ho rfl (JV (listUpdate_at ho rfl ?_ (by rw[Jn,sizeLine_eq];omega) (Jv _))));refine JV (seqEpoch_at g1 rfl (JV (wpAny_newTuple ?_ (by show vs.length<=_;rw[sizeLine_eq];omega))));refine JV (wpAny_newList (wpAny_holding ?_) (Jv _));show wpAny (model prog w) A _ P E {s with heap:=((s.heap.update a (Obj.mapSeq λ_=> #[])).push (seqObj "tuple" vs.toArray 0)).push (seqObj "list" #[] 0)};rw[<-hh3];dsimp only;have n2:vs.toArray.size<2:=by rw[Jn];omega
 rw[Jg n2,Jg n2];refine JV (JW ?_);rw[StateT.run_pure];refine JV (JW ?_);dsimp only;have eo:(arrOf (SortSt.mk' general' (vs.toArray.zip vs.toArray) #[] 7 none)).map (·.2)=vs.toArray:=by
  show (vs.toArray.zip vs.toArray).map (·.2)=vs.toArray;rw[Array.map_snd_zip (Je _)]
 rw[eo];refine JV (seqEpoch_at g3 rfl (JV (listUpdate_at g3 rfl ?_ (Jv _) (by rw[Jn,sizeLine_eq];omega))));simp only[bne_self_eq_false,Js,if_false];refine JW ?_;unfold sortedHeap at h;rw[<-hh3] at h;exact h
theorem sorted_short{l:Addr}{Q:Value->Shared->Prop}(hl:s.heap.IsList l vs.toArray)(h2:vs.length<2)(h:Q (.ref (s.heap.objs.size+1)) {s with heap:=sortedAll s.heap vs vs.toArray}):wpAny (model prog w) A (call (.builtin "sorted") [.ref l]) Q E s:=by
 obtain⟨h2',hh2⟩: ∃h2',h2'=((s.heap.push (seqObj "list" #[] 0)).update s.heap.objs.size (Obj.mapSeq (· ++vs.toArray))).push (seqObj "list" vs.toArray 0):=⟨_,rfl⟩
 have hsz:((s.heap.push (seqObj "list" #[] 0)).update s.heap.objs.size (Obj.mapSeq (· ++vs.toArray))).objs.size=s.heap.objs.size+1:=by rw[Heap.size_update];exact size_push' ..
 have g2:h2'.get? (s.heap.objs.size+1)=some (seqObj "list" vs.toArray 0):=by rw[hh2,<-hsz];exact JZ _ rfl
 refine Calls.call_function_entry kind_sorted plain_sorted entry_sorted (args_sorted1 _) ?_;unfold Builtin.«sorted»;refine JV (m:=checkCount "sorted" 1 1 _) (JW (JV (collect_list hl (JV (wpAny_newList ?_ (by rw[sizeLine_eq];omega))) (by rw[sizeLine_eq];omega))));show wpAny _ _ _ _ _ {s with heap:=((s.heap.push (seqObj "list" #[] 0)).update s.heap.objs.size (Obj.mapSeq (· ++vs.toArray))).push _};rw[hsz,<-hh2];refine JV (wpAny_holding (wpAny_call_entry slot_list_sort ⟨_,g2,rfl⟩ entry_list_sort (zgS (s:={s with heap:=h2'}) g2 h2 ⟨_,rfl,JW ⟨_,rfl,?_⟩⟩) (args_list_sort _)));unfold sortedAll at h;rw[<-hh2] at h;exact h
end
end L2.So
namespace L2
open PySem PySem.Spec PyProof.Rows
theorem zgo{X:Cx}:xb X (.builtin "sorted") (λxs H Q=> ∃(p:Addr) (zs:List Tz),xs= [.ref p]/\H p=some (.lst (zs.map λz=>V.ref z.1))/\zs.length<64/\(∀z∈zs,uA z/\ ∃r,H z.1=some (.tup (.int z.2.1:: .int z.2.2.1:: .int z.2.2.2::r)))/\zs.Pairwise (λx y=>x.2.2.2≠y.2.2.2)/\ ∀ws:List Tz,ws.Perm zs->ws.Pairwise (λx y=>x.2.1<=y.2.1/\rkT x<rkT y)->New H (.lst (ws.map λz=>V.ref z.1)) Q):=by
 intro pins s σ H xs us Q I r h;obtain⟨p,zs,rfl,hp,h64,hz,hn,q⟩:=h;by_cases h2:2<=zs.length
 ·exact zgn pins s σ H _ us Q I r ⟨p,zs,rfl,hp,h2,h64,hz,hn,q⟩
 obtain⟨u,rfl,ru⟩:=xR r;obtain rfl:u=Value.ref p:=ru;obtain⟨hln,its,n,rv,pl⟩:=I.hok _ _ hp;have ei:its=zs.map λz=>Value.ref z.1:=km rv;subst ei;refine So.sorted_short ⟨_,pl,rfl,_,rfl⟩ (by rw[Ja];omega) ?_;obtain⟨ep,at_⟩:=sortedAll_at s.heap (zs.map λz=>Value.ref z.1) (List.toArray (zs.map λz=>Value.ref z.1));have hf:H (s.heap.objs.size+1)=none:=I.hok.fresh (Nat.le_succ _);have so:zs.Pairwise (λx y=>x.2.1<=y.2.1/\rkT x<rkT y):=by
  match zs,h2 with
  | [],_=>exact .nil
  | [z],_=>exact List.pairwise_singleton ..
  |_::_::r,h=>exact absurd (by rw[Jp,Jp];omega) h
 exact⟨.ref (s.heap.objs.size+1),upd H (s.heap.objs.size+1) (.lst (zs.map λz=>V.ref z.1)),I.laid (t':=s.toks) (λb u e=>sortedAll_old e) (Nat.le_succ _) ⟨hln,zs.map λz=>Value.ref z.1,ep,rv,at_⟩,rfl,(q zs (.refl _) so).at hf⟩
section
variable {prog:Program} {w:World} {A:Around} {E:Value->Shared->Prop} {s:Shared}
end
theorem zgT: ∀{xs:List V} {us:List Value},xs.length=us.length->(∀(i:Nat) x u,xs[i]? =some x->us[i]? =some u->zF x u)->zB xs us
 | [], [],_,_=> .nil
 |x::r,u::t,hl,h=> .cons (h 0 x u rfl rfl) (zgT (by simpa using hl) λi y v hy hv=>h (i+1) y v (by simpa using hy) (by simpa using hv))
 | [],_::_,hl,_=>by cases hl
 |_::_, [],hl,_=>by cases hl
end L2
namespace L2.Sk
open PySem PySem.W PyProof.Rows L2.So
variable{α:Type}{n m b:Nat}
def Ek(n:Nat)(k:Nat->Int){α:Type}:KasT α->(α->Prop)->Prop
 | .ret a,Q=>Q a
 | .ask i j f,Q=>(i<n/\j<n)/\Ek n k (f (decide (k i<k j))) Q
theorem Ek.bind{n:Nat}{k:Nat->Int}{α β:Type}{f:α->KasT β}{Q:β->Prop}: ∀{t:KasT α},Ek n k t (λa=>Ek n k (f a) Q)->Ek n k (t.bind f) Q
 | .ret _,h=>h
 | .ask _ _ g,h=>⟨h.1,Ek.bind (t:=g _) h.2⟩
theorem Ek.mono{n:Nat}{k:Nat->Int}{α:Type}{Q Q':α->Prop}(hq: ∀a,Q a->Q' a): ∀{t:KasT α},Ek n k t Q->Ek n k t Q'
 | .ret a,h=>hq a h
 | .ask _ _ g,h=>⟨h.1,Ek.mono hq (t:=g _) h.2⟩
theorem Ek.wp{n:Nat}{k:Nat->Int}{α:Type}{cmp:Nat->Nat->(Bool->Shared->Prop)->Shared->Prop}{s:Shared}(hc: ∀i j C,i<n->j<n->C (decide (k i<k j)) s->cmp i j C s){Q:α->Prop}{G:α->Shared->Prop}(hq: ∀a,Q a->G a s): ∀{t:KasT α},Ek n k t Q->t.kasWp cmp G s
 | .ret a,h=>hq a h
 | .ask i j g,h=>hc i j _ h.1.1 h.1.2 (Ek.wp hc hq (t:=g _) h.2)
theorem Ek.yes{k:Nat->Int}{i j:Nat}{f:Bool->KasT α}{Q:α->Prop}(hi:i<n)(hj:j<n)(h:k i<k j)(e:Ek n k (f true) Q):Ek n k (.ask i j f) Q:=⟨⟨hi,hj⟩,by rw[JN h];exact e⟩
theorem Ek.no{k:Nat->Int}{i j:Nat}{f:Bool->KasT α}{Q:α->Prop}(hi:i<n)(hj:j<n)(h: ¬k i<k j)(e:Ek n k (f false) Q):Ek n k (.ask i j f) Q:=⟨⟨hi,hj⟩,by rw[JO h];exact e⟩
def rk(k:Nat->Int)(i:Nat):Int:=k i*64+i
abbrev G0(p:Array Nat)(x:Nat):Nat:=p.getD x 0
def Tl(n m:Nat)(p:Array Nat):Prop:= ∀x,m<=x->x<n->G0 p x=x
theorem Tl.up{m':Nat}{p:Array Nat}(h:Tl n m p)(hm:m<=m'):Tl n m' p:=λx h1 h2=>h x (JE hm h1) h2
theorem Tl.lt{n m:Nat}{p:Array Nat}(ho:Ok n p)(ht:Tl n m p)(hm:m<=n){x:Nat}(hx:x<m):G0 p x<m:=by
 have h1:G0 p x<n:=ho.lt (show x<n by omega);by_cases c:G0 p x<m
 ·exact c
 ·exact absurd (ht (G0 p x) 'o' h1).symm (ho.ne (i:=x) (j:=G0 p x) 'o' h1)
theorem wM{p:Array Nat}(ho:Ok n p){a:Nat}(hm:m<=n)(x:Nat):G0 (kas_rev p a m) x=if a<=x/\x<m then G0 p (a+m - 1 - x) else G0 p x:=by
 have e:=getElem?_mirror_all (xs:=p) (i:=a) (j:=m) (by rw[ho.size];exact hm) x;unfold G0 kas_rev;rw[Array.getD_eq_getD_getElem?,e];by_cases c:a<=x/\x<m
 ·rw[Jg c,Jg c,Array.getD_eq_getD_getElem?]
 ·rw[Jf c,Jf c,Array.getD_eq_getD_getElem?]
theorem uC{p:Array Nat}(ho:Ok n p)(i j:Nat):Ok n (kas_rev p i j):=(mirror_perm p i j _).trans ho
theorem uD{a:Nat}{p:Array Nat}(ho:Ok n p)(hm:m<=n)(ht:Tl n m p):Tl n m (kas_rev p a m):=λx h1 h2=>by
 rw[wM ho hm,Jf 'o'];exact ht x h1 h2
section
variable {n:Nat} {k:Nat->Int} (h64:n<=64)
include h64
theorem asc_{p:Array Nat}(ho:Ok n p): ∀(f m:Nat),m+f=n->1<=m->Tl n m p->Up (rk k) p m->Ek n k (kas_asc p f m) (λx=>1<=x/\m<=x/\x<=n/\Up (rk k) p x/\(x=n\/k (G0 p x)<k (G0 p (x - 1))))
 |0,m,hm,h1,_,hu=>⟨h1,Je _,'o',hu, .inl 'o'⟩
 |f+1,m,hm,h1,ht,hu=>by
  unfold kas_asc;by_cases c:k (G0 p m)<k (G0 p (m - 1))
  ·refine Ek.yes (ho.lt 'o') (ho.lt 'o') c ?_;rw[Jg rfl];exact⟨h1,Je _,'o',hu, .inr c⟩
  ·refine Ek.no (ho.lt 'o') (ho.lt 'o') c ?_;rw[Jf 'd'];have e1:=ht m (Je _) 'o';have e2:=Tl.lt ho ht 'o' (x:=m - 1) 'o';refine(asc_ ho f (m+1) 'o' 'o' (ht.up 'o') (hu.one h1 ?_)).mono λx h=>⟨h.1,'o',h.2.2⟩
   show rk k (G0 p (m - 1))<rk k (G0 p m);unfold rk;omega
structure Fl (n:Nat) (k:Nat->Int) (b m:Nat) (p:Array Nat):Prop where
 ok:Ok n p
 tl:Tl n m p
 mn:m<=n
 bm:b<m
 b0: ∀i j,i<j->j<b->rk k (G0 p j)<rk k (G0 p i)
 b1: ∀i j,i<b->b<=j->j<m->k (G0 p j)<k (G0 p i)
 b2: ∀i j,b<=i->i<j->j<m->k (G0 p i)=k (G0 p j)/\G0 p i<G0 p j
theorem Fl.turn{p:Array Nat}(h:Fl n k b m p):Dn (rk k) (kas_rev p b m) m/\(∀i,i<m->k (G0 p (m - 1))<=k (G0 (kas_rev p b m) i)):=by
 obtain⟨ok,tl,mn,bm,b0,b1,b2⟩:=h;have at1: ∀i,i<b->G0 (kas_rev p b m) i=G0 p i:=λi hi=>by rw[wM ok mn,Jf 'o']
 have at2: ∀i,b<=i->i<m->G0 (kas_rev p b m) i=G0 p (b+m - 1 - i):=λi h1 h2=>by rw[wM ok mn,Jg ⟨h1,h2⟩]
 refine⟨λi j hij hj=> ?_,λi hi=> ?_⟩
 ·show rk k (G0 _ j)<rk k (G0 _ i);by_cases c1:j<b
  ·rw[at1 i 'o',at1 j c1];exact b0 i j hij c1
  ·rw[at2 j 'o' hj];by_cases c2:i<b
   ·rw[at1 i c2];have q:=b1 i (b+m - 1 - j) c2 'o' 'o';have l1:=ok.lt (k:=i) 'o';have l2:=ok.lt (k:=b+m - 1 - j) 'o';unfold rk;unfold G0 at q ⊢;omega
   ·rw[at2 i 'o' 'o'];have q:=b2 (b+m - 1 - j) (b+m - 1 - i) 'o' 'o' 'o';unfold rk;omega
 ·by_cases c:i<b
  ·rw[at1 i c];exact Int.le_of_lt (b1 i (m - 1) c 'o' 'o')
  ·rw[at2 i 'o' hi];by_cases e:b+m - 1 - i=m - 1
   ·rw[e];exact Jz _
   ·exact Int.le_of_eq (b2 (b+m - 1 - i) (m - 1) 'o' 'o' 'o').1.symm
omit h64 in
theorem Fl.flat{p:Array Nat}(h:Fl n k b m p)(hb:b+1=m):kas_rev p b m=p:=by
 have e:(m - b) / 2=0:=by omega
 unfold kas_rev mirror;rw[e];rfl
theorem Fl.less{p:Array Nat}(h:Fl n k b m p)(hm:m<n)(c:k (G0 p m)<k (G0 p (m - 1))):Fl n k m (m+1) (kas_rev p b m):=by
 have t:=h.turn h64;refine⟨uC h.ok _ _,(uD h.ok h.mn h.tl).up 'o','o','o',λi j hij hj=>t.1 i j hij hj,λi j hi h1 h2=> ?_,λi j h1 h2 h3=>by omega⟩;obtain rfl:j=m:=by omega
 have:=t.2 i hi;rw[wM h.ok h.mn j,Jf 'o'];omega
theorem desc_: ∀(f m q:Nat) {p:Array Nat},m+f=n->q+1<=m->Fl n k (m - (q+1)) m p->Ek n k (kas_desc f p m q) (λx=>x.2.2+1<=x.2.1/\Fl n k (x.2.1 - (x.2.2+1)) x.2.1 x.1)
 |0,m,q,p,hm,hq,h=>⟨hq,h⟩
 |f+1,m,q,p,hm,hq,h=>by
  unfold kas_desc;have ho:=h.ok;by_cases c:k (G0 p m)<k (G0 p (m - 1))
  ·refine Ek.yes (ho.lt 'o') (ho.lt 'o') c ?_;rw[Jg rfl];have h':=h.less h64 'o' c;by_cases e:q>0
   ·rw[Jg e];exact desc_ f (m+1) 0 'o' 'o' h'
   ·rw[Jf e];obtain rfl:q=0:=by omega
    rw[h.flat 'o'] at h';exact desc_ f (m+1) 0 'o' 'o' h'
  ·refine Ek.no (ho.lt 'o') (ho.lt 'o') c ?_;rw[Jf 'd'];by_cases d:k (G0 p (m - 1))<k (G0 p m)
   ·refine Ek.yes (ho.lt 'o') (ho.lt 'o') d ?_;rw[Jg rfl];exact⟨hq,h⟩
   ·refine Ek.no (ho.lt 'o') (ho.lt 'o') d ?_;rw[Jf 'd'];refine desc_ f (m+1) (q+1) 'o' 'o' ?_;rw[show m+1 - (q+1+1)=m - (q+1) by omega];have em:=h.tl m (Je _) 'o';refine⟨ho,h.tl.up 'o','o','o',h.b0,λi j hi h1 h2=> ?_,λi j h1 h2 h3=> ?_⟩
    ·by_cases z:j=m
     ·subst z
      have:=h.b1 i (j - 1) hi 'o' 'o';omega
     ·exact h.b1 i j hi h1 'o'
    ·by_cases z:j=m
     ·subst z;have lt:=Tl.lt ho h.tl h.mn (x:=i) 'o';refine⟨?_,'o'⟩;by_cases y:i=j - 1
      ·subst y;omega
      ·have:=(h.b2 i (j - 1) h1 'o' 'o').1;omega
     ·exact h.b2 i j h1 h2 'o'
theorem tail_{p:Array Nat}(ho:Ok n p)(h1:1<=m)(hm:m<=n)(ht:Tl n m p)(hd:Dn (rk k) p m):Ek n k (kas_tail3 m n p) (λx=>1<=x.1/\x.1<=n/\Ok n x.2/\Tl n x.1 x.2/\Up (rk k) x.2 x.1):=by
 unfold kas_tail3;refine Ek.bind ((asc_ h64 (uC ho 0 m) (n - m) m 'o' h1 (uD ho hm ht) λi j hij hj=> ?_).mono λx h=>⟨h.1,h.2.2.1,uC ho 0 m,(uD ho hm ht).up h.2.1,h.2.2.2.1⟩);show rk k (G0 _ i)<rk k (G0 _ j);rw[wM ho hm,wM ho hm,Jg 'o',Jg 'o'];exact hd _ _ 'o' 'o'
theorem zk2{p:Array Nat}(hm:m+1<=n)(h:Fl n k m (m+1) p):Ek n k (kas_descPart m n p) (λx=>1<=x.1/\x.1<=n/\Ok n x.2/\Tl n x.1 x.2/\Up (rk k) x.2 x.1):=by
 unfold kas_descPart;refine Ek.bind ((desc_ h64 (n - (m+1)) (m+1) 0 'o' 'o' h).mono λy hy=> ?_);obtain⟨y1,y2,y3⟩:=y;obtain⟨b1,b2⟩:=hy;dsimp only at b1 b2 ⊢;have t:=b2.turn h64;by_cases e:y3>0
 ·rw[Jg e];exact tail_ h64 (uC b2.ok _ _) 'o' b2.mn (uD b2.ok b2.mn b2.tl) t.1
 ·rw[Jf e];obtain rfl:y3=0:=by omega
  rw[b2.flat 'o'] at t;exact tail_ h64 b2.ok 'o' b2.mn b2.tl t.1
theorem count_{p:Array Nat}(ho:Ok n p)(h1:1<=n)(ht:Tl n 0 p):Ek n k (kas_count n p) (λx=>1<=x.1/\x.1<=n/\Ok n x.2/\Tl n x.1 x.2/\Up (rk k) x.2 x.1):=by
 unfold kas_count;refine Ek.bind ((asc_ h64 ho (n - 1) 1 'o' (Je _) (ht.up 'o') λi j hij hj=>by omega).mono λx h=> ?_);obtain⟨a1,_,a2,hu,hx⟩:=h;by_cases e:x=n
 ·rw[Jg (by simp [e])];exact⟨a1,a2,ho,ht.up 'o',hu⟩
 rw[Jf (by simp [e])];have c:=hx.resolve_left e;by_cases e1:x>1
 ·rw[Jg e1];by_cases d:k (G0 p 0)<k (G0 p (x - 1))
  ·refine Ek.yes (ho.lt 'o') (ho.lt 'o') d ?_;rw[Jg rfl];exact⟨a1,a2,ho,ht.up 'o',hu⟩
  ·refine Ek.no (ho.lt 'o') (ho.lt 'o') d ?_;rw[Jf 'd'];have up: ∀i j,i<=j->j<x->k (G0 p i)<=k (G0 p j):=λi j hij hj=>by
    by_cases z:i=j
    ·rw[z];exact Jz _
    ·have q:rk k (G0 p i)<rk k (G0 p j):=hu i j 'o' hj;have l1:=ho.lt (k:=i) 'o';have l2:=ho.lt (k:=j) 'o';unfold rk at q;unfold G0 at q ⊢;omega
   have eqk: ∀i,i<x->k (G0 p i)=k (G0 p (x - 1)):=λi hi=>by
    have q1:=up 0 i 'o' hi;have q2:=up i (x - 1) 'o' 'o';omega
   refine zk2 h64 'o' ⟨uC ho _ _,(uD ho 'o' (ht.up 'o')).up 'o','o','o',λi j hij hj=> ?_,λi j hi h1 h2=> ?_,λi j h1 h2 h3=>by omega⟩
   ·rw[wM ho 'o',wM ho 'o',Jg 'o',Jg 'o'];exact hu _ _ 'o' 'o'
   ·obtain rfl:j=x:=by omega
    rw[wM ho 'o' j,wM ho 'o' i,Jf 'o',Jg 'o',eqk (0+j - 1 - i) 'o'];exact c
 rw[Jf e1];obtain rfl:x=1:=by omega
 refine zk2 h64 'o' ⟨ho,ht.up 'o','o','o',λi j hij hj=>by omega,λi j hi h1 h2=> ?_,λi j h1 h2 h3=>by omega⟩;obtain rfl:j=1:=by omega
 obtain rfl:i=0:=by omega
 exact c
theorem place_{p:Array Nat}(ho:Ok n p){m:Nat}(hm:m<n)(ht:Tl n m p)(hu:Up (rk k) p m): ∀(f a b:Nat),b - a<=f->a<=b->b<=m->(∀i,i<a->fv (rk k) p i<fv (rk k) p m)->(∀i,b<=i->i<m->fv (rk k) p m<fv (rk k) p i)->Ek n k (kas_place p m f a b) (λl=>l<=m/\(∀i,i<l->fv (rk k) p i<fv (rk k) p m)/\ ∀i,l<=i->i<m->fv (rk k) p m<fv (rk k) p i)
 |0,a,b,hf,ab,bk,h1,h2=>by
  obtain rfl:a=b:=by omega
  exact⟨bk,h1,h2⟩
 |f+1,a,b,hf,ab,bk,h1,h2=>by
  unfold kas_place;by_cases e:a≥b
  ·rw[Jg e];obtain rfl:a=b:=by omega
   exact⟨bk,h1,h2⟩
  rw[Jf e];have em:=ht m (Je _) hm;have lt:=Tl.lt ho ht 'o' (x:=(a+b) / 2) 'o';by_cases c:k (G0 p m)<k (G0 p ((a+b) / 2))
  ·refine Ek.yes (ho.lt hm) (ho.lt 'o') c ?_;rw[Jg rfl];have c':fv (rk k) p m<fv (rk k) p ((a+b) / 2):=by
    show rk k (G0 p m)<rk k (G0 p ((a+b) / 2));unfold rk;omega
   refine place_ ho hm ht hu f a ((a+b) / 2) 'o' 'o' 'o' h1 λi hi ik=> ?_;by_cases z:i=(a+b) / 2
   ·rw[z];exact c'
   ·exact Int.lt_trans c' (hu _ _ 'o' ik)
  ·refine Ek.no (ho.lt hm) (ho.lt 'o') c ?_;rw[Jf 'd'];have c':fv (rk k) p ((a+b) / 2)<fv (rk k) p m:=by
    show rk k (G0 p ((a+b) / 2))<rk k (G0 p m);unfold rk;omega
   refine place_ ho hm ht hu f ((a+b) / 2+1) b 'o' 'o' bk (λi hi=> ?_) h2;by_cases z:i=(a+b) / 2
   ·rw[z];exact c'
   ·exact Int.lt_trans (hu i ((a+b) / 2) 'o' 'o') c'
theorem bin_: ∀(f m:Nat) {p:Array Nat},Ok n p->m+f=n->Tl n m p->Up (rk k) p m->Ek n k (kas_bin f p m) (λq=>Ok n q/\Up (rk k) q n)
 |0,m,p,ho,hk,_,hu=>⟨ho,by
  obtain rfl:m=n:=by omega
  exact hu⟩
 |f+1,m,p,ho,hk,ht,hu=>by
  unfold kas_bin;refine Ek.bind ((place_ h64 ho 'o' ht hu m 0 m 'o' 'o' (Je _) (λi hi=>by omega) λi h1 h2=>by omega).mono λl h=> ?_);obtain⟨lk,h1,h2⟩:=h;have ho':Ok n (bubble p m (m - l)):=(bubble_perm p m _).trans ho;have gt: ∀x,G0 (bubble p m (m - l)) x=if x=l then G0 p m else if l<x/\x<=m then G0 p (x - 1) else G0 p x:=λx=>by
   have e:=getElem?_bubble (xs:=p) (src:=m) (by rw[ho.size];omega) (m - l) 'o' x;rw[show m - (m - l)=l by omega] at e;unfold G0;rw[Array.getD_eq_getD_getElem?,e];by_cases z1:x=l
   ·rw[Jg z1,Jg z1,Array.getD_eq_getD_getElem?]
   ·rw[Jf z1,Jf z1];by_cases z2:l<x/\x<=m
    ·rw[Jg z2,Jg z2,Array.getD_eq_getD_getElem?]
    ·rw[Jf z2,Jf z2,Array.getD_eq_getD_getElem?]
  refine bin_ f (m+1) ho' 'o' (λx a1 a2=> ?_) λi j hij hj=> ?_
  ·rw[gt,Jf 'o',Jf 'o'];exact ht x 'o' a2
  show rk k (G0 _ i)<rk k (G0 _ j);rw[gt,gt];by_cases z1:i=l
  ·rw[Jg z1,Jf 'o',Jg 'o'];exact h2 _ 'o' 'o'
  ·rw[Jf z1];by_cases z2:l<i
   ·rw[Jg 'o',Jf 'o',Jg 'o'];exact hu _ _ 'o' 'o'
   ·rw[Jf 'o'];by_cases z3:j=l
    ·rw[Jg z3];exact h1 i 'o'
    ·rw[Jf z3];by_cases z4:l<j
     ·rw[Jg 'o'];exact hu _ _ 'o' 'o'
     ·rw[Jf 'o'];exact hu _ _ hij 'o'
theorem sort_(h1:1<=n):Ek n k (kas_sort n) (λp=>Ok n p/\Up (rk k) p n):=by
 unfold kas_sort;refine Ek.bind ((count_ h64 (Array.Perm.refl _) h1 λx _ hx=>by simp [G0,Array.getD,hx]).mono λx h=> ?_);obtain⟨a1,a2,ho,ht,hu⟩:=h;by_cases e:x.1<n
 ·rw[Jg e,Nat.max_eq_left a1];exact bin_ h64 (n - x.1) x.1 ho 'o' ht hu
 ·rw[Jf e];obtain e2:x.1=n:=by omega
  rw[e2] at hu;exact⟨ho,hu⟩
end
end L2.Sk
namespace L2
open PySem PySem.Spec PyProof.Rows
variable{P:Program}{w:World}{K:Fg}{mg:Str->Option Value}{f c' c:Addr}{qual x:Str}{params:Arguments}{body:Expr}{scope:Scope}{N:List Str}{H:Hp}{us:List Value}{te:TE}{h:Heap}{t':Nat}
abbrev uE(qual:Str)(params:Arguments)(body:Expr)(scope:Scope)(pm:Value)(c':Addr)(ctv:Value):Obj:=PySem.W.kla_obj "<lambda>" qual params body scope [] pm c' ctv
theorem zkz{CX:CXT}{P:Program}{w:World}{K:Fg}{mg:Str->Option Value}{base:Heap}{k:Nat}{f c':Addr}{qual:Str}{params:Arguments}{body:Expr}{scope:Scope}{pm ctv:Value}{N ps:List Str}{A:Around}{outer:List Env}{s:Shared}{H:Hp}{vs:List V}{us:List Value}{Q:VK}{E:XK}{te:TE}
  (hr:Room (k+1) A) (e0:Env0 P w K mg base A outer s H) (ho:s.heap.get? f=some (uE qual params body scope pm c' ctv)) (hcd:s.heap.CodeRec (.ref c') qual) (S:FnScope N ps scope) (hl:vs.length=ps.length)
  (hbind:bindArgs (PySem.W.kla_fn "<lambda>" qual params body scope [] pm (.ref c') ctv) ⟨us, []⟩=pure (ps.zip us)) (r:zB vs us)
  (hb:PE (xp CX P w K mg base N qual scope f (.ref c') A outer s H E) body te) (q:te (start N vs) H Q):
  codeAny (model P w) A (.call (.ref f) ⟨us, []⟩) (CR CX outer P w H s Q E) s:=by
 have lim:s.heap.NoLimit:=e0.mod.nolimit.keeps λb o e=>(e0.bs b o e).1;have hkind: ∀y∈ps.zip us,scope.names.lookup y.1=some .local\/(scope.names.lookup y.1=some .cell/\((cellsFrom (s.heap.objs.size+1) scope.names []).lookup y.1).isSome=true):=λ⟨n,v⟩ hy=>by
  rcases S.par n (List.of_mem_zip hy).1 with q|q
  ·exact .inl q
  ·exact .inr ⟨q,PySem.W.cellsFrom_some _ _ _ (.inl q)⟩
 refine PySem.W.kla_callFunE hr.depth ho rfl S.co S.gen rfl hcd ?_;rw[hbind];refine JW (wpAny_newFunctionEnv_cells S.kind hkind λenv he s1 x=> ?_);subst he;refine⟨lim.keeps x.toInCall.keep,PySem.W.kla_codeExpr ?_⟩;have I:Inv (xp CX P w K mg base N qual scope f (.ref c') A outer s H E) [] (start N vs) H s1:=zfP S hr.hd e0 hl r x;refine wpAny_mono (hb [] s1 (start N vs) H _ I q) (λu s' hs=> ?_) λe s' hs=>hs;obtain⟨v,H',J,rv,q'⟩:=hs;exact⟨v,H',J.os,J.bare,J.base,J.hok,rv,q'⟩
def vF(f:Addr)(qual:Str)(params:Arguments)(body:Expr)(scope:Scope)(c':Addr):HO:= .ext λh=> ∃pm ctv,h.get? f=some (uE qual params body scope pm c' ctv)
def vi(c':Addr)(qual:Str):HO:= .ext λh=>h.CodeRec (.ref c') qual
def vj(H:Hp)(P:Addr)(pos:Pos)(qual:Str):Prop:= ∃ps,H P=some (.tbl ps)/\TriplesOk ps.toList/\(codeAmong pos ps.toList=none\/ ∃c',codeAmong pos ps.toList=some (.ref c')/\H c'=some (vi c' qual))
def vX(P:Addr)(H H':Hp):Prop:= ∀b o,b≠P->H b=some o->H' b=some o
theorem zj.grew{P:Addr}{H':Hp}(s:zj H H'):vX P H H':=λb o _ h=>s b o h
def BM(mg:Str->Option Value)(base:Heap):Prop:= ∃bm ob,mg "__builtins__"=some (.ref bm)/\bm≠builtinsNs/\base.get? bm=some ob/\ob.cls= .type "module"/\ob.dict=some builtinsNs/\ob.data= .plain
theorem zh3{pm ctv:Value}(e:h.get? f=some (uE qual params body scope pm c' ctv)):ye P w H h f (vF f qual params body scope c'):=
 ⟨⟨pm,ctv,e⟩,⟨_,e⟩,λh1 h2 ⟨p,c,q⟩ k=>⟨p,c,k _ q⟩⟩
theorem zkA(e:h.CodeRec (.ref c') qual):ye P w H h c' (vi c' qual):=by
 refine⟨e,?_,λh1 h2 q k=> ?_⟩
 ·obtain⟨c,oc,vs,tq,e1,e2,_⟩:=e;cases e1;exact⟨oc,e2⟩
 ·obtain⟨c,oc,vs,tq,e1,e2,e3⟩:=q;cases e1;exact⟨_,oc,vs,tq,rfl,k _ e2,e3⟩
section
variable {X:Cx} {pins:List (Addr×Obj)} {σ:St} {H:Hp} {s:Shared}
theorem Inv.tabbed{P:Addr}{ps more:Array Value}{h':Heap}{t':Nat}(I:Inv X pins σ H s)(hP:H P=some (.tbl ps))(hx:Heap.ExtBut P s.heap h')(hc:s.heap.objs.size<=c')(hr:h'.CodeRec (.ref c') qual)(ht:h'.get? P=some (PySem.W.tabObj (ps++more))):
  Inv X pins σ (upd (upd H P (.tbl (ps++more))) c' (vi c' qual)) {s with heap:=h',toks:=t'}:=by
 have hn:H c'=none:=I.hok.fresh hc;have cP:c'≠P:=λz=>by rw[z,hP] at hn;cases hn
 have at_: ∀b,b≠P->b≠c'->upd (upd H P (.tbl (ps++more))) c' (vi c' qual) b=H b:=λb h1 h2=>by rw[zI h2,zI h1]
 have nP: ∀b o,H b=some o->(∀q,o≠ .tbl q)->b≠P:=λb o e n z=>by
  rw[z,hP] at e;exact n _ (JU e).symm
 have nC: ∀b o,H b=some o->b≠c':=λb o e z=>by rw[z,hn] at e;cases e
 refine I.un ⟨λb o e n _ _=>hx b o (λz=>by rw[z,hP] at n;cases n) e,λb o e n _ _=>⟨o.slots,hx b o (λz=>by rw[z,hP] at n;cases n) e⟩,λb o e n _=> ?_,λb o e _=> ?_,λb xs e=> ?_,λb o u e=> ?_,λb q e=> ?_⟩ (λb o e=> ?_)
 ·rw[at_ b (λz=>by rw[z,hP] at n;cases n) (JJ (Jy (JY e) hc))];exact n
 ·by_cases z:b=P
  ·rw[z];exact⟨_,ht⟩
  ·exact⟨o,hx b o z e⟩
 ·rw[at_ b (nP b _ e λq=>by intro z;cases z) (nC b _ e)];exact e
 ·rw[at_ b (nP b _ e λq=>by intro z;cases z) (nC b _ e)];exact e
 ·by_cases z:b=P
  ·subst z;rw[hP] at e;cases e;exact⟨more,by rw[zI (Ne.symm cP),yg]⟩
  ·exact⟨#[],by rw[at_ b z (nC b _ e),e];simp⟩
 ·by_cases z:b=c'
  ·subst z;rw[yg] at e;cases e;exact zkA hr
  ·by_cases y:b=P
   ·subst y;rw[zI z,yg] at e;cases e;exact ht
   ·rw[at_ b y z] at e;refine(I.hok b o e).stay (λc v hc' q=>hx c v ?_ q) (λc q=> ?_) λc xs q=> ?_
    ·rcases hc' with rfl|hc'
     ·exact y
     ·exact nP c _ hc' λq=>by intro z;cases z
    ·rw[at_ c (nP c _ q λq=>by intro z;cases z) (nC c _ q)];exact q
    ·rw[at_ c (nP c _ q λq=>by intro z;cases z) (nC c _ q)];exact q
def zmJ(P:Addr)(pos:Pos)(qual:Str)(params:Arguments)(body:Expr)(scope:Scope):TE:=λ_ H Q=>vj H P pos qual/\ ∀f c' H',vX P H H'->vj H' P pos qual->H f=none->H' f=some (vF f qual params body scope c')->H' c'=some (vi c' qual)->Q (.ref f) H'
theorem zlB{body:Expr}{scope:Scope}{pos:Pos}{P:Addr}(hcode:X.env.code= .ref c)(hB:BM X.mg X.base)(C: ∀h:Heap,X.K.In h->PySem.W.CodeHd h c P)(hdef:defaultsOf params X.env=([], []):=by rfl)(hcl:closureFor scope X.env=pure []:=by rfl):
  PE X (.Lambda params body scope pos) (zmJ P pos (X.env.qual++"<lambda>") params body scope):=by
 intro pins s σ H Q I h;obtain⟨⟨ps,hP,tr,am⟩,q⟩:=h;have hPs:s.heap.get? P=some (PySem.W.tabObj ps):=I.hok P _ hP;have hns:=I.mod.glob.keeps I.bk;obtain⟨bm,ob,b1,b2,b3,b4,b5,b6⟩:=hB;have b3':=I.bk _ _ b3;have hgP:mainGlobals≠P:=λz=>by
  obtain⟨o,es,ep,e,hd,_⟩:=hns;rw[z,hPs] at e;cases e;cases hd
 have hbP:bm≠P:=λz=>by rw[z,hPs] at b3';cases b3';cases b4
 have hbG:bm≠mainGlobals:=λz=>by
  obtain⟨o,es,ep,e,hd,_⟩:=hns;rw[z,e] at b3';cases b3';rw[hd] at b6;cases b6
 have hb:s.heap.BuiltinsAt X.mg P:=⟨bm,ob,b1,b2,hbG,hbP,b3',b4,b5,b6⟩
 refine PySem.W.kla_eval hdef ?_;rcases am with hn|⟨c',hh,hc'⟩
 ·refine PySem.W.kla_makeFunction hcl I.ok.glob hns hcode (C _ I.kIn) hPs tr hn hgP hb λc' ctv h' tk hx hge hlt hrec htb=> ?_;have J:=I.tabbed (t':=tk) hP hx hge hrec htb;have hf:upd (upd H P (.tbl (ps++ #[rawInt pos.line,rawInt pos.col, .ref c']))) c' (vi c' (X.env.qual++"<lambda>")) h'.objs.size=none:=J.hok.fresh (Je _);have hn':H c'=none:=I.hok.fresh hge;have cP:c'≠P:=λz=>by rw[z,hP] at hn';cases hn'
  have J2:=J.laid (t':=tk) (a:=h'.objs.size) (o:=vF h'.objs.size (X.env.qual++"<lambda>") params body scope c') (h':=h'.push (uE (X.env.qual++"<lambda>") params body scope ((X.mg "__name__").getD .none) c' ctv)) (λb u e=>JX _ e) (Je _) (zh3 (JZ _ rfl));have fc:h'.objs.size≠c':=Nat.ne_of_gt hlt;have fP:h'.objs.size≠P:=Nat.ne_of_gt (JY htb);refine⟨.ref h'.objs.size,_,J2,rfl,q _ c' _ (λb o n e=> ?_) ⟨ps++ #[rawInt pos.line,rawInt pos.col, .ref c'],?_,?_, .inr ⟨c',?_,?_⟩⟩ ?_ yg ?_⟩
  ·have n1:b≠c':=λz=>by rw[z,hn'] at e;cases e
   have n2:b≠h'.objs.size:=λz=>by
    rw[z,I.hok.fresh (JE hge (Nat.le_of_lt hlt))] at e;cases e
   rw[zI n2,zI n1,zI n];exact e
  ·rw[zI (Ne.symm fP),zI (Ne.symm cP),yg]
  ·rw[Array.toList_append];exact TriplesOk_snoc _ _ _ _ tr
  ·rw[Array.toList_append];exact codeAmong_snoc _ tr hn
  ·rw[zI (Ne.symm fc),yg]
  ·exact I.hok.fresh (JE hge (Nat.le_of_lt hlt))
  ·rw[zI (Ne.symm fc),yg]
 ·refine PySem.W.kla_makeFunctionHit hcl I.ok.glob hns hcode (C _ I.kIn) hPs tr hh hb λctv h' tk hk hsz=> ?_;have J:=I.kept (t':=tk) hk;have hf:H h'.objs.size=none:=J.hok.fresh (Je _);have J2:=J.laid (t':=tk) (a:=h'.objs.size) (o:=vF h'.objs.size (X.env.qual++"<lambda>") params body scope c') (h':=h'.push (uE (X.env.qual++"<lambda>") params body scope ((X.mg "__name__").getD .none) c' ctv)) (λb u e=>JX _ e) (Je _) (zh3 (JZ _ rfl));have sm:=wS hf (vF h'.objs.size (X.env.qual++"<lambda>") params body scope c');exact⟨.ref h'.objs.size,_,J2,rfl,q _ c' _ sm.grew ⟨ps,sm _ _ hP,tr, .inr ⟨c',hh,sm _ _ hc'⟩⟩ hf yg (sm _ _ hc')⟩
end
structure Fsh (X:Cx) (pins:List (Addr×Obj)) (H:Hp) (a:Addr):Prop where
 s0:X.s₀.heap.objs.size<=a
 ne:a≠X.env.locals
 cl: ∀x c,X.env.cells.lookup x=some c->c≠a
 pi: ∀p∈X.pn++pins,p.1≠a
 fs:a∉frs X.stack
 hn:H a=none
section
variable {X:Cx} {pins:List (Addr×Obj)} {σ:St} {H:Hp} {s:Shared}
theorem Inv.fsh(I:Inv X pins σ H s){a:Addr}(h:s.heap.objs.size<=a):Fsh X pins H a:=by
 refine⟨JE I.sz h,Nat.ne_of_gt (Jy I.lt h),λx c e z=> ?_,λp hp z=> ?_,λhb=> ?_,I.hok.fresh h⟩
 ·obtain⟨v,o,ho,_⟩:=I.cell x c e;exact absurd (JY ho) (Nat.not_lt.mpr (z ▸ h))
 ·exact absurd (JY (I.pin p hp).1) (Nat.not_lt.mpr (z ▸ h))
 ·rcases JD.mp (I.stkSub a hb) with e|hb
  ·exact absurd I.lt (Nat.not_lt.mpr (e ▸ h))
  ·exact I.nofs h hb
theorem Inv.own{it:Addr}{h':Heap}{t':Nat}(I:Inv X pins σ H s)(F:Fsh X pins H it)(hs:Heap.SameBut it s.heap h'):Inv X pins σ H {s with heap:=h',toks:=t'}:=
 I.turned (λb o n e=>(hs.2 b n).trans e) F.hn F.ne (.inr F.s0) F.cl F.pi
theorem Inv.adopt{a:Addr}{o:HO}{t':Nat}(I:Inv X pins σ H s)(F:Fsh X pins H a)(new:ye X.prog X.w (upd H a o) s.heap a o):Inv X pins σ (upd H a o) {s with toks:=t'}:=by
 have ne: ∀b u,H b=some u->b≠a:=λb u e z=>by rw[z,F.hn] at e;cases e
 refine I.step (h':=s.heap) (g':=s.gens) (d':=s.drawn) (ch:= [a]) (λb hb=> ?_) (λb o _ _ _ e _=>e) (λb o _ _ _ e _=>⟨o.slots,e⟩) (λb o hb _ n=> ?_) (λb o _ e=>⟨o,e⟩) (λb xs e=> ?_) (λb u xs e=> ?_) (λb ps e=>⟨#[],?_⟩) (λm h=>h) (λb u e=> ?_) I.bare
 ·obtain rfl:b=a:=by simpa using hb
  exact⟨.inr F.s0,F.ne,F.cl,F.pi⟩
 ·rw[zI (λz=>hb (by simp [z]))];exact n
 ·rw[zI (ne b _ e)];exact e
 ·rw[zI (ne b _ e)];exact e
 ·rw[zI (ne b _ e),e];simp
 ·by_cases z:b=a
  ·subst z;rw[yg] at e;cases e;exact new
  ·rw[zI z] at e;exact(I.hok b u e).stay (λ_ _ _ q=>q) (λc q=>by rw[zI (ne c _ q)];exact q) λc xs q=>by rw[zI (ne c _ q)];exact q
theorem zgV{xs:List V}(r:zB xs us){j:Nat}{u:Value}(e:us[j]? =some u): ∃x,xs[j]? =some x/\zF x u:=by
 induction r generalizing j with
 |nil=>cases e
 |cons h t ih=>
  cases j with
  |zero=>
   cases e;exact⟨_,rfl,h⟩
  |succ j=>exact ih e
theorem zf0{xs:List V}{us:List Value}(r:zB xs us): ∀ix:List Nat,(∀i∈ix,i<xs.length)->zB (ix.map λi=>xs.getD i .non) (ix.map λi=>us.getD i Value.none)
 | [],_=> .nil
 |i::ix,h=>by
  refine .cons ?_ (zf0 r ix λj hj=>h j (Jl _ hj));have hi:=h i (Jq ..);have hu:i<us.length:=by rw[<-r.length];exact hi
  obtain⟨x,e1,e2⟩:=zgV r (Jb hu);dsimp only;rw[Jo,e1,Jo,Jb hu];exact e2
theorem zf1{ks:List Value}{zs:List Int}(h:IntsAre ks zs){i:Nat}(hi:i<zs.length): ∃t,ks.getD i Value.none= .int (zs.getD i 0) t:=by
 obtain⟨t,e⟩:=h.get i _ (Jb hi);exact⟨t,by rw[Jo,e,Jo,Jb hi];rfl⟩
def jw(kz:List Int)(ix:List Nat):Prop:=ix.Perm (List.range kz.length)/\ix.Pairwise λi j=>kz.getD i 0<kz.getD j 0\/kz.getD i 0=kz.getD j 0/\i<j
theorem zgp{k:Nat}{qual:Str}{params:Arguments}{body:Expr}{te:TE}(hr:Room (k+3) X.A)(S:FnScope N [x] scope)
  (hbind: ∀pm c' ctv u,bindArgs (PySem.W.kla_fn "<lambda>" qual params body scope [] pm (.ref c') ctv) ⟨[u], []⟩=pure [(x,u)])
  (hb: ∀f c' A outer s H,PE (xp CX0 X.prog X.w X.K X.mg X.base N qual scope f (.ref c') A outer s H E0) body te) {us kws:List Value} {xs ws:List V} {Q:VK}
  (I:Inv X pins σ H s) (r:zB xs us) (rk:zB ws kws)
  (h: ∃(p f c':Addr) (vs:List V) (kz:List Int),xs= [.ref p]/\ws= [.ref f]/\H p=some (.lst vs)/\H f=some (vF f qual params body scope c')/\H c'=some (vi c' qual)/\kz.length=vs.length/\vs.length<64/\
   (∀(i:Nat) (v:V) (z:Int),vs[i]? =some v->kz[i]? =some z->te (start N [v]) H (λy H'=>y= .int z/\H'=H))/\ ∀ix,jw kz ix->New H (.lst (ix.map λi=>vs.getD i .non)) Q):
  wpAny (model X.prog X.w) X.A (call (.builtin "sorted") us [(Str.ofString "key",kws.getD 0 .none)]) (EP X pins σ Q) X.xe s:=by
 obtain⟨p,f,c',vs,kz,rfl,rfl,hp,hf,hc,hkz,h64,hte,q⟩:=h;obtain⟨u,rfl,ru⟩:=xR r;obtain rfl:u=Value.ref p:=ru;obtain⟨u,rfl,ru⟩:=xR rk;obtain rfl:u=Value.ref f:=ru;obtain⟨hln,its,n,rv,pl⟩:=I.hok _ _ hp;have hil:its.length=vs.length:=by rw[<-rv.length]
 have hl:s.heap.IsList p its.toArray:=⟨_,pl,rfl,_,rfl⟩
 show wpAny _ _ (call (.builtin "sorted") [.ref p] [(Str.ofString "key", .ref f)]) _ _ _;refine call_function_entry_kw kind_sorted plain_sorted entry_sorted (ksk_s1 _ _) ?_;unfold Builtin.«sorted»;refine JV (m:=checkCount "sorted" 1 1 _) (JW ?_);refine JV (collect_list hl ?_ (by rw[sizeLine_eq];omega));refine JV (wpAny_newList ?_ (by rw[sizeLine_eq];omega));have hsz:((s.heap.push (seqObj "list" #[] 0)).update s.heap.objs.size (Obj.mapSeq (· ++its.toArray))).objs.size=s.heap.objs.size+1:=by
  rw[Heap.size_update,size_push']
 have hoL:(((s.heap.push (seqObj "list" #[] 0)).update s.heap.objs.size (Obj.mapSeq (· ++its.toArray))).push (seqObj "list" its.toArray 0)).get? (s.heap.objs.size+1)=some (seqObj "list" its.toArray 0):=by
  rw[<-hsz];exact JZ _ rfl
 have keep: ∀b o,s.heap.get? b=some o->(((s.heap.push (seqObj "list" #[] 0)).update s.heap.objs.size (Obj.mapSeq (· ++its.toArray))).push (seqObj "list" its.toArray 0)).get? b=some o:=λb o e=>by
  have hlt:b<s.heap.objs.size:=JY e;refine JX _ ?_;rw[Heap.get?_update_ne _ _ _ _ (JJ hlt)];exact JX _ e
 show wpAny _ _ _ _ _ {s with heap:=((s.heap.push (seqObj "list" #[] 0)).update s.heap.objs.size (Obj.mapSeq (· ++its.toArray))).push (seqObj "list" its.toArray 0)};rw[hsz];have Fa:Fsh X pins H (s.heap.objs.size+1):=I.fsh (Nat.le_succ _);have hsz2:(((s.heap.push (seqObj "list" #[] 0)).update s.heap.objs.size (Obj.mapSeq (· ++its.toArray))).push (seqObj "list" its.toArray 0)).objs.size=s.heap.objs.size+2:=by rw[size_push',hsz]
 generalize hh1:((s.heap.push (seqObj "list" #[] 0)).update s.heap.objs.size (Obj.mapSeq (· ++its.toArray))).push (seqObj "list" its.toArray 0)=h1 at hoL keep hsz2;have I1:Inv X pins σ H {s with heap:=h1}:=I.kept (t':=s.toks) keep;obtain⟨a,ha⟩: ∃a,a=s.heap.objs.size+1:=⟨_,rfl⟩
 rw[<-ha] at hoL Fa ⊢;refine JV (wpAny_holding (wpAny_call_entry_kw slot_list_sort ⟨_,hoL,rfl⟩ entry_list_sort ?body (ksk_l1 _ _)));show wpAny (model X.prog X.w) X.A.in1.in1 (Builtin.«list.sort» ⟨[.ref a], [(Str.ofString "key", .ref f)]⟩) _ _ _;rw[ksk_t1];unfold ksk_tree;refine JV (listItems_at hoL rfl ?_);refine JV (listUpdate_at hoL rfl ?_ (by rw[Jn,sizeLine_eq];omega) (Jv _));obtain⟨e1,ho1⟩: ∃e1,(h1.update a (Obj.mapSeq λ_=>(#[]:Array Value))).get? a=some (seqObj "list" #[] e1):=⟨_,get?_update_seq hoL λ_=> #[]⟩
 have I2:Inv X pins σ H {s with heap:=h1.update a (Obj.mapSeq λ_=>(#[]:Array Value))}:=I1.own (t':=s.toks) Fa (Heap.SameBut.update h1 a _);refine JV (seqEpoch_at ho1 rfl ?_);refine JV (wpAny_newTuple ?_ (by show its.length<=_;rw[sizeLine_eq];omega));refine JV (wpAny_newList ?_ (Jv _));refine wpAny_holding ?_;have hsz3:(h1.update a (Obj.mapSeq λ_=>(#[]:Array Value))).objs.size=s.heap.objs.size+2:=by rw[Heap.size_update,hsz2]
 show wpAny _ _ _ _ _ {s with heap:=((h1.update a (Obj.mapSeq λ_=>(#[]:Array Value))).push (seqObj "tuple" its.toArray 0)).push (seqObj "list" #[] 0)};have I3:Inv X pins σ H {s with heap:=((h1.update a (Obj.mapSeq λ_=>(#[]:Array Value))).push (seqObj "tuple" its.toArray 0)).push (seqObj "list" #[] 0)}:=I2.kept (t':=s.toks) λb o e=>JX _ (JX _ e);have ho3:(((h1.update a (Obj.mapSeq λ_=>(#[]:Array Value))).push (seqObj "tuple" its.toArray 0)).push (seqObj "list" #[] 0)).get? a=some (seqObj "list" #[] e1):=JX _ (JX _ ho1);have hk3:(((h1.update a (Obj.mapSeq λ_=>(#[]:Array Value))).push (seqObj "tuple" its.toArray 0)).push (seqObj "list" #[] 0)).get? ((h1.update a (Obj.mapSeq λ_=>(#[]:Array Value))).push (seqObj "tuple" its.toArray 0)).objs.size=some (seqObj "list" #[] 0):=JZ _ rfl;have hkS:((h1.update a (Obj.mapSeq λ_=>(#[]:Array Value))).push (seqObj "tuple" its.toArray 0)).objs.size=s.heap.objs.size+3:=by rw[size_push',hsz3]
 generalize ((h1.update a (Obj.mapSeq λ_=>(#[]:Array Value))).push (seqObj "tuple" its.toArray 0)).push (seqObj "list" #[] 0)=h3 at I3 ho3 hk3 ⊢;rw[hkS] at hk3 ⊢;have Fk:Fsh X pins H (s.heap.objs.size+3):=I.fsh 'o';have kna:s.heap.objs.size+3≠a:=by omega
 generalize s.heap.objs.size+3=kS at hk3 Fk kna ⊢;clear hsz3 hsz2 hh1 I1 I2 ho1 hoL keep ha;unfold ksk_rest;refine JV (wpAny_rule ?_);first
  |rw[List.forIn_toArray]
  |(rw[<-Array.forIn_toList];simp only[List.toList_toArray])
  |rw[<-Array.forIn_toList]
 refine JV (ksk_fold (λi s'=> ∃kA e,Inv X pins σ H s'/\s'.heap.get? kS=some (seqObj "list" kA e)/\s'.heap.get? a=some (seqObj "list" #[] e1)/\IntsAre kA.toList (kz.take i)) its 0 _ ⟨#[],0,I3,hk3,ho3,by simpa using IntsAre.nil⟩ ?step ?done)
 case step=>
  rintro j y s' hy ⟨kA,e,J,hk,ho,hi⟩;simp only[Nat.zero_add] at hi ⊢;have hj:j<its.length:=(Jc.mp hy).1;obtain⟨v,hv,rvy⟩:=zgV rv hy;obtain⟨z,hz⟩: ∃z,kz[j]? =some z:=⟨_,Jb 'o'⟩
  have hsz4:kA.size<=its.length:=by
   have h1:=hi.length;rw[Jx,JB] at h1;omega
  obtain⟨⟨pm,ctv,hfo⟩,_⟩:=J.hok _ _ hf;obtain⟨hcd,_⟩:=J.hok _ _ hc;have run:=zkz (CX:=CX0) (E:=E0) (N:=N) (ps:= [x]) (us:= [y]) (vs:= [v]) (te:=te) (hr.in1).in1 J.env0.in1.in1 hfo hcd S rfl (hbind _ _ _ _) (.cons rvy .nil) (hb _ _ _ _ _ _) (hte j v z hv hz);refine JV (wpAny_attempt (wpAny_call (codeAny_mono run λr s'' hq=> ?_)));cases r with
  |error e=>exact hq.elim
  |ok fl=>
   cases fl with
   |next=>exact False.elim hq
   |brk=>exact False.elim hq
   |cont=>exact False.elim hq
   |ret u=>
    have J2:=J.after hq;obtain⟨v2,H2,os,bare,un,hok,rv2,e2,e3⟩:=hq;subst e2 e3;obtain⟨t2,rfl⟩: ∃t2,u= .int z t2:=rv2;obtain⟨v3,H3,J3,_,_,rfl⟩:=J2;have hk2:=un.keep kS _ hk Fk.hn Fk.fs (by simp);have ho2:=un.keep a _ ho Fa.hn Fa.fs (by simp);dsimp only;have s1:=Heap.SameBut.update s''.heap kS (Obj.mapSeq (·.push (.int z t2)));obtain⟨c2,hc2⟩: ∃c2,(s''.heap.update kS (Obj.mapSeq (·.push (.int z t2)))).get? kS=some (seqObj "list" (kA.push (.int z t2)) c2):=⟨_,get?_update_seq hk2 (·.push (.int z t2))⟩
    have ek:kz.take (j+1)=kz.take j++ [z]:=by rw[JH,hz];simp
    have ea:(kA.push (Value.int z t2)).toList=kA.toList++ [Value.int z t2]:=by simp
    refine JV (listUpdate_at hk2 rfl ?_ (by rw[sizeLine_eq];omega) (JE (Nat.le_of_eq (Array.size_push ..)) (by rw[sizeLine_eq];omega)));exact JW ⟨rfl,kA.push (.int z t2),c2,J3.own (t':=s''.toks) Fk s1,hc2,(s1.2 a kna.symm).trans ho2,by rw[ea,ek];exact ksk_snoc hi⟩
 case done=>
  rintro s' ⟨kA,e,J,hk,ho,hi⟩;have hi':IntsAre kA.toList kz:=by
   have e3:kz.take (0+its.length)=kz:=List.take_of_length_le 'o';rw[e3] at hi;exact hi
  have hsz4:kA.size=its.length:=by
   have h1:=hi'.length;rw[Jx] at h1;omega
  refine JV (listItems_at hk rfl ?_);have tail: ∀(st:SortSt) (ix:List Nat),jw kz ix->(arrOf st).map (·.2)=List.toArray (ix.map λi=>its.getD i Value.none)->failedOf st=none->
    wpAny (model X.prog X.w) X.A.in1.in1 (ksk_tail a false e1 (.ref kS) st) (λfin s''=> ∃v,fin= .done (.ret v)/\wpAny (model X.prog X.w) X.A.in1 (PySem.ret (.ref a)) (λfin s'=> ∃v,fin= .done (.ret v)/\EP X pins σ Q v s') X.xe s'') X.xe s':=λst ix hix har hfl=>by
   have hixl:ix.length=its.length:=by rw[hix.1.length_eq,JI];omega
   have hout:((arrOf st).map (·.2)).size=its.length:=by rw[har,Jn,Ja,hixl]
   have s1:=Heap.SameBut.update s'.heap kS (Obj.mapSeq λ_=>(#[]:Array Value));have na1:(s'.heap.update kS (Obj.mapSeq λ_=>(#[]:Array Value))).get? a=some (seqObj "list" #[] e1):=(s1.2 a kna.symm).trans ho;have s2:=Heap.SameBut.update (s'.heap.update kS (Obj.mapSeq λ_=>(#[]:Array Value))) a (Obj.mapSeq λ_=>(arrOf st).map (·.2));obtain⟨c2,hc2⟩: ∃c2,((s'.heap.update kS (Obj.mapSeq λ_=>(#[]:Array Value))).update a (Obj.mapSeq λ_=>(arrOf st).map (·.2))).get? a=some (seqObj "list" ((arrOf st).map (·.2)) c2):=⟨_,get?_update_seq na1 λ_=>(arrOf st).map (·.2)⟩
   unfold ksk_tail;dsimp only;refine JV (listUpdate_at hk rfl ?_ (by rw[hsz4,sizeLine_eq];omega) (Jv _));refine JV (wpAny_letGo ?_);refine JV (seqEpoch_at na1 rfl ?_);refine JV (listUpdate_at na1 rfl ?_ (Jv _) (JE (Nat.le_of_eq hout) (by rw[sizeLine_eq];omega)));rw[hfl];simp only[bne_self_eq_false,Js,if_false];refine JW ⟨_,rfl,JW ⟨_,rfl,?_⟩⟩;have J1:=J.own (t':=s'.toks) Fk s1;have J2:=J1.own (t':=s'.toks) Fa s2;have hc2':=hc2;rw[show seqObj "list" ((arrOf st).map (·.2)) c2=seqObj "list" (List.toArray (ix.map λi=>its.getD i Value.none)) c2 by rw[har]] at hc2';have inr: ∀i∈ix,i<vs.length:=λi hi=>by
    have:=List.mem_range.mp (hix.1.mem_iff.mp hi);omega
   have new:ye X.prog X.w (upd H a (.lst (ix.map λi=>vs.getD i .non))) ((s'.heap.update kS (Obj.mapSeq λ_=>(#[]:Array Value))).update a (Obj.mapSeq λ_=>(arrOf st).map (·.2))) a (.lst (ix.map λi=>vs.getD i .non)):=
    ⟨by rw[Ja,hixl,hil];exact hln,_,c2,zf0 rv ix inr,hc2'⟩
   exact⟨.ref a,_,J2.adopt (t':=s'.toks) Fa new,rfl,(q ix hix).at Fa.hn⟩
  unfold ksk_end
  (try dsimp only)
  rw[Jf 'd'];by_cases h2:its.toArray.size<2
  ·rw[Jg h2,Jg h2];refine JV (JW ?_);rw[StateT.run_pure];refine JV (JW ?_);dsimp only;rw[Jn] at h2;refine tail (SortSt.mk' general' (kA.zip its.toArray) #[] 7 none) (List.range its.length) ⟨by rw[hkz,hil],?_⟩ ?_ rfl
   ·rw[List.pairwise_iff_getElem];intro i j hi hj hij;rw[JI] at hj;omega
   ·show (kA.zip its.toArray).map (·.2)=_;rw[Array.map_snd_zip (by rw[Jn];omega),uB]
  ·rw[Jf h2,Jf h2];rw[Jn] at h2;rw[ksk_kind hi' (by rw[hsz4];omega)];refine JV (JW ?_);have zk:kA.zip its.toArray=kA.toList.toArray.zip its.toArray:=by rw[Array.toArray_toList]
   rw[Jf 'd',zk];refine JV (wpAny_mono (PySem.W.kat_run (ks:=kA.toList) (vs:=its) (Q:=λst' s2=>s2=s'/\ ∃pm:Array Nat,So.Ok its.length pm/\So.Up (Sk.rk λi=>kz.getD i 0) pm its.length/\arrOf st'=pm.map (PySem.W.kas_item (kA.toList.toArray.zip its.toArray))/\failedOf st'=none)
    (G:=λpm s2=>s2=s'/\So.Ok its.length pm/\So.Up (Sk.rk λi=>kz.getD i 0) pm its.length) (by rw[Jx,hsz4]) 'o' 'o' (λpm st' s2 a1 a2 a3 a4=>⟨a4.1,pm,a4.2.1,a4.2.2,a2,a3⟩)
    (Sk.Ek.wp (k:=λi=>kz.getD i 0) (n:=its.length) (λi j C hi hj c=> ?_) (λpm h=>⟨rfl,h⟩) (Sk.sort_ 'o' 'o'))) ?_ λ_ _ e=>e)
   ·obtain⟨t1,E1⟩:=zf1 hi' (i:=i) 'o';obtain⟨t2,E2⟩:=zf1 hi' (i:=j) 'o';unfold PySem.W.kas_ask;rw[E1,E2,keyLt'_oneType];exact oneLt_int c
   rintro⟨⟨⟩,st'⟩ s2 ⟨rfl,pm,a1,a2,a3,a4⟩;dsimp only;refine tail st' pm.toList ⟨?_,?_⟩ ?_ a4
   ·have:=a1.toList;rw[hkz,<-hil];exact this
   ·rw[List.pairwise_iff_getElem];intro i j hi hj hij;have e:=a2 i j hij (by rw[Jx,a1.size] at hj;exact hj);unfold So.fv Sk.rk at e;have g: ∀(k:Nat) (hk:k<pm.toList.length),pm.getD k 0=pm.toList[k]:=λk hk=>by
     have:k<pm.size:=by simpa using hk
     simp [Array.getD,this]
    rw[g i hi,g j hj] at e;dsimp only at e;have l1:pm.toList[i]<its.length:=by
     have:=a1.toList.mem_iff.mp (List.getElem_mem hi);simpa using this
    have l2:pm.toList[j]<its.length:=by
     have:=a1.toList.mem_iff.mp (List.getElem_mem hj);simpa using this
    omega
   ·exact PySem.W.kat_snds (ks:=kA.toList) (vs:=its) (by rw[Jx,hsz4]) a3
end
section
variable {X:Cx}
def yZ(P:Addr)(lpos:Pos)(qual:Str)(N:List Str)(te:TE)(t:TA):TE:=λσ H Q=>t σ H λxs H1=>vj H1 P lpos qual/\ ∀H2,vX P H1 H2->vj H2 P lpos qual-> ∃(p:Addr) (vs:List V) (kz:List Int),xs= [.ref p]/\H2 p=some (.lst vs)/\kz.length=vs.length/\vs.length<64/\
 (∀(i:Nat) (v:V) (z:Int),vs[i]? =some v->kz[i]? =some z->te (start N [v]) H2 (λy H'=>y= .int z/\H'=H2))/\ ∀ix,jw kz ix->New H2 (.lst (ix.map λi=>vs.getD i .non)) Q
theorem zgW{k:Nat}{c P:Addr}{x:Str}{e:Expr}{t:TA}{params:Arguments}{body:Expr}{scope:Scope}{p pos lpos kpos:Pos}{N:List Str}{te:TE}(hr:Room (k+3) X.A)(hg:Gl X "sorted")(hm:X.mg "sorted"=none)(ha:PA X [e] t)
  (hcode:X.env.code= .ref c) (hB:BM X.mg X.base) (C: ∀h:Heap,X.K.In h->PySem.W.CodeHd h c P) (S:FnScope N [x] scope)
  (hbind: ∀pm c' ctv u,bindArgs (PySem.W.kla_fn "<lambda>" (X.env.qual++"<lambda>") params body scope [] pm (.ref c') ctv) ⟨[u], []⟩=pure [(x,u)])
  (hb: ∀f c' A outer s H,PE (xp CX0 X.prog X.w X.K X.mg X.base N (X.env.qual++"<lambda>") scope f (.ref c') A outer s H E0) body te)
  (hdef:defaultsOf params X.env=([], []):=by rfl) (hcl:closureFor scope X.env=pure []:=by rfl)
  (he:backTo pos (starEach [e] X.env)=(false,eval e X.env)::backTo pos (starEach [] X.env):=by rfl) (hpl:(backTo pos (starEach [e] X.env)).any (·.1)=false:=by rfl):
  PE X (.Call (.Name "sorted" p) [e] [⟨some "key", .Lambda params body scope lpos,kpos⟩] pos) (yZ P lpos (X.env.qual++"<lambda>") N te t):=by
 intro pins s σ H Q I h;refine wpAny_Call_Name_kw (wx I hg hm rfl ?_ 'd' 'd');refine callWith_kw (thn (ha pos pins s σ H _ I h) λus s1 ⟨xs,H1,I1,r1,tb,q1⟩=> ?_) he hpl rfl rfl;refine thn (zkg (nm:=some "key") (kpos:=kpos) (zlB (pos:=lpos) (body:=body) hcode hB C hdef hcl) zlj pos pins s1 σ H1 (λws H2=> ∃f c',ws= [.ref f]/\vX P H1 H2/\vj H2 P lpos (X.env.qual++"<lambda>")/\H2 f=some (vF f (X.env.qual++"<lambda>") params body scope c')/\H2 c'=some (vi c' (X.env.qual++"<lambda>"))) I1 ⟨tb,λf c' H2 g tb2 _ e1 e2=>⟨f,c',rfl,g,tb2,e1,e2⟩⟩) λkws s2 ⟨ws,H2,I2,rk,f,c',ew,g,tb2,e1,e2⟩=> ?_;subst ew;obtain⟨pl,vs,kz,rfl,hp,hkz,h64,hte,q⟩:=q1 H2 g tb2;obtain⟨u,rfl,ru⟩:=xR rk;exact zgp hr S hbind hb I2 r1 (.cons ru .nil) ⟨pl,f,c',vs,kz,rfl,rfl,hp,e1,e2,hkz,h64,hte,q⟩
end
structure TabK (K:Fg) (mg:Str->Option Value) (x:Str) (c P:Addr):Prop where
 fn: ∃f oc od fd osl,mg x=some (.ref f)/\K.lookup f=some ⟨oc,od, .func fd,osl⟩/\fd.code= .ref c
 cd: ∃od vs osl file tf flags tg inF text tt,K.lookup c=some ⟨.type "code",od, .fields vs,osl⟩/\vs[11]? =some (.ref P)/\vs.getD 11 .none= .ref P/\vs.getD 18 .none= .str file tf/\vs.getD 7 .none= .int flags tg/\vs.getD 9 .none= .bool inF/\vs.getD 10 .none= .int text tt
 ne:c≠P
 no:K.lookup P=none
theorem TabK.hd{P:Addr}(t:TabK K mg x c P)(X:K.In h):PySem.W.CodeHd h c P:=by
 obtain⟨od,vs,osl,file,tf,flags,tg,inF,text,tt,e1,e2,e3,e4,e5,e6,e7⟩:=t.cd;exact⟨_,vs,file,tf,flags,tg,inF,text,tt,X _ _ e1,rfl,rfl,e2,e3,e4,e5,e6,e7,t.ne⟩
def Itv(d:Addr)(o:Obj)(kvs:List (Key×V)):It:=⟨λi H=>i<kvs.length/\H d=some (.frz o (.dK kvs)),λi H x H'=>H'=H/\ ∃kv,kvs[i]? =some kv/\x=kv.2,λi H=>kvs.length<=i/\H d=some (.frz o (.dK kvs))⟩
theorem zhl{d:Addr}{o:Obj}{kvs:List (Key×V)}{H1:Hp}(h:H1 d=some (.frz o (.dK kvs))):Lists (Itv d o kvs) H1 (kvs.map (·.2)) where
 go:=λi H2 s hi=>⟨by rw[Ja] at hi;exact hi,s _ _ h⟩
 yld:=λi H2 x H3 s hy _=>by
  obtain⟨rfl,kv,e,rfl⟩:=hy;exact⟨rfl,by rw[Jh,e];rfl⟩
 stop:=λH2 s=>⟨by rw[Ja];exact Je _,s _ _ h⟩
theorem ziD{tg:Expr}{d:Addr}{o:Obj}{kvs:List (Key×V)}{vs:List (Key×Value)}{ep:Nat}(rel:KV kvs vs)(hat: ∀h:Heap,h.get? d=some o->h.DictAt (qL P w) d vs ep)(it:Addr):Turn P w K tg (Itv d o kvs) [it] it (λi h=>h.IsValIter it d i vs.length ep) where
 mem:=by simp
 obj:=λi h st b hb=>by
  have e:b=it:=by simpa using hb
  subst e;obtain⟨o,e,c,d⟩:=st;exact⟨o,e,λv z=>by rw[d] at z;cases z⟩
 keep:=λi h h' st k=>st.at λo e=>k it (by simp) o e
 item:=by
  intro X hP hw hK hc i pins s σ H E I hf st hg;subst hP hw hK;obtain⟨hi,hd⟩:=hg;have hl:kvs.length=vs.length:=rel.length;obtain⟨kv,ekv⟩: ∃kv,kvs[i]? =some kv:=⟨_,Jb hi⟩
  obtain⟨⟨k,u⟩,ev⟩: ∃v,vs[i]? =some v:=⟨_,Jb 'o'⟩
  obtain⟨r1,r2⟩:=zh1 rel ekv ev;obtain⟨f0,f1,f2,f3,f4,f5⟩:=hf it (by simp);refine wpAny_pyNext_values_item st (hat _ (I.hok _ _ hd).1) ev λh' st' sb=> ?_;have I1:Inv X pins σ H {s with heap:=h'}:=I.turned (t':=s.toks) (λb o hb e=>(sb.2 b hb).trans e) f0 f1 f3 f4 f5;obtain⟨o,e,c,d⟩:=id st';exact⟨u,rfl,jH (s:={s with heap:=h'}) e c d 'd' ⟨kv.2,H,I1,r2,⟨rfl,kv,ekv,rfl⟩,st',λb hb=>(hf b hb).1⟩⟩
 done:=by
  intro X hP hw hK hc i pins s σ H E I hf st hg;subst hP hw hK;obtain⟨hi,hd⟩:=hg;have hl:kvs.length=vs.length:=rel.length;obtain⟨f0,f1,f2,f3,f4,f5⟩:=hf it (by simp);exact wpAny_pyNext_values_end (I.ok.hd hc) st (hat _ (I.hok _ _ hd).1) (List.getElem?_eq_none 'o') λh' eb=>⟨rfl,I.turned (t':=s.toks) (λb o hb e=>eb b o hb e) f0 f1 f3 f4 f5⟩
 self:=λ_ _ _ _ _ st h=>wpAny_pyIter_valiter st h
def y8(td:TE):TI:=λσ H R=>td σ H λx H1=> ∃d kvs,x= .ref d/\H1 d=some (.dK kvs)/\ ∀o H2,(∀b u,b≠d->H1 b=some u->H2 b=some u)->(∀b,b≠d->H2 b=H1 b)->H2 d=some (.frz o (.dK kvs))->R (Itv d o kvs) H2
theorem zkB{X:Cx}{tg o:Expr}{td:TE}{ap cp:Pos}(ho:PE X o td)(hb:attributeBase o "values" X.env (eval o X.env)=eval o X.env)(hline:(ap.endLine==cp.line)=true):
  PI X tg (.Call (.Attribute o "values" ap) [] [] cp) (y8 td):=by
 intro pins s σ H R I h;refine wpAny_Call_method (T:="dict") (id:="dict.values") hb rfl hline PySem.F.plainAttrs_dict PySem.F.slot_dict_values PySem.F.type_dict_values (thn (ho pins s σ H _ I h) λu s1 ⟨x,H1,I1,rx,a,kvs,ex,ea,q⟩=> ?_);subst ex;obtain rfl:u=Value.ref a:=rx;obtain⟨z,hd,vs,rel,dd⟩:=jp I1.hok ea;refine⟨dd.typeIs,dd.mapOf.noDict,?_⟩;show wpAny _ _ (callWith cp (.builtin "dict.values") [.ref a] [] []) _ _ s1;refine method_meetsIn PySem.F.slot_dict_values PySem.F.entry_dict_values rfl (PySem.evalArgs_none ⟨rfl,dd.typeIs,PySem.F.args_dict_values_1 _,_,meets_dict_values _ a hd,⟨vs,dd⟩,?_⟩);obtain⟨ep,hat⟩:=dd.dictAt;obtain⟨od,es,hod,hcd,hdd,hk,hp,hn⟩:=id hat;have I2:Inv X pins σ (upd H1 a (.frz od (.dK kvs))) s1:=I1.write (t':=s1.toks) (h':=s1.heap) (x:=a) (e:=a) (o:= .frz od (.dK kvs)) (by rw[ea];trivial) (.inl rfl) (λ_ _ _ e=>e) ⟨_,hod⟩ ⟨hod,show ye X.prog X.w H1 s1.heap a (.dK kvs) from I1.hok a _ ea⟩;have kp0: ∀b o,s1.heap.get? b=some o->(s1.heap.push {cls:= .type "dict_values",data:= .fields #[.ref a]}).get? b=some o:=λb o e=>JX _ e;have I3:=I2.kept (t':=s1.toks) kp0;refine wpAny_pyIter_values (knd:=qL X.prog X.w) (kvs:=vs) (ep:=ep) ⟨_,JZ _ rfl,rfl,rfl⟩ (hat.at' λo e=>JX _ e) ?_;have I4:=I3.kept (t':=s1.toks) (h':=(s1.heap.push {cls:= .type "dict_values",data:= .fields #[.ref a]}).push {cls:= .type "dict_valueiterator",data:= .fields #[.ref a, .int 0 0, .int vs.length 0, .int ep 0]}) λb o e=>JX _ e;refine⟨(s1.heap.push {cls:= .type "dict_values",data:= .fields #[.ref a]}).objs.size, [(s1.heap.push {cls:= .type "dict_values",data:= .fields #[.ref a]}).objs.size],_,Itv a od kvs,_,rfl,I4,ziD rel (λh e=>hat.at' λo' e'=>by rw[hod] at e';cases e';exact e) _,⟨_,JZ _ rfl,rfl,rfl⟩,λb hb=> ?_,q od _ (λb u n e=>by rw[zI n];exact e) (λb n=>zI n) yg⟩;have e:b=(s1.heap.push {cls:= .type "dict_values",data:= .fields #[.ref a]}).objs.size:=by simpa using hb
 subst e;exact I3.fpOk (Je _) (I3.hok.fresh (Je _))
theorem Fun.okXC{P:Program}{w:World}{mg:Str->Option Value}{base:Heap}{st:Stmt}{fd:FuncData}{ps:List Str}{k:Nat}{sp:Sp}(F:Fun K x qual st f fd)(hc:fd.code= .ref c)(S:FnScope N ps (zJ st))(len: ∀vs H Q E,sp vs H Q E->vs.length=ps.length)
  (hbody: ∀(A:Around) (outer:List Env) (s:Shared) (H:Hp) (vs:List V) (Q:VK) (E:XK),LvR (xp (CXE P w) P w K mg base N qual (zJ st) f (.ref c) A outer s H E) (λ_=>E)->Room k (A.deeper (envOfC qual (zJ st) s.heap.objs.size f (.ref c)))->sp vs H Q E->
   ∃t,PSs (xp (CXE P w) P w K mg base N qual (zJ st) f (.ref c) A outer s H E) (vc st) t/\t {nx:=λ_ H'=>Q .non H',rt:=Q} (start N vs) H):FnOk P w K mg base (CXE P w) (k+1) f fd ps sp:=by
 obtain⟨oc,od,kV,doc,pm,an,cdv,ct,osl,rfl,lk,hcd⟩:=F.ex;obtain rfl:cdv= .ref c:=hc;exact zkW lk hcd S len λA outer s H vs Q E hr hsp=>hbody A outer s H vs Q E zi5 hr hsp
end L2
theorem L2.recs_any{q:PySem.Program}{y:PySem.Str}(h:((PyProof.Rows.recsOf q).any λd=>d.name==y)=true): ∃e∈PyProof.Rows.recsOf q,e.name=y:=by
 obtain⟨e,he,hn⟩:=List.any_eq_true.mp h;exact⟨e,he,eq_of_beq hn⟩
namespace L2
open PySem PySem.Spec PyProof.Rows
variable{n:Nat}{d:D}{as:List Addr}{ds:List D}{pins:List (Addr×Obj)}{σ:St}{H:Hp}{s:Shared}
section
variable {prog:Program} {w:World} {A:Around} {E:Value->Shared->Prop} {s:Shared}
end
inductive TyQ (K:Fg) (H:Hp):V->Value->Prop where
 |x {v:V} {t:Value} (h:TyX K H v t):TyQ K H v t
 |sq {a:Addr} {ys:List V} (h:SqT K H a ys):TyQ K H (.ref a) (.type "tuple")
def ko(Ts:List Addr)(H:Hp):Prop:=(∀T∈Ts,H T=some (.tbl #[]))/\ ∀b,b∉Ts->H b=none\/ ∃o xs,H b=some (.frz o (.lst xs))
theorem zhn{P:Program}{w:World}{K:Fg}{mg mb:Str->Option Value}{CX:CXT}{k:Nat}{fa a:Addr}{Ts:List Addr}{fd:FuncData}{x:Str}{sp:Sp}{s₁:Shared}{vs:List Value}{ns:List Int}
  (KX:K.In s₁.heap) (hns:s₁.heap.Ns mainGlobals mg) (hb:s₁.heap.Ns builtinsNs mb) (hbb: ∀x:Str,x≠"__name__"->mb x=bootBuiltins x) (hlim:s₁.heap.NoLimit) (hg:s₁.gens= #[])
  (ha:s₁.heap.get? a=some {cls:= .type "list",data:= .seq vs.toArray}) (hi:IntsAre vs ns) (hl:ns.length<=sizeLine) (hr:Room k callerA)
  (hC: ∀T∈Ts,(∃c,PySem.W.CodeHd s₁.heap c T)/\s₁.heap.get? T=some (PySem.W.tabObj #[])/\K.lookup T=none) (hBM:BM mg s₁.heap)
  (F: ∀base:Heap,K.In base->base.Ns mainGlobals mg->BM mg base->FnOk P w K mg base CX k fa fd [x] sp) (hbind: ∀(s:Shared) (u:Value),BindsTo s fd ⟨[u], []⟩ [(x,u)])
  (hsp: ∀H:Hp,ko Ts H->SqL K H a (ns.map V.int)->sp [.ref a] H (λv _=>v= .bl true) λ_ _ _=>False)
  (hCX: ∀H e s',CX [] H s₁ (λ_ _ _=>False) e s'->False):
  codeAny (model P w) callerA (.call (.ref fa) ⟨[.ref a], []⟩) (λr s'=>r= .ok (.ret (.bool true))/\OldK s₁.heap s'.heap/\s'.os=s₁.os/\AllBare s'.gens) s₁:=by
 have rv:=zfS hi;have lenV:=hi.length;have haT:a∉Ts:=λz=>by rw[(hC a z).2.1] at ha;cases ha
 have core: ∀H:Hp,ko Ts H->SqL K H a (ns.map V.int)->HOk P w H s₁.heap->(∀b,H b≠none->b=a\/b∈Ts)->(H a≠none->K.lookup a=none)->
   codeAny (model P w) callerA (.call (.ref fa) ⟨[.ref a], []⟩) (λr s'=>r= .ok (.ret (.bool true))/\OldK s₁.heap s'.heap/\s'.os=s₁.os/\AllBare s'.gens) s₁:=by
  intro H hO hS hok hA hK;have base_of: ∀{b:Addr} {o:Obj},s₁.heap.get? b=some o->H b=none->(wv s₁.heap H).get? b=some o:=λe n=>ziU e n;have noA: ∀{b:Addr} {o:Obj},s₁.heap.get? b=some o->(∀es ep,o.data≠ .seq es ep)->(∀es,o.data≠ .fields es)->H b=none:=fun {b o} e d1 d2=>by
   cases q:H b with
   |none=>rfl
   |some u=>
    rcases hA b (by rw[q];simp) with e'|e'
    ·subst e';rw[ha] at e;cases e;exact absurd rfl (d1 _ _)
    ·rw[(hC b e').2.1] at e;cases e;exact absurd rfl (d2 _)
  have nsK: ∀{b:Addr} {m:Str->Option Value},s₁.heap.Ns b m->(wv s₁.heap H).Ns b m:=fun {b m} ⟨o,es,ep,e,d,r⟩=>⟨o,es,ep,base_of e (noA e (λ_ _=>by rw[d];intro z;cases z) (λ_=>by rw[d];intro z;cases z)),d,r⟩
  have hKb:K.In (wv s₁.heap H):=λb o e=>base_of (KX b o e) (by
   cases q:H b with
   |none=>rfl
   |some u=>
    rcases hA b (by rw[q];simp) with e'|e'
    ·subst e';rw[hK (by rw[q];simp)] at e;cases e
    ·rw[(hC b e').2.2] at e;cases e)
  have hM:Mod K mg (wv s₁.heap H):=⟨hKb,nsK hns,⟨mb,nsK hb,hbb⟩,let ⟨mc,h1,h2⟩:=hlim;⟨mc,nsK h1,h2⟩⟩
  have hB:BM mg (wv s₁.heap H):=by
   obtain⟨bm,ob,b1,b2,b3,b4,b5,b6⟩:=hBM;exact⟨bm,ob,b1,b2,base_of b3 (noA b3 (λ_ _=>by rw[b6];intro z;cases z) (λ_=>by rw[b6];intro z;cases z)),b4,b5,b6⟩
  have e0:Env0 P w K mg (wv s₁.heap H) callerA [] s₁ H:=⟨rfl,hM,λb o e=>zka e,Nat.le_of_eq (zim _ _),trivial,λb hb=>absurd (show b∈([]:List Addr) from hb) (by simp),hok, .of_eq hg⟩
  refine codeAny_mono ((F _ hKb (nsK hns) hB).run callerA [] s₁ H ⟨[.ref a], []⟩ [.ref a] [.ref a] _ _ hr e0 (hbind s₁ (.ref a)) (.cons rfl .nil) (hsp H hO hS)) λr s' h=> ?_;cases r with
  |error e=>exact(hCX H e s' h).elim
  |ok fl=>
   cases fl with
   |next=>exact False.elim h
   |brk=>exact False.elim h
   |cont=>exact False.elim h
   |ret u=>
    obtain⟨v,H',os,bare,un,hok',r',q⟩:=h;have q':v= .bl true:=q;subst q';obtain rfl:u=Value.bool true:=r';have hx: ∀b o,b∉Ts->s₁.heap.get? b=some o->s'.heap.get? b=some o:=λb o hbT e=>by
     cases q:H b with
     |none=>exact un.keep b o e q (by intro z;exact absurd (show b∈([]:List Addr) from z) (by simp)) (by simp)
     |some u=>
      rcases hO.2 b hbT with z|⟨ob,xs,z⟩
      ·rw[q] at z;cases z
      ·have z2:=un.frzs b ob _ z;obtain⟨e1,_⟩:=hok b _ z;obtain⟨e2,_⟩:=hok' b _ z2;rw[e] at e1;cases e1;exact e2
    have hT': ∀T∈Ts,∃more,s'.heap.get? T=some (PySem.W.tabObj (#[]++more)):=λT hT=>by
     obtain⟨more,hm⟩:=un.tbls T _ (hO.1 T hT);exact⟨more,hok' T _ hm⟩
    refine⟨rfl,⟨λb o e=> ?_,λb o e=> ?_⟩,os,bare⟩
    ·by_cases z:b∈Ts
     ·obtain⟨⟨c,hc⟩,hT,_⟩:=hC b z;rw[hT] at e;cases e;obtain⟨more,hm⟩:=hT' b z;exact .inr (.inl ⟨(hc.tab hT).isCodeTable,rfl, #[],more,rfl,hm⟩)
     ·exact .inl (hx b o z e)
    ·by_cases z:b∈Ts
     ·obtain⟨more,hm⟩:=hT' b z;exact⟨_,hm⟩
     ·exact⟨o,hx b o z e⟩
 have tblOk: ∀(H:Hp) (T:Addr),T∈Ts->ye P w H s₁.heap T (.tbl #[]):=λH T hT=>(hC T hT).2.1;obtain⟨H,hH⟩: ∃H:Hp,H=λb=>if b∈Ts then some (.tbl #[]) else if b=a/\K.lookup a=none then some (.frz {cls:= .type "list",data:= .seq vs.toArray} (.lst (ns.map V.int))) else none:=⟨_,rfl⟩
 have h1: ∀T∈Ts,H T=some (.tbl #[]):=λT hT=>by rw[hH];exact Jg hT
 have h2:K.lookup a=none->H a=some (.frz {cls:= .type "list",data:= .seq vs.toArray} (.lst (ns.map V.int))):=λhk=>by rw[hH];exact(Jf haT).trans (Jg ⟨rfl,hk⟩)
 have h3: ∀b,b∉Ts-> ¬(b=a/\K.lookup a=none)->H b=none:=λb n1 n2=>by rw[hH];exact(Jf n1).trans (Jf n2)
 refine core H ⟨h1,λb n=> ?_⟩ ?_ (λb u z=> ?_) (λb z=> ?_) λz=> ?_
 ·by_cases hb:b=a/\K.lookup a=none
  ·exact .inr ⟨_,_,hb.1 ▸ h2 hb.2⟩
  ·exact .inl (h3 b n hb)
 ·cases hk:K.lookup a with
  |none=>exact .inl (.inr ⟨_,h2 hk⟩)
  |some o=>
   have e:=KX a o hk;rw[ha] at e;cases e;exact .inr ⟨_,vs.toArray,_,hk,rfl,rfl,rfl,by rw[Jn,lenV];exact hl,by simpa using rv⟩
 ·by_cases hbT:b∈Ts
  ·rw[h1 b hbT] at z;cases z;exact tblOk _ _ hbT
  ·by_cases hb:b=a/\K.lookup a=none
   ·obtain⟨rfl,hk⟩:=hb;rw[h2 hk] at z;cases z;exact⟨ha,by rw[Ja];exact hl,vs,_,rv,ha⟩
   ·rw[h3 b hbT hb] at z;cases z
 ·by_cases hbT:b∈Ts
  ·exact .inr hbT
  ·by_cases hb:b=a/\K.lookup a=none
   ·exact .inl hb.1
   ·exact absurd (h3 b hbT hb) z
 ·by_cases hk:K.lookup a=none
  ·exact hk
  ·exact absurd (h3 a haT λy=>hk y.2) z
open PySem PySem.Spec PyProof.Rows PySem.W PySem.Calls
section
variable {prog:Program} {w:World} {A:Around} {E:Value->Shared->Prop} {s:Shared}
end
section
variable {X:Cx} {pins:List (Addr×Obj)} {σ:St} {H:Hp} {s:Shared}
def zlC(kz:List (Int×Int))(ix:List Nat):Prop:=ix.Perm (List.range kz.length)/\ix.Pairwise λi j=>(kz.getD i (0,0)).1<(kz.getD j (0,0)).1\/(kz.getD i (0,0)).1=(kz.getD j (0,0)).1/\(kz.getD i (0,0)).2<(kz.getD j (0,0)).2
end
section
variable {X:Cx}
def qA(P:Addr)(lpos:Pos)(qual:Str)(N:List Str)(te:TE)(t:TA):TE:=λσ H Q=>t σ H λxs H1=>vj H1 P lpos qual/\ ∀H2,vX P H1 H2->vj H2 P lpos qual-> ∃(p:Addr) (vs:List V) (kz:List (Int×Int)),xs= [.ref p]/\H2 p=some (.lst vs)/\kz.length=vs.length/\vs.length<64/\
 (∀(i:Nat) (v:V) (z:Int×Int) (H3:Hp),vs[i]? =some v->kz[i]? =some z->zj H2 H3->te (start N [v]) H3 (λy H'=>zj H3 H'/\ ∃q,y= .ref q/\H' q=some (.tup [.int z.1, .int z.2])))/\(∀z∈kz,0<=z.2/\z.2<64)/\kz.Pairwise (λx y=>x.2≠y.2)/\ ∀ix H3,zj H2 H3->zlC kz ix->New H3 (.lst (ix.map λi=>vs.getD i .non)) Q
end
theorem walk_ofTs{l:PySem.W.OpenLaw}{n k:Nat}{q:Program}{loose:List Str}{XP:(Str->Option Value)->Heap->Prop}{YP:World->Heap->Prop}{d:DefRec}{K:Params->Fg}{CX:World->CXT}{sp:Fg->List Addr->Sp}{x:Str}{ys:List Str}
  (hn:l.most=some n) (hn2:n<=sizeLine) (hdf:d.params.defaults= []) (hr:Room k callerA)
  (hY: ∀(w:World) (h:Heap),YP w h->(K w.params).In h) (hy: ∀y∈ys,∃e∈recsOf q,e.name=y)
  (F: ∀(w:World) (mg:Str->Option Value) (fa:Addr) (h:Heap),(K w.params).In h->h.Ns mainGlobals mg->mg d.name=some (.ref fa)->
   ∃(fd:FuncData) (Ts:List Addr),(∀T∈Ts,∃y∈ys,∃c,TabK (K w.params) mg y c T)/\(∀(s:Shared) (u:Value),BindsTo s fd ⟨[u], []⟩ [(x,u)])/\
    ∀base:Heap,(K w.params).In base->base.Ns mainGlobals mg->BM mg base->FnOk l.prog w (K w.params) mg base (CX w) k fa fd [x] (sp (K w.params) Ts))
  (hsp: ∀(K:Fg) (Ts:List Addr) (H:Hp) (a:Addr) (ns:List Int),ns.length<=n->ko Ts H->SqL K H a (ns.map V.int)->sp K Ts [.ref a] H (λv _=>v= .bl true) λ_ _ _=>False)
  (hCX: ∀(w:World) (H:Hp) (s:Shared) (e:Value) (s':Shared),CX w [] H s (λ_ _ _=>False) e s'->False):
  PySem.W.WalkO q loose XP YP l.row.toRowW d [] (λf vs=>PySem.call f vs):=by
 refine Att.attach_call hn hdf λw s₀ s₁ mg mb fa o pm cd doc a vs ns G Y ho hd hcd hmg hobj hints hlen hg=> ?_;have KX:=hY w _ Y;obtain⟨fd,Ts,tks,hb,hF⟩:=F w mg fa _ KX G.T.g hmg;refine zhn KX G.T.g G.T.b G.T.builtins G.T.nolimit hg hobj hints (JE hlen hn2) hr (λT hT=> ?_) G.T.bmain hF hb (λH hO hS=>hsp _ Ts H a ns hlen hO hS) λH e s'=>hCX w H s₁ e s';obtain⟨y,hyy,c,tk⟩:=tks T hT;obtain⟨e,he,rfl⟩:=hy y hyy;obtain⟨a1,o1,fd1,c1,P1,t1,t2,t3,t4,t5,t6⟩:=G.T.tab e he;obtain⟨f2,oc,od,fd2,osl,u1,u2,u3⟩:=tk.fn;obtain⟨od3,vs3,osl3,file,tf,flags,tg,inF,text,tt,w1,w2,_⟩:=tk.cd;rw[u1] at t1;cases t1;rw[KX _ _ u2] at t2;cases t2;cases t3;rw[u3] at t4;cases t4;obtain⟨⟨o4,vs4,x1,x2,x3,x4⟩,x5⟩:=t6;rw[KX _ _ w1] at x1;cases x1;cases x3;rw[w2] at x4;cases x4;exact⟨⟨c,tk.hd KX⟩,x5,tk.no⟩
theorem zfs: ∀{as:List Addr} {its:List Value},zB (as.map V.ref) its->its=as.map Value.ref
 | [],_,h=>by cases h;rfl
 |a::as,_,h=>by
  cases h with
  |cons r t=>
   rw[zfs t];cases r;rfl
def zmK(K:Fg)(neg:Bool):R2:=λx y H Q=> ∃(p:Addr) (as:List Addr) (n:Nat) (ds:List D) (d:D),y= .ref p/\SqL K H p (as.map V.ref)/\all2 (Dp K H n) ds (as.map V.ref)/\Dp K H n d x/\n<=50/\(∀e∈ds,qR n e d)/\Q (.bl (if neg then !(ds.any λe=>eqb n e d) else ds.any λe=>eqb n e d)) H
section
variable {X:Cx}
def inF(as:List Addr)(ds:List D)(n:Nat)(d:D):Value->Bool
 | .ref a=>(List.range as.length).any λi=>decide (as[i]? =some a) && eqb n (ds.getD i .non) d
 |_=>false
theorem kr(hu: ∀i j:Nat,i<as.length->as[j]? =as[i]? ->ds.getD j .non=ds.getD i .non){i:Nat}{a:Addr}(e:as[i]? =some a):inF as ds n d (.ref a)=eqb n (ds.getD i .non) d:=by
 have hi:=(Jc.mp e).1;show ((List.range as.length).any λi=>decide (as[i]? =some a) && eqb n (ds.getD i .non) d)=_;cases hb:eqb n (ds.getD i .non) d with
 |true=>exact List.any_eq_true.mpr ⟨i,List.mem_range.mpr hi,by rw[e,hb];simp⟩
 |false=>
  refine List.any_eq_false.mpr λj hj=> ?_;by_cases z:as[j]? =some a
  ·rw[hu i j hi (z.trans e.symm),hb];simp
  ·simp [z]
theorem zkC(hl:ds.length=as.length)(hu: ∀i j:Nat,i<as.length->as[j]? =as[i]? ->ds.getD j .non=ds.getD i .non):(as.map Value.ref).any (inF as ds n d)=ds.any λe=>eqb n e d:=by
 rw[Bool.eq_iff_iff,List.any_eq_true,List.any_eq_true];refine⟨λ⟨v,hv,q⟩=> ?_,λ⟨e,he,q⟩=> ?_⟩
 ·obtain⟨a,ha,rfl⟩:=Jw.mp hv;obtain⟨i,hi⟩:=List.mem_iff_getElem?.mp ha;rw[kr hu hi] at q;have hi':i<ds.length:=by rw[hl];exact(Jc.mp hi).1
  rw[Jo,Jb hi'] at q;exact⟨_,List.getElem_mem hi',q⟩
 ·obtain⟨i,hi⟩:=List.mem_iff_getElem?.mp he;have hi':i<as.length:=by rw[<-hl];exact(Jc.mp hi).1
  refine⟨.ref as[i],Jw.mpr ⟨_,List.getElem_mem hi',rfl⟩,?_⟩;rw[kr hu (Jb hi'),Jo,hi];exact q
theorem zlD(I:Inv X pins σ H s){k:Nat}(hr:Room k X.A){x:V}{v:Value}(h2:all2 (Dp X.K H n) ds (as.map V.ref))(hd:Dp X.K H n d x)(hn:n<=50)(hc: ∀e∈ds,qR n e d)(rx:zF x v)(hu: ∀i j:Nat,i<as.length->as[j]? =as[i]? ->ds.getD j .non=ds.getD i .non):
  ∀y,y∈(as.map Value.ref).toArray->SeqAt.EqAt X.A.in1 s y v (inF as ds n d y):=λy hy=>by
 have hy':y∈as.map Value.ref:=by simpa using hy
 obtain⟨a,ha,rfl⟩:=Jw.mp hy';obtain⟨i,hi⟩:=List.mem_iff_getElem?.mp ha;have hl:=xK h2;rw[Ja] at hl;have hi':i<ds.length:=by rw[hl];exact(Jc.mp hi).1
 have e1:ds[i]? =some ds[i]:=Jb hi';rw[kr hu hi,Jo,e1];have hu':=hr.units;exact jS (v:=V.ref a) I (hc _ (List.getElem_mem hi')) (vT h2 e1 (by rw[Jh,hi];rfl)) hd rfl rx (by show X.A.units+1+n<cLine;omega)
theorem zlE(I:Inv X pins σ H s): ∀{n:Nat} {d e:D} {v:V},Dp X.K H n d v->Dp X.K H n e v->d=e:=by
 have al: ∀{g:D->V->Prop},(∀d e v,g d v->g e v->d=e)-> ∀{ds es:List D} {xs:List V},all2 g ds xs->all2 g es xs->ds=es:=by
  intro g hg ds;induction ds with
  |nil=>
   intro es xs h1 h2;cases xs with
   |nil=>cases es with
    |nil=>rfl
    |cons=>exact h2.elim
   |cons=>exact h1.elim
  |cons d r ih=>
   intro es xs h1 h2;cases xs with
   |nil=>exact h1.elim
   |cons x t=>cases es with
    |nil=>exact h2.elim
    |cons e r'=>rw[hg d e x h1.1 h2.1,ih h1.2 h2.2]
 have tl: ∀{a:Addr} {xs ys:List V},SqT X.K H a xs->SqL X.K H a ys->False:=λh1 h2=>by
  obtain⟨its,_,⟨o,e,c,_⟩,_⟩:=I.tuple h1;obtain⟨its',_,⟨o',n',e',c',_⟩,_⟩:=I.list h2;rw[e] at e';cases e';rw[c] at c';exact absurd c' 'd'
 intro n;induction n with
 |zero=>
  intro d e v h1 h2;cases d<;>cases e<;>simp only[Dp] at h1 h2<;>(try subst h1)<;>simp_all [ya]
 |succ n ih=>
  intro d e v h1 h2;cases d with
  |tup ds=>
   simp only[Dp] at h1;obtain⟨a,xs,rfl,hs,ha⟩:=h1;cases e with
   |tup es=>
    simp only[Dp] at h2;obtain⟨b,ys,eb,hs2,ha2⟩:=h2;cases eb;rw[I.tuple_inj hs2 hs] at ha2;rw[al (g:=Dp X.K H n) (λd e v=>ih) ha ha2]
   |lst es=>
    simp only[Dp] at h2;obtain⟨b,ys,eb,hs2,ha2⟩:=h2;cases eb;exact(tl hs hs2).elim
   |_=>simp only[Dp] at h2;cases h2
  |lst ds=>
   simp only[Dp] at h1;obtain⟨a,xs,rfl,hs,ha⟩:=h1;cases e with
   |lst es=>
    simp only[Dp] at h2;obtain⟨b,ys,eb,hs2,ha2⟩:=h2;cases eb;rw[I.list_inj hs2 hs] at ha2;rw[al (g:=Dp X.K H n) (λd e v=>ih) ha ha2]
   |tup es=>
    simp only[Dp] at h2;obtain⟨b,ys,eb,hs2,ha2⟩:=h2;cases eb;exact(tl hs2 hs).elim
   |_=>simp only[Dp] at h2;cases h2
  |_=>
   simp only[Dp] at h1;subst h1;cases e<;>simp only[Dp] at h2<;>simp_all [ya]
theorem zmn(I:Inv X pins σ H s)(h2:all2 (Dp X.K H n) ds (as.map V.ref)): ∀i j:Nat,i<as.length->as[j]? =as[i]? ->ds.getD j .non=ds.getD i .non:=λi j hi e=>by
 have hl:=xK h2;rw[Ja] at hl;have hi':as[i]? =some as[i]:=Jb hi;have hj:=(Jc.mp (e.trans hi')).1;have e1:ds[i]? =some ds[i]:=Jb 'o';have e2:ds[j]? =some ds[j]:=Jb 'o';rw[Jo,Jo,e1,e2];exact zlE I (v:= .ref as[i]) (vT h2 e2 (by rw[Jh,e,hi'];rfl)) (vT h2 e1 (by rw[Jh,hi'];rfl))
theorem zf2{k:Nat}(hr:Room k X.A):OpR X (compareOp .NotIn) (zmK X.K true):=by
 intro pins s σ H x y v u Q I rx ry h;obtain⟨p,as,n,ds,d,rfl,hq,h2,hd,hn,hc,q⟩:=h;have hu:=zmn I h2;cases ry;obtain⟨its,r,pl,hz⟩:=I.list hq;obtain rfl:=zfs r;have hl:=xK h2;rw[Ja] at hl;refine SeqAt.notIn_listAt (inF as ds n d) pl.isList (zlD I hr h2 hd hn hc rx hu) ⟨.bl _,H,I,rfl,?_⟩;rw[show (as.map Value.ref).toArray.any (inF as ds n d)=(as.map Value.ref).any (inF as ds n d) by simp,zkC hl hu];exact q
end
end L2
namespace Cal
variable{y m b d h f r:Int}
def lp(y:Int):Int:=if y % 4=0/\(y % 100≠0\/y % 400=0) then 1 else 0
def dim(y m:Int):Int:=if m=2 then 28+lp y else if m=4\/m=6\/m=9\/m=11 then 30 else 31
def ahead(y:Int):Int:=(y - 1)*365+(y - 1) / 4 - (y - 1) / 100+(y - 1) / 400
def cum(y m:Int):Int:=
 if m<=1 then 0 else if m=2 then 31 else if m=3 then 59+lp y else if m=4 then 90+lp y else if m=5 then 120+lp y
 else if m=6 then 151+lp y else if m=7 then 181+lp y else if m=8 then 212+lp y else if m=9 then 243+lp y
 else if m=10 then 273+lp y else if m=11 then 304+lp y else if m=12 then 334+lp y else 365+lp y
def num(y m d:Int):Int:=ahead y+cum y m+d - 1
def Valid(y m d:Int):Prop:=1<=y/\y<=9999/\1<=m/\m<=12/\1<=d/\d<=dim y m
theorem lp_01(y:Int):0<=lp y/\lp y<=1:=by unfold lp;split<;>decide
theorem zft(y m:Int):28<=dim y m/\dim y m<=31:=by
 have:=lp_01 y;unfold dim;repeat' split
 all_goals omega
theorem cum_one(y:Int):cum y 1=0:=rfl
theorem cum_succ(h1:1<=m)(h2:m<=12):cum y (m+1)=cum y m+dim y m:=by
 obtain⟨k,rfl⟩:=Int.eq_ofNat_of_zero_le (Int.le_trans (by decide:(0:Int)<=1) h1);match k,h1,h2 with
 |0,h,_=>exact absurd h 'd'
 |1,_,_=>exact rfl
 |2,_,_=>exact Int.add_assoc 31 28 (lp y)
 |3,_,_=>exact(Int.add_right_comm 59 (lp y) 31).symm
 |4,_,_=>exact(Int.add_right_comm 90 (lp y) 30).symm
 |5,_,_=>exact(Int.add_right_comm 120 (lp y) 31).symm
 |6,_,_=>exact(Int.add_right_comm 151 (lp y) 30).symm
 |7,_,_=>exact(Int.add_right_comm 181 (lp y) 31).symm
 |8,_,_=>exact(Int.add_right_comm 212 (lp y) 31).symm
 |9,_,_=>exact(Int.add_right_comm 243 (lp y) 30).symm
 |10,_,_=>exact(Int.add_right_comm 273 (lp y) 31).symm
 |11,_,_=>exact(Int.add_right_comm 304 (lp y) 30).symm
 |12,_,_=>exact(Int.add_right_comm 334 (lp y) 31).symm
 |k+13,_,h=>exact absurd h 'o'
theorem cum_13(y:Int):cum y 13=365+lp y:=by simp [cum]
theorem zfu(y m:Int):0<=cum y m:=by
 have l:=(lp_01 y).1;have q: ∀a:Int,0<=a->0<=a+lp y:=λa h=>Int.add_nonneg h l;have z: ∀{p:Prop} [Decidable p] {a b:Int},0<=a->0<=b->0<=if p then a else b:=fun {p} _ {a b} g h=>by split<;>assumption
 exact z 'd' (z 'd' (z (q _ 'd') (z (q _ 'd') (z (q _ 'd') (z (q _ 'd') (z (q _ 'd') (z (q _ 'd') (z (q _ 'd') (z (q _ 'd') (z (q _ 'd') (z (q _ 'd') (q _ 'd'))))))))))))
theorem q4(x:Int):(x+1) / 4=x / 4+if (x+1) % 4=0 then 1 else 0:=by split<;>omega
theorem zmL(x:Int):(x+1) / 100=x / 100+if (x+1) % 100=0 then 1 else 0:=by split<;>omega
theorem zmM(x:Int):(x+1) / 400=x / 400+if (x+1) % 400=0 then 1 else 0:=by split<;>omega
theorem ku{x a:Int}(k:Int)(e:b=a*k)(h:x % b=0):x % a=0:=by
 subst e;rw[<-Int.emod_emod_of_dvd x (Int.dvd_mul_right a k),h,Int.zero_emod]
theorem zmo(y:Int):lp y=(if y % 4=0 then 1 else 0) - (if y % 100=0 then 1 else 0)+(if y % 400=0 then 1 else 0):=by
 unfold lp;by_cases c:y % 4=0
 ·by_cases d:y % 100=0
  ·by_cases e:y % 400=0
   ·rw[Jg ⟨c, .inr e⟩,Jg c,Jg d,Jg e];rfl
   ·rw[Jf (λh=>h.2.elim (λh=>h d) e),Jg c,Jg d,Jf e];rfl
  ·have e:y % 400≠0:=λh=>d (ku 4 rfl h);rw[Jg ⟨c, .inl d⟩,Jg c,Jf d,Jf e];rfl
 ·have d:y % 100≠0:=λh=>c (ku 25 rfl h);have e:y % 400≠0:=λh=>c (ku 100 rfl h);rw[Jf (λh=>c h.1),Jf c,Jf d,Jf e];rfl
theorem ahead_succ(y:Int):ahead (y+1)=ahead y+365+lp y:=by
 obtain⟨x,rfl⟩: ∃x,y=x+1:=⟨y - 1,(Int.sub_add_cancel y 1).symm⟩
 rw[zmo];unfold ahead;rw[Int.add_sub_cancel,Int.add_sub_cancel,q4,zmL,zmM,Int.add_mul,Int.one_mul];generalize x*365=p,x / 4=a,x / 100=b,x / 400=c,ite ((x+1) % 4=0) (1:Int) 0=d,ite ((x+1) % 100=0) (1:Int) 0=e,ite ((x+1) % 400=0) (1:Int) 0=f;clear x;omega
theorem vY{z:Int}(h:y<z):ahead y+365+lp y<=ahead z:=by
 rw[<-ahead_succ];unfold ahead;omega
theorem zjz{y m:Int}(h1:1<=m): ∀j:Nat,m+1+(j:Int)<=13->cum y (m+1)<=cum y (m+1+(j:Int))
 |0,_=>Int.le_of_eq (by rw[show m+1+((0:Nat):Int)=m+1 from Int.add_zero _])
 |j+1,h=>by
  have a:=zjz (y:=y) h1 j 'o';have b:=cum_succ (y:=y) (m:=m+1+(j:Int)) 'o' 'o';have c:=(zft y (m+1+(j:Int))).1;rw[show m+1+((j+1:Nat):Int)=m+1+(j:Int)+1 by omega,b];omega
theorem cum_mono{k:Int}(h1:1<=m)(h:m<k)(h2:k<=13):cum y m+dim y m<=cum y k:=by
 rw[<-cum_succ h1 'o']
 have:=zjz (y:=y) h1 (k - (m+1)).toNat 'o';rw[show m+1+((k - (m+1)).toNat:Int)=k by omega] at this;exact this
theorem in_year(h:Valid y m d):0<=cum y m+d - 1/\cum y m+d<=365+lp y:=by
 obtain⟨_,_,h3,h4,h5,h6⟩:=h;have a:=zfu y m;have b:=cum_mono (y:=y) h3 (show m<13 by omega) 'o';rw[cum_13] at b;omega
theorem num_inj{z k e:Int}(h:Valid y m d)(g:Valid z k e)(q:num y m d=num z k e):y=z/\m=k/\d=e:=by
 have a:=in_year h;have b:=in_year g;obtain⟨_,_,h3,h4,h5,h6⟩:=h;obtain⟨_,_,g3,g4,g5,g6⟩:=g;unfold num at q;have yz:y=z:=by
  rcases Int.lt_trichotomy y z with c|c|c
  ·have:=vY c;omega
  ·exact c
  ·have:=vY c;omega
 subst yz;have mk:m=k:=by
  rcases Int.lt_trichotomy m k with c|c|c
  ·have:=cum_mono (y:=y) h3 c 'o';omega
  ·exact c
  ·have:=cum_mono (y:=y) g3 c 'o';omega
 subst mk;exact⟨rfl,rfl,'o'⟩
theorem num_range(h:Valid y m d):0<=num y m d/\num y m d<=3652058:=by
 have a:=in_year h;obtain⟨h1,h2,_⟩:=h;have e1:ahead 1=0:=by decide
 have e2:ahead 10000=3652059:=by decide
 have b:=vY (y:=y) (z:=10000) 'o';have c:ahead 1<=ahead y:=by unfold ahead;omega
 unfold num;omega
theorem zmp{R:Int}(f0:0<=f)(f1:f<24):lp (R*400+h*100+f*4+3+1)=1:=by
 unfold lp;rw[Jg];exact⟨'o',Or.inl 'o'⟩
theorem zlG(R:Int):lp (R*400+3*100+24*4+3+1)=1:=by
 unfold lp;rw[Jg];exact⟨'o',Or.inr 'o'⟩
def yearOf(n:Int):Int:=
 let r:=n % 146097
 let h:=min (r / 36524) 3
 let r2:=r - h*36524
 let c:=r2 % 1461
 n / 146097*400+h*100+r2 / 1461*4+min (c / 365) 3+1
theorem zmN{a:Int}(a0:0<=a)(a1:a<146097)(eh:h=min (a / 36524) 3)(eb:b=a - h*36524):0<=h/\h<=3/\0<=b/\b<=36524/\(h<3->b<36524):=by
 have q:=Int.emod_add_mul_ediv a 36524;have r:=JM a (by decide:(36524:Int)≠0);have t:=JK a (by decide:(0:Int)<36524);generalize a / 36524=u at*;generalize a % 36524=v at*;by_cases c:u<=3
 ·rw[Int.min_eq_left c] at eh;subst eh;refine⟨'o',c,'o','o',λ_=>by omega⟩
 ·rw[Int.min_eq_right 'o'] at eh;subst eh;refine⟨'d','d','o','o',λh=>absurd h 'd'⟩
theorem zmO{c:Int}(b0:0<=b)(b1:b<=36524)(ef:f=b / 1461)(ec:c=b % 1461):0<=f/\f<=24/\0<=c/\c<1461/\b=1461*f+c:=by
 have q:=Int.emod_add_mul_ediv b 1461;have r:=JM b (by decide:(1461:Int)≠0);have t:=JK b (by decide:(0:Int)<1461);rw[<-ef,<-ec] at q;rw[<-ec] at r t;clear ef ec;refine⟨'o','o',r,t,'o'⟩
theorem zmP{c o:Int}(c0:0<=c)(eo:o=min (c / 365) 3):0<=o/\o<=3/\365*o<=c/\(o<3->c<365*o+365):=by
 have q:=Int.emod_add_mul_ediv c 365;have r:=JM c (by decide:(365:Int)≠0);have t:=JK c (by decide:(0:Int)<365);generalize c / 365=u at*;generalize c % 365=v at*;by_cases d:u<=3
 ·rw[Int.min_eq_left d] at eo;subst eo;refine⟨'o',d,'o',λ_=>by omega⟩
 ·rw[Int.min_eq_right 'o'] at eo;subst eo;refine⟨'d','d','o',λh=>absurd h 'd'⟩
theorem kw{x q:Int}(e:x=r+d*q)(r0:0<=r)(r1:r<d):x / d=q:=by
 rw[e,Int.add_mul_ediv_left _ _ 'o',Int.ediv_eq_zero_of_lt r0 r1,JR]
theorem zkD{R o:Int}(h0:0<=h)(h3:h<=3)(f0:0<=f)(f1:f<=24)(o0:0<=o)(o3:o<=3):ahead (R*400+h*100+f*4+o+1)=146097*R+36524*h+1461*f+365*o:=by
 unfold ahead;rw[Int.add_sub_cancel,kw (d:=4) (q:=100*R+25*h+f) (r:=o) (by clear h0 h3 f0 f1 o0 o3;omega) o0 'o',
  kw (d:=100) (q:=4*R+h) (r:=f*4+o) (by clear h0 h3 f0 f1 o0 o3;omega) (by clear h0 h3;omega) (by clear h0 h3;omega),
  kw (d:=400) (q:=R) (r:=h*100+f*4+o) (by clear h0 h3 f0 f1 o0 o3;omega) 'o' 'o']
 clear h0 h3 f0 f1 o0 o3;omega
theorem zmq(R h f:Int):146097*R+36524*h+1461*f+1460<146097*R+36524*h+1461*f+365*3+365+1:=by omega
theorem yearOf_spec{n:Int}(h0:0<=n)(h1:n<=3652058):1<=yearOf n/\yearOf n<=9999/\ahead (yearOf n)<=n/\n<ahead (yearOf n)+365+lp (yearOf n):=by
 have a0:=JM n (by decide:(146097:Int)≠0);have a1:=JK n (by decide:(0:Int)<146097);have en:=Int.emod_add_mul_ediv n 146097;obtain⟨H,eh⟩: ∃h,h=min (n % 146097 / 36524) 3:=⟨_,rfl⟩
 obtain⟨b,eb⟩: ∃b,b=n % 146097 - H*36524:=⟨_,rfl⟩
 obtain⟨o,eo⟩: ∃o,o=min (b % 1461 / 365) 3:=⟨_,rfl⟩
 have ey:yearOf n=n / 146097*400+H*100+b / 1461*4+o+1:=by
  rw[eo,eb,eh];rfl
 obtain⟨p1,p2,p3,p4,p5⟩:=zmN a0 a1 eh eb;obtain⟨r1,r2,r3,r4,r5⟩:=zmO p3 p4 rfl rfl;obtain⟨t1,t2,t3,t4⟩:=zmP r3 eo;rw[ey,zkD p1 p2 r1 r2 t1 t2];clear ey eo eh;generalize n / 146097=R at*;generalize n % 146097=a at*;generalize b / 1461=f at*;generalize b % 1461=c at*;have R0:0<=R:=by clear p1 p2 p3 p4 p5 r1 r2 r3 r4 r5 t1 t2 t3 t4 eb;omega
 have R1:R<=24:=by clear p1 p2 p3 p4 p5 r1 r2 r3 r4 r5 t1 t2 t3 t4 eb;omega
 have e2:n=146097*R+36524*H+1461*f+c:=by clear p1 p2 p3 p4 p5 r1 r2 r3 r4 t1 t2 t3 t4;omega
 clear h0 a0 a1 en eb p3 p4;have l:=(lp_01 (R*400+H*100+f*4+o+1)).1;refine⟨by clear h1 e2 t3 t4 r5 p5 l R1 p2 r2 t2 r3 r4;omega,by clear R0 p1 r1 t1 l t4 p5 r5 r3 r4;omega,by rw[e2];exact Int.add_le_add_left t3 _,?_⟩;clear h1;by_cases z:o<3
 ·have:=t4 z;clear t4 p5 p1 p2 r1 r2;omega
 ·by_cases z2:c<1460
  ·clear t4 p5 p1 p2 r1 r2;omega
  ·obtain rfl:o=3:=Int.le_antisymm t2 (Int.not_lt.mp z);have c0:c=1460:=by clear p5 e2 r5 t3 t4;omega
   by_cases z3:f<24
   ·rw[zmp r1 z3,e2,c0];exact zmq R H f
   ·obtain rfl:f=24:=Int.le_antisymm r2 (Int.not_lt.mp z3);obtain rfl:H=3:=by
     rcases Int.lt_or_le H 3 with d|d
     ·have:=p5 d;clear p5 t4;omega
     ·exact Int.le_antisymm p2 d
    rw[zlG,e2,c0];exact zmq R 3 24
theorem zeR{y r:Int}(h0:0<=r): ∀k:Nat,k<13->r<cum y ((k:Int)+1)-> ∃m,1<=m/\m<=12/\cum y m<=r/\r<cum y m+dim y m
 |0,_,h=>by
  have e:cum y (((0:Nat):Int)+1)=0:=rfl;omega
 |k+1,hk,h=>by
  by_cases c:r<cum y ((k:Int)+1)
  ·exact zeR h0 k 'o' c
  ·have s:=cum_succ (y:=y) (m:=(k:Int)+1) 'o' 'o';have e:((k+1:Nat):Int)+1=(k:Int)+1+1:=by omega
   rw[e,s] at h;exact⟨(k:Int)+1,'o','o','o',h⟩
theorem zgq(h0:0<=r)(h1:r<365+lp y): ∃m,1<=m/\m<=12/\cum y m<=r/\r<cum y m+dim y m:=
 zeR h0 12 'd' (by
                  have e:cum y (((12:Nat):Int)+1)=365+lp y:=cum_13 y;omega)
theorem date_exists{n:Int}(h0:0<=n)(h1:n<=3652058): ∃y m d,Valid y m d/\num y m d=n:=by
 obtain⟨a,b,c,d⟩:=yearOf_spec h0 h1;obtain⟨m,m1,m2,m3,m4⟩:=zgq (y:=yearOf n) (r:=n - ahead (yearOf n)) 'o' 'o';exact⟨yearOf n,m,n - ahead (yearOf n) - cum (yearOf n) m+1,⟨a,b,m1,m2,'o','o'⟩,by unfold num;omega⟩
end Cal
namespace Cal
end Cal
namespace Cal
def MonOk(y m k:Int):Prop:=1<=(y*12+m - 1+k) / 12/\(y*12+m - 1+k) / 12<=9999
def monY(y m k:Int):Int:=(y*12+m - 1+k) / 12
def monM(y m k:Int):Int:=(y*12+m - 1+k) % 12+1
def monD(y m d k:Int):Int:=if dim (monY y m k) (monM y m k)<d then dim (monY y m k) (monM y m k) else d
theorem mon_valid{y m d k:Int}(h:Valid y m d)(g:MonOk y m k):Valid (monY y m k) (monM y m k) (monD y m d k):=by
 obtain⟨_,_,_,_,h5,h6⟩:=h;obtain⟨g1,g2⟩:=g;have b:=zft (monY y m k) (monM y m k);refine⟨g1,g2,by unfold monM;omega,by unfold monM;omega,?_,?_⟩
 ·unfold monD;split<;>omega
 ·unfold monD;split<;>omega
end Cal
namespace Cal
variable{y m d n j f c:Int}{dy:Bool}
theorem zlH{z k e:Int}(h:Valid y m d)(g:Valid z k e)(q:y*12+m<z*12+k):num y m d<num z k e:=by
 have a:=in_year h;have b:=in_year g;obtain⟨h1,h2,h3,h4,h5,h6⟩:=h;obtain⟨g1,g2,g3,g4,g5,g6⟩:=g;unfold num;by_cases c:y<z
 ·have:=vY c;omega
 ·obtain rfl:y=z:=by omega
  have:=cum_mono (y:=y) h3 (show m<k by omega) 'o';omega
theorem zkE(h:Valid y m d)(g:num y m d<=3500000):y<=9600:=by
 have a:=in_year h;unfold num at g;unfold ahead at g;omega
theorem mon_ok{k:Int}(h:Valid y m d)(g:num y m d<=3500000)(k0:0<=k)(k1:k<=720):MonOk y m k:=by
 have:=zkE h g;obtain⟨h1,h2,h3,h4,h5,h6⟩:=h;exact⟨'o','o'⟩
open Classical in
noncomputable def mon(n k:Int):Int:=
 if h: ∃p:Int×Int×Int,Valid p.1 p.2.1 p.2.2/\num p.1 p.2.1 p.2.2=n then
  num (monY (choose h).1 (choose h).2.1 k) (monM (choose h).1 (choose h).2.1 k) (monD (choose h).1 (choose h).2.1 (choose h).2.2 k) else 0
theorem mon_eq{k:Int}(h:Valid y m d):mon (num y m d) k=num (monY y m k) (monM y m k) (monD y m d k):=by
 have ex: ∃p:Int×Int×Int,Valid p.1 p.2.1 p.2.2/\num p.1 p.2.1 p.2.2=num y m d:=⟨(y,m,d),h,rfl⟩
 unfold mon;rw[dif_pos ex];obtain⟨v,e⟩:=Classical.choose_spec ex;obtain⟨e1,e2,e3⟩:=num_inj v h e;rw[e1,e2,e3]
theorem zjB(h0:0<=n)(h1:n<=3652058):mon n 0=n:=by
 obtain⟨y,m,d,va,rfl⟩:=date_exists h0 h1;rw[mon_eq va];obtain⟨v1,v2,v3,v4,v5,v6⟩:=id va;have e1:monY y m 0=y:=by unfold monY;omega
 have e2:monM y m 0=m:=by unfold monM;omega
 have e3:monD y m d 0=d:=by unfold monD;rw[e1,e2,Jf 'o']
 rw[e1,e2,e3]
theorem zhp{k:Int}(h0:0<=n)(h1:n<=3500000)(k0:0<=k)(k1:k<=720):0<=mon n k/\mon n k<=3652058:=by
 obtain⟨y,m,d,va,rfl⟩:=date_exists h0 'o';rw[mon_eq va];exact num_range (mon_valid va (mon_ok va h1 k0 k1))
theorem zlI{k:Int}(h0:0<=n)(h1:n<=3500000)(k0:0<=k)(kj:k<j)(j1:j<=720):mon n k<mon n j:=by
 obtain⟨y,m,d,va,rfl⟩:=date_exists h0 'o';rw[mon_eq va,mon_eq va];refine zlH (mon_valid va (mon_ok va h1 k0 'o')) (mon_valid va (mon_ok va h1 'o' j1)) ?_;unfold monY monM;omega
noncomputable def beg(f:Int)(dy:Bool)(c k:Int):Int:=if dy=true then f+k*c else mon f (k*c)
def CycOk(dy:Bool)(c:Int):Prop:=1<=c/\c<=if dy=true then 400 else 12
theorem beg_zero(h0:0<=f)(h1:f<=3500000):beg f dy c 0=f:=by
 unfold beg;rw[Int.zero_mul];split
 ·omega
 ·exact zjB h0 'o'
theorem mul_bound{k:Int}(c0:1<=c)(c1:c<=12)(k0:0<=k)(k1:k<=60):0<=k*c/\k*c<=720:=by
 constructor
 ·exact Int.mul_nonneg k0 'o'
 ·have:=Int.mul_le_mul k1 c1 'o' 'o';omega
theorem beg_lt{k:Int}(h0:0<=f)(h1:f<=3500000)(hc:CycOk dy c)(k0:0<=k)(kj:k<j)(j1:j<=60):beg f dy c k<beg f dy c j:=by
 obtain⟨c0,c1⟩:=hc;have m:=Int.mul_lt_mul_of_pos_right kj (show 0<c by omega);unfold beg;cases dy with
 |true=>rw[Jg rfl,Jg rfl];omega
 |false=>
  rw[Jf 'd'] at c1;rw[Jf 'd',Jf 'd'];exact zlI h0 h1 (mul_bound c0 c1 k0 'o').1 m (mul_bound c0 c1 'o' j1).2
theorem beg_range{k:Int}(h0:0<=f)(h1:f<=3500000)(hc:CycOk dy c)(k0:0<=k)(k1:k<=60):0<=beg f dy c k/\beg f dy c k<=3652058:=by
 obtain⟨c0,c1⟩:=hc;unfold beg;cases dy with
 |true=>
  rw[Jg rfl] at c1;rw[Jg rfl];have a:=Int.mul_nonneg k0 (show 0<=c by omega);have b:=Int.mul_le_mul k1 c1 'o' 'o';omega
 |false=>
  rw[Jf 'd'] at c1;rw[Jf 'd'];obtain⟨m0,m1⟩:=mul_bound c0 c1 k0 k1;exact zhp h0 h1 m0 m1
theorem dims_sum(y:Int): ∀n:Nat,n<=12->((List.range n).map λ(i:Nat)=>dim y (1+(i:Int))).sum=cum y (1+(n:Int))
 |0,_=>by
  show (0:Int)=cum y (1+((0:Nat):Int));rw[show (1:Int)+((0:Nat):Int)=1 from rfl,cum_one]
 |n+1,h=>by
  rw[JP,Jd,List.sum_append,dims_sum y n 'o'];have s:=cum_succ (y:=y) (m:=1+(n:Int)) 'o' 'o';have e:(1:Int)+((n+1:Nat):Int)=1+(n:Int)+1:=by omega
  rw[e,s];simp
theorem year_one{z:Int}(h:Valid y m d)(h1:ahead z<=num y m d)(h2:num y m d<ahead (z+1)):z=y:=by
 have a:=in_year h;have s:=ahead_succ y;have e:num y m d=ahead y+(cum y m+d - 1):=by unfold num;omega
 rcases Int.lt_trichotomy z y with c|c|c
 ·have:ahead (z+1)<=ahead y:=by
   by_cases q:z+1=y
   ·rw[q];omega
   ·have l:=lp_01 (z+1)
    have:=vY (y:=z+1) (z:=y) 'o';omega
  omega
 ·exact c
 ·have:ahead (y+1)<=ahead z:=by
   by_cases q:y+1=z
   ·rw[q];omega
   ·have l:=lp_01 (y+1)
    have:=vY (y:=y+1) (z:=z) 'o';omega
  omega
theorem zlJ(y m:Int):cum y m<=366:=by
 have l:=lp_01 y;unfold cum;repeat' split
 all_goals omega
theorem num_small(y1:1<=y)(y2:y<=9550)(d1:1<=d)(d2:d<=31):0<=num y m d/\num y m d<=3500000:=by
 have a:=zlJ y m;have b:=zfu y m;unfold num ahead;omega
theorem cyc_days(a:1<=c)(b:c<=400):CycOk true c:=⟨a,by rw[Jg rfl];exact b⟩
theorem cyc_months(a:1<=c)(b:c<=12):CycOk false c:=⟨a,by rw[Jf 'd'];exact b⟩
theorem beg_le{k:Int}(h0:0<=f)(h1:f<=3500000)(hc:CycOk dy c)(k0:0<=k)(kj:k<=j)(j1:j<=60):beg f dy c k<=beg f dy c j:=by
 by_cases e:k=j
 ·rw[e];exact Jz _
 ·exact Int.le_of_lt (beg_lt h0 h1 hc k0 'o' j1)
theorem beg_ge{k:Int}(h0:0<=f)(h1:f<=3500000)(hc:CycOk dy c)(k0:0<=k)(k1:k<=60):f<=beg f dy c k:=by
 have:=beg_le h0 h1 hc (Jz 0) k0 k1;rw[beg_zero h0 h1] at this;exact this
theorem beg_one{k:Int}(h0:0<=f)(h1:f<=3500000)(hc:CycOk dy c)(k0:0<=k)(k1:k<60)(j0:0<=j)(j1:j<60)(a:beg f dy c k<=d)(b:d<beg f dy c (k+1))(a':beg f dy c j<=d)(b':d<beg f dy c (j+1)):k=j:=by
 rcases Int.lt_trichotomy k j with q|q|q
 ·have:=beg_le (k:=k+1) (j:=j) h0 h1 hc 'o' 'o' 'o';omega
 ·exact q
 ·have:=beg_le (k:=j+1) (j:=k) h0 h1 hc 'o' 'o' 'o';omega
end Cal
namespace L2
open PySem
variable{d:D}{G:Int->List D}{r:Row}{H H':Hp}{α β:Type}{i:Nat}{es:List (Int×Ch)}
abbrev Rt:=Nat×Int×Int×D
def Bst(rs:List Rt)(day:Int)(kd:Nat):Option Rt->Prop
 |none=> ∀t∈rs,t.1=kd->day<t.2.1
 |some t=>t∈rs/\t.1=kd/\t.2.1<=day/\ ∀u∈rs,u.1=kd->u.2.1<=day->u.2.2.1<=t.2.2.1
section
variable {rs rs':List Rt} {day:Int} {kd:Nat} {o o':Option Rt} {r t:Rt}
theorem Bst.one(inj: ∀t∈rs,∀u∈rs,t.2.2.1=u.2.2.1->t=u)(m: ∀t,t∈rs'↔t∈rs)(h:Bst rs day kd o)(h':Bst rs' day kd o'):o=o':=by
 match o,o',h,h' with
 |none,none,_,_=>rfl
 |none,some t,h,h'=>have:=h t ((m t).mp h'.1) h'.2.1;have:=h'.2.2.1;omega
 |some t,none,h,h'=>have:=h' t ((m t).mpr h.1) h.2.1;have:=h.2.2.1;omega
 |some t,some u,h,h'=>
  have a:=h.2.2.2 u ((m u).mp h'.1) h'.2.1 h'.2.2.1;have b:=h'.2.2.2 t ((m t).mpr h.1) h.2.1 h.2.2.1;rw[inj t h.1 u ((m u).mp h'.1) 'o']
theorem Bst.skip(h:Bst rs day kd o)(n:r.1=kd->day<r.2.1):Bst (rs++ [r]) day kd o:=by
 match o,h with
 |none,h=>
  intro t ht e;rcases Jr.mp ht with z|z
  ·exact h t z e
  ·rw[Jm.mp z] at e ⊢;exact n e
 |some t,h=>
  refine⟨List.mem_append_left _ h.1,h.2.1,h.2.2.1,λu hu e l=> ?_⟩;rcases Jr.mp hu with z|z
  ·exact h.2.2.2 u z e l
  ·rw[Jm.mp z] at e l;have:=n e;omega
theorem Bst.last(h:Bst rs day kd o)(e:r.1=kd)(l:r.2.1<=day)(b: ∀t,o=some t->t.2.2.1<=r.2.2.1):Bst (rs++ [r]) day kd (some r):=by
 refine⟨List.mem_append_right _ Jq,e,l,λu hu eu lu=> ?_⟩;rcases Jr.mp hu with z|z
 ·match o,h with
  |none,h=>have:=h u z eu;omega
  |some t,h=>
   have a:=h.2.2.2 u z eu lu
   have:=b t rfl;omega
 ·rw[Jm.mp z];exact Jz _
theorem Bst.more(h:Bst rs day kd o)(s: ∀t∈rs,t∈rs')(n: ∀t∈rs',t∉rs->day<t.2.1):Bst rs' day kd o:=by
 match o,h with
 |none,h=>
  intro t ht e;by_cases z:t∈rs
  ·exact h t z e
  ·exact n t ht z
 |some t,h=>
  refine⟨s t h.1,h.2.1,h.2.2.1,λu hu e l=> ?_⟩;by_cases z:u∈rs
  ·exact h.2.2.2 u z e l
  ·have:=n u hu z;omega
end
def stV(o:Option Rt)(d:D):D:=(o.map λt=>t.2.2.2).getD d
def chK:Ch->Nat
 | .plan _ _=>0
 | .seats _ _=>1
 |_=>2
def zE:Ch->Int
 | .plan d _=>d
 | .seats d _=>d
 | .word _ d=>d
 |_=>0
def vZ:Nat->List Nat
 |0=> [104,101,108,100]
 |1=> [111,110]
 |_=> [111,102,102]
def v7:Ch->D
 | .plan _ nm=> .str nm
 | .seats _ n=> .int n
 | .word w _=> .str (vZ w)
 |_=> .non
def zjC:Ch->Bool
 | .word w _=>decide (3<=w)
 |_=>false
noncomputable def nb(f:Int)(dy:Bool)(c d:Int):Int:=open Classical in if h: ∃k:Int,0<=k/\k<60/\Cal.beg f dy c k<=d/\d<Cal.beg f dy c (k+1) then Cal.beg f dy c (h.choose+1) else 0
theorem zk3{f c d k:Int}{dy:Bool}(f0:0<=f)(f1:f<=3500000)(hc:Cal.CycOk dy c)(k0:0<=k)(k1:k<60)(a:Cal.beg f dy c k<=d)(b:d<Cal.beg f dy c (k+1)):nb f dy c d=Cal.beg f dy c (k+1):=by
 unfold nb;have h: ∃k:Int,0<=k/\k<60/\Cal.beg f dy c k<=d/\d<Cal.beg f dy c (k+1):=⟨k,k0,k1,a,b⟩
 rw[dif_pos h];obtain⟨x1,x2,x3,x4⟩:=h.choose_spec;rw[Cal.beg_one f0 f1 hc x1 x2 k0 k1 x3 x4 a b]
noncomputable def cntF(f:Int)(dy:Bool)(c:Int)(ch:Ch):Int:=if zjC ch=true then nb f dy c (zE ch) else zE ch
noncomputable def rtF(f:Int)(dy:Bool)(c:Int)(n:Int)(ch:Ch):Rt:=(chK ch,cntF f dy c ch,(cntF f dy c ch*4000000+zE ch)*64+n,v7 ch)
section
variable {rs rs':List Rt} {day d2:Int} {kd:Nat} {o:Option Rt}
theorem Bst.mem(m: ∀t,t∈rs'↔t∈rs)(h:Bst rs day kd o):Bst rs' day kd o:=by
 match o,h with
 |none,h=>exact λt ht=>h t ((m t).mp ht)
 |some t,h=>exact⟨(m t).mpr h.1,h.2.1,h.2.2.1,λu hu=>h.2.2.2 u ((m u).mp hu)⟩
theorem Bst.on(h:Bst rs day kd o)(le:day<=d2)(n: ∀t∈rs,t.2.1<=day\/d2<t.2.1):Bst rs d2 kd o:=by
 match o,h with
 |none,h=>intro t ht e;have:=h t ht e;rcases n t ht with z|z<;>omega
 |some t,h=>exact⟨h.1,h.2.1,by have:=h.2.2.1;omega,λu hu e l=>h.2.2.2 u hu e (by rcases n u hu with z|z<;>omega)⟩
end
abbrev Rw:=Int×Int×List D
def Rws(G:Int->List D):Int->List Rw->Int->Prop
 |b, [],e=>b=e
 |b,x::r,e=>x.1=b/\b<x.2.1/\(∀d,b<=d->d<x.2.1->G d=x.2.2)/\(∀y,r.head? =some y->x.2.2≠y.2.2)/\Rws G x.2.1 r e
theorem Rws.le{G:Int->List D}: ∀{xs:List Rw} {b e:Int},Rws G b xs e->b<=e
 | [],_,_,h=>Int.le_of_eq h
 |x::r,b,e,h=>by have:=Rws.le h.2.2.2.2;have:=h.2.1;omega
theorem Rws.snoc{G:Int->List D}{z:Rw}: ∀{xs:List Rw} {b o:Int},Rws G b xs o->z.1=o->o<z.2.1->(∀d,o<=d->d<z.2.1->G d=z.2.2)->(∀x,xs.getLast? =some x->x.2.2≠z.2.2)->Rws G b (xs++ [z]) z.2.1
 | [],b,o,h,h1,h2,h3,_=>by
  obtain rfl:b=o:=h;exact⟨h1,h2,h3,(λ_ h=>nomatch h),rfl⟩
 |x::r,b,o,h,h1,h2,h3,h4=>by
  refine⟨h.1,h.2.1,h.2.2.1,λy hy=> ?_,Rws.snoc h.2.2.2.2 h1 h2 h3 λy hy=>h4 y ?_⟩
  ·cases r with
   |nil=>cases hy;exact h4 x rfl
   |cons y' r'=>exact h.2.2.2.1 y hy
  ·cases r with
   |nil=>cases hy
   |cons a b=>rw[List.getLast?_cons_cons];exact hy
theorem Rws.cut{x y:Rw}{r s:List Rw}{b e:Int}(h:Rws G b (x::r) e)(g:Rws G b (y::s) e)(st:x.2.2=y.2.2)(z:x.2.1<y.2.1):False:=by
 have g1:=Rws.le g.2.2.2.2;have hx:=h.2.2.2.2;cases r with
 |nil=>have:x.2.1=e:=hx;omega
 |cons w r'=>
  have n:=h.2.2.2.1 w rfl;have e1:=hx.2.2.1 x.2.1 (Jz _) hx.2.1;have e2:=g.2.2.1 x.2.1 (by have:=h.2.1;omega) z;exact n (by rw[st,<-e2,e1])
theorem Rws.one{G:Int->List D}: ∀{xs ys:List Rw} {b e:Int},Rws G b xs e->Rws G b ys e->xs=ys
 | [], [],_,_,_,_=>rfl
 | [],y::s,b,e,h,g=>by have z:b=e:=h;have:=Rws.le g.2.2.2.2;have:=g.2.1;omega
 |x::r, [],b,e,h,g=>by have z:b=e:=g;have:=Rws.le h.2.2.2.2;have:=h.2.1;omega
 |(x0,x1,x2)::r,(y0,y1,y2)::s,b,e,h,g=>by
  have st:x2=y2:=(h.2.2.1 b (Jz _) h.2.1).symm.trans (g.2.2.1 b (Jz _) g.2.1);have en:x1=y1:=by
   rcases Int.lt_trichotomy x1 y1 with z|z|z
   ·exact(Rws.cut h g st z).elim
   ·exact z
   ·exact(Rws.cut g h st.symm z).elim
  have h0:x0=b:=h.1;have g0:y0=b:=g.1;subst st en h0 g0;rw[Rws.one h.2.2.2.2 g.2.2.2.2]
theorem Rws.in{G:Int->List D}: ∀{zs:List (Addr×Rw)} {b e:Int} {j:Nat} {z:Addr×Rw},zs[j]? =some z->Rws G b (zs.map (·.2)) e->b<=z.2.1/\z.2.1<z.2.2.1/\z.2.2.1<=e
 | [],_,_,_,_,h,_=>by rw[List.getElem?_nil] at h;cases h
 |x::r,b,e,0,_,h,g=>by
  cases h;obtain⟨h1,h2,_,_,h5⟩:=g;have h1':x.2.1=b:=h1;have h2':b<x.2.2.1:=h2;exact⟨'o','o',Rws.le h5⟩
 |x::r,b,e,j+1,z,h,g=>by
  obtain⟨h1,h2,_,_,h5⟩:=g;have h2':b<x.2.2.1:=h2;obtain⟨i1,i2,i3⟩:=Rws.in (zs:=r) (j:=j) h h5;have i1':x.2.2.1<=z.2.1:=i1;exact⟨'o',i2,i3⟩
theorem Rws.next{G:Int->List D}: ∀{xs:List Rw} {b e:Int} {j:Nat} {x y:Rw},Rws G b xs e->xs[j]? =some x->xs[j+1]? =some y->x.2.2≠y.2.2
 | [],_,_,_,_,_,_,h,_=>by rw[List.getElem?_nil] at h;cases h
 |x::r,b,e,0,_,y,h,h1,h2=>by
  cases h1;exact h.2.2.2.1 y (by rw[List.head?_eq_getElem?];exact h2)
 |x::r,b,e,j+1,_,y,h,h1,h2=>Rws.next h.2.2.2.2 h1 h2
def ScD(d:D):Prop:=d= .non\/(∃i,d= .int i)\/ ∃cs,d= .str cs
theorem zmr{K:Fg}{n:Nat}(h:ScD d):Dp K H n d (sv d):=by
 rcases h with rfl|⟨i,rfl⟩|⟨cs,rfl⟩
 ·exact zlu
 ·exact xB
 ·exact xL
def StD(d:List D):Prop:= ∃d0 n wd,ScD d0/\d= [d0, .int n, .str wd]
theorem StD.dp{K:Fg}{n:Nat}{a:Addr}{d:List D}(h:StD d)(e:H a=some (.tup (d.map sv))):Dp K H (n+1) (.tup d) (.ref a):=by
 obtain⟨d0,n,wd,h0,rfl⟩:=h;exact wJ (SqT.of e) ⟨zmr h0,xB,xL,trivial⟩
theorem sc_seq(h:ScD d):vB d=false:=by rcases h with rfl|⟨i,rfl⟩|⟨cs,rfl⟩<;>rfl
theorem zlK{e:D}(h:ScD d)(g:ScD e):qR 0 d e:=by
 unfold qR;exact⟨sc_seq h,sc_seq g⟩
theorem StD.sc{d:List D}(h:StD d): ∀x∈d,ScD x:=by
 obtain⟨d0,n,wd,h0,rfl⟩:=h;intro x hx;simp only[JD,List.not_mem_nil,or_false] at hx;rcases hx with rfl|rfl|rfl
 ·exact h0
 ·exact .inr (.inl ⟨_,rfl⟩)
 ·exact .inr (.inr ⟨_,rfl⟩)
theorem StD.cmp{d e:List D}(h:StD d)(g:StD e):qR 1 (.tup d) (.tup e):=by
 unfold qR;intro j x y hx hy;exact zlK (h.sc x (Ji hx)) (g.sc y (Ji hy))
theorem kx{e:D}(h:ScD d)(g:ScD e):eqb 0 d e=true↔d=e:=by
 rcases h with rfl|⟨i,rfl⟩|⟨cs,rfl⟩<;>rcases g with rfl|⟨j,rfl⟩|⟨cs',rfl⟩<;>unfold eqb<;>simp
theorem StD.eqb{d e:List D}(h:StD d)(g:StD e):eqb 1 (.tup d) (.tup e)=true↔d=e:=by
 obtain⟨d0,n,wd,h0,rfl⟩:=h;obtain⟨e0,m,we,g0,rfl⟩:=g;show (L2.eqb 0 d0 e0 && (L2.eqb 0 (.int n) (.int m) && (L2.eqb 0 (.str wd) (.str we) && true)))=true↔_;rw[Bool.and_eq_true,Bool.and_eq_true,Bool.and_eq_true,kx h0 g0,kx (.inr (.inl ⟨_,rfl⟩)) (.inr (.inl ⟨_,rfl⟩)),kx (.inr (.inr ⟨_,rfl⟩)) (.inr (.inr ⟨_,rfl⟩))];simp
def vG(H:Hp)(z:Addr×Rw):Prop:= ∃s,H z.1=some (.tup [.int z.2.1, .int z.2.2.1, .ref s])/\H s=some (.tup (z.2.2.2.map sv))/\StD z.2.2.2
def v8(H:Hp)(r:Addr)(zs:List (Addr×Rw)):Prop:=H r=some (.lst (zs.map λz=>V.ref z.1))/\ ∀z∈zs,vG H z
theorem vG.same{z:Addr×Rw}(h:vG H z)(s:zj H H'):vG H' z:=let ⟨a,h1,h2,h3⟩:=h;⟨a,s _ _ h1,s _ _ h2,h3⟩
theorem vG.put{z:Addr×Rw}{l:Addr}{xs ys:List V}(h:vG H z)(e:H l=some (.lst xs)):vG (upd H l (.lst ys)) z:=by
 obtain⟨a,h1,h2,h3⟩:=h;refine⟨a,?_,?_,h3⟩
 ·rw[zI (λy=>by rw[y,e] at h1;cases h1)];exact h1
 ·rw[zI (λy=>by rw[y,e] at h2;cases h2)];exact h2
theorem v8.same{H H':Hp}{r:Addr}{zs:List (Addr×Rw)}(h:v8 H r zs)(s:zj H H'):v8 H' r zs:=⟨s _ _ h.1,λz hz=>(h.2 z hz).same s⟩
theorem zj.none{H H':Hp}{a:Addr}(s:zj H H')(h:H' a=none):H a=none:=by
 rcases hh:H a with _|o
 ·rfl
 ·rw[s _ _ hh] at h;cases h
abbrev Row:=Int×Int×Int×Ch
def rLt(r s:Row):Prop:=r.1<s.1\/r.1=s.1/\(r.2.1<s.2.1\/r.2.1=s.2.1/\r.2.2.1<s.2.2.1)
def rc(r:Row):Int×Ch:=(r.1,r.2.2.2)
theorem ky{α:Type}{lt:α->α->Prop}(irr: ∀a b,lt a b-> ¬lt b a): ∀{xs ys:List α},xs.Perm ys->xs.Pairwise lt->ys.Pairwise lt->xs=ys
 | [],ys,p,_,_=>(List.nil_perm.mp p).symm
 |x::xs, [],p,_,_=>absurd p.length_eq (by simp)
 |x::xs,y::ys,p,hx,hy=>by
  obtain⟨x1,x2⟩:=List.pairwise_cons.mp hx;obtain⟨y1,y2⟩:=List.pairwise_cons.mp hy;have e:x=y:=by
   rcases JD.mp (p.mem_iff.mp (Jq ..)) with e|e
   ·exact e
   ·rcases JD.mp (p.mem_iff.mpr (Jq ..)) with e'|e'
    ·exact e'.symm
    ·exact absurd (x1 y e') (irr _ _ (y1 x e))
  subst e;rw[ky irr (List.Perm.cons_inv p) x2 y2]
def qD:Ch->Bool
 | .grant _=>true
 | .back=>true
 |_=>false
theorem kB(c:Ch)(h:qD c=true):zV c=false:=by cases c<;>first|rfl|cases h
theorem zh5(c:Ch):decide (chW c∈ [[103,114,97,110,116], [98,97,99,107]])=qD c:=by
 cases c with
 |plan=>rfl
 |seats=>rfl
 |word w _=>
  match w with
  |0=>rfl
  |1=>rfl
  |2=>rfl
  |n+3=>rfl
 |undo=>rfl
 |grant=>rfl
 |back=>rfl
def ce(z:En):Int×Ch:=(z.2.2.1,z.2.2.2)
def xO(cs:List Ch)(gs:List Int)(i:Nat):Option Row:=match cs[i]? with
 |some c=>if (zV c && !decide ((i:Int)∈gs))=true then some (zE c,0,i,c) else none
 |none=>none
def xm(es:List (Int×Ch))(i:Nat):Option Row:=match es[i]? with
 |some e=>if qD e.2=true then some (e.1,1,i,e.2) else none
 |none=>none
def v9(es:List (Int×Ch))(i:Nat):Option Row:=match xm es i with
 |some r=>some r
 |none=>xO (es.map (·.2)) (z7 (es.map (·.2))) i
def jx(es:List (Int×Ch))(n:Nat):List Row:=(List.range n).filterMap (v9 es)
def uF(es:List (Int×Ch)):List Row:=jx es es.length
theorem zdM{α β:Type}{f g h:α->Option β}(hh: ∀x,(f x=g x/\h x=none)\/(f x=h x/\g x=none)): ∀l:List α,(l.filterMap f).Perm (l.filterMap g++l.filterMap h)
 | []=> .refl _
 |x::l=>by
  have ih:=zdM hh l;rcases hh x with⟨e1,e2⟩|⟨e1,e2⟩
  ·cases q:g x with
   |none=>simp only[List.filterMap_cons,e1,e2,q];exact ih
   |some y=>simp only[List.filterMap_cons,e1,e2,q,List.cons_append];exact ih.cons y
  ·cases q:h x with
   |none=>simp only[List.filterMap_cons,e1,e2,q];exact ih
   |some y=>
    simp only[List.filterMap_cons,e1,e2,q];exact(ih.cons y).trans List.perm_middle.symm
def usR(es:List (Int×Ch)):List Row:=(List.range es.length).filterMap (xO (es.map (·.2)) (z7 (es.map (·.2))))++(List.range es.length).filterMap (xm es)
theorem kC(es:List (Int×Ch)):(uF es).Perm (usR es):=by
 refine zdM (λi=> ?_) _;unfold v9;cases q:xm es i with
 |none=>exact .inl ⟨rfl,rfl⟩
 |some r=>
  refine .inr ⟨rfl,?_⟩;unfold xm at q;unfold xO;rw[Jh];cases e:es[i]? with
  |none=>rw[e] at q;cases q
  |some x=>
   rw[e] at q;dsimp only at q;by_cases o:qD x.2=true
   ·show (if (zV x.2 && _)=true then _ else _)=none;rw[kB _ o,Bool.false_and,Jf 'd']
   ·rw[Jf o] at q;cases q
theorem ua{cs:List Ch}{gs:List Int}(h:xO cs gs i=some r):r.2.1=0/\r.2.2.1=i/\r.1=zE r.2.2.2/\cs[i]? =some r.2.2.2/\zV r.2.2.2=true/\(i:Int)∉gs:=by
 unfold xO at h;cases e:cs[i]? with
 |none=>rw[e] at h;cases h
 |some c=>
  rw[e] at h;dsimp only at h;by_cases o:(zV c && !decide ((i:Int)∈gs))=true
  ·rw[Jg o] at h;cases h;rw[Bool.and_eq_true] at o;exact⟨rfl,rfl,rfl,rfl,o.1,by simpa using o.2⟩
  ·rw[Jf o] at h;cases h
theorem uG(h:xm es i=some r):r.2.1=1/\r.2.2.1=i/\es[i]? =some (rc r)/\qD r.2.2.2=true:=by
 unfold xm at h;cases e:es[i]? with
 |none=>rw[e] at h;cases h
 |some c=>
  rw[e] at h;dsimp only at h;by_cases o:qD c.2=true
  ·rw[Jg o] at h;cases h;exact⟨rfl,rfl,rfl,o⟩
  ·rw[Jf o] at h;cases h
theorem zh7{f:Nat->Option β}{R:β->β->Prop}(hr: ∀i j x y,i<j->f i=some x->f j=some y->R x y)(n:Nat):((List.range n).filterMap f).Pairwise R:=by
 rw[List.pairwise_filterMap];exact List.pairwise_lt_range.imp fun {i j} hij x hx y hy=>hr i j x y hij hx hy
theorem zkF(es:List (Int×Ch)):(usR es).Pairwise λr s=>r.2.1<s.2.1\/r.2.1=s.2.1/\r.2.2.1<s.2.2.1:=by
 unfold usR;rw[List.pairwise_append];refine⟨zh7 (λi j x y hij hx hy=> ?_) _,zh7 (λi j x y hij hx hy=> ?_) _,λx hx y hy=> ?_⟩
 ·have a:=ua hx;have b:=ua hy;exact .inr ⟨'o','o'⟩
 ·have a:=uG hx;have b:=uG hy;exact .inr ⟨'o','o'⟩
 ·obtain⟨i,_,hi⟩:=List.mem_filterMap.mp hx;obtain⟨j,_,hj⟩:=List.mem_filterMap.mp hy;have a:=ua hi;have b:=uG hj;exact .inl 'o'
def uH(es:List (Int×Ch))(so:List Row):Prop:=so.Perm (uF es)/\so.Pairwise rLt
theorem zhs{ix:List Nat}(h:jw ((usR es).map (·.1)) ix):uH es (ix.map λi=>(usR es).getD i (0,0,0, .back)):=by
 obtain⟨h1,h2⟩:=h;rw[Ja] at h1;have kz: ∀i,i<(usR es).length->((usR es).map (·.1)).getD i 0=((usR es).getD i (0,0,0, .back)).1:=λi hi=>by
  rw[Jo,Jh,Jo,Jb hi];rfl
 refine⟨?_,?_⟩
 ·have:=h1.map λi=>(usR es).getD i (0,0,0, .back);rw[uB] at this;exact this.trans (kC es).symm
 ·rw[List.pairwise_map];refine h2.imp_of_mem fun {i j} hi hj hr=> ?_;have li:=List.mem_range.mp (h1.mem_iff.mp hi);have lj:=List.mem_range.mp (h1.mem_iff.mp hj);rw[kz i li,kz j lj] at hr;rcases hr with hr|⟨e,hij⟩
  ·exact .inl hr
  ·refine .inr ⟨e,?_⟩
   have:=List.pairwise_iff_getElem.mp (zkF es) i j li lj hij;rw[Jo,Jb li,Jo,Jb lj];exact this
theorem zkG(h:v9 es i=some r):r.2.2.1=i/\((r.2.1=1/\es[i]? =some (rc r)/\qD r.2.2.2=true)\/(r.2.1=0/\r.1=zE r.2.2.2/\zV r.2.2.2=true/\(es.map (·.2))[i]? =some r.2.2.2/\(i:Int)∉z7 (es.map (·.2)))):=by
 unfold v9 at h;cases q:xm es i with
 |none=>
  rw[q] at h;have a:=ua h;exact⟨a.2.1, .inr ⟨a.1,a.2.2.1,a.2.2.2.2.1,a.2.2.2.1,a.2.2.2.2.2⟩⟩
 |some s=>
  rw[q] at h;cases h;have a:=uG q;exact⟨a.2.1, .inl ⟨a.1,a.2.2.1,a.2.2.2⟩⟩
theorem zgY(cs:List Ch)(gs:List Int): ∀n,((List.range n).filterMap (xO cs gs)).map (λr=>r.2.2.1)=wX cs gs n
 |0=>rfl
 |n+1=>by
  rw[zgR,JP,List.filterMap_append,Jd,zgY cs gs n];congr 1;unfold xO;cases e:cs[n]? with
  |none=>simp [List.filterMap_cons,e,wj]
  |some c=>
   by_cases o:(zV c && !decide ((n:Int)∈gs))=true
   ·rw[Jg (show (wj (some c) && _)=true from o)];simp only[List.filterMap_cons,e,Jg o,List.filterMap_nil,JA,JQ]
   ·rw[Jf (show¬(wj (some c) && _)=true from o)];simp only[List.filterMap_cons,e,Jf o,List.filterMap_nil,JQ]
theorem zfw{cs:List Ch}(ok:xD cs):zX cs=((List.range cs.length).filterMap (xO cs (z7 cs))).map (λr=>r.2.2.1):=by
 rw[zgY]
 have:=(kg cs ok cs.length (Je _)).1;rw[JC] at this;exact this
theorem zf6(es:List (Int×Ch))(n:Nat):(List.range (n+1)).filterMap (xm es)=(List.range n).filterMap (xm es)++(xm es n).toList:=by
 rw[JP,List.filterMap_append];cases q:xm es n<;>simp [List.filterMap_cons,q]
theorem ziF(es:List (Int×Ch))(n:Nat):(jx es n).length<=n:=by
 have:=List.length_filterMap_le (v9 es) (List.range n);rw[JI] at this;exact this
theorem zfx{α β:Type}(f:α->β): ∀(l:List α) (j:Nat),(l.map f).eraseIdx j=(l.eraseIdx j).map f
 | [],_=>rfl
 |_::_,0=>rfl
 |x::l,j+1=>by
  show f x::(l.map f).eraseIdx j=f x::(l.eraseIdx j).map f;rw[zfx f l j]
theorem kD{α:Type}: ∀{l:List α} {j:Nat} {w:α},l[j]? =some w->l.Perm (w::l.eraseIdx j)
 |x::l,0,w,h=>by cases h;exact .refl _
 |x::l,j+1,w,h=>by
  have h':l[j]? =some w:=by simpa using h
  show (x::l).Perm (w::x::l.eraseIdx j);exact((kD h').cons x).trans (.swap w x _)
theorem jy(day:Int)(kd:Nat): ∀rs:List Rt,∃o,Bst rs day kd o
 | []=>⟨none,λt h=>nomatch h⟩
 |r::rs=>by
  obtain⟨o,h⟩:=jy day kd rs;by_cases c:r.1=kd/\r.2.1<=day
  ·match o,h with
   |none,h=>
    refine⟨some r,Jq,c.1,c.2,λu hu e l=> ?_⟩;rcases JD.mp hu with rfl|z
    ·exact Jz _
    ·have:=h u z e;omega
   |some t,h=>
    by_cases le:t.2.2.1<=r.2.2.1
    ·refine⟨some r,Jq,c.1,c.2,λu hu e l=> ?_⟩;rcases JD.mp hu with rfl|z
     ·exact Jz _
     ·have:=h.2.2.2 u z e l;omega
    ·refine⟨some t,Jl _ h.1,h.2.1,h.2.2.1,λu hu e l=> ?_⟩;rcases JD.mp hu with rfl|z
     ·omega
     ·exact h.2.2.2 u z e l
  ·refine⟨o,?_⟩;match o,h with
   |none,h=>
    intro t ht e;rcases JD.mp ht with rfl|z
    ·by_cases l:t.2.1<=day
     ·exact absurd ⟨e,l⟩ c
     ·omega
    ·exact h t z e
   |some t,h=>
    refine⟨Jl _ h.1,h.2.1,h.2.2.1,λu hu e l=> ?_⟩;rcases JD.mp hu with rfl|z
    ·exact absurd ⟨e,l⟩ c
    ·exact h.2.2.2 u z e l
structure Iso (P:List (Rt×Rt)) (rs rs':List Rt):Prop where
 fst: ∀t,t∈rs↔ ∃p∈P,p.1=t
 snd: ∀t,t∈rs'↔ ∃p∈P,p.2=t
 kd: ∀p∈P,p.1.1=p.2.1
 day: ∀p∈P,p.1.2.1=p.2.2.1
 val: ∀p∈P,p.1.2.2.2=p.2.2.2.2
 ord: ∀p∈P,∀q∈P,p.1.2.2.1<=q.1.2.2.1->p.2.2.2.1<=q.2.2.2.1
 inj: ∀t∈rs',∀u∈rs',t.2.2.1=u.2.2.1->t=u
theorem zlL{f:Int}{dy:Bool}{c n m n' m':Int}{x y:Ch}(hn:0<=n/\n<64)(hm:0<=m/\m<64)(hn':0<=n'/\n'<64)(hm':0<=m'/\m'<64)(bx:0<=zE x/\zE x<4000000)(by_:0<=zE y/\zE y<4000000)
  (h:zE x=zE y->n<=m->n'<=m'):(rtF f dy c n x).2.2.1<=(rtF f dy c m y).2.2.1->(rtF f dy c n' x).2.2.1<=(rtF f dy c m' y).2.2.1:=by
 unfold rtF;dsimp only;intro g;by_cases e:zE x=zE y
 ·have h':=h e;by_cases e2:cntF f dy c x=cntF f dy c y
  ·rw[e2,e] at g ⊢;omega
  ·omega
 ·omega
end L2
namespace L2.So
open PySem PySem.W PySem.Calls PyProof.Rows
structure Asks (prog:Program) (w:World) (A:Around) (h:Heap) (ds:List Addr) (vs:List Value) (r:Nat->Int):Prop where
 obj: ∀b∈ds,∃o,h.get? b=some o
 it: ∀i,i<vs.length-> ∃b∈ds,vs.getD i Value.none= .ref b
 fst: ∀h':Heap,(∀b∈ds,h'.get? b=h.get? b)-> ∃fs T,KatTups h' vs fs/\fs.length=vs.length/\(∀v∈fs,Looks (model prog w) h' (typeOf v) T)/\(T==T)=true/\(T !=Value.type "tuple")=true
 ask: ∀s':Shared,(∀b∈ds,s'.heap.get? b=h.get? b)-> ∀(i j:Nat) (Q:Bool->Shared->Prop) (E:Value->Shared->Prop),i<vs.length->j<vs.length->i≠j->Q (decide (r i<r j)) s'->wpAny (model prog w) A (keyLt' (tuples' true) (vs.getD i Value.none) (vs.getD j Value.none)) Q E s'
 inj:Inj vs.length r
section
variable {prog:Program} {w:World} {A:Around} {E:Value->Shared->Prop} {s:Shared} {vs:List Value} {r:Nat->Int} {ds:List Addr}
theorem zht{a:Addr}{n:Nat}{P:PySem.Fin->Shared->Prop}{h0:Heap}(ho:s.heap.get? a=some (seqObj "list" vs.toArray n))(hK:Asks prog w A h0 ds vs r)(h0s: ∀b∈ds,s.heap.get? b=h0.get? b)(hna:a∉ds)(h2:2<=vs.length)(h64:vs.length<64)
  (h: ∀p:Array Nat,Ok vs.length p->Up r p vs.length->P (.done (.ret .none)) {s with heap:=sortedHeap s.heap a vs (List.toArray (p.toList.map λi=>vs.getD i Value.none))}):wpAny (model prog w) A (Builtin.«list.sort» ⟨[.ref a], []⟩) P E s:=by
 obtain⟨e1,g1⟩: ∃e1,(s.heap.update a (Obj.mapSeq λ_=>(#[]:Array Value))).get? a=some (seqObj "list" #[] e1):=⟨_,get?_update_seq ho λ_=> #[]⟩
 obtain⟨h3,hh3⟩: ∃h3,h3=((s.heap.update a (Obj.mapSeq λ_=>(#[]:Array Value))).push (seqObj "tuple" vs.toArray 0)).push (seqObj "list" #[] 0):=⟨_,rfl⟩
 have g3:h3.get? a=some (seqObj "list" #[] e1):=by rw[hh3];exact JX _ (JX _ g1)
 have K3: ∀b∈ds,h3.get? b=h0.get? b:=λb hb=>by
  obtain⟨o,eo⟩:=hK.obj b hb;rw[eo,hh3];refine JX _ (JX _ ?_);rw[Heap.get?_update_ne _ _ _ _ (λz=>hna (by rw[<-z];exact hb)),h0s b hb,eo]
 rw[list_sort_plain];refine JV (listItems_at ho rfl (JV (listUpdate_at ho rfl ?_ (by rw[Jn,sizeLine_eq];omega) (Jv _))));refine JV (seqEpoch_at g1 rfl (JV (wpAny_newTuple ?_ (by show vs.length<=_;rw[sizeLine_eq];omega))));refine JV (wpAny_newList (wpAny_holding ?_) (Jv _));show wpAny (model prog w) A _ P E {s with heap:=((s.heap.update a (Obj.mapSeq λ_=> #[])).push (seqObj "tuple" vs.toArray 0)).push (seqObj "list" #[] 0)};rw[<-hh3];dsimp only;have n2: ¬vs.toArray.size<2:=by rw[Jn];omega
 rw[Jf n2,Jf n2];obtain⟨fs,T,f1,f2,f3,f4,f5⟩:=hK.fst h3 K3;refine JV (kat_kind (s:={s with heap:=h3}) (T:=T) f1 'o' (λv hv=> ?_) f4 ?_)
 ·exact f3 v hv
 rw[f5];refine JV (wpAny_mono (kat_run (Q:=λst' s'=> ∃p:Array Nat,Ok vs.length p/\Up r p vs.length/\arrOf st'=p.map (kas_item (vs.toArray.zip vs.toArray))/\failedOf st'=none/\s'={s with heap:=h3})
  (G:=λp s'=>Ok vs.length p/\Up r p vs.length/\s'={s with heap:=h3}) rfl h2 h64 (λp st' s' a1 a2 a3 a4=>⟨p,a4.1,a4.2.1,a2,a3,a4.2.2⟩) (Ev.wp (λi j C hi hj hn q=> ?_) (λp q=>⟨q.1,q.2,rfl⟩) (sort_ hK.inj 'o'))) ?_ λ_ _ e=>e)
 ·exact hK.ask {s with heap:=h3} K3 i j _ _ hi hj hn q
 rintro⟨⟨⟩,st'⟩ s' ⟨p,a1,a2,a3,a4,rfl⟩;dsimp only;have hout:=kat_snds rfl a3;have hsz:(List.toArray (p.toList.map λi=>vs.getD i Value.none)).size=vs.length:=by rw[Jn,Ja,Jx,a1.size]
 rw[hout];refine JV (seqEpoch_at g3 rfl (JV (listUpdate_at g3 rfl ?_ (Jv _) (JE (Nat.le_of_eq hsz) (by rw[sizeLine_eq];omega)))));rw[a4];simp only[bne_self_eq_false,Js,if_false];refine JW ?_
 have:=h p a1 a2;unfold sortedHeap at this;rw[<-hh3] at this;exact this
theorem sorted_asks{l:Addr}{Q:Value->Shared->Prop}(hl:s.heap.IsList l vs.toArray)(hK:Asks prog w A.in1.in1 s.heap ds vs r)(h2:2<=vs.length)(h64:vs.length<64)
  (h: ∀p:Array Nat,Ok vs.length p->Up r p vs.length->Q (.ref (s.heap.objs.size+1)) {s with heap:=sortedAll s.heap vs (List.toArray (p.toList.map λi=>vs.getD i Value.none))}):wpAny (model prog w) A (call (.builtin "sorted") [.ref l]) Q E s:=by
 obtain⟨h2',hh2⟩: ∃h2',h2'=((s.heap.push (seqObj "list" #[] 0)).update s.heap.objs.size (Obj.mapSeq (· ++vs.toArray))).push (seqObj "list" vs.toArray 0):=⟨_,rfl⟩
 have hsz:((s.heap.push (seqObj "list" #[] 0)).update s.heap.objs.size (Obj.mapSeq (· ++vs.toArray))).objs.size=s.heap.objs.size+1:=by rw[Heap.size_update];exact size_push' ..
 have g2:h2'.get? (s.heap.objs.size+1)=some (seqObj "list" vs.toArray 0):=by rw[hh2,<-hsz];exact JZ _ rfl
 have keep: ∀b o,s.heap.get? b=some o->h2'.get? b=some o:=λb o q=>by
  have hlt:b<s.heap.objs.size:=JY q;rw[hh2];refine JX _ ?_;rw[Heap.get?_update_ne _ _ _ _ (JJ hlt)];exact JX _ q
 refine Calls.call_function_entry kind_sorted plain_sorted entry_sorted (args_sorted1 _) ?_;unfold Builtin.«sorted»;refine JV (m:=checkCount "sorted" 1 1 _) (JW (JV (collect_list hl (JV (wpAny_newList ?_ (by rw[sizeLine_eq];omega))) (by rw[sizeLine_eq];omega))));show wpAny _ _ _ _ _ {s with heap:=((s.heap.push (seqObj "list" #[] 0)).update s.heap.objs.size (Obj.mapSeq (· ++vs.toArray))).push _};rw[hsz,<-hh2];refine JV (wpAny_holding (wpAny_call_entry slot_list_sort ⟨_,g2,rfl⟩ entry_list_sort (zht (s:={s with heap:=h2'}) g2 hK (λb hb=> ?_) (λhb=> ?_) h2 h64 λp a1 a2=>⟨_,rfl,JW ⟨_,rfl,?_⟩⟩) (args_list_sort _)))
 ·obtain⟨o,eo⟩:=hK.obj b hb;rw[eo];exact keep b o eo
 ·obtain⟨o,eo⟩:=hK.obj _ hb;exact absurd (JY eo) (Nat.not_lt.mpr (Nat.le_succ _))
 ·have:=h p a1 a2;unfold sortedAll at this;rw[<-hh2] at this;exact this
end
end L2.So
namespace L2.So
open PySem PySem.W PySem.Calls PyProof.Rows
def tmL:List (List Nat):= [[103,111], [104,111,108,100], [108,97,115,116], [112,108,97,110], [115,101,97,116,115], [115,116,111,112]]
def wr(w:List Nat):Int:=(tmL.idxOf w:Int)
theorem zk4: ∀w∈tmL,∀w'∈tmL,decide ((SL w).cps.toList<(SL w').cps.toList)=decide (wr w<wr w'):=by decide
theorem wr_inj: ∀w∈tmL,∀w'∈tmL,wr w=wr w'->w=w':=by decide
theorem wr_in: ∀w∈tmL,0<=wr w/\wr w<8:=by decide
theorem tm_word{c:Ch}(h:zV c=true):chW c∈tmL:=by
 cases c with
 |plan=>exact(by decide: [112,108,97,110]∈tmL)
 |seats=>exact(by decide: [115,101,97,116,115]∈tmL)
 |word w d=>match w with
  |0=>exact(by decide: [104,111,108,100]∈tmL)
  |1=>exact(by decide: [103,111]∈tmL)
  |2=>exact(by decide: [115,116,111,112]∈tmL)
  |n+3=>exact(by decide: [108,97,115,116]∈tmL)
 |undo=>cases h
 |grant=>cases h
 |back=>cases h
def CT(h:Heap)(v:Value)(w:List Nat)(d:Int):Prop:= ∃ad o xs k t1 t2 rest,v= .ref ad/\h.get? ad=some o/\o.cls= .type "tuple"/\o.data= .seq (List.toArray xs) k/\xs= .str (SL w) t1:: .int d t2::rest
section
variable {prog:Program} {w:World} {A:Around} {E:Value->Shared->Prop} {s:Shared}
theorem ct_lt{v v':Value}{a a':List Nat}{d d':Int}{Q:Bool->Shared->Prop}{R R':Int}(h:CT s.heap v a d)(h':CT s.heap v' a' d')(ha:a∈tmL)(ha':a'∈tmL)(hn: ¬(a=a'/\d=d'))(hR:R<R'↔wr a<wr a'\/a=a'/\d<d')(q:Q (decide (R<R')) s):wpAny (model prog w) A (keyLt' (tuples' true) v v') Q E s:=by
 obtain⟨ad,o,xs,n,t1,t2,rest,rfl,e2,_,e4,rfl⟩:=h;obtain⟨ad',o',xs',n',u1,u2,rest',rfl,f2,_,f4,rfl⟩:=h';refine kat_lt e2 e4 f2 f4 ?_;refine kat_cons (wpAny_eqBool_str (kat_go (λe=>kat_yes ?_) λe=>kat_no ?_))
 ·have ea:a=a':=by have z:=of_decide_eq_true e;rwa[ya] at z
  refine uz (λz=>absurd ⟨ea,z⟩ hn) λz=>kat_one _ _ (PyProof.Rows.lt_int (show Q (decide (d<d')) s from ?_));rw[show (decide (d<d'))=decide (R<R') from decide_eq_decide.mpr (by rw[hR];subst ea;simp)];exact q
 ·have ea:a≠a':=λz=>of_decide_eq_false e (by rw[z]);refine oneLt_str ?_;rw[zk4 a ha a' ha',show (decide (wr a<wr a'))=decide (R<R') from decide_eq_decide.mpr (by rw[hR];simp [ea])];exact q
theorem zjD{p q:Addr}{o o':Obj}{n n':Nat}{a a':Str}{t u:Tok}{rest rest':List Value}{P:PySem.Fin->Shared->Prop}(hp:s.heap.get? p=some o)(dp:o.data= .seq (List.toArray (.str a t::rest)) n)(hq:s.heap.get? q=some o')(tq:s.TypeIs (.ref q) "tuple")(dq:o'.data= .seq (List.toArray (.str a' u::rest')) n')(hc:a≠a')
  (h:P (.done (.ret (.bool (decide (a.cps.toList<a'.cps.toList))))) s):wpAny (model prog w) A (Builtin.«tuple.__lt__» ⟨[.ref p, .ref q], []⟩) P E s:=by
 show wpAny _ _ (isInstance (.ref q) (.type "tuple")>>=_) _ _ s;refine JV (wpAny_isInstance tq isSubtype_tuple_tuple ?_);simp only[Bool.not_true,Js,if_false];refine JV (wpAny_tupleItemsOf hp dp (JV (wpAny_tupleItemsOf hq dq (JV ?_))));show wpAny _ _ (forIn ((Value.str a t,Value.str a' u)::(rest.zip rest')) (none,()) _) _ _ s;rw[List.forIn_cons];refine JV (JV (wpAny_eqBool_str ?_));rw[JO hc,Jg (show (!false)=true from rfl)];exact JV (wpAny_rule (JV (PyProof.Rows.lt_str (JV (JW (JW (JW (JW h))))))))
theorem tups_all{h:Heap}{P:Value->Prop}: ∀{vs:List Value},(∀v∈vs,∃ad o xs k f,v= .ref ad/\h.get? ad=some o/\o.cls= .type "tuple"/\o.data= .seq (List.toArray (f::xs)) k/\P f)-> ∃fs,KatTups h vs fs/\fs.length=vs.length/\ ∀v∈fs,P v
 | [],_=>⟨[],trivial,rfl,λ_ hv=>nomatch hv⟩
 |v::vs,H=>by
  obtain⟨fs,h1,h2,h3⟩:=tups_all λu hu=>H u (.tail _ hu);obtain⟨ad,o,xs,k,f,rfl,e1,e2,e3,e4⟩:=H v (.head _);refine⟨f::fs,KatTups.cons e1 e2 e3 rfl h1,by rw[Jp,Jp,h2],λv hv=> ?_⟩;rcases JD.mp hv with rfl|hv
  ·exact e4
  ·exact h3 v hv
def RwT(h:Heap)(v:Value)(d:Int)(w:List Nat):Prop:= ∃ad o k t1 p xs o2 k2 t2,v= .ref ad/\h.get? ad=some o/\o.cls= .type "tuple"/\o.data= .seq (List.toArray [.int d t1, .ref p]) k/\h.get? p=some o2/\o2.cls= .type "tuple"/\o2.data= .seq (List.toArray (.str (SL w) t2::xs)) k2/\ ∃ys:List V,zB ys xs/\ ∀y∈ys,xJ y=true
theorem rwt_lt{v v':Value}{a a':List Nat}{d d':Int}{Q:Bool->Shared->Prop}{R R':Int}(hu:A.units+2<cLine)(h:RwT s.heap v d a)(h':RwT s.heap v' d' a')(ha:a∈tmL)(ha':a'∈tmL)(hn: ¬(d=d'/\a=a'))(hR:R<R'↔d<d'\/d=d'/\wr a<wr a')(q:Q (decide (R<R')) s):wpAny (model prog w) A (keyLt' (tuples' true) v v') Q E s:=by
 obtain⟨ad,o,n,t1,p,xs,o2,k2,t2,rfl,e1,e2,e3,e4,e5,e6,ys,e7,e8⟩:=h;obtain⟨ad',o',n',u1,p',xs',o2',k2',u2,rfl,f1,f2,f3,f4,f5,f6,ys',f7,f8⟩:=h';refine kat_lt e1 e3 f1 f3 ?_;show KatLex prog w A true _ Q [(.int d t1, .int d' u1),(.ref p, .ref p')] 0 s;refine uz (λz=> ?_) λz=> ?_
 ·have na:a≠a':=λy=>hn ⟨z,y⟩;have pp:p≠p':=λy=>by
   subst y;rw[e4] at f4;cases f4;rw[e6] at f6;injection f6 with f6
   have:=congrArg Array.toList f6;injection this with y1 y2
   injection y1 with y1 y3
   rw[ya] at y1;exact na y1
  have ne0:SeqAt.EqAt A s (.ref p) (.ref p') false:=by
   refine SeqAt.EqAt.of_refs pp ?_;obtain⟨e,he,e0⟩: ∃e:Nat->Bool,(∀j (j1:j<(List.toArray (Value.str (SL a) t2::xs)).size) (j2:j<(List.toArray (Value.str (SL a') u2::xs')).size),SeqAt.EqAt A.in1 s (List.toArray (Value.str (SL a) t2::xs))[j] (List.toArray (Value.str (SL a') u2::xs'))[j] (e j))/\e 0=false:=by
    have g: ∀{a:List Nat} {t:Tok} {xs:List Value} {ys:List V},zB ys xs->(∀y∈ys,xJ y=true)-> ∀j (h:j<(List.toArray (Value.str (SL a) t::xs)).size),zF ((V.str (SL a)::ys).getD j .non) (List.toArray (Value.str (SL a) t::xs))[j]/\xJ ((V.str (SL a)::ys).getD j .non)=true:=fun {a t xs ys} v fl j h=>by
     have vv:zB (V.str (SL a)::ys) (Value.str (SL a) t::xs):= .cons ⟨t,rfl⟩ v;have hl:=vv.length;have hj:j<(Value.str (SL a) t::xs).length:=by simpa using h
     have e2:(V.str (SL a)::ys)[j]? =some ((V.str (SL a)::ys).getD j .non):=by
      rw[Jo,Jb 'o'];rfl
     obtain⟨u,eu,ru⟩:=vv.get e2;rw[Jb hj] at eu;rw[List.getElem_toArray,JU eu];refine⟨ru,?_⟩;rcases JD.mp (Ji e2) with z|z
     ·rw[z];rfl
     ·exact fl _ z
    refine⟨λj=>_,λj j1 j2=>u7 (g e7 e8 j j1).1 (g f7 f8 j j2).1 (g e7 e8 j j1).2 (g f7 f8 j j2).2,?_⟩;show eqV (V.str (SL a)) (V.str (SL a'))=false;simp [eqV,ya,na]
   have fin:=SeqAt.RcAt.tuples (A:=A) (e:=e) (s:=s) ⟨o2,e4,e5,k2,e6⟩ ⟨o2',f4,f5,k2',f6⟩ 'o' he;rw[show ((List.range (min (List.toArray (Value.str (SL a) t2::xs)).size (List.toArray (Value.str (SL a') u2::xs')).size)).all e && (List.toArray (Value.str (SL a) t2::xs)).size==(List.toArray (Value.str (SL a') u2::xs')).size)=false from ?_] at fin
   ·exact fin
   ·rw[Bool.and_eq_false_iff];refine .inl (List.all_eq_false.mpr ⟨0,List.mem_range.mpr (by simp),by rw[e0];decide⟩)
  refine kat_cons (ne0 prog w _ _ (kat_no (kat_one _ _ ?_)));have tq:s.TypeIs (.ref p') "tuple":=⟨_,f4,f5⟩
  refine wpAny_richCompare_same_room (op:= .Lt) ⟨_,e4,e5⟩ tq F.slot_tuple_lt (wpAny_call_entry F.slot_tuple_lt ⟨_,e4,e5⟩ F.entry_tuple_lt (zjD e4 e6 f4 tq f6 (λy=>na (by rwa[ya] at y)) ⟨_,rfl,(λe=>nomatch e),?_⟩) (F.args_tuple_lt_2 _ _)) 'o';rw[zk4 a ha a' ha',show (decide (wr a<wr a'))=decide (R<R') from decide_eq_decide.mpr (by rw[hR];subst z;simp)];exact q
 ·refine oneLt_int ?_;rw[show (decide (d<d'))=decide (R<R') from decide_eq_decide.mpr (by rw[hR];simp [z])];exact q
end
end L2.So
namespace L2
open PySem PySem.Spec PyProof.Rows
variable{X:Cx}{α:Type}
theorem zfy: ∀{as:List Addr} {its:List Value},zB (as.map V.ref) its->its=as.map Value.ref
 | [],_,h=>by cases h;rfl
 |a::as,_,h=>by
  cases h with
  |cons r t=>
   rw[zfy t,show _=Value.ref a from r];rfl
theorem zeu:xb X (.builtin "sorted") (λxs H Q=> ∃(p:Addr) (as:List Addr),xs= [.ref p]/\H p=some (.lst (as.map V.ref))/\as.length<64/\ ∃(ds:List Addr) (r:Nat->Int),(∀pins s σ,Inv X pins σ H s->So.Asks X.prog X.w X.A.in1.in1 s.heap ds (as.map Value.ref) r)/\ ∀ix:List Nat,ix.Perm (List.range as.length)->ix.Pairwise (λi j=>r i<r j)->New H (.lst (ix.map λi=>V.ref (as.getD i 0))) Q):=by
 intro pins s σ H xs us Q I r h;obtain⟨p,as,rfl,hp,h64,ds,rk,hK,q⟩:=h;have hK:=hK pins s σ I;obtain⟨u,rfl,ru⟩:=xR r;obtain rfl:u=Value.ref p:=ru;obtain⟨hln,its,n,rv,pl⟩:=I.hok _ _ hp;have ei:its=as.map Value.ref:=zfy rv;subst ei;have hl:(as.map Value.ref).length=as.length:=Ja ..;have hf:H (s.heap.objs.size+1)=none:=I.hok.fresh (Nat.le_succ _);have fin: ∀ix:List Nat,ix.Perm (List.range as.length)->ix.Pairwise (λi j=>rk i<rk j)-> ∃v H',Inv X pins σ H' {s with heap:=sortedAll s.heap (as.map Value.ref) (List.toArray (ix.map λi=>Value.ref (as.getD i 0)))}/\zF v (.ref (s.heap.objs.size+1))/\Q v H':=λix i1 i2=>by
  obtain⟨ep,at_⟩:=sortedAll_at s.heap (as.map Value.ref) (List.toArray (ix.map λi=>Value.ref (as.getD i 0)));refine⟨.ref (s.heap.objs.size+1),upd H (s.heap.objs.size+1) (.lst (ix.map λi=>V.ref (as.getD i 0))),I.laid (t':=s.toks) (λb u e=>sortedAll_old e) (Nat.le_succ _) ?_,rfl,(q ix i1 i2).at hf⟩;refine⟨?_,ix.map λi=>Value.ref (as.getD i 0),ep,?_,at_⟩
  ·rw[Ja,i1.length_eq,JI];rw[Ja] at hln;exact hln
  ·have:=kh (ix.map λi=>as.getD i 0);rw[List.map_map,List.map_map] at this;exact this
 by_cases h2:2<=as.length
 ·refine So.sorted_asks ⟨_,pl,rfl,_,rfl⟩ hK (by rw[hl];exact h2) (by rw[hl];exact h64) λpm a1 a2=> ?_;rw[hl] at a1 a2;have inp: ∀i∈pm.toList,i<as.length:=λi hi=>by
   have:=a1.toList.mem_iff.mp hi;simpa using this
  have ew:(pm.toList.map λi=>(as.map Value.ref).getD i Value.none)=pm.toList.map λi=>Value.ref (as.getD i 0):=List.map_congr_left λi hi=>by
   rw[Jo,Jh,Jo,Jb (inp i hi)];rfl
  rw[ew];refine fin pm.toList a1.toList ?_;rw[List.pairwise_iff_getElem];intro i j hi hj hij;have pz:pm.toList.length=as.length:=by rw[Jx,a1.size]
  have e:=a2 i j hij 'o';unfold So.fv at e;have g: ∀(k:Nat) (hk:k<pm.toList.length),pm.getD k 0=pm.toList[k]:=λk hk=>by
   have:k<pm.size:=by simpa using hk
   simp [Array.getD,this]
  rw[g i hi,g j hj] at e;exact e
 ·refine So.sorted_short ⟨_,pl,rfl,_,rfl⟩ (by rw[Ja];omega) ?_
  have:=fin (List.range as.length) (.refl _) (by
   rw[List.pairwise_iff_getElem];intro i j hi hj hij;rw[JI] at hi hj;omega)
  rw[show ((List.range as.length).map λi=>Value.ref (as.getD i 0))=as.map Value.ref from by
   have:=congrArg (List.map Value.ref) (uB 0 as);rw[List.map_map] at this;exact this] at this
  exact this
abbrev Cz:=Addr×Ch
def rkC(c:Ch):Int:=So.wr (chW c)*8000000+zE c
def rkW(z:En):Int:=z.2.2.1*8+So.wr (chW z.2.2.2)
theorem vk{c:Ch}(h:zV c=true): ∃r,(chD c).map sv= .str (SL (chW c)):: .int (zE c)::r/\ ∀v∈r,xJ v=true:=by
 cases c with
 |plan d nm=>exact⟨[.str (SL nm)],rfl,λv hv=>by rw[Jm.mp hv];rfl⟩
 |seats d n=>exact⟨[.int n],rfl,λv hv=>by rw[Jm.mp hv];rfl⟩
 |word w d=>exact⟨[],rfl,λv hv=>nomatch hv⟩
 |undo=>cases h
 |grant=>cases h
 |back=>cases h
theorem zh8{R:α->α->Prop}(sy: ∀x y,R x y->R y x){l:List α}(h:l.Pairwise R)(d:α){i j:Nat}(hi:i<l.length)(hj:j<l.length)(hn:i≠j):R (l.getD i d) (l.getD j d):=by
 rw[Jo,Jo,Jb hi,Jb hj];rcases Nat.lt_or_gt_of_ne hn with z|z
 ·exact List.pairwise_iff_getElem.mp h i j hi hj z
 ·exact sy _ _ (List.pairwise_iff_getElem.mp h j i hj hi z)
theorem vm{β:Type}(f:α->β){l:List α}{i:Nat}(d:α)(e:β)(h:i<l.length):(l.map f).getD i e=f (l.getD i d):=by
 rw[Jo,Jh,Jo,Jb h];rfl
theorem kE{β:Type}(f:α->β)(g:Nat->β)(d:α){zs:List α}{ix:List Nat}(hg: ∀i,i<zs.length->g i=f (zs.getD i d))(p:ix.Perm (List.range zs.length)):ix.map g=(ix.map λi=>zs.getD i d).map f/\(ix.map λi=>zs.getD i d).Perm zs:=by
 refine⟨?_,?_⟩
 ·rw[List.map_map];exact List.map_congr_left λi hi=>hg i (List.mem_range.mp (p.mem_iff.mp hi))
 ·have:=p.map λi=>zs.getD i d;rw[uB] at this;exact this
theorem zev:xb X (.builtin "sorted") (λxs H Q=> ∃(p:Addr) (zs:List Cz),xs= [.ref p]/\H p=some (.lst (zs.map λz=>V.ref z.1))/\zs.length<64/\(∀z∈zs,zV z.2=true/\(0<=zE z.2/\zE z.2<4000000)/\SqT X.K H z.1 ((chD z.2).map sv))/\zs.Pairwise (λx y=> ¬(chW x.2=chW y.2/\zE x.2=zE y.2))/\ ∀ws:List Cz,ws.Perm zs->ws.Pairwise (λx y=>rkC x.2<rkC y.2)->New H (.lst (ws.map λz=>V.ref z.1)) Q):=by
 refine zeu.imp λxs H Q ⟨p,zs,e,hp,h64,hz,hn,q⟩=> ?_;have az: ∀i,i<zs.length->((zs.map (·.1)).map Value.ref).getD i Value.none= .ref (zs.getD i (0, .back)).1:=λi hi=>by
  rw[List.map_map];exact vm (λz:Cz=>Value.ref z.1) (0, .back) _ hi
 have ll:((zs.map (·.1)).map Value.ref).length=zs.length:=by rw[Ja,Ja]
 refine⟨p,zs.map (·.1),e,by rw[List.map_map];exact hp,by rw[Ja];exact h64,zs.map (·.1),λi=>rkC (zs.getD i (0, .back)).2,λpins s σ I=> ?_,λix i1 i2=> ?_⟩;rotate_left
 ·rw[Ja] at i1;obtain⟨p1,p2⟩:=kE (λz:Cz=>V.ref z.1) (λi=>V.ref ((zs.map (·.1)).getD i 0)) (0, .back) (λi hi=>by rw[vm (λz:Cz=>z.1) (0, .back) _ hi]) i1;rw[p1];exact q _ p2 (by rw[List.pairwise_map];exact i2)
 have ct: ∀i,i<zs.length-> ∃o,s.heap.get? (zs.getD i (0, .back)).1=some o/\ ∀h':Heap,h'.get? (zs.getD i (0, .back)).1=some o->So.CT h' (.ref (zs.getD i (0, .back)).1) (chW (zs.getD i (0, .back)).2) (zE (zs.getD i (0, .back)).2):=λi hi=>by
  obtain⟨tm,_,hs⟩:=hz _ (wt (d:=(0, .back)) hi);obtain⟨r,er,_⟩:=vk tm;rw[er] at hs;obtain⟨its,rv,⟨o,e1,e2,n,e3⟩,_⟩:=I.tuple hs;obtain⟨u1,us,rfl,⟨t1,rfl⟩,r2⟩:=vh rv;obtain⟨u2,us,rfl,⟨t2,rfl⟩,r3⟩:=vh r2;exact⟨o,e1,λh' e'=>⟨_,o,_,n,t1,t2,us,rfl,e',e2,e3,rfl⟩⟩
 have inb: ∀i,i<zs.length->So.wr (chW (zs.getD i (0, .back)).2)=So.wr (chW (zs.getD i (0, .back)).2)/\chW (zs.getD i (0, .back)).2∈So.tmL/\0<=zE (zs.getD i (0, .back)).2/\zE (zs.getD i (0, .back)).2<4000000:=λi hi=>by
  obtain⟨tm,b,_⟩:=hz _ (wt (d:=(0, .back)) hi);exact⟨rfl,So.tm_word tm,b⟩
 have ne: ∀i j,i<zs.length->j<zs.length->i≠j-> ¬(chW (zs.getD i (0, .back)).2=chW (zs.getD j (0, .back)).2/\zE (zs.getD i (0, .back)).2=zE (zs.getD j (0, .back)).2):=λi j hi hj hij=>zh8 (λx y h z=>h ⟨z.1.symm,z.2.symm⟩) hn (0, .back) hi hj hij;have memd: ∀i,i<zs.length->(zs.getD i (0, .back)).1∈zs.map (·.1):=λi hi=>Jw.mpr ⟨_,wt hi,rfl⟩;have atd: ∀b∈zs.map (·.1),∃i,i<zs.length/\b=(zs.getD i (0, .back)).1:=λb hb=>by
  obtain⟨z,hz,rfl⟩:=Jw.mp hb;obtain⟨i,hi,rfl⟩:=List.mem_iff_getElem.mp hz;exact⟨i,hi,by rw[Jo,Jb hi];rfl⟩
 refine⟨λb hb=> ?_,λi hi=> ?_,λh' hh=> ?_,λs' hh i j Q E hi hj hij q=> ?_,λi j hi hj hij z=> ?_⟩
 ·obtain⟨i,hi,rfl⟩:=atd b hb;obtain⟨o,e,_⟩:=ct i hi;exact⟨o,e⟩
 ·rw[ll] at hi;exact⟨_,memd i hi,az i hi⟩
 ·obtain⟨fs,f1,f2,f3⟩:=So.tups_all (h:=h') (P:=λv=> ∃x t,v=Value.str x t) (vs:=(zs.map (·.1)).map Value.ref) λv hv=>by
   obtain⟨b,hb,rfl⟩:=Jw.mp hv;obtain⟨i,hi,rfl⟩:=atd b hb;obtain⟨o,e1,c1⟩:=ct i hi;obtain⟨ad,o,xs,k,t1,t2,rest,g1,g2,g3,g4,rfl⟩:=c1 h' (by rw[hh _ hb,e1]);exact⟨ad,o,_,k,_,g1,g2,g3,g4,_,_,rfl⟩
  refine⟨fs, .type "str",f1,f2,λv hv=> ?_,'d','d'⟩;obtain⟨x,t,rfl⟩:=f3 v hv;exact .now
 ·rw[ll] at hi hj;rw[az i hi,az j hj];obtain⟨o,e1,c1⟩:=ct i hi;obtain⟨o',e2,c2⟩:=ct j hj;have c1:=c1 s'.heap (by rw[hh _ (memd i hi),e1]);have c2:=c2 s'.heap (by rw[hh _ (memd j hj),e2]);have b1:=inb i hi;have b2:=inb j hj;refine So.ct_lt c1 c2 b1.2.1 b2.2.1 (ne i j hi hj hij) ?_ q;show rkC _<rkC _↔_;unfold rkC;have w:=So.wr_inj _ b1.2.1 _ b2.2.1;constructor
  ·intro z;by_cases y:So.wr (chW (zs.getD i (0, .back)).2)=So.wr (chW (zs.getD j (0, .back)).2)
   ·exact .inr ⟨w y,'o'⟩
   ·exact .inl 'o'
  ·rintro(z|⟨z,y⟩)
   ·omega
   ·rw[z];omega
 ·rw[ll] at hi hj;have b1:=inb i hi;have b2:=inb j hj;have w:=So.wr_inj _ b1.2.1 _ b2.2.1;have z:rkC (zs.getD i (0, .back)).2=rkC (zs.getD j (0, .back)).2:=z;unfold rkC at z;exact ne i j hi hj hij ⟨w 'o','o'⟩
def vAd:V->Addr
 | .ref p=>p
 |_=>0
theorem zew{k:Nat}(hr:Room k X.A):xb X (.builtin "sorted") (λxs H Q=> ∃(p:Addr) (zs:List En),xs= [.ref p]/\H p=some (.lst (zs.map (·.1)))/\zs.length<64/\yX X.K H zs/\(∀z∈zs,zV z.2.2.2=true)/\zs.Pairwise (λx y=> ¬(x.2.2.1=y.2.2.1/\chW x.2.2.2=chW y.2.2.2))/\ ∀ws:List En,ws.Perm zs->ws.Pairwise (λx y=>rkW x<rkW y)->New H (.lst (ws.map (·.1))) Q):=by
 refine zeu.imp λxs H Q ⟨p,zs,e,hp,h64,hE,hz,hn,q⟩=> ?_;have hu:=hr.units;obtain⟨ad,had⟩: ∃ad:En->Addr,∀z∈zs,z.1= .ref (ad z):=⟨λz=>vAd z.1,λz hz=>by
  obtain⟨p,e,_⟩:=hE z hz;show z.1= .ref (vAd z.1);rw[e];rfl⟩
 have me:(zs.map ad).map V.ref=zs.map (·.1):=by
  rw[List.map_map];exact List.map_congr_left λz hz=>(had z hz).symm
 have az: ∀i,i<zs.length->((zs.map ad).map Value.ref).getD i Value.none= .ref (ad (zs.getD i (.non,0,0, .back))):=λi hi=>by
  rw[List.map_map];exact vm (λz:En=>Value.ref (ad z)) (.non,0,0, .back) _ hi
 have ll:((zs.map ad).map Value.ref).length=zs.length:=by rw[Ja,Ja]
 refine⟨p,zs.map ad,e,by rw[me];exact hp,by rw[Ja];exact h64,zs.map ad++zs.map (·.2.1),λi=>rkW (zs.getD i (.non,0,0, .back)),λpins s σ I=> ?_,λix i1 i2=> ?_⟩;rotate_left
 ·rw[Ja] at i1;obtain⟨p1,p2⟩:=kE (λz:En=>z.1) (λi=>V.ref ((zs.map ad).getD i 0)) (.non,0,0, .back) (λi hi=>by rw[vm ad (.non,0,0, .back) _ hi,had _ (wt hi)]) i1;rw[p1];exact q _ p2 (by rw[List.pairwise_map];exact i2)
 have ct: ∀i,i<zs.length-> ∃o o2,s.heap.get? (ad (zs.getD i (.non,0,0, .back)))=some o/\s.heap.get? (zs.getD i (.non,0,0, .back)).2.1=some o2/\ ∀h':Heap,h'.get? (ad (zs.getD i (.non,0,0, .back)))=some o->h'.get? (zs.getD i (.non,0,0, .back)).2.1=some o2->So.RwT h' (.ref (ad (zs.getD i (.non,0,0, .back)))) (zs.getD i (.non,0,0, .back)).2.2.1 (chW (zs.getD i (.non,0,0, .back)).2.2.2):=λi hi=>by
  have hm:=wt (d:=(.non,0,0, .back)) hi;obtain⟨p,ep,h1,h2⟩:=hE _ hm;rw[had _ hm] at ep;cases ep;obtain⟨r,er,hr⟩:=vk (hz _ hm);rw[er] at h2;obtain⟨its,rv,⟨o,e1,e2,n,e3⟩,_⟩:=I.tuple h1;obtain⟨u1,us,rfl,⟨t1,rfl⟩,r2⟩:=vh rv;obtain⟨u2,us,rfl,ru2,r3⟩:=vh r2;obtain rfl:u2=Value.ref _:=ru2;cases r3;obtain⟨its,rv,⟨o2,g1,g2,n2,g3⟩,_⟩:=I.tuple h2;obtain⟨v1,vs,rfl,⟨t2,rfl⟩,r4⟩:=vh rv;exact⟨o,o2,e1,g1,λh' e' e''=>⟨_,o,n,t1,_,_,o2,n2,t2,rfl,e',e2,e3,e'',g2,g3,_,r4,λy hy=>by
   rcases JD.mp hy with rfl|hy
   ·rfl
   ·exact hr y hy⟩⟩
 have inb: ∀i,i<zs.length->chW (zs.getD i (.non,0,0, .back)).2.2.2∈So.tmL:=λi hi=>So.tm_word (hz _ (wt (d:=(.non,0,0, .back)) hi));have ne: ∀i j,i<zs.length->j<zs.length->i≠j-> ¬((zs.getD i (.non,0,0, .back)).2.2.1=(zs.getD j (.non,0,0, .back)).2.2.1/\chW (zs.getD i (.non,0,0, .back)).2.2.2=chW (zs.getD j (.non,0,0, .back)).2.2.2):=λi j hi hj hij=>zh8 (λx y h z=>h ⟨z.1.symm,z.2.symm⟩) hn (.non,0,0, .back) hi hj hij;have memd: ∀i,i<zs.length->ad (zs.getD i (.non,0,0, .back))∈zs.map ad++zs.map (·.2.1)/\(zs.getD i (.non,0,0, .back)).2.1∈zs.map ad++zs.map (·.2.1):=λi hi=>⟨Jr.mpr (.inl (Jw.mpr ⟨_,wt hi,rfl⟩)),Jr.mpr (.inr (Jw.mpr ⟨_,wt hi,rfl⟩))⟩
 have atz: ∀z∈zs,∃i,i<zs.length/\z=zs.getD i (.non,0,0, .back):=λz hz=>by
  obtain⟨i,hi,rfl⟩:=List.mem_iff_getElem.mp hz;exact⟨i,hi,by rw[Jo,Jb hi];rfl⟩
 refine⟨λb hb=> ?_,λi hi=> ?_,λh' hh=> ?_,λs' hh i j Q E hi hj hij q=> ?_,λi j hi hj hij z=> ?_⟩
 ·rcases Jr.mp hb with hb|hb
  ·obtain⟨z,hz,rfl⟩:=Jw.mp hb;obtain⟨i,hi,rfl⟩:=atz z hz;obtain⟨o,o2,e1,e2,_⟩:=ct i hi;exact⟨o,e1⟩
  ·obtain⟨z,hz,rfl⟩:=Jw.mp hb;obtain⟨i,hi,rfl⟩:=atz z hz;obtain⟨o,o2,e1,e2,_⟩:=ct i hi;exact⟨o2,e2⟩
 ·rw[ll] at hi;exact⟨_,(memd i hi).1,az i hi⟩
 ·obtain⟨fs,f1,f2,f3⟩:=So.tups_all (h:=h') (P:=λv=> ∃x t,v=Value.int x t) (vs:=(zs.map ad).map Value.ref) λv hv=>by
   obtain⟨b,hb,rfl⟩:=Jw.mp hv;obtain⟨z,hz,rfl⟩:=Jw.mp hb;obtain⟨i,hi,rfl⟩:=atz z hz;obtain⟨o,o2,e1,e2,c1⟩:=ct i hi;obtain⟨a1,o,k,t1,p,xs,o2,k2,t2,g1,g2,g3,g4,_⟩:=c1 h' (by rw[hh _ (memd i hi).1,e1]) (by rw[hh _ (memd i hi).2,e2]);exact⟨a1,o,_,k,_,g1,g2,g3,g4,_,_,rfl⟩
  refine⟨fs, .type "int",f1,f2,λv hv=> ?_,'d','d'⟩;obtain⟨x,t,rfl⟩:=f3 v hv;exact .now
 ·rw[ll] at hi hj;rw[az i hi,az j hj];obtain⟨o,o2,e1,e2,c1⟩:=ct i hi;obtain⟨o',o2',f1,f2,c2⟩:=ct j hj;have c1:=c1 s'.heap (by rw[hh _ (memd i hi).1,e1]) (by rw[hh _ (memd i hi).2,e2]);have c2:=c2 s'.heap (by rw[hh _ (memd j hj).1,f1]) (by rw[hh _ (memd j hj).2,f2]);have b1:=inb i hi;have b2:=inb j hj;refine So.rwt_lt (by show X.A.units+1+1+2<cLine;omega) c1 c2 b1 b2 (ne i j hi hj hij) ?_ q;show rkW _<rkW _↔_;unfold rkW;have w1:=So.wr_in _ b1;have w2:=So.wr_in _ b2;omega
 ·rw[ll] at hi hj;have b1:=inb i hi;have b2:=inb j hj;have w:=So.wr_inj _ b1 _ b2;have w1:=So.wr_in _ b1;have w2:=So.wr_in _ b2;have z:rkW (zs.getD i (.non,0,0, .back))=rkW (zs.getD j (.non,0,0, .back)):=z;unfold rkW at z;exact ne i j hi hj hij ⟨'o',w 'o'⟩
def y9(ta:TA):TE:=λσ H Q=>ta σ H λvs H1=> ∃j:Int,vs= [.int j]/\(0<=j/\j<=1000)/\New H1 (.lst (rng 0 j.toNat)) Q
theorem zjE{a:Expr}{ta:TA}{p p2 p3 pos:Pos}(hc:X.calm=true)(hgl:Gl X "list")(hml:X.mg "list"=none)(hg:Gl X "range")(hm:X.mg "range"=none)(ha:PA X [a] ta)(hs:starEach [a] X.env= [(false,eval a X.env)]:=by rfl)(he:starEach [.Call (.Name "range" p2) [a] [] p3] X.env= [(false,eval (.Call (.Name "range" p2) [a] [] p3) X.env)]:=by rfl):PE X (.Call (.Name "list" p) [.Call (.Name "range" p2) [a] [] p3] [] pos) (y9 ta):=by
 intro pins s σ H Q I h;refine wpAny_Call_Name_kw (wx I hgl hml u9 ?_ 'd' 'd');refine PyProof.Rows.callWith_type1 ?_ (by rw[he];rfl) rfl;rw[he];refine Calls.spliced_cons ?_;refine Call_ (wx I hg hm boot_range (PyProof.Rows.callWith_type1 (thn (ha p3 pins s σ H _ I h) λus s1 ⟨vs,H1,I1,r1,q1⟩=> ?_) (by rw[hs];rfl) (by rfl)));obtain⟨j,e,⟨j0,j1⟩,q⟩:=q1;subst e;cases r1 with
 |cons r rr=>
  cases rr;obtain⟨t,rfl⟩:=r;refine call_range_1 (Calls.spliced_nil ?_);refine PySem.call_list_range (n:=j.toNat) (I1.ok.hd hc) (IsRange.new ..) (small_one 'd' 'd' 'o' 'o') (by rw[rangeSize_one];split<;>omega) (JE (show j.toNat<=1000 by omega) 'd') λh' tk acc' c' hk hS hacc=> ?_;have hl:(rng 0 j.toNat).length=acc'.toList.length:=by rw[xi,Jx];exact hacc.1.symm
  have hv:zB (rng 0 j.toNat) acc'.toList:=zgT hl λk x u hx hu=>by
   obtain⟨t,rfl⟩:=hacc.2 k u (by rw[<-JG];exact hu);have hk:=(Jc.mp hx).1;rw[xi] at hk;rw[jc hk] at hx;cases hx;exact⟨t,by rw[Int.mul_one]⟩
  have zz:(rng 0 j.toNat).length<=sizeLine:=by rw[xi];exact qC 'o'
  exact⟨.ref _,_,(I1.kept (λb o e=>JX _ e)).laid (t':=tk) hk (Je _) (show ye X.prog X.w _ h' _ (.lst (rng 0 j.toNat)) from⟨zz,acc'.toList,c',hv,by rw[Array.toArray_toList];exact hS⟩),rfl,q.at ((I1.kept (λb o e=>JX _ e)).hok.fresh (Je _))⟩
end L2
namespace K91
open PySem L2
variable{G:Int->List D}{K:Fg}{H H':Hp}{dy:Bool}{c f d cc e day b sb se mo en:Int}{n:Nat}{l a r ll:Addr}{ch:Ch}{ts:List Tm}{α:Type}{zs:List (V×Pl)}{o0 o1 o2:Option Rt}{F:Int->Int}{xs ys:List V}{nms:List (List Nat)}{cs:List Ch}{es:List En}{us:List Cz}{so:List Row}{w:World}{mg:Str->Option Value}
theorem opq{G:Prop}(h: ∀X:Prop,(G->X)->X):G:=h G id
seal L2.PE L2.PA L2.PS L2.PSs L2.PT L2.PW L2.PG L2.PGs L2.PI L2.PO L2.PIf L2.PK L2.PEt L2.PAt L2.PSt L2.PSst L2.PTt L2.PWt L2.PEm L2.PSm L2.PC
def top(i:Nat):Stmt:=PySem.Challenge.pw_paidspan_k91_whole_any_order_of_entering.main.body.getD i (.Pass ⟨0,0,0,0⟩)
abbrev s_00:Stmt:=top 14
abbrev s_01:Stmt:=top 15
abbrev s_02:Stmt:=top 16
abbrev s_03:Stmt:=top 17
abbrev s_04:Stmt:=top 18
abbrev s_05:Stmt:=top 19
abbrev s_06:Stmt:=top 20
abbrev s_07:Stmt:=top 23
abbrev s_08:Stmt:=top 24
abbrev s_09:Stmt:=top 26
abbrev s_0a:Stmt:=top 27
abbrev s_0b:Stmt:=top 29
abbrev s_0c:Stmt:=top 30
abbrev s_0d:Stmt:=top 31
abbrev s_0e:Stmt:=top 32
abbrev s_0f:Stmt:=top 34
abbrev s_0g:Stmt:=top 37
abbrev s_0h:Stmt:=top 38
abbrev s_0i:Stmt:=top 39
abbrev s_0j:Stmt:=top 40
abbrev s_0k:Stmt:=top 41
abbrev s_0l:Stmt:=top 43
abbrev s_0m:Stmt:=top 44
abbrev s_0n:Stmt:=top 45
abbrev s_0o:Stmt:=top 46
abbrev s_0p:Stmt:=top 47
abbrev s_0q:Stmt:=top 48
abbrev s_0r:Stmt:=top 49
abbrev s_0s:Stmt:=top 50
abbrev s_0t:Stmt:=top 55
abbrev s_0u:Stmt:=top 56
abbrev s_0v:Stmt:=top 57
abbrev s_0w:Stmt:=top 58
abbrev s_0x:Stmt:=top 59
abbrev s_0y:Stmt:=top 60
abbrev s_0z:Stmt:=top 61
abbrev s_10:Stmt:=top 62
abbrev s_11:Stmt:=top 63
abbrev s_12:Stmt:=top 65
abbrev s_13:Stmt:=top 67
abbrev s_14:Stmt:=top 68
abbrev s_15:Stmt:=top 69
abbrev s_16:Stmt:=top 70
abbrev s_17:Stmt:=top 71
abbrev s_18:Stmt:=top 72
abbrev s_19:Stmt:=top 73
abbrev s_1a:Stmt:=top 74
abbrev s_1b:Stmt:=top 75
abbrev s_1c:Stmt:=top 76
abbrev s_1d:Stmt:=top 77
abbrev s_1e:Stmt:=top 78
abbrev s_1f:Stmt:=top 79
abbrev s_1g:Stmt:=top 80
abbrev s_1h:Stmt:=top 81
abbrev s_1i:Stmt:=top 82
abbrev s_1j:Stmt:=top 83
abbrev s_1k:Stmt:=top 84
abbrev s_1l:Stmt:=top 85
abbrev s_1m:Stmt:=top 86
abbrev s_1n:Stmt:=top 87
abbrev s_1o:Stmt:=top 88
abbrev s_1p:Stmt:=top 89
abbrev s_1q:Stmt:=top 90
abbrev s_1r:Stmt:=top 91
abbrev s_1s:Stmt:=top 92
theorem st_4:Str.ofString "months"=SL [109,111,110,116,104,115]:=by decide+kernel
theorem st_9:Str.ofString "last"=SL [108,97,115,116]:=by decide+kernel
theorem st_10:Str.ofString "on"=SL [111,110]:=by decide+kernel
theorem st_11:Str.ofString "plan"=SL [112,108,97,110]:=by decide+kernel
theorem st_12:Str.ofString "seats"=SL [115,101,97,116,115]:=by decide+kernel
theorem st_13:Str.ofString "grant"=SL [103,114,97,110,116]:=by decide+kernel
theorem st_14:Str.ofString "undo"=SL [117,110,100,111]:=by decide+kernel
theorem st_15:Str.ofString "back"=SL [98,97,99,107]:=by decide+kernel
theorem st_17:Str.ofString "days"=SL [100,97,121,115]:=by decide+kernel
theorem st_18:Str.ofString "abcdefghijklmnopqrstuvwxyz"=SL [97,98,99,100,101,102,103,104,105,106,107,108,109,110,111,112,113,114,115,116,117,118,119,120,121,122]:=by decide+kernel
theorem st_19:Str.ofString ""=SL []:=by decide+kernel
theorem st_20:Str.ofString "go"=SL [103,111]:=by decide+kernel
theorem st_21:Str.ofString "stop"=SL [115,116,111,112]:=by decide+kernel
theorem st_22:Str.ofString "hold"=SL [104,111,108,100]:=by decide+kernel
theorem st_23:Str.ofString "word"=SL [119,111,114,100]:=by decide+kernel
set_option genInjectivity false in
set_option genSizeOf false in
structure Adr where
 a_00:Addr
 d_00:FuncData
 a_01:Addr
 d_01:FuncData
 a_02:Addr
 d_02:FuncData
 a_03:Addr
 d_03:FuncData
 a_04:Addr
 d_04:FuncData
 a_05:Addr
 d_05:FuncData
 a_06:Addr
 d_06:FuncData
 a_07:Addr
 d_07:FuncData
 a_08:Addr
 d_08:FuncData
 a_09:Addr
 d_09:FuncData
 a_0a:Addr
 d_0a:FuncData
 a_0b:Addr
 d_0b:FuncData
 a_0c:Addr
 d_0c:FuncData
 a_0d:Addr
 d_0d:FuncData
 a_0e:Addr
 d_0e:FuncData
 a_0f:Addr
 d_0f:FuncData
 a_0g:Addr
 d_0g:FuncData
 a_0h:Addr
 d_0h:FuncData
 a_0i:Addr
 d_0i:FuncData
 a_0j:Addr
 d_0j:FuncData
 a_0k:Addr
 d_0k:FuncData
 a_0l:Addr
 d_0l:FuncData
 a_0m:Addr
 d_0m:FuncData
 a_0n:Addr
 d_0n:FuncData
 a_0o:Addr
 d_0o:FuncData
 a_0p:Addr
 d_0p:FuncData
 a_0q:Addr
 d_0q:FuncData
 a_0r:Addr
 d_0r:FuncData
 a_0s:Addr
 d_0s:FuncData
 a_0t:Addr
 d_0t:FuncData
 a_0u:Addr
 d_0u:FuncData
 a_0v:Addr
 d_0v:FuncData
 a_0w:Addr
 d_0w:FuncData
 a_0x:Addr
 d_0x:FuncData
 a_0y:Addr
 d_0y:FuncData
 a_0z:Addr
 d_0z:FuncData
 a_10:Addr
 d_10:FuncData
 a_11:Addr
 d_11:FuncData
 a_12:Addr
 d_12:FuncData
 k_12:Addr
 p_12:Addr
 a_13:Addr
 d_13:FuncData
 a_14:Addr
 d_14:FuncData
 a_15:Addr
 d_15:FuncData
 a_16:Addr
 d_16:FuncData
 a_17:Addr
 d_17:FuncData
 a_18:Addr
 d_18:FuncData
 a_19:Addr
 d_19:FuncData
 a_1a:Addr
 d_1a:FuncData
 a_1b:Addr
 d_1b:FuncData
 a_1c:Addr
 d_1c:FuncData
 a_1d:Addr
 d_1d:FuncData
 a_1e:Addr
 d_1e:FuncData
 a_1f:Addr
 d_1f:FuncData
 a_1g:Addr
 d_1g:FuncData
 a_1h:Addr
 d_1h:FuncData
 a_1i:Addr
 d_1i:FuncData
 a_1j:Addr
 d_1j:FuncData
 a_1k:Addr
 d_1k:FuncData
 a_1l:Addr
 d_1l:FuncData
 a_1m:Addr
 d_1m:FuncData
 a_1n:Addr
 d_1n:FuncData
 a_1o:Addr
 d_1o:FuncData
 a_1p:Addr
 d_1p:FuncData
 a_1q:Addr
 d_1q:FuncData
 a_1r:Addr
 d_1r:FuncData
 a_1s:Addr
 d_1s:FuncData
 k_1s:Addr
 p_1s:Addr
 c_Z0c:Addr
 c_Z07:Addr
 c_Z09:Addr
 c_Z0e:Addr
 c_Z08:Addr
structure Txt (w:World) (K:Fg) (mg:Str->Option Value) (t:Adr):Prop where
 mg_00:mg "has_leap_day"=some (.ref t.a_00)
 fn_00:Fun K "has_leap_day" "has_leap_day" s_00 t.a_00 t.d_00
 b_00:zM K t.d_00 ["year"] []
 mg_01:mg "days_in"=some (.ref t.a_01)
 fn_01:Fun K "days_in" "days_in" s_01 t.a_01 t.d_01
 b_01:zM K t.d_01 ["year","month"] []
 mg_02:mg "days_ahead_of_year"=some (.ref t.a_02)
 fn_02:Fun K "days_ahead_of_year" "days_ahead_of_year" s_02 t.a_02 t.d_02
 b_02:zM K t.d_02 ["year"] []
 mg_03:mg "day_of"=some (.ref t.a_03)
 fn_03:Fun K "day_of" "day_of" s_03 t.a_03 t.d_03
 b_03:zM K t.d_03 ["year","month","day"] []
 mg_04:mg "year_of"=some (.ref t.a_04)
 fn_04:Fun K "year_of" "year_of" s_04 t.a_04 t.d_04
 b_04:zM K t.d_04 ["number"] []
 mg_05:mg "date_of"=some (.ref t.a_05)
 fn_05:Fun K "date_of" "date_of" s_05 t.a_05 t.d_05
 b_05:zM K t.d_05 ["number"] []
 mg_06:mg "months_on"=some (.ref t.a_06)
 fn_06:Fun K "months_on" "months_on" s_06 t.a_06 t.d_06
 b_06:zM K t.d_06 ["number","many"] []
 mg_07:mg "begin_of"=some (.ref t.a_07)
 fn_07:Fun K "begin_of" "begin_of" s_07 t.a_07 t.d_07
 b_07:zM K t.d_07 ["first","cycle","k"] []
 mg_08:mg "span_on"=some (.ref t.a_08)
 fn_08:Fun K "span_on" "span_on" s_08 t.a_08 t.d_08
 b_08:zM K t.d_08 ["first","cycle","day"] []
 mg_09:mg "is_whole"=some (.ref t.a_09)
 fn_09:Fun K "is_whole" "is_whole" s_09 t.a_09 t.d_09
 b_09:zM K t.d_09 ["value"] []
 mg_0a:mg "is_whole_between"=some (.ref t.a_0a)
 fn_0a:Fun K "is_whole_between" "is_whole_between" s_0a t.a_0a t.d_0a
 b_0a:zM K t.d_0a ["value","least","greatest"] []
 mg_0b:mg "end_of_account"=some (.ref t.a_0b)
 fn_0b:Fun K "end_of_account" "end_of_account" s_0b t.a_0b t.d_0b
 b_0b:zM K t.d_0b ["account"] []
 mg_0c:mg "is_day_of"=some (.ref t.a_0c)
 fn_0c:Fun K "is_day_of" "is_day_of" s_0c t.a_0c t.d_0c
 b_0c:zM K t.d_0c ["account","value"] []
 mg_0d:mg "span_days"=some (.ref t.a_0d)
 fn_0d:Fun K "span_days" "span_days" s_0d t.a_0d t.d_0d
 b_0d:zM K t.d_0d ["account","k"] []
 mg_0e:mg "span_with"=some (.ref t.a_0e)
 fn_0e:Fun K "span_with" "span_with" s_0e t.a_0e t.d_0e
 b_0e:zM K t.d_0e ["account","day"] []
 mg_0f:mg "share"=some (.ref t.a_0f)
 fn_0f:Fun K "share" "share" s_0f t.a_0f t.d_0f
 b_0f:zM K t.d_0f ["price","count","begin","end"] []
 mg_0g:mg "counts_from"=some (.ref t.a_0g)
 fn_0g:Fun K "counts_from" "counts_from" s_0g t.a_0g t.d_0g
 b_0g:zM K t.d_0g ["account","change"] []
 mg_0h:mg "in_order"=some (.ref t.a_0h)
 fn_0h:Fun K "in_order" "in_order" s_0h t.a_0h t.d_0h
 b_0h:zM K t.d_0h ["account","terms"] []
 mg_0i:mg "state_by"=some (.ref t.a_0i)
 fn_0i:Fun K "state_by" "state_by" s_0i t.a_0i t.d_0i
 b_0i:zM K t.d_0i ["ordered","day"] []
 mg_0j:mg "state_on"=some (.ref t.a_0j)
 fn_0j:Fun K "state_on" "state_on" s_0j t.a_0j t.d_0j
 b_0j:zM K t.d_0j ["account","terms","day"] []
 mg_0k:mg "stretches_by"=some (.ref t.a_0k)
 fn_0k:Fun K "stretches_by" "stretches_by" s_0k t.a_0k t.d_0k
 b_0k:zM K t.d_0k ["ordered","begin","end"] []
 mg_0l:mg "price_and_count"=some (.ref t.a_0l)
 fn_0l:Fun K "price_and_count" "price_and_count" s_0l t.a_0l t.d_0l
 b_0l:zM K t.d_0l ["account","name"] []
 mg_0m:mg "stretch_cost"=some (.ref t.a_0m)
 fn_0m:Fun K "stretch_cost" "stretch_cost" s_0m t.a_0m t.d_0m
 b_0m:zM K t.d_0m ["account","span","stretch"] []
 mg_0n:mg "day_cost"=some (.ref t.a_0n)
 fn_0n:Fun K "day_cost" "day_cost" s_0n t.a_0n t.d_0n
 b_0n:zM K t.d_0n ["account","terms","day"] []
 mg_0o:mg "lines_ahead"=some (.ref t.a_0o)
 fn_0o:Fun K "lines_ahead" "lines_ahead" s_0o t.a_0o t.d_0o
 b_0o:zM K t.d_0o ["account","ordered","span","day"] []
 mg_0p:mg "cost_of"=some (.ref t.a_0p)
 fn_0p:Fun K "cost_of" "cost_of" s_0p t.a_0p t.d_0p
 b_0p:zM K t.d_0p ["lines"] []
 mg_0q:mg "span_lines"=some (.ref t.a_0q)
 fn_0q:Fun K "span_lines" "span_lines" s_0q t.a_0q t.d_0q
 b_0q:zM K t.d_0q ["account","terms","k"] []
 mg_0r:mg "span_cost"=some (.ref t.a_0r)
 fn_0r:Fun K "span_cost" "span_cost" s_0r t.a_0r t.d_0r
 b_0r:zM K t.d_0r ["account","terms","k"] []
 mg_0s:mg "earned"=some (.ref t.a_0s)
 fn_0s:Fun K "earned" "earned" s_0s t.a_0s t.d_0s
 b_0s:zM K t.d_0s ["account","terms","day"] []
 mg_0t:mg "is_term"=some (.ref t.a_0t)
 fn_0t:Fun K "is_term" "is_term" s_0t t.a_0t t.d_0t
 b_0t:zM K t.d_0t ["change"] []
 mg_0u:mg "names_of"=some (.ref t.a_0u)
 fn_0u:Fun K "names_of" "names_of" s_0u t.a_0u t.d_0u
 b_0u:zM K t.d_0u ["account"] []
 mg_0v:mg "fits_term"=some (.ref t.a_0v)
 fn_0v:Fun K "fits_term" "fits_term" s_0v t.a_0v t.d_0v
 b_0v:zM K t.d_0v ["account","change"] []
 mg_0w:mg "fits_grant"=some (.ref t.a_0w)
 fn_0w:Fun K "fits_grant" "fits_grant" s_0w t.a_0w t.d_0w
 b_0w:zM K t.d_0w ["change"] []
 mg_0x:mg "fits_undo"=some (.ref t.a_0x)
 fn_0x:Fun K "fits_undo" "fits_undo" s_0x t.a_0x t.d_0x
 b_0x:zM K t.d_0x ["change","standing"] []
 mg_0y:mg "fits"=some (.ref t.a_0y)
 fn_0y:Fun K "fits" "fits" s_0y t.a_0y t.d_0y
 b_0y:zM K t.d_0y ["account","ahead","change"] []
 mg_0z:mg "standing_terms"=some (.ref t.a_0z)
 fn_0z:Fun K "standing_terms" "standing_terms" s_0z t.a_0z t.d_0z
 b_0z:zM K t.d_0z ["entries"] []
 mg_10:mg "check_entries"=some (.ref t.a_10)
 fn_10:Fun K "check_entries" "check_entries" s_10 t.a_10 t.d_10
 b_10:zM K t.d_10 ["account","entries"] []
 mg_11:mg "terms_at"=some (.ref t.a_11)
 fn_11:Fun K "terms_at" "terms_at" s_11 t.a_11 t.d_11
 b_11:zM K t.d_11 ["entries","moment"] []
 mg_12:mg "in_time"=some (.ref t.a_12)
 fn_12:Fun K "in_time" "in_time" s_12 t.a_12 t.d_12
 b_12:zM K t.d_12 ["entries"] []
 cc_12:t.d_12.code= .ref t.k_12
 tb_12:TabK K mg "in_time" t.k_12 t.p_12
 mg_13:mg "_law_cell_at"=some (.ref t.a_13)
 fn_13:Fun K "_law_cell_at" "_law_cell_at" s_13 t.a_13 t.d_13
 b_13:zM K t.d_13 ["_law_script","_law_k"] []
 mg_14:mg "_law_mixed"=some (.ref t.a_14)
 fn_14:Fun K "_law_mixed" "_law_mixed" s_14 t.a_14 t.d_14
 b_14:zM K t.d_14 ["_law_cell","_law_k"] []
 mg_15:mg "_law_starts"=some (.ref t.a_15)
 fn_15:Fun K "_law_starts" "_law_starts" s_15 t.a_15 t.d_15
 b_15:zM K t.d_15 ["_law_year"] []
 mg_16:mg "_law_length"=some (.ref t.a_16)
 fn_16:Fun K "_law_length" "_law_length" s_16 t.a_16 t.d_16
 b_16:zM K t.d_16 ["_law_year","_law_month"] []
 mg_17:mg "_law_day"=some (.ref t.a_17)
 fn_17:Fun K "_law_day" "_law_day" s_17 t.a_17 t.d_17
 b_17:zM K t.d_17 ["_law_year","_law_month","_law_day_here"] []
 mg_18:mg "_law_months_on"=some (.ref t.a_18)
 fn_18:Fun K "_law_months_on" "_law_months_on" s_18 t.a_18 t.d_18
 b_18:zM K t.d_18 ["_law_number","_law_many_here"] []
 mg_19:mg "_law_begins"=some (.ref t.a_19)
 fn_19:Fun K "_law_begins" "_law_begins" s_19 t.a_19 t.d_19
 b_19:zM K t.d_19 ["_law_first_here","_law_cycle_here","_law_many_here"] []
 mg_1a:mg "_law_first"=some (.ref t.a_1a)
 fn_1a:Fun K "_law_first" "_law_first" s_1a t.a_1a t.d_1a
 b_1a:zM K t.d_1a ["_law_cell"] []
 mg_1b:mg "_law_cycle"=some (.ref t.a_1b)
 fn_1b:Fun K "_law_cycle" "_law_cycle" s_1b t.a_1b t.d_1b
 b_1b:zM K t.d_1b ["_law_cell"] []
 mg_1c:mg "_law_words"=some (.ref t.a_1c)
 fn_1c:Fun K "_law_words" "_law_words" s_1c t.a_1c t.d_1c
 b_1c:zM K t.d_1c ["_law_cell","_law_many_here"] []
 mg_1d:mg "_law_plans"=some (.ref t.a_1d)
 fn_1d:Fun K "_law_plans" "_law_plans" s_1d t.a_1d t.d_1d
 b_1d:zM K t.d_1d ["_law_cell"] []
 mg_1e:mg "_law_digits"=some (.ref t.a_1e)
 fn_1e:Fun K "_law_digits" "_law_digits" s_1e t.a_1e t.d_1e
 b_1e:zM K t.d_1e ["_law_cell","_law_sizes"] []
 mg_1f:mg "_law_any_plans"=some (.ref t.a_1f)
 fn_1f:Fun K "_law_any_plans" "_law_any_plans" s_1f t.a_1f t.d_1f
 b_1f:zM K t.d_1f ["_law_cell"] []
 mg_1g:mg "_law_account"=some (.ref t.a_1g)
 fn_1g:Fun K "_law_account" "_law_account" s_1g t.a_1g t.d_1g
 b_1g:zM K t.d_1g ["_law_script"] []
 mg_1h:mg "_law_from"=some (.ref t.a_1h)
 fn_1h:Fun K "_law_from" "_law_from" s_1h t.a_1h t.d_1h
 b_1h:zM K t.d_1h ["_law_y","_law_entered","_law_begins_here","_law_spans"] []
 mg_1i:mg "_law_change"=some (.ref t.a_1i)
 fn_1i:Fun K "_law_change" "_law_change" s_1i t.a_1i t.d_1i
 b_1i:zM K t.d_1i ["_law_x","_law_day_here","_law_names","_law_live"] []
 mg_1j:mg "_law_any_change"=some (.ref t.a_1j)
 fn_1j:Fun K "_law_any_change" "_law_any_change" s_1j t.a_1j t.d_1j
 b_1j:zM K t.d_1j ["_law_some","_law_begins_here","_law_names","_law_live"] []
 mg_1k:mg "_law_sort"=some (.ref t.a_1k)
 fn_1k:Fun K "_law_sort" "_law_sort" s_1k t.a_1k t.d_1k
 b_1k:zM K t.d_1k ["_law_change_here"] []
 mg_1l:mg "_law_terms"=some (.ref t.a_1l)
 fn_1l:Fun K "_law_terms" "_law_terms" s_1l t.a_1l t.d_1l
 b_1l:zM K t.d_1l ["_law_cells","_law_head","_law_begins_here","_law_names"] []
 mg_1m:mg "_law_any_terms"=some (.ref t.a_1m)
 fn_1m:Fun K "_law_any_terms" "_law_any_terms" s_1m t.a_1m t.d_1m
 b_1m:zM K t.d_1m ["_law_cells","_law_begins_here","_law_names"] []
 mg_1n:mg "_law_late"=some (.ref t.a_1n)
 fn_1n:Fun K "_law_late" "_law_late" s_1n t.a_1n t.d_1n
 b_1n:zM K t.d_1n ["_law_terms_here","_law_cell","_law_begins_here","_law_names"] []
 mg_1o:mg "_law_any_late"=some (.ref t.a_1o)
 fn_1o:Fun K "_law_any_late" "_law_any_late" s_1o t.a_1o t.d_1o
 b_1o:zM K t.d_1o ["_law_terms_here","_law_order","_law_cells","_law_begins_here","_law_names"] []
 mg_1p:mg "_law_many"=some (.ref t.a_1p)
 fn_1p:Fun K "_law_many" "_law_many" s_1p t.a_1p t.d_1p
 b_1p:zM K t.d_1p ["_law_account_here"] []
 mg_1q:mg "_law_spans_alike"=some (.ref t.a_1q)
 fn_1q:Fun K "_law_spans_alike" "_law_spans_alike" s_1q t.a_1q t.d_1q
 b_1q:zM K t.d_1q ["_law_account_here","_law_one","_law_other","_law_begins_here","_law_head"] []
 mg_1r:mg "_law_days_alike"=some (.ref t.a_1r)
 fn_1r:Fun K "_law_days_alike" "_law_days_alike" s_1r t.a_1r t.d_1r
 b_1r:zM K t.d_1r ["_law_account_here","_law_one","_law_other","_law_begins_here","_law_cell"] []
 mg_1s:mg "law"=some (.ref t.a_1s)
 fn_1s:Fun K "law" "law" s_1s t.a_1s t.d_1s
 b_1s:zM K t.d_1s ["_law_script"] []
 cc_1s:t.d_1s.code= .ref t.k_1s
 tb_1s:TabK K mg "law" t.k_1s t.p_1s
 ndp: [t.p_12,t.p_1s].Nodup
 mg_Z0c:mg "SpanError"=some (.ref t.c_Z0c)
 mg_Z07:mg "NoDate"=some (.ref t.c_Z07)
 mg_Z09:mg "NoSpan"=some (.ref t.c_Z09)
 mg_Z0e:mg "TooLong"=some (.ref t.c_Z0e)
 mg_Z08:mg "NoEntry"=some (.ref t.c_Z08)
 ex_Z07:Exc K t.c_Z07
 ex_Z09:Exc K t.c_Z09
 ex_Z0e:Exc K t.c_Z0e
 k_Z03: ∃u,mg "LAST_YEAR"=some u/\zF (.int 9999) u
 k_Z02: ∃u,mg "LAST_DAY"=some u/\zF (.int 3652058) u
 k_Z04: ∃a,mg "MONTH_DAYS"=some (.ref a)/\ ∀H,SqT K H a [.int 31, .int 28, .int 31, .int 30, .int 31, .int 30, .int 31, .int 31, .int 30, .int 31, .int 30, .int 31]
 k_Z0a: ∃u,mg "ROUND_DAYS"=some u/\zF (.int 146097) u
 k_Z01: ∃u,mg "HUNDRED_YEARS_DAYS"=some u/\zF (.int 36524) u
 k_Z00: ∃u,mg "FOUR_YEARS_DAYS"=some u/\zF (.int 1461) u
 k_Z0g: ∃u,mg "YEAR_DAYS"=some u/\zF (.int 365) u
 k_Z0b: ∃u,mg "SPANS"=some u/\zF (.int 60) u
 k_Z0f:zmm w K mg "WORDS" [(SL [104,111,108,100], .str (SL [104,101,108,100])),(SL [103,111], .str (SL [111,110])),(SL [115,116,111,112], .str (SL [111,102,102])),(SL [108,97,115,116], .str (SL [111,102,102]))]
 k_Z05: ∃u,mg "MOST_ENTRIES"=some u/\zF (.int 40) u
 k_Z06: ∃u,mg "MOST_SEATS"=some u/\zF (.int 1000000) u
 k_Z0d: ∃a,mg "TERMS"=some (.ref a)/\ ∀H,SqT K H a [.str (SL [112,108,97,110]), .str (SL [115,101,97,116,115]), .str (SL [104,111,108,100]), .str (SL [103,111]), .str (SL [115,116,111,112]), .str (SL [108,97,115,116])]
 no_range:mg "range"=none
 no_divmod:mg "divmod"=none
 no_min:mg "min"=none
 no_isinstance:mg "isinstance"=none
 no_int:mg "int"=none
 no_bool:mg "bool"=none
 no_sorted:mg "sorted"=none
 no_sum:mg "sum"=none
 no_len:mg "len"=none
 no_enumerate:mg "enumerate"=none
 no_list:mg "list"=none
 no_max:mg "max"=none
 cl_Z0c:ClsOk K t.c_Z0c
 cl_Z07:ClsOk K t.c_Z07
 cl_Z09:ClsOk K t.c_Z09
 cl_Z0e:ClsOk K t.c_Z0e
 cl_Z08:ClsOk K t.c_Z08
section
local macro_rules| `(tactic|open_k0)=> `(tactic|((try dsimp only[yZ,qA,y8,yY,qz,yV,yR,qx,yT,yU,qy,qw,tDc,y9,qt,qu,qr,yN,yP,qm,yd,qo,qp,qq,ym,List.replicate,Option.join_some,Option.join_none,ya,ql,yK,yJ,tSl,qd,yI,qe,slT,yp,Int.reduceLT,Int.reduceLE,Int.reduceToNat,Int.reduceNeg,Int.reduceAdd,Int.reduceSub,Int.reduceMul,forall_const,yC,yB,yF,yE,qa,yD,yk,yh,yj,yo,yn,tC,tOp,rI,rI0,tUn,rU,yH,tB,yt,tOr,yu,yv,yw,yx,tIf,yr,yq,yL,qk,tCB,yM,rEq,rNe,qf,qg,qh,qi,qj,qc,yG,ipI,L2.start,List.map_cons,List.map_nil,List.length_cons,List.length_nil,List.cons_append,List.nil_append,List.append_nil,List.replicate_succ,List.replicate_zero,Nat.reduceAdd,Nat.reduceSub,List.getElem?_cons_zero,List.getElem?_cons_succ,List.set_cons_zero,List.set_cons_succ,Option.some.injEq,V.int.injEq,V.bl.injEq,V.ref.injEq,V.str.injEq,exists_eq_left',exists_eq_left,exists_eq',exists_and_left,List.cons.injEq,and_true,true_and,and_self,and_assoc,decide_eq_true_eq,if_true,if_false,Bool.true_eq_false,Bool.false_eq_true,Bool.not_eq_true',Bool.not_true,Bool.not_false,decide_eq_false_iff_not,ite_true,ite_false,reduceCtorEq,false_and,exists_false,false_or,or_false,and_false,Nat.reduceLeDiff]);(try simp only[yZ,qA,y8,yY,qz,yV,yR,qx,yT,yU,qy,qw,tDc,y9,qt,qu,qr,yN,yP,qm,yd,qo,qp,qq,ym,List.replicate,Option.join_some,Option.join_none,ya,ql,yK,yJ,tSl,qd,yI,qe,slT,yp,Int.reduceLT,Int.reduceLE,Int.reduceToNat,Int.reduceNeg,Int.reduceAdd,Int.reduceSub,Int.reduceMul,forall_const,yC,yB,yF,yE,qa,yD,yk,yh,yj,yo,yn,tC,tOp,rI,rI0,tUn,rU,yH,tB,yt,tOr,yu,yv,yw,yx,tIf,yr,yq,yL,qk,tCB,yM,rEq,rNe,qf,qg,qh,qi,qj,qc,yG,ipI,L2.start,List.map_cons,List.map_nil,List.length_cons,List.length_nil,List.cons_append,List.nil_append,List.append_nil,List.replicate_succ,List.replicate_zero,Nat.reduceAdd,Nat.reduceSub,List.getElem?_cons_zero,List.getElem?_cons_succ,List.set_cons_zero,List.set_cons_succ,Option.some.injEq,V.int.injEq,V.bl.injEq,V.ref.injEq,V.str.injEq,exists_eq_left',exists_eq_left,exists_eq',exists_and_left,List.cons.injEq,and_true,true_and,and_self,and_assoc,decide_eq_true_eq,if_true,if_false,Bool.true_eq_false,Bool.false_eq_true,Bool.not_eq_true',Bool.not_true,Bool.not_false,decide_eq_false_iff_not,ite_true,ite_false,reduceCtorEq,false_and,exists_false,false_or,or_false,and_false,Nat.reduceLeDiff])))
local macro_rules| `(tactic|lge_open0)=> `(tactic|((try dsimp only[yZ,qA,y8,yY,qz,yV,yR,qx,yT,yU,qy,qw,tDc,y9,qt,qu,qr,yN,yP,qm,yd,qo,qp,qq,ym,List.replicate,Option.join_some,Option.join_none,ya,ql,yK,yJ,tSl,qd,yI,qe,slT,yp,Int.reduceLT,Int.reduceLE,Int.reduceToNat,Int.reduceNeg,Int.reduceAdd,Int.reduceSub,Int.reduceMul,forall_const,yC,yB,yF,yE,qa,yD,yk,yh,yj,yo,yn,tC,tOp,rI,rI0,tUn,rU,yH,tB,yt,tOr,yu,yv,yw,yx,tIf,yr,yq,yL,qk,tCB,yM,rEq,rNe,qf,qg,qh,qi,qj,qc,yG,ipI,L2.start,List.map_cons,List.map_nil,List.length_cons,List.length_nil,List.cons_append,List.nil_append,List.append_nil,List.replicate_succ,List.replicate_zero,Nat.reduceAdd,Nat.reduceSub,List.getElem?_cons_zero,List.getElem?_cons_succ,List.set_cons_zero,List.set_cons_succ,Option.some.injEq,V.int.injEq,V.bl.injEq,V.ref.injEq,V.str.injEq,exists_eq_left',exists_eq_left,exists_eq',exists_and_left,List.cons.injEq,and_true,true_and,and_self,and_assoc,decide_eq_true_eq,if_true,if_false,Bool.true_eq_false,Bool.false_eq_true,Bool.not_eq_true',Bool.not_true,Bool.not_false,decide_eq_false_iff_not,ite_true,ite_false,reduceCtorEq,false_and,exists_false,false_or,or_false,and_false,List.nil_append]);(try simp only[yZ,qA,y8,yY,qz,yV,yR,qx,yT,yU,qy,qw,tDc,y9,qt,qu,qr,yN,yP,qm,yd,qo,qp,qq,ym,List.replicate,Option.join_some,Option.join_none,ya,ql,yK,yJ,tSl,qd,yI,qe,slT,yp,Int.reduceLT,Int.reduceLE,Int.reduceToNat,Int.reduceNeg,Int.reduceAdd,Int.reduceSub,Int.reduceMul,forall_const,yC,yB,yF,yE,qa,yD,yk,yh,yj,yo,yn,tC,tOp,rI,rI0,tUn,rU,yH,tB,yt,tOr,yu,yv,yw,yx,tIf,yr,yq,yL,qk,tCB,yM,rEq,rNe,qf,qg,qh,qi,qj,qc,yG,ipI,L2.start,List.map_cons,List.map_nil,List.length_cons,List.length_nil,List.cons_append,List.nil_append,List.append_nil,List.replicate_succ,List.replicate_zero,Nat.reduceAdd,Nat.reduceSub,List.getElem?_cons_zero,List.getElem?_cons_succ,List.set_cons_zero,List.set_cons_succ,Option.some.injEq,V.int.injEq,V.bl.injEq,V.ref.injEq,V.str.injEq,exists_eq_left',exists_eq_left,exists_eq',exists_and_left,List.cons.injEq,and_true,true_and,and_self,and_assoc,decide_eq_true_eq,if_true,if_false,Bool.true_eq_false,Bool.false_eq_true,Bool.not_eq_true',Bool.not_true,Bool.not_false,decide_eq_false_iff_not,ite_true,ite_false,reduceCtorEq,false_and,exists_false,false_or,or_false,and_false,List.nil_append])))
local macro_rules| `(tactic|lgec_open0)=> `(tactic|((try dsimp only[yZ,qA,y8,yY,qz,yV,yR,qx,yT,yU,qy,qw,tDc,y9,qt,qu,qr,yN,yP,qm,yd,qo,qp,qq,ym,List.replicate,Option.join_some,Option.join_none,ya,ql,yK,yJ,tSl,qd,yI,qe,slT,yp,Int.reduceLT,Int.reduceLE,Int.reduceToNat,Int.reduceNeg,Int.reduceAdd,Int.reduceSub,Int.reduceMul,forall_const,yC,yB,yF,yE,qa,yD,yk,yh,yj,yo,yn,tC,tOp,rI,rI0,tUn,rU,yH,tB,yt,tOr,yu,yv,yw,yx,tIf,yr,yq,yL,qk,tCB,yM,rEq,rNe,qf,qg,qh,qi,qj,qc,yG,ipI,L2.start,List.map_cons,List.map_nil,List.length_cons,List.length_nil,List.cons_append,List.nil_append,List.append_nil,List.replicate_succ,List.replicate_zero,Nat.reduceAdd,Nat.reduceSub,List.getElem?_cons_zero,List.getElem?_cons_succ,List.set_cons_zero,List.set_cons_succ,Option.some.injEq,V.int.injEq,V.bl.injEq,V.ref.injEq,V.str.injEq,exists_eq_left',exists_eq_left,exists_eq',exists_and_left,List.cons.injEq,and_true,true_and,and_self,and_assoc,decide_eq_true_eq,if_true,if_false,Bool.true_eq_false,Bool.false_eq_true,Bool.not_eq_true',Bool.not_true,Bool.not_false,decide_eq_false_iff_not,ite_true,ite_false,reduceCtorEq,false_and,exists_false,false_or,or_false,and_false,tBM,Nat.reduceLeDiff]);(try simp only[yZ,qA,y8,yY,qz,yV,yR,qx,yT,yU,qy,qw,tDc,y9,qt,qu,qr,yN,yP,qm,yd,qo,qp,qq,ym,List.replicate,Option.join_some,Option.join_none,ya,ql,yK,yJ,tSl,qd,yI,qe,slT,yp,Int.reduceLT,Int.reduceLE,Int.reduceToNat,Int.reduceNeg,Int.reduceAdd,Int.reduceSub,Int.reduceMul,forall_const,yC,yB,yF,yE,qa,yD,yk,yh,yj,yo,yn,tC,tOp,rI,rI0,tUn,rU,yH,tB,yt,tOr,yu,yv,yw,yx,tIf,yr,yq,yL,qk,tCB,yM,rEq,rNe,qf,qg,qh,qi,qj,qc,yG,ipI,L2.start,List.map_cons,List.map_nil,List.length_cons,List.length_nil,List.cons_append,List.nil_append,List.append_nil,List.replicate_succ,List.replicate_zero,Nat.reduceAdd,Nat.reduceSub,List.getElem?_cons_zero,List.getElem?_cons_succ,List.set_cons_zero,List.set_cons_succ,Option.some.injEq,V.int.injEq,V.bl.injEq,V.ref.injEq,V.str.injEq,exists_eq_left',exists_eq_left,exists_eq',exists_and_left,List.cons.injEq,and_true,true_and,and_self,and_assoc,decide_eq_true_eq,if_true,if_false,Bool.true_eq_false,Bool.false_eq_true,Bool.not_eq_true',Bool.not_true,Bool.not_false,decide_eq_false_iff_not,ite_true,ite_false,reduceCtorEq,false_and,exists_false,false_or,or_false,and_false,tBM,Nat.reduceLeDiff])))
local macro_rules| `(tactic|w_why)=> `(tactic|((try dsimp only[yZ,qA,y8,yY,qz,yV,yR,qx,yT,yU,qy,qw,tDc,y9,qt,qu,qr,yN,yP,qm,yd,qo,qp,qq,ym,List.replicate,Option.join_some,Option.join_none,ya,ql,yK,yJ,tSl,qd,yI,qe,slT,yp,Int.reduceLT,Int.reduceLE,Int.reduceToNat,Int.reduceNeg,Int.reduceAdd,Int.reduceSub,Int.reduceMul,forall_const,yC,yB,yF,yE,qa,yD,yk,yh,yj,yo,yn,tC,tOp,rI,rI0,tUn,rU,yH,tB,yt,tOr,yu,yv,yw,yx,tIf,yr,yq,yL,qk,tCB,yM,rEq,rNe,qf,qg,qh,qi,qj,qc,yG,ipI,L2.start,List.map_cons,List.map_nil,List.length_cons,List.length_nil,List.cons_append,List.nil_append,List.append_nil,List.replicate_succ,List.replicate_zero,Nat.reduceAdd,Nat.reduceSub,List.getElem?_cons_zero,List.getElem?_cons_succ,List.set_cons_zero,List.set_cons_succ,Option.some.injEq,V.int.injEq,V.bl.injEq,V.ref.injEq,V.str.injEq,exists_eq_left',exists_eq_left,exists_eq',exists_and_left,List.cons.injEq,and_true,true_and,and_self,and_assoc,decide_eq_true_eq,if_true,if_false,Bool.true_eq_false,Bool.false_eq_true,Bool.not_eq_true',Bool.not_true,Bool.not_false,decide_eq_false_iff_not,ite_true,ite_false,reduceCtorEq,false_and,exists_false,false_or,or_false,and_false,xw,k7,zmg,j7,ue,jI,Nat.reduceLeDiff]);(try simp only[yZ,qA,y8,yY,qz,yV,yR,qx,yT,yU,qy,qw,tDc,y9,qt,qu,qr,yN,yP,qm,yd,qo,qp,qq,ym,List.replicate,Option.join_some,Option.join_none,ya,ql,yK,yJ,tSl,qd,yI,qe,slT,yp,Int.reduceLT,Int.reduceLE,Int.reduceToNat,Int.reduceNeg,Int.reduceAdd,Int.reduceSub,Int.reduceMul,forall_const,yC,yB,yF,yE,qa,yD,yk,yh,yj,yo,yn,tC,tOp,rI,rI0,tUn,rU,yH,tB,yt,tOr,yu,yv,yw,yx,tIf,yr,yq,yL,qk,tCB,yM,rEq,rNe,qf,qg,qh,qi,qj,qc,yG,ipI,L2.start,List.map_cons,List.map_nil,List.length_cons,List.length_nil,List.cons_append,List.nil_append,List.append_nil,List.replicate_succ,List.replicate_zero,Nat.reduceAdd,Nat.reduceSub,List.getElem?_cons_zero,List.getElem?_cons_succ,List.set_cons_zero,List.set_cons_succ,Option.some.injEq,V.int.injEq,V.bl.injEq,V.ref.injEq,V.str.injEq,exists_eq_left',exists_eq_left,exists_eq',exists_and_left,List.cons.injEq,and_true,true_and,and_self,and_assoc,decide_eq_true_eq,if_true,if_false,Bool.true_eq_false,Bool.false_eq_true,Bool.not_eq_true',Bool.not_true,Bool.not_false,decide_eq_false_iff_not,ite_true,ite_false,reduceCtorEq,false_and,exists_false,false_or,or_false,and_false,xw,k7,zmg,j7,ue,jI,Nat.reduceLeDiff])))
local macro_rules| `(tactic|accj_open)=> `(tactic|((try dsimp only[yZ,qA,y8,yY,qz,yV,yR,qx,yT,yU,qy,qw,tDc,y9,qt,qu,qr,yN,yP,qm,yd,qo,qp,qq,ym,List.replicate,Option.join_some,Option.join_none,ya,ql,yK,yJ,tSl,qd,yI,qe,slT,yp,Int.reduceLT,Int.reduceLE,Int.reduceToNat,Int.reduceNeg,Int.reduceAdd,Int.reduceSub,Int.reduceMul,forall_const,yC,yB,yF,yE,qa,yD,yk,yh,yj,yo,yn,tC,tOp,rI,rI0,tUn,rU,yH,tB,yt,tOr,yu,yv,yw,yx,tIf,yr,yq,yL,qk,tCB,yM,rEq,rNe,qf,qg,qh,qi,qj,qc,yG,ipI,L2.start,List.map_cons,List.map_nil,List.length_cons,List.length_nil,List.cons_append,List.nil_append,List.append_nil,List.replicate_succ,List.replicate_zero,Nat.reduceAdd,Nat.reduceSub,List.getElem?_cons_zero,List.getElem?_cons_succ,List.set_cons_zero,List.set_cons_succ,Option.some.injEq,V.int.injEq,V.bl.injEq,V.ref.injEq,V.str.injEq,exists_eq_left',exists_eq_left,exists_eq',exists_and_left,List.cons.injEq,and_true,true_and,and_self,and_assoc,decide_eq_true_eq,if_true,if_false,Bool.true_eq_false,Bool.false_eq_true,Bool.not_eq_true',Bool.not_true,Bool.not_false,decide_eq_false_iff_not,ite_true,ite_false,reduceCtorEq,false_and,exists_false,false_or,or_false,and_false]);(try simp only[yZ,qA,y8,yY,qz,yV,yR,qx,yT,yU,qy,qw,tDc,y9,qt,qu,qr,yN,yP,qm,yd,qo,qp,qq,ym,List.replicate,Option.join_some,Option.join_none,ya,ql,yK,yJ,tSl,qd,yI,qe,slT,yp,Int.reduceLT,Int.reduceLE,Int.reduceToNat,Int.reduceNeg,Int.reduceAdd,Int.reduceSub,Int.reduceMul,forall_const,yC,yB,yF,yE,qa,yD,yk,yh,yj,yo,yn,tC,tOp,rI,rI0,tUn,rU,yH,tB,yt,tOr,yu,yv,yw,yx,tIf,yr,yq,yL,qk,tCB,yM,rEq,rNe,qf,qg,qh,qi,qj,qc,yG,ipI,L2.start,List.map_cons,List.map_nil,List.length_cons,List.length_nil,List.cons_append,List.nil_append,List.append_nil,List.replicate_succ,List.replicate_zero,Nat.reduceAdd,Nat.reduceSub,List.getElem?_cons_zero,List.getElem?_cons_succ,List.set_cons_zero,List.set_cons_succ,Option.some.injEq,V.int.injEq,V.bl.injEq,V.ref.injEq,V.str.injEq,exists_eq_left',exists_eq_left,exists_eq',exists_and_left,List.cons.injEq,and_true,true_and,and_self,and_assoc,decide_eq_true_eq,if_true,if_false,Bool.true_eq_false,Bool.false_eq_true,Bool.not_eq_true',Bool.not_true,Bool.not_false,decide_eq_false_iff_not,ite_true,ite_false,reduceCtorEq,false_and,exists_false,false_or,or_false,and_false])))
variable {P:Program} {w:World} {K:Fg} {mg:Str->Option Value} {base:Heap} {t:Adr}
def zlM:Sp:=λvs H Q _=> ∃y:Int,vs= [.int y]/\Q (.bl (decide (Cal.lp y=1))) H
theorem sc_00:FnScope ["year"] ["year"] (zJ s_00):=⟨rfl,rfl,rfl,by decide+kernel,rfl,by decide+kernel,by decide+kernel⟩
theorem ok_00(T:Txt w K mg t):FnOk P w K mg base (CXE P w) 1 t.a_00 t.d_00 ["year"] zlM:=by
 refine T.fn_00.okX sc_00 (λvs H Q E h=> ?_) (λcdv A outer s H vs Q E L hr h=> ?_)
 ·obtain⟨y,rfl,_⟩:=h;rfl
 obtain⟨y,rfl,q⟩:=h;have nd:=sc_00.nd;refine⟨_,(zp (zy (wy (qT yf (zg zH (pv 0) zd) zd (zx _)) (wP (zl6 (qT wB (zg zH (pv 0) zd) zd (zx _)) (wP (qT yf (zg zH (pv 0) zd) zd (zx _)))))))),?_⟩;accj_open
 have e: ∀b,b=decide (Cal.lp y=1)->Q (.bl b) H:=λb z=>by rw[z];exact q
 split
 ·split
  ·exact e _ (by simp [Cal.lp, *])
  ·refine e _ ?_;by_cases c:y % 400=0<;>simp [Cal.lp, *]
 ·exact e _ (by simp [Cal.lp, *])
def kF(y m:Int):Prop:=1<=y/\y<=9999/\1<=m/\m<=12
def zlN(t:Adr):Sp:=λvs H Q E=> ∃y m:Int,vs= [.int y, .int m]/\(kF y m->Q (.int (Cal.dim y m)) H)/\(¬kF y m->E (.ref t.c_Z07) none H)
theorem zfz{m:Int}(h1:1<=m)(h2:m<=12):atI [V.int 31,V.int 28,V.int 31,V.int 30,V.int 31,V.int 30,V.int 31,V.int 31,V.int 30,V.int 31,V.int 30,V.int 31] (m - 1)=some (.int (if m=2 then 28 else if m=4\/m=6\/m=9\/m=11 then 30 else 31)):=by
 have q:m=1\/m=2\/m=3\/m=4\/m=5\/m=6\/m=7\/m=8\/m=9\/m=10\/m=11\/m=12:=by omega
 rcases q with rfl|rfl|rfl|rfl|rfl|rfl|rfl|rfl|rfl|rfl|rfl|rfl<;>rfl
theorem sc_01:FnScope ["year","month"] ["year","month"] (zJ s_01):=⟨rfl,rfl,rfl,by decide+kernel,rfl,by decide+kernel,by decide+kernel⟩
theorem ok_01(T:Txt w K mg t):FnOk P w K mg base (CXE P w) 2 t.a_01 t.d_01 ["year","month"] (zlN t):=by
 refine T.fn_01.okX sc_01 (λvs H Q E h=> ?_) (λcdv A outer s H vs Q E L hr h=> ?_)
 ·refine opq λ_ kq=> ?_;obtain⟨y,m,rfl,_⟩:=h;apply kq;rfl
 refine opq λ_ kq=> ?_;obtain⟨y,m,rfl,q1,q2⟩:=h;have nd:=sc_01.nd;obtain⟨a_Z04,h_Z04,q_Z04⟩:=T.k_Z04;have r_Z04:zF (.ref a_Z04) (.ref a_Z04):=rfl;obtain⟨u_Z03,h_Z03,r_Z03⟩:=T.k_Z03;apply kq;refine⟨_,(zi (zL (xX (zC qP (pv 0) zd (zx _)) (wk (zC wD (pv 0) (xj (by rfl) h_Z03 r_Z03) (zx _)))).pt (zp (wR L T.ex_Z07 (by rfl) (by rfl) T.mg_Z07 (zc ww ze))) zN) (zi (zL (xX (zC qP (pv 1) zd (zx _)) (wk (zC wD (pv 1) zd (zx _)))).pt (zp (wR L T.ex_Z07 (by rfl) (by rfl) T.mg_Z07 (zc ww ze))) zN) (zi (zL (uP (zC yf (pv 1) zd (zx _)) (uO (vp (zr L.toLv (ok_00 T) (hr.mono 'd') (by rfl) T.mg_00 T.fn_00.kp T.b_00 .nil (zc (pv 0) ze))))).pt (zp (zy zd)) zN) (zp (zy (zq zU (xj (by rfl) h_Z04 r_Z04) (zg yc (pv 1) zd) (λ_ _=>rfl))))))),?_⟩;open_k0;split
 ·exact q2 (λz=>by obtain⟨_,_,_,_⟩:=z;omega)
 split
 ·exact q2 (λz=>by obtain⟨_,_,_,_⟩:=z;omega)
 split
 ·exact q2 (λz=>by obtain⟨_,_,_,_⟩:=z;omega)
 split
 ·exact q2 (λz=>by obtain⟨_,_,_,_⟩:=z;omega)
 have ok:kF y m:=⟨'o','o','o','o'⟩
 have q:=q1 ok;split
 ·rename_i h2;subst h2;refine⟨y,rfl,_,rfl,?_⟩;have l:=Cal.lp_01 y;have e:Cal.dim y 2=28+Cal.lp y:=rfl;rw[e] at q;split
  ·rename_i c;have z:Cal.lp y=1:=of_decide_eq_true c;rw[z] at q;exact q
  ·rename_i c;have z:Cal.lp y≠1:=of_decide_eq_false (Bool.eq_false_iff.mpr c);refine ixT (q_Z04 _) (zfz 'o' 'o') ?_;have z0:Cal.lp y=0:=by omega
   rw[z0] at q;exact q
 ·rename_i h2;refine ixT (q_Z04 _) (zfz 'o' 'o') ?_;rw[Jf h2];unfold Cal.dim at q;rw[Jf h2] at q;exact q
def zkH:Sp:=λvs H Q _=> ∃y:Int,vs= [.int y]/\Q (.int (Cal.ahead y)) H
theorem sc_02:FnScope ["year","past"] ["year"] (zJ s_02):=⟨rfl,rfl,rfl,by decide+kernel,rfl,by decide+kernel,by decide+kernel⟩
theorem ok_02(T:Txt w K mg t):FnOk P w K mg base (CXE P w) 1 t.a_02 t.d_02 ["year"] zkH:=by
 refine T.fn_02.okX sc_02 (λvs H Q E h=> ?_) (λcdv A outer s H vs Q E L hr h=> ?_)
 ·obtain⟨y,rfl,_⟩:=h;rfl
 refine opq λ_ kq=> ?_;obtain⟨y,rfl,q⟩:=h;have nd:=sc_02.nd;obtain⟨u_Z0g,h_Z0g,r_Z0g⟩:=T.k_Z0g;apply kq;refine⟨_,(zi (zu (i:=1) nd rfl (Or.inl rfl) (zg yc (pv 0) zd)) (zp (zy (zg zK (zg yc (zg zK (zg qY (pv 1) (xj (by rfl) h_Z0g r_Z0g)) (zg zP (pv 1) zd)) (zg zP (pv 1) zd)) (zg zP (pv 1) zd))))),?_⟩;open_k0;exact⟨Or.inr ⟨'d','d'⟩,q⟩
def zkI(t:Adr):Sp:=λvs H Q E=> ∃y m d:Int,vs= [.int y, .int m, .int d]/\(Cal.Valid y m d->Q (.int (Cal.num y m d)) H)/\(¬Cal.Valid y m d->E (.ref t.c_Z07) none H)
theorem sc_03:FnScope ["year","month","day","ahead","earlier"] ["year","month","day"] (zJ s_03):=⟨rfl,rfl,rfl,by decide+kernel,rfl,by decide+kernel,by decide+kernel⟩
theorem ok_03(T:Txt w K mg t):FnOk P w K mg base (CXE P w) 3 t.a_03 t.d_03 ["year","month","day"] (zkI t):=by
 refine T.fn_03.okX sc_03 (λvs H Q E h=> ?_) (λcdv A outer s H vs Q E L hr h=> ?_)
 ·refine opq λ_ kq=> ?_;obtain⟨y,m,d,rfl,_⟩:=h;apply kq;rfl
 refine opq λ_ kq=> ?_;obtain⟨y,m,d,rfl,q1,q2⟩:=h;apply kq;have nd:=sc_03.nd;refine⟨_,(zi (zL (xX (zC qP (pv 2) zd (zx _)) (wk (zC wD (pv 2) (zr L.toLv (ok_01 T) (hr.mono 'd') (by rfl) T.mg_01 T.fn_01.kp T.b_01 .nil (zc (pv 0) (zc (pv 1) ze zh) zh)) (zx _)))).pt (zp (wR L T.ex_Z07 (by rfl) (by rfl) T.mg_Z07 (zc ww ze))) zN) (zi (zu (i:=3) nd rfl (Or.inl rfl) (zr L.toLv (ok_02 T) (hr.mono 'd') (by rfl) T.mg_02 T.fn_02.kp T.b_02 .nil (zc (pv 0) ze))) (zi (xy (by passes_own) rfl (k9 (by rfl) T.no_range (zc zd (zc (pv 1) ze zh) zw)) (zD (i:=4) nd rfl (Or.inl rfl)) (zp (ud (i:=3) nd rfl (Or.inl rfl) (zr L.toLv (ok_01 T) (hr.mono 'd') (by rfl) T.mg_01 T.fn_01.kp T.b_01 .nil (zc (pv 0) (zc (pv 4) ze zh) zh)) jG))) (zp (zy (zg yc (zg zK (pv 3) (pv 2)) zd)))))),?_⟩;open_k0;split
 ·exact q2 (λz=>by obtain⟨_,_,_,_,_,_⟩:=z;omega)
 refine⟨y,m,rfl,λok=> ?_,λno=>q2 (λz=>no ⟨z.1,z.2.1,z.2.2.1,z.2.2.2.1⟩)⟩;refine opq λ_ kq=> ?_;obtain⟨o1,o2,o3,o4⟩:=ok;apply kq;accj_open
 split
 ·exact q2 (λz=>by obtain⟨_,_,_,_,_,_⟩:=z;omega)
 have va:Cal.Valid y m d:=⟨o1,o2,o3,o4,'o','o'⟩
 have q:=q1 va;refine⟨y,rfl,?_⟩;first|refine⟨_,rfl,1,m,rfl,⟨'d','d','o','o'⟩,?_⟩|refine⟨1,m,rfl,⟨'d','d','o','o'⟩,?_⟩
 refine vq (λi σ1 H1=>H1=H/\ ∃e,σ1= [some (.int y),some (.int m),some (.int d),some (.int (Cal.ahead y+Cal.cum y ((i:Int)+1))),e]) ⟨rfl,none,?_⟩ (λi σ1 H1 hi h=> ?_) (λσ1 H1 h=> ?_)
 ·have e:Cal.ahead y+Cal.cum y (((0:Nat):Int)+1)=Cal.ahead y:=by
   rw[show (((0:Nat):Int)+1)=1 from rfl,Cal.cum_one];omega
  rw[e]
 ·obtain⟨rfl,e,rfl⟩:=h;accj_open
  refine⟨y,1+(i:Int),rfl,λ_=> ?_,λno=>absurd ⟨o1,o2,'o','o'⟩ no⟩;refine⟨_,rfl,rfl,?_⟩;have s:=Cal.cum_succ (y:=y) (m:=(i:Int)+1) 'o' 'o';have e1:((i+1:Nat):Int)+1=(i:Int)+1+1:=by omega
  have e2:(1:Int)+(i:Int)=(i:Int)+1:=by omega
  rw[e1,s,e2,Int.add_assoc]
 ·obtain⟨rfl,e,rfl⟩:=h;accj_open
  have e1:(((m - 1).toNat:Nat):Int)+1=m:=by omega
  rw[e1];exact q
def zjF:Sp:=λvs H Q _=> ∃n:Int,vs= [.int n]/\ ∀H',zj H H'->Q (.int (Cal.yearOf n)) H'
theorem sc_04:FnScope ["number","rounds","rest","hundreds","fours","ones"] ["number"] (zJ s_04):=⟨rfl,rfl,rfl,by decide+kernel,rfl,by decide+kernel,by decide+kernel⟩
theorem ok_04(T:Txt w K mg t):FnOk P w K mg base (CXE P w) 1 t.a_04 t.d_04 ["number"] zjF:=by
 refine T.fn_04.okX sc_04 (λvs H Q E h=> ?_) (λcdv A outer s H vs Q E L hr h=> ?_)
 ·obtain⟨n,rfl,_⟩:=h;rfl
 refine opq λ_ kq=> ?_;obtain⟨n,rfl,q⟩:=h;have nd:=sc_04.nd;obtain⟨u_Z0a,h_Z0a,r_Z0a⟩:=T.k_Z0a;obtain⟨u_Z01,h_Z01,r_Z01⟩:=T.k_Z01;obtain⟨u_Z00,h_Z00,r_Z00⟩:=T.k_Z00;obtain⟨u_Z0g,h_Z0g,r_Z0g⟩:=T.k_Z0g;apply kq;refine⟨_,(zi (xo (zZ zeK (by rfl) T.no_divmod zfT (zc (pv 0) (zc (xj (by rfl) h_Z0a r_Z0a) ze zh) zh)) (qN (n:=2) rfl (zT (zD (i:=1) nd rfl (Or.inl rfl)) (zT (zD (i:=2) nd rfl (Or.inl rfl)) qM)))) (zi (zu (i:=3) nd rfl (Or.inl rfl) (zZ (vb (by rfl)) (by rfl) T.no_min vd (zc (zg zP (pv 2) (xj (by rfl) h_Z01 r_Z01)) (zc zd ze zw) zO))) (zi (ud (i:=2) nd rfl (Or.inl rfl) (zg qY (pv 3) (xj (by rfl) h_Z01 r_Z01)) kZ) (zi (xo (zZ zeK (by rfl) T.no_divmod zfT (zc (pv 2) (zc (xj (by rfl) h_Z00 r_Z00) ze zh) zh)) (qN (n:=2) rfl (zT (zD (i:=4) nd rfl (Or.inl rfl)) (zT (zD (i:=2) nd rfl (Or.inl rfl)) qM)))) (zi (zu (i:=5) nd rfl (Or.inl rfl) (zZ (vb (by rfl)) (by rfl) T.no_min vd (zc (zg zP (pv 2) (xj (by rfl) h_Z0g r_Z0g)) (zc zd ze zw) zO))) (zp (zy (zg zK (zg zK (zg zK (zg zK (zg qY (pv 1) zd) (zg qY (pv 3) zd)) (zg qY (pv 4) zd)) (pv 5)) zd)))))))),?_⟩;open_k0;intro p hp;refine⟨p,_,rfl,SqT.of yg,rfl,?_⟩;accj_open
 refine⟨Or.inr ⟨'d','d'⟩,λp2 hp2=>⟨p2,_,rfl,SqT.of yg,rfl,?_⟩⟩;accj_open
 refine⟨Or.inr ⟨'d','d'⟩,Or.inr ⟨'d','d'⟩,Or.inr ⟨'d','d'⟩,?_⟩;have e: ∀r:Int,r=Cal.yearOf n->Q (.int r) (upd (upd H p (.tup [.int (n / 146097), .int (n % 146097)])) p2 (.tup [.int ((n % 146097 - (if 3<n % 146097 / 36524 then 3 else n % 146097 / 36524)*36524) / 1461), .int ((n % 146097 - (if 3<n % 146097 / 36524 then 3 else n % 146097 / 36524)*36524) % 1461)])):=λr z=>by
  rw[z];exact q _ ((wS hp _).trans (wS hp2 _))
 refine e _ ?_;unfold Cal.yearOf;have m1: ∀a:Int,min a 3=if 3<a then 3 else a:=λa=>by split<;>omega
 simp only[m1]
def zjG(t:Adr):Sp:=λvs H Q E=> ∃n:Int,vs= [.int n]/\
 (0<=n/\n<=3652058-> ∀y m d p H',Cal.Valid y m d->Cal.num y m d=n->zj H H'->H' p=some (.tup [.int y, .int m, .int d])->Q (.ref p) H')/\(¬(0<=n/\n<=3652058)->E (.ref t.c_Z07) none H)
theorem sc_05:FnScope ["number","year","rest","month"] ["number"] (zJ s_05):=⟨rfl,rfl,rfl,by decide+kernel,rfl,by decide+kernel,by decide+kernel⟩
theorem ok_05(T:Txt w K mg t):FnOk P w K mg base (CXE P w) 3 t.a_05 t.d_05 ["number"] (zjG t):=by
 refine T.fn_05.okX sc_05 (λvs H Q E h=> ?_) (λcdv A outer s H vs Q E L hr h=> ?_)
 ·obtain⟨n,rfl,_⟩:=h;rfl
 refine opq λ_ kq=> ?_;obtain⟨n,rfl,q1,q2⟩:=h;have nd:=sc_05.nd;obtain⟨u_Z02,h_Z02,r_Z02⟩:=T.k_Z02;apply kq;refine⟨_,(zi (zL (xX (zC qP (pv 0) zd (zx _)) (wk (zC wD (pv 0) (xj (by rfl) h_Z02 r_Z02) (zx _)))).pt (zp (wR L T.ex_Z07 (by rfl) (by rfl) T.mg_Z07 (zc ww ze))) zN) (zi (zu (i:=1) nd rfl (Or.inl rfl) (zr L.toLv (ok_04 T) (hr.mono 'd') (by rfl) T.mg_04 T.fn_04.kp T.b_04 .nil (zc (pv 0) ze))) (zi (zu (i:=2) nd rfl (Or.inl rfl) (zg yc (pv 0) (zr L.toLv (ok_02 T) (hr.mono 'd') (by rfl) T.mg_02 T.fn_02.kp T.b_02 .nil (zc (pv 1) ze)))) (zi (zu (i:=3) nd rfl (Or.inl rfl) zd) (zi (vL (by passes_own) (zC uV (pv 2) (zr L.toLv (ok_01 T) (hr.mono 'd') (by rfl) T.mg_01 T.fn_01.kp T.b_01 .nil (zc (pv 1) (zc (pv 3) ze zh) zh)) (zx _)) (zi (ud (i:=2) nd rfl (Or.inl rfl) (zr L.toLv (ok_01 T) (hr.mono 'd') (by rfl) T.mg_01 T.fn_01.kp T.b_01 .nil (zc (pv 1) (zc (pv 3) ze zh) zh)) kZ) (zp (ud (i:=3) nd rfl (Or.inl rfl) zd jG)))) (zp (zy (zli (zc (pv 1) (zc (pv 3) (zc (zg zK (pv 2) zd) ze zO) zh) zh))))))))),?_⟩;open_k0;split
 ·exact q2 (λz=>by obtain⟨_,_⟩:=z;omega)
 split
 ·exact q2 (λz=>by obtain⟨_,_⟩:=z;omega)
 have n0:0<=n:=by omega
 have n1:n<=3652058:=by omega
 have q:=q1 ⟨n0,n1⟩;refine opq λ_ kq=> ?_;obtain⟨y1,y2,y3,y4⟩:=Cal.yearOf_spec n0 n1;apply kq;refine⟨n,rfl,λH1 sm=>⟨_,rfl,_,rfl,?_⟩⟩;refine⟨λk σ1 H2=>H2=H1/\ ∃m:Int,σ1= [some (.int n),some (.int (Cal.yearOf n)),some (.int (n - Cal.ahead (Cal.yearOf n) - Cal.cum (Cal.yearOf n) m)),some (.int m)]/\1<=m/\m<=12/\Cal.cum (Cal.yearOf n) m<=n - Cal.ahead (Cal.yearOf n)/\k=(13 - m).toNat,⟨12,rfl,1,?_,'d','d',by rw[Cal.cum_one];omega,'d'⟩,?_⟩
 ·rw[Cal.cum_one,Int.sub_zero]
 ·rintro k σ1 H2 ⟨rfl,m,rfl,m1,m2,m3,rfl⟩;accj_open
  refine⟨_,m,rfl,λ_=> ?_,λno=>absurd ⟨y1,y2,m1,m2⟩ no⟩;accj_open
  split
  ·rename_i c;have lt:m<12:=by
    apply Classical.byContradiction;intro z;obtain rfl:m=12:=by omega
    have s:=Cal.cum_succ (y:=Cal.yearOf n) (m:=12) 'd' 'd';have u:Cal.cum (Cal.yearOf n) (12+1)=365+Cal.lp (Cal.yearOf n):=Cal.cum_13 _;omega
   have s:=Cal.cum_succ (y:=Cal.yearOf n) m1 m2;refine⟨_,λσ2 H3 h=>h,?_⟩;refine⟨_,m,rfl,λ_=> ?_,λno=>absurd ⟨y1,y2,m1,m2⟩ no⟩;accj_open
   exact⟨(13 - (m+1)).toNat,'o',m+1,'o',rfl,'o','o','o',rfl⟩
  ·rename_i c;open_k0;intro p hp;have s:=Cal.cum_succ (y:=Cal.yearOf n) m1 m2;refine q (Cal.yearOf n) m (n - Cal.ahead (Cal.yearOf n) - Cal.cum (Cal.yearOf n) m+1) p _ ⟨y1,y2,m1,m2,'o','o'⟩ (by unfold Cal.num;omega) (sm.trans (wS hp _)) yg
def zhv(t:Adr):Sp:=λvs H Q E=> ∃n k y m d:Int,vs= [.int n, .int k]/\Cal.Valid y m d/\Cal.num y m d=n/\
 (Cal.MonOk y m k-> ∀H',zj H H'->Q (.int (Cal.num (Cal.monY y m k) (Cal.monM y m k) (Cal.monD y m d k))) H')/\(¬Cal.MonOk y m k-> ∀H',zj H H'->E (.ref t.c_Z07) none H')
theorem sc_06:FnScope ["number","many","year","month","day","months","to_year","to_month"] ["number","many"] (zJ s_06):=⟨rfl,rfl,rfl,by decide+kernel,rfl,by decide+kernel,by decide+kernel⟩
theorem ok_06(T:Txt w K mg t):FnOk P w K mg base (CXE P w) 4 t.a_06 t.d_06 ["number","many"] (zhv t):=by
 refine T.fn_06.okX sc_06 (λvs H Q E h=> ?_) (λcdv A outer s H vs Q E L hr h=> ?_)
 ·refine opq λ_ kq=> ?_;obtain⟨n,k,y,m,d,rfl,va,hn,q1,q2⟩:=h;apply kq;rfl
 refine opq λ_ kq=> ?_;obtain⟨n,k,y,m,d,rfl,va,hn,q1,q2⟩:=h;apply kq;have nd:=sc_06.nd;refine⟨_,(zi (xo (zr L.toLv (ok_05 T) (hr.mono 'd') (by rfl) T.mg_05 T.fn_05.kp T.b_05 .nil (zc (pv 0) ze)) (qN (n:=3) rfl (zT (zD (i:=2) nd rfl (Or.inl rfl)) (zT (zD (i:=3) nd rfl (Or.inl rfl)) (zT (zD (i:=4) nd rfl (Or.inl rfl)) qM))))) (zi (zu (i:=5) nd rfl (Or.inl rfl) (zg zK (zg yc (zg zK (zg qY (pv 2) zd) (pv 3)) zd) (pv 1))) (zi (zu (i:=6) nd rfl (Or.inl rfl) (zg zP (pv 5) zd)) (zi (zu (i:=7) nd rfl (Or.inl rfl) (zg zK (zg zH (pv 5) zd) zd)) (zp (zy (zr L.toLv (ok_03 T) (hr.mono 'd') (by rfl) T.mg_03 T.fn_03.kp T.b_03 .nil (zc (pv 6) (zc (pv 7) (zc (zZ (vb (by rfl)) (by rfl) T.no_min vd (zc (pv 4) (zc (zr L.toLv (ok_01 T) (hr.mono 'd') (by rfl) T.mg_01 T.fn_01.kp T.b_01 .nil (zc (pv 6) (zc (pv 7) ze zh) zh)) ze qv) zh)) ze qv) zh) zh)))))))),?_⟩;open_k0;have nr:=Cal.num_range va;refine⟨_,rfl,λ_ y' m' d' p H1 va' hn' s1 hp=> ?_,λno=>absurd 'o' no⟩;obtain⟨rfl,rfl,rfl⟩:=Cal.num_inj va' va (by rw[hn',hn]);refine⟨p,_,rfl,SqT.of hp,rfl,?_⟩;open_k0;refine⟨Or.inr ⟨'d','d'⟩,_,_,rfl,λok=> ?_,λno=>q2 (λz=>no ⟨z.1,z.2,'o','o'⟩) _ s1⟩;refine opq λ_ kq=> ?_;obtain⟨o1,o2,o3,o4⟩:=ok;apply kq;have mo:Cal.MonOk y' m' k:=⟨o1,o2⟩
 exact⟨_,rfl,_,_,_,rfl,λ_=>q1 mo _ s1,λno=>absurd (Cal.mon_valid va mo) no⟩
def cellOf(ns:List Int)(k:Int):Int:=ns.getD k.toNat 0
def zlO(K:Fg):Sp:=λvs H Q _=> ∃(a:Addr) (ns:List Int) (k:Int),vs= [.ref a, .int k]/\SqL K H a (ns.map V.int)/\ns.length<=63/\0<=k/\Q (.int (cellOf ns k)) H
theorem sc_13:FnScope ["_law_script","_law_k"] ["_law_script","_law_k"] (zJ s_13):=⟨rfl,rfl,rfl,by decide+kernel,rfl,by decide+kernel,by decide+kernel⟩
theorem ok_13(T:Txt w K mg t):FnOk P w K mg base (CXE P w) 1 t.a_13 t.d_13 ["_law_script","_law_k"] (zlO K):=by
 refine T.fn_13.okX sc_13 (λvs H Q E h=> ?_) (λcdv A outer s H vs Q E L hr h=> ?_)
 ·refine opq λ_ kq=> ?_;obtain⟨a,ns,k,rfl,hS,h63,k0,q⟩:=h;apply kq;rfl
 refine opq λ_ kq=> ?_;obtain⟨a,ns,k,rfl,hS,h63,k0,q⟩:=h;apply kq;have nd:=sc_13.nd;refine⟨_,(zi (zL (zC qP (pv 1) (zZ qI (by rfl) T.no_len qJ (zc (pv 0) ze)) (zx _)) (zp (zy (zq zG (pv 0) (pv 1) (λ_ _=>rfl)))) zN) (zp (zy zd))),?_⟩;open_k0;refine⟨_, .inl hS,?_⟩;rw[Ja];split
 ·exact ixL hS (xZ k0 'o') q
 ·have e:cellOf ns k=0:=by
   unfold cellOf;rw[Jo,List.getElem?_eq_none 'o'];rfl
  rw[e] at q;exact q
def zjH:Sp:=λvs H Q _=> ∃y:Int,vs= [.int y]/\Q (.int (Cal.ahead y)) H
theorem sc_15:FnScope ["_law_year","_law_gone"] ["_law_year"] (zJ s_15):=⟨rfl,rfl,rfl,by decide+kernel,rfl,by decide+kernel,by decide+kernel⟩
theorem ok_15(T:Txt w K mg t):FnOk P w K mg base (CXE P w) 1 t.a_15 t.d_15 ["_law_year"] (zjH):=by
 refine T.fn_15.okX sc_15 (λvs H Q E h=> ?_) (λcdv A outer s H vs Q E L hr h=> ?_)
 ·obtain⟨y,rfl,q⟩:=h;rfl
 obtain⟨y,rfl,q⟩:=h;have nd:=sc_15.nd;refine⟨_,(zi (zu (i:=1) nd rfl (Or.inl rfl) (zg yc (pv 0) zd)) (zp (zy (zg zK (zg yc (zg zK (zg qY (pv 1) zd) (zg zP (pv 1) zd)) (zg zP (pv 1) zd)) (zg zP (pv 1) zd))))),?_⟩;open_k0;exact⟨Or.inr ⟨'d','d'⟩,q⟩
def zjI:Sp:=λvs H Q _=> ∃y m:Int,vs= [.int y, .int m]/\1<=m/\m<=12/\ ∀H',zj H H'->Q (.int (Cal.dim y m)) H'
theorem zjJ(m:Int):inV (V.int m) [V.int 1,V.int 3,V.int 5,V.int 7,V.int 8,V.int 10,V.int 12]=decide (m=1\/m=3\/m=5\/m=7\/m=8\/m=10\/m=12):=by
 rw[Bool.eq_iff_iff,decide_eq_true_eq];simp only[inV,List.any_cons,List.any_nil,eqV,Bool.or_false,Bool.or_eq_true,beq_iff_eq,decide_eq_true_eq];omega
theorem sc_16:FnScope ["_law_year","_law_month"] ["_law_year","_law_month"] (zJ s_16):=⟨rfl,rfl,rfl,by decide+kernel,rfl,by decide+kernel,by decide+kernel⟩
theorem ok_16(T:Txt w K mg t):FnOk P w K mg base (CXE P w) 2 t.a_16 t.d_16 ["_law_year","_law_month"] (zjI):=by
 refine T.fn_16.okX sc_16 (λvs H Q E h=> ?_) (λcdv A outer s H vs Q E L hr h=> ?_)
 ·refine opq λ_ kq=> ?_;obtain⟨y,m,rfl,m1,m2,q⟩:=h;apply kq;rfl
 refine opq λ_ kq=> ?_;obtain⟨y,m,rfl,m1,m2,q⟩:=h;apply kq;have nd:=sc_16.nd;refine⟨_,(zi (zL (zC yf (pv 1) zd (zx _)) (zp (zy (zg yc (zg yc (zg zK zd (zr L.toLv (ok_15 T) (hr.mono 'd') (by rfl) T.mg_15 T.fn_15.kp T.b_15 .nil (zc (zg zK (pv 0) zd) ze))) (zr L.toLv (ok_15 T) (hr.mono 'd') (by rfl) T.mg_15 T.fn_15.kp T.b_15 .nil (zc (pv 0) ze))) zd))) zN) (zp (zy (zg zK zd (vw ug (by rfl) T.no_int vQ (zc (qT u8 (pv 1) (zR (zc zd (zc zd (zc zd (zc zd (zc zd (zc zd (zc zd ze zw) zw) zw) zw) zw) zw) zw)) rfl) ze)))))),?_⟩;open_k0;split
 ·rename_i h2;subst h2;refine⟨_,rfl,_,rfl,_,rfl,_,rfl,?_⟩;have s:=Cal.ahead_succ y;have e:28+Cal.ahead (y+1) - Cal.ahead y - 365=Cal.dim y 2:=by
   show _=28+Cal.lp y;omega
  rw[e];exact q _ (zj.refl _)
 ·rename_i h2;intro p H1 hp s1 e1;refine⟨p,_,rfl, .inr (SqT.of e1),rfl,rfl,?_⟩;simp only[yZ,qA,y8,yY,qz,yV,yR,qx,yT,yU,qy,qw,tDc,y9,qt,qu,qr,yN,yP,qm,yd,qo,qp,qq,ym,List.replicate,Option.join_some,Option.join_none,ya,ql,yK,yJ,tSl,qd,yI,qe,slT,yp,Int.reduceLT,Int.reduceLE,Int.reduceToNat,Int.reduceNeg,Int.reduceAdd,Int.reduceSub,Int.reduceMul,forall_const,yC,yB,yF,yE,qa,yD,yk,yh,yj,yo,yn,tC,tOp,rI,rI0,tUn,rU,yH,tB,yt,tOr,yu,yv,yw,yx,tIf,yr,yq,yL,qk,tCB,yM,rEq,rNe,qf,qg,qh,qi,qj,qc,yG,ipI,L2.start,JA,JQ,Jp,List.length_nil,List.cons_append,List.nil_append,Jt,List.replicate_succ,List.replicate_zero,Nat.reduceAdd,Nat.reduceSub,List.getElem?_cons_zero,List.getElem?_cons_succ,List.set_cons_zero,List.set_cons_succ,Option.some.injEq,V.int.injEq,V.bl.injEq,V.ref.injEq,V.str.injEq,exists_eq_left',exists_eq_left,exists_eq',exists_and_left,List.cons.injEq,and_true,true_and,and_self,and_assoc,decide_eq_true_eq,if_true,if_false,Bool.true_eq_false,Js,Bool.not_eq_true',Bool.not_true,Bool.not_false,decide_eq_false_iff_not,ite_true,ite_false,reduceCtorEq,false_and,exists_false,false_or,or_false,and_false,zjJ];have e: ∀r:Int,r=Cal.dim y m->Q (.int r) H1:=λr z=>by rw[z];exact q _ s1
  unfold Cal.dim at e;rw[Jf h2] at e;refine e _ ?_;by_cases c:m=4\/m=6\/m=9\/m=11
  ·rw[Jg c,Jf 'o'];rfl
  ·rw[Jf c,Jg 'o'];rfl
def zlP:Sp:=λvs H Q _=> ∃y m d:Int,vs= [.int y, .int m, .int d]/\1<=m/\m<=12/\ ∀H',zj H H'->Q (.int (Cal.num y m d)) H'
theorem sc_17:FnScope ["_law_year","_law_month","_law_day_here"] ["_law_year","_law_month","_law_day_here"] (zJ s_17):=⟨rfl,rfl,rfl,by decide+kernel,rfl,by decide+kernel,by decide+kernel⟩
theorem ok_17(T:Txt w K mg t):FnOk P w K mg base (CXE P w) 3 t.a_17 t.d_17 ["_law_year","_law_month","_law_day_here"] (zlP):=by
 refine T.fn_17.okX sc_17 (λvs H Q E h=> ?_) (λcdv A outer s H vs Q E L hr h=> ?_)
 ·refine opq λ_ kq=> ?_;obtain⟨y,m,d,rfl,m1,m2,q⟩:=h;apply kq;rfl
 refine opq λ_ kq=> ?_;obtain⟨y,m,d,rfl,m1,m2,q⟩:=h;apply kq;have nd:=sc_17.nd;refine⟨_,(zp (zy (zg yc (zg zK (zg zK (zr L.toLv (ok_15 T) (hr.mono 'd') (by rfl) T.mg_15 T.fn_15.kp T.b_15 .nil (zc (pv 0) ze)) (zZ (je (by rfl)) (by rfl) T.no_sum jd (zc (xA (n:=1) (N:= ["_law_k","_law_year"]) (js:= [0]) (by rfl) rfl rfl (k9 (by rfl) T.no_range (zc zd (zc (pv 1) ze zh) zw)) (λa=>(zD (i:=0) (show List.Nodup (["_law_k","_law_year"]:List Str) from by decide+kernel) rfl (Or.inl rfl))) (λa=>xh) (λa=>(zr vy (ok_16 T) (hr.mono 'd') (by rfl) T.mg_16 T.fn_16.kp T.b_16 .nil (zc (pv 1) (zc (pv 0) ze zh) zh)))) ze))) (pv 2)) zd))),?_⟩;open_k0;refine⟨_,rfl,_,rfl,1,m,rfl,⟨'d','d','o','o'⟩,λl hl a=> ?_⟩;refine ut (mI λk=> .int (Cal.dim y k)) (ur 1 (m - 1).toNat H) hl (by rw[xi];exact yQ 'o') (λx H1 K1 hx sm k1=> ?_) (λH1 sm e=> ?_)
 ·obtain⟨i,hi,rfl⟩:=jk hx;simp only[yZ,qA,y8,yY,qz,yV,yR,qx,yT,yU,qy,qw,tDc,y9,qt,qu,qr,yN,yP,qm,yd,qo,qp,qq,ym,List.replicate,Option.join_some,Option.join_none,ya,ql,yK,yJ,tSl,qd,yI,qe,slT,yp,Int.reduceLT,Int.reduceLE,Int.reduceToNat,Int.reduceNeg,Int.reduceAdd,Int.reduceSub,Int.reduceMul,forall_const,yC,yB,yF,yE,qa,yD,yk,yh,yj,yo,yn,tC,tOp,rI,rI0,tUn,rU,yH,tB,yt,tOr,yu,yv,yw,yx,tIf,yr,yq,yL,qk,tCB,yM,rEq,rNe,qf,qg,qh,qi,qj,qc,yG,ipI,L2.start,JA,JQ,Jp,List.length_nil,List.cons_append,List.nil_append,Jt,List.replicate_succ,List.replicate_zero,Nat.reduceAdd,Nat.reduceSub,List.getElem?_cons_zero,List.getElem?_cons_succ,List.set_cons_zero,List.set_cons_succ,Option.some.injEq,V.int.injEq,V.bl.injEq,V.ref.injEq,V.str.injEq,exists_eq_left',exists_eq_left,exists_eq',exists_and_left,List.cons.injEq,and_true,true_and,and_self,and_assoc,decide_eq_true_eq,if_true,if_false,Bool.true_eq_false,Js,Bool.not_eq_true',Bool.not_true,Bool.not_false,decide_eq_false_iff_not,ite_true,ite_false,reduceCtorEq,false_and,exists_false,false_or,or_false,and_false,List.getElem?_cons_zero,List.nil_append];refine⟨_,_,rfl,'o','o',λH4 s4=>k1 H4 s4⟩
 ·rw[jT] at e;refine⟨l,rfl,(List.range (m - 1).toNat).map λ(i:Nat)=>Cal.dim y (1+(i:Int)),SqL.of (by rw[e,List.map_map];rfl),_,rfl,?_⟩;rw[Cal.dims_sum y _ 'o'];have e1:(1:Int)+((m - 1).toNat:Int)=m:=by omega
  rw[e1];exact q _ sm
def ziG:Sp:=λvs H Q _=> ∃n k:Int,vs= [.int n, .int k]/\0<=n/\n<=3500000/\0<=k/\k<=720/\ ∀H',zj H H'->Q (.int (Cal.mon n k)) H'
theorem sc_18:FnScope ["_law_number","_law_many_here","_law_year","_law_left","_law_month"] ["_law_number","_law_many_here"] (zJ s_18):=⟨rfl,rfl,rfl,by decide+kernel,rfl,by decide+kernel,by decide+kernel⟩
theorem ok_18(T:Txt w K mg t):FnOk P w K mg base (CXE P w) 4 t.a_18 t.d_18 ["_law_number","_law_many_here"] (ziG):=by
 refine T.fn_18.okX sc_18 (λvs H Q E h=> ?_) (λcdv A outer s H vs Q E L hr h=> ?_)
 ·refine opq λ_ kq=> ?_;obtain⟨n,k,rfl,n0,n1,k0,k1,q⟩:=h;apply kq;rfl
 refine opq λ_ kq=> ?_;obtain⟨n,k,rfl,n0,n1,k0,k1,q⟩:=h;apply kq;have nd:=sc_18.nd;refine⟨_,(zi (zu (i:=2) nd rfl (Or.inl rfl) (zg zK (zg zP (pv 0) zd) zd)) (zi (vL (by passes_own) (zC uU (zr L.toLv (ok_15 T) (hr.mono 'd') (by rfl) T.mg_15 T.fn_15.kp T.b_15 .nil (zc (zg zK (pv 2) zd) ze)) (pv 0) (zx _)) (zp (zu (i:=2) nd rfl (Or.inl rfl) (zg zK (pv 2) zd)))) (zi (zu (i:=3) nd rfl (Or.inl rfl) (zg yc (pv 0) (zr L.toLv (ok_15 T) (hr.mono 'd') (by rfl) T.mg_15 T.fn_15.kp T.b_15 .nil (zc (pv 2) ze)))) (zi (zu (i:=4) nd rfl (Or.inl rfl) zd) (zi (vL (by passes_own) (zC uV (pv 3) (zr L.toLv (ok_16 T) (hr.mono 'd') (by rfl) T.mg_16 T.fn_16.kp T.b_16 .nil (zc (pv 2) (zc (pv 4) ze zh) zh)) (zx _)) (zi (zu (i:=3) nd rfl (Or.inl rfl) (zg yc (pv 3) (zr L.toLv (ok_16 T) (hr.mono 'd') (by rfl) T.mg_16 T.fn_16.kp T.b_16 .nil (zc (pv 2) (zc (pv 4) ze zh) zh)))) (zp (zu (i:=4) nd rfl (Or.inl rfl) (zg zK (pv 4) zd))))) (zi (zu (i:=4) nd rfl (Or.inl rfl) (zg zK (zg yc (zg zK (zg qY (pv 2) zd) (pv 4)) zd) (pv 1))) (zi (zu (i:=2) nd rfl (Or.inl rfl) (zg zP (pv 4) zd)) (zp (zy (zr L.toLv (ok_17 T) (hr.mono 'd') (by rfl) T.mg_17 T.fn_17.kp T.b_17 .nil (zc (pv 2) (zc (zg zK (zg zH (pv 4) zd) zd) (zc (zZ (vb (by rfl)) (by rfl) T.no_min vd (zc (zg zK (pv 3) zd) (zc (zr L.toLv (ok_16 T) (hr.mono 'd') (by rfl) T.mg_16 T.fn_16.kp T.b_16 .nil (zc (pv 2) (zc (zg zK (zg zH (pv 4) zd) zd) ze zO) zh)) ze qv) zO)) ze qv) zO) zh))))))))))),?_⟩;open_k0;refine opq λ_ kq=> ?_;obtain⟨y,m,d,va,hn⟩:=Cal.date_exists n0 'o';have iy:=Cal.in_year va;have vr:=id va;obtain⟨v1,v2,v3,v4,v5,v6⟩:=vr;apply kq;have sy:=Cal.ahead_succ y;have en:n=Cal.ahead y+(Cal.cum y m+d - 1):=by rw[<-hn];unfold Cal.num;omega
 refine⟨λj σ1 H1=>H1=H/\ ∃z:Int,σ1= [some (.int n),some (.int k),some (.int z),none,none]/\1<=z/\z<=10000/\Cal.ahead z<=n/\j=(10000 - z).toNat,⟨_,rfl,n / 366+1,rfl,'o','o',by unfold Cal.ahead;omega,rfl⟩,?_⟩;rintro j σ1 H1 ⟨rfl,z,rfl,z1,z2,z3,rfl⟩;open_k0;refine⟨_,rfl,?_⟩;try open_k0
 split
 ·rename_i c;have lz:z+1<=9999:=by
   have e9:Cal.ahead 10000=3652059:=by decide
   apply Classical.byContradiction;intro q;unfold Cal.ahead at c;omega
  refine⟨_,λσ2 H3 h=>h,?_⟩;exact⟨(10000 - (z+1)).toNat,'o',rfl,z+1,rfl,'o','o',c,rfl⟩
 rename_i c;obtain rfl:z=y:=Cal.year_one va (by rw[hn];exact z3) (by rw[hn];omega);try open_k0
 refine⟨_,rfl,_,rfl,?_⟩;refine⟨λj σ1 H2=>zj H1 H2/\ ∃mo:Int,σ1= [some (.int n),some (.int k),some (.int z),some (.int (n - Cal.ahead z - Cal.cum z mo)),some (.int mo)]/\1<=mo/\mo<=12/\Cal.cum z mo<=n - Cal.ahead z/\j=(13 - mo).toNat,⟨12,zj.refl _,1,?_,'d','d',by rw[Cal.cum_one];omega,'d'⟩,?_⟩
 ·rw[Cal.cum_one,Int.sub_zero]
 rintro j σ1 H2 ⟨s2,mo,rfl,mo1,mo2,mo3,rfl⟩;open_k0;have sc:=Cal.cum_succ (y:=z) mo1 mo2;refine⟨_,_,rfl,mo1,mo2,λH3 s3=> ?_⟩;open_k0;split
 ·rename_i c;have lt:mo<12:=by
   apply Classical.byContradiction;intro q;obtain rfl:mo=12:=by omega
   have u:Cal.cum z (12+1)=365+Cal.lp z:=Cal.cum_13 _;omega
  refine⟨_,λσ2 H3 h=>h,?_⟩;refine⟨_,_,rfl,mo1,mo2,λH4 s4=> ?_⟩;open_k0;refine⟨(13 - (mo+1)).toNat,'o',(s2.trans s3).trans s4,mo+1,'o',rfl,'o','o','o',rfl⟩
 rename_i c;obtain rfl:mo=m:=by
  rcases Int.lt_trichotomy mo m with q|q|q
  ·have:=Cal.cum_mono (y:=z) mo1 q 'o';omega
  ·exact q
  ·have:=Cal.cum_mono (y:=z) v3 q 'o';omega
 try open_k0
 have mok:=Cal.mon_ok va (by rw[hn];exact n1) k0 k1;have mv:=Cal.mon_valid va mok;refine⟨Or.inr ⟨'d','d'⟩,_,_,rfl,'o','o',λH4 s4=> ?_⟩;refine⟨_,rfl,_,_,_,rfl,'o','o',λH5 s5=> ?_⟩;have ed:n - Cal.ahead z - Cal.cum z mo+1=d:=by omega
 rw[ed];have fin:=q H5 (((s2.trans s3).trans s4).trans s5);rw[<-hn,Cal.mon_eq va] at fin;exact fin
def kG(dy:Bool):List Nat:=if dy=true then [100,97,121,115] else [109,111,110,116,104,115]
def wY(K:Fg)(H:Hp)(p:Addr)(dy:Bool)(c:Int):Prop:=SqT K H p [.str (SL (kG dy)), .int c]/\Cal.CycOk dy c
noncomputable def begs(f:Int)(dy:Bool)(c:Int)(n:Nat):List V:=(List.range n).map λ(i:Nat)=>V.int (Cal.beg f dy c i)
def zjK(K:Fg):Sp:=λvs H Q _=> ∃(f:Int) (p:Addr) (dy:Bool) (c:Int) (n:Nat),vs= [.int f, .ref p, .int (n:Int)]/\n<=60/\0<=f/\f<=3500000/\wY K H p dy c/\ ∀l H',zj H H'->H' l=some (.lst (begs f dy c (n+1)))->Q (.ref l) H'
theorem sc_19:FnScope ["_law_first_here","_law_cycle_here","_law_many_here"] ["_law_first_here","_law_cycle_here","_law_many_here"] (zJ s_19):=⟨rfl,rfl,rfl,by decide+kernel,rfl,by decide+kernel,by decide+kernel⟩
theorem ok_19(T:Txt w K mg t):FnOk P w K mg base (CXE P w) 5 t.a_19 t.d_19 ["_law_first_here","_law_cycle_here","_law_many_here"] (zjK K):=by
 refine T.fn_19.okX sc_19 (λvs H Q E h=> ?_) (λcdv A outer s H vs Q E L hr h=> ?_)
 ·refine opq λ_ kq=> ?_;obtain⟨f,p,dy,c,n,rfl,hn,f0,f1,hc,q⟩:=h;apply kq;rfl
 refine opq λ_ kq=> ?_;obtain⟨f,p,dy,c,n,rfl,hn,f0,f1,hc,q⟩:=h;apply kq;have nd:=sc_19.nd;refine⟨_,(zi (zL (zC yf (zq zU (pv 1) zd (λ_ _=>rfl)) (zQ st_17) (zx _)) (zp (zy (xA (n:=1) (N:= ["_law_k","_law_first_here","_law_cycle_here"]) (js:= [0,1]) (by rfl) rfl rfl (wz (by rfl) T.no_range (zc (zg zK (pv 2) zd) ze)) (λa=>(zD (i:=0) (show List.Nodup (["_law_k","_law_first_here","_law_cycle_here"]:List Str) from by decide+kernel) rfl (Or.inl rfl))) (λa=>xh) (λa=>(zg zK (pv 1) (zg qY (pv 0) (zq zU (pv 2) zd (λ_ _=>rfl)))))))) zN) (zp (zy (xA (n:=1) (N:= ["_law_k","_law_first_here","_law_cycle_here"]) (js:= [0,1]) (by rfl) rfl rfl (wz (by rfl) T.no_range (zc (zg zK (pv 2) zd) ze)) (λa=>(zD (i:=0) (show List.Nodup (["_law_k","_law_first_here","_law_cycle_here"]:List Str) from by decide+kernel) rfl (Or.inl rfl))) (λa=>xh) (λa=>(zr vy (ok_18 T) (hr.mono 'd') (by rfl) T.mg_18 T.fn_18.kp T.b_18 .nil (zc (pv 1) (zc (zg qY (pv 0) (zq zU (pv 2) zd (λ_ _=>rfl))) ze zO) zh))))))),?_⟩;open_k0;obtain⟨hq,hok⟩:=hc;refine ixT hq (v:= .str (SL (kG dy))) rfl ⟨rfl,?_⟩;have c1: -(2 ^ 64)<c/\c<2 ^ 64:=by
  obtain⟨a,b⟩:=hok;split at b<;>omega
 have ln:((n:Int)+1).toNat=n+1:=by omega
 have fin: ∀l H1,zj H H1->H1 l=some (.lst ((rng 0 ((n:Int)+1).toNat).map (mI λk=> .int (Cal.beg f dy c k))))->Q (.ref l) H1:=λl H1 sm e=>by
  refine q l H1 sm ?_;rw[e,jT,ln];unfold begs;simp only[JR]
 cases dy with
 |true=>
  rw[Jg (show V.str (SL (kG true))=V.str (SL [100,97,121,115]) from rfl)];refine⟨_,rfl,_,_,rfl,rfl,(n:Int)+1,rfl,'o','o',λl hl a=> ?_⟩;refine ut (mI λk=> .int (Cal.beg f true c k)) (ur 0 ((n:Int)+1).toNat H) hl (by rw[xi];exact yQ 'o') (λx H1 K1 hx sm k1=> ?_) (λH1 sm e=>fin l H1 sm e);obtain⟨i,hi,rfl⟩:=jk hx;lge_open0
  refine ixT (sm.sqT hq) (v:= .int c) rfl ⟨_,rfl,Or.inr c1,?_⟩;have z:=k1 H1 (zj.refl _);have e:Cal.beg f true c (0+(i:Int))=f+(0+(i:Int))*c:=by unfold Cal.beg;rw[Jg rfl]
  rw[zjc,e] at z;exact z
 |false=>
  rw[Jf (by intro z;have z':=V.str.inj z;rw[ya] at z';revert z';decide)];refine⟨_,rfl,_,_,rfl,rfl,(n:Int)+1,rfl,'o','o',λl hl a=> ?_⟩;refine ut (mI λk=> .int (Cal.beg f false c k)) (ur 0 ((n:Int)+1).toNat H) hl (by rw[xi];exact yQ 'o') (λx H1 K1 hx sm k1=> ?_) (λH1 sm e=>fin l H1 sm e);obtain⟨i,hi,rfl⟩:=jk hx;lge_open0
  refine ixT (sm.sqT hq) (v:= .int c) rfl ⟨_,rfl,Or.inr c1,?_⟩;obtain⟨m0,m1⟩:=Cal.mul_bound (c:=c) (k:=0+(i:Int)) hok.1 hok.2 'o' 'o';refine⟨_,_,rfl,f0,f1,m0,m1,λH4 s4=> ?_⟩;have z:=k1 H4 s4;have e:Cal.beg f false c (0+(i:Int))=Cal.mon f ((0+(i:Int))*c):=by unfold Cal.beg;rw[Jf 'd']
  rw[zjc,e] at z;exact z
def zkJ:Sp:=λvs H Q _=> ∃c:Int,vs= [.int c]/\ ∀r H',zj H H'->0<=r->r<=3500000->Q (.int r) H'
theorem sc_1a:FnScope ["_law_cell","_law_year","_law_edges"] ["_law_cell"] (zJ s_1a):=⟨rfl,rfl,rfl,by decide+kernel,rfl,by decide+kernel,by decide+kernel⟩
theorem ok_1a(T:Txt w K mg t):FnOk P w K mg base (CXE P w) 4 t.a_1a t.d_1a ["_law_cell"] (zkJ):=by
 refine T.fn_1a.okX sc_1a (λvs H Q E h=> ?_) (λcdv A outer s H vs Q E L hr h=> ?_)
 ·obtain⟨c,rfl,q⟩:=h;rfl
 obtain⟨c,rfl,q⟩:=h;have nd:=sc_1a.nd;refine⟨_,(zi (zu (i:=1) nd rfl (Or.inl rfl) (zg zK zd (zg zH (zg zP (pv 0) zd) zd))) (zi (zu (i:=2) nd rfl (Or.inl rfl) (zY (zc zd (zc zd (zc (zr L.toLv (ok_17 T) (hr.mono 'd') (by rfl) T.mg_17 T.fn_17.kp T.b_17 .nil (zc (pv 1) (zc zd (zc zd ze zw) zw) zh)) (zc (zr L.toLv (ok_17 T) (hr.mono 'd') (by rfl) T.mg_17 T.fn_17.kp T.b_17 .nil (zc (pv 1) (zc zd (zc zd ze zw) zw) zh)) (zc (zr L.toLv (ok_17 T) (hr.mono 'd') (by rfl) T.mg_17 T.fn_17.kp T.b_17 .nil (zc (zg qY (zg zP (pv 1) zd) zd) (zc zd (zc zd ze zw) zw) zO)) ze qv) qv) qv) zw) zw))) (zi (zu (i:=2) nd rfl (Or.inl rfl) (zg wb (pv 2) (zY (zc (zr L.toLv (ok_17 T) (hr.mono 'd') (by rfl) T.mg_17 T.fn_17.kp T.b_17 .nil (zc (pv 1) (zc zd (zc zd ze zw) zw) zh)) (zc (zr L.toLv (ok_17 T) (hr.mono 'd') (by rfl) T.mg_17 T.fn_17.kp T.b_17 .nil (zc (pv 1) (zc zd (zc zd ze zw) zw) zh)) ze qv) qv)))) (zp (zy (zq zG (zg wb (pv 2) (zY (zc (zg zH (zg zP (pv 0) zd) zd) ze))) (zg zH (zg zP (pv 0) zd) zd) (λ_ _=>rfl))))))),?_⟩;open_k0;generalize hy:4+c / 32 % 9500=y;have y1:4<=y/\y<=9503:=by omega
 refine⟨_,_,_,rfl,'d','d',λH1 s1=>⟨_,_,_,rfl,'d','d',λH2 s2=>⟨Or.inr ⟨'d','d'⟩,_,_,_,rfl,'d','d',λH3 s3 p1 H4 _ s4 e4=> ?_⟩⟩⟩;refine⟨_,_,_,rfl,'d','d',λH5 s5=>⟨_,_,_,rfl,'d','d',λH6 s6 p2 H7 _ s7 e7=> ?_⟩⟩;refine⟨p1,p2,_,_,rfl,rfl,s7 _ _ (s6 _ _ (s5 _ _ e4)),e7,qC (by simp),λp3 H8 _ s8 e8=> ?_⟩;intro p4 H9 _ s9 e9;refine⟨p3,p4,_,_,rfl,rfl,s9 _ _ e8,e9,qC (by simp),λp5 H10 _ s10 e10=> ?_⟩;have z:0<=c / 4 % 8/\c / 4 % 8<8:=by omega
 have e11:H10 p5=some (.lst (([0,3500000,Cal.num y 1 31,Cal.num y 1 30,Cal.num (y / 4*4) 2 29,Cal.num y 8 31,Cal.num y 12 31,c / 32 % 3500001]:List Int).map V.int)):=e10;have b:=vx (xs:= [0,3500000,Cal.num y 1 31,Cal.num y 1 30,Cal.num (y / 4*4) 2 29,Cal.num y 8 31,Cal.num y 12 31,c / 32 % 3500001]) (lo:=0) (hi:=3500000) (λx hx=> ?_) z.1 z.2
 ·exact ixL (SqL.of e11) (xZ z.1 z.2) (q _ _ (((((((((s1.trans s2).trans s3).trans s4).trans s5).trans s6).trans s7).trans s8).trans s9).trans s10) b.1 b.2)
 ·simp only[JD,List.not_mem_nil,or_false] at hx;rcases hx with rfl|rfl|rfl|rfl|rfl|rfl|rfl|rfl
  ·omega
  ·omega
  ·exact Cal.num_small 'o' 'o' 'd' 'd'
  ·exact Cal.num_small 'o' 'o' 'd' 'd'
  ·exact Cal.num_small 'o' 'o' 'd' 'd'
  ·exact Cal.num_small 'o' 'o' 'd' 'd'
  ·exact Cal.num_small 'o' 'o' 'd' 'd'
  ·omega
def zkK(K:Fg):Sp:=λvs H Q _=> ∃c:Int,vs= [.int c]/\ ∀p dy r H',zj H H'->wY K H' p dy r->Q (.ref p) H'
theorem sc_1b:FnScope ["_law_cell","_law_some"] ["_law_cell"] (zJ s_1b):=⟨rfl,rfl,rfl,by decide+kernel,rfl,by decide+kernel,by decide+kernel⟩
theorem ok_1b(T:Txt w K mg t):FnOk P w K mg base (CXE P w) 1 t.a_1b t.d_1b ["_law_cell"] (zkK K):=by
 refine T.fn_1b.okX sc_1b (λvs H Q E h=> ?_) (λcdv A outer s H vs Q E L hr h=> ?_)
 ·obtain⟨c,rfl,q⟩:=h;rfl
 obtain⟨c,rfl,q⟩:=h;have nd:=sc_1b.nd;refine⟨_,(zi (zu (i:=1) nd rfl (Or.inl rfl) (zY (zc (zR (zc (zQ st_17) (zc (zg zK zd (zg zH (zg zP (pv 0) zd) zd)) ze zO) zw)) (zc (zR (zc (zQ st_17) (zc (zg zK zd (zg zH (zg zP (pv 0) zd) zd)) ze zO) zw)) (zc (zR (zc (zQ st_4) (zc zd ze zw) zw)) (zc (zR (zc (zQ st_4) (zc (zg zK zd (zg zH (zg zP (pv 0) zd) zd)) ze zO) zw)) ze xt) xt) xt) xt))) (zi (zu (i:=1) nd rfl (Or.inl rfl) (zg wb (pv 1) (zY (zc (zR (zc (zQ st_17) (zc (zg zK zd (zg zH (zg zP (pv 0) zd) zd)) ze zO) zw)) (zc (zR (zc (zQ st_4) (zc (zg zK zd (zg zH (zg zP (pv 0) zd) zd)) ze zO) zw)) (zc (zR (zc (zQ st_4) (zc zd ze zw) zw)) ze xt) xt) xt)))) (zp (zy (zq zG (zg wb (pv 1) (zY (zc (zR (zc (zQ st_17) (zc (zg zK zd (zg zH (zg zP (pv 0) zd) zd)) ze zO) zw)) ze))) (zg zH (pv 0) zd) (λ_ _=>rfl)))))),?_⟩;open_k0;intro p0 H0 _ s0 e0 p1 H1 _ s1 e1 p2 H2 _ s2 e2 p3 H3 _ s3 e3 l0 H4 _ s4 e4 p4 H5 _ s5 e5 p5 H6 _ s6 e6 p6 H7 _ s7 e7 l1 H8 _ s8 e8;refine⟨l0,l1,_,_,rfl,rfl,s8 _ _ (s7 _ _ (s6 _ _ (s5 _ _ e4))),e8,qC (by simp),λl2 H9 _ s9 e9=> ?_⟩;intro p7 H10 _ s10 e10 l3 H11 _ s11 e11;refine⟨l2,l3,_,_,rfl,rfl,s11 _ _ (s10 _ _ e9),e11,qC (by simp),λl4 H12 _ s12 e12=> ?_⟩;have e13:H12 l4=some (.lst [.ref p0, .ref p1, .ref p2, .ref p3, .ref p4, .ref p5, .ref p6, .ref p7]):=e12;obtain⟨v,hv,e⟩:=zkr (ys:= [V.ref p0, .ref p1, .ref p2, .ref p3, .ref p4, .ref p5, .ref p6, .ref p7]) (i:=c % 8) 'o' (by simp only[Jp,List.length_nil];omega);refine ixL (SqL.of e13) e ?_;have t11:=s11.trans s12;have t10:=s10.trans t11;have t9:=s9.trans t10;have t8:=s8.trans t9;have t7:=s7.trans t8;have t6:=s6.trans t7;have t5:=s5.trans t6;have t4:=s4.trans t5;have t3:=s3.trans t4;have t2:=s2.trans t3;have t1:=s1.trans t2;have t0:=s0.trans t1;simp only[JD,List.not_mem_nil,or_false] at hv;rcases hv with rfl|rfl|rfl|rfl|rfl|rfl|rfl|rfl
 ·exact q _ true _ _ t0 ⟨SqT.of (t1 _ _ e0),Cal.cyc_days 'o' 'o'⟩
 ·exact q _ true _ _ t0 ⟨SqT.of (t2 _ _ e1),Cal.cyc_days 'o' 'o'⟩
 ·exact q _ false _ _ t0 ⟨SqT.of (t3 _ _ e2),Cal.cyc_months 'o' 'o'⟩
 ·exact q _ false _ _ t0 ⟨SqT.of (t4 _ _ e3),Cal.cyc_months 'o' 'o'⟩
 ·exact q _ true _ _ t0 ⟨SqT.of (t6 _ _ e5),Cal.cyc_days 'o' 'o'⟩
 ·exact q _ false _ _ t0 ⟨SqT.of (t7 _ _ e6),Cal.cyc_months 'o' 'o'⟩
 ·exact q _ false _ _ t0 ⟨SqT.of (t8 _ _ e7),Cal.cyc_months 'o' 'o'⟩
 ·exact q _ true _ _ t0 ⟨SqT.of (t11 _ _ e10),Cal.cyc_days 'o' 'o'⟩
theorem wY.same{p:Addr}(h:wY K H p dy c)(sm:zj H H'):wY K H' p dy c:=⟨sm.sqT h.1,h.2⟩
theorem qK{k:Int}(h0:0<=k)(h1:k<n):atI (begs f dy c n) k=some (.int (Cal.beg f dy c k)):=by
 obtain⟨j,rfl⟩:=Int.eq_ofNat_of_zero_le h0;refine wq ?_;unfold begs;rw[Jh,List.getElem?_range 'o'];rfl
def zkL(K:Fg)(t:Adr):Sp:=λvs H Q E=> ∃(f:Int) (p:Addr) (dy:Bool) (c k:Int),vs= [.int f, .ref p, .int k]/\0<=f/\f<=3500000/\wY K H p dy c/\
 (0<=k->k<=60-> ∀H',zj H H'->Q (.int (Cal.beg f dy c k)) H')/\(k<0-> ∀H',zj H H'->E (.ref t.c_Z09) none H')/\(60<k-> ∀H',zj H H'->E (.ref t.c_Z0e) none H')
theorem sc_07:FnScope ["first","cycle","k","word","many"] ["first","cycle","k"] (zJ s_07):=⟨rfl,rfl,rfl,by decide+kernel,rfl,by decide+kernel,by decide+kernel⟩
theorem ok_07(T:Txt w K mg t):FnOk P w K mg base (CXE P w) 5 t.a_07 t.d_07 ["first","cycle","k"] (zkL K t):=by
 refine T.fn_07.okX sc_07 (λvs H Q E h=> ?_) (λcdv A outer s H vs Q E L hr h=> ?_)
 ·refine opq λ_ kq=> ?_;obtain⟨f,p,dy,c,k,rfl,f0,f1,hc,q1,q2,q3⟩:=h;apply kq;rfl
 refine opq λ_ kq=> ?_;obtain⟨f,p,dy,c,k,rfl,f0,f1,hc,q1,q2,q3⟩:=h;have nd:=sc_07.nd;obtain⟨u_Z0b,h_Z0b,r_Z0b⟩:=T.k_Z0b;apply kq;refine⟨_,(zi (zL (zC qP (pv 2) zd (zx _)) (zp (wR L T.ex_Z09 (by rfl) (by rfl) T.mg_Z09 (zc ww ze))) zN) (zi (zL (zC wD (pv 2) (xj (by rfl) h_Z0b r_Z0b) (zx _)) (zp (wR L T.ex_Z0e (by rfl) (by rfl) T.mg_Z0e (zc ww ze))) zN) (zi (xo (pv 1) (qN (n:=2) rfl (zT (zD (i:=3) nd rfl (Or.inl rfl)) (zT (zD (i:=4) nd rfl (Or.inl rfl)) qM)))) (zi (zL (zC yf (pv 3) (zQ st_4) (zx _)) (zp (zy (zr L.toLv (ok_06 T) (hr.mono 'd') (by rfl) T.mg_06 T.fn_06.kp T.b_06 .nil (zc (pv 0) (zc (zg qY (pv 2) (pv 4)) ze zO) zh)))) zN) (zp (zy (zg zK (pv 0) (zg qY (pv 2) (pv 4))))))))),?_⟩;open_k0;split
 ·rename_i h;exact q2 h _ (zj.refl _)
 rename_i h0;split
 ·rename_i h;exact q3 h _ (zj.refl _)
 rename_i h1;have q:=q1 'o' 'o';refine⟨p,_,rfl,hc.1,rfl,?_⟩;open_k0;obtain⟨c0,c1⟩:=hc.2;cases dy with
 |true=>
  rw[Jf 'd'];rw[Jg rfl] at c1;refine⟨.inl ⟨'o','o'⟩,?_⟩;exact q H (zj.refl _)
 |false=>
  rw[Jg 'd'];rw[Jf 'd'] at c1;refine opq λ_ kq=> ?_;obtain⟨y,m,d,va,hn⟩:=Cal.date_exists f0 (show f<=3652058 by omega);apply kq;have mb:=Cal.mul_bound c0 c1 (show 0<=k by omega) (show k<=60 by omega);have mo:=Cal.mon_ok va 'o' mb.1 mb.2;refine⟨.inl ⟨'o','o'⟩,f,k*c,y,m,d,rfl,va,hn,λ_ H' s'=> ?_,λno=>absurd mo no⟩;have e:Cal.beg f false c k=Cal.num (Cal.monY y m (k*c)) (Cal.monM y m (k*c)) (Cal.monD y m d (k*c)):=by
   unfold Cal.beg;rw[Jf 'd',<-hn,Cal.mon_eq va]
  rw[<-e];exact q H' s'
def zjL(K:Fg)(t:Adr):Sp:=λvs H Q E=> ∃(f:Int) (p:Addr) (dy:Bool) (c d:Int),vs= [.int f, .ref p, .int d]/\0<=f/\f<=3500000/\wY K H p dy c/\
 (∀k:Int,0<=k->k<60->Cal.beg f dy c k<=d->d<Cal.beg f dy c (k+1)-> ∀p H',zj H H'->H' p=some (.tup [.int k, .int (Cal.beg f dy c k), .int (Cal.beg f dy c (k+1))])->Q (.ref p) H')/\
 (d<f-> ∀H',zj H H'->E (.ref t.c_Z09) none H')/\(Cal.beg f dy c 60<=d-> ∀H',zj H H'->E (.ref t.c_Z0e) none H')
def vI:Option (Option V)->Int
 |some (some (.int i))=>i
 |_=>0
theorem sc_08:FnScope ["first","cycle","day","low","high","middle"] ["first","cycle","day"] (zJ s_08):=⟨rfl,rfl,rfl,by decide+kernel,rfl,by decide+kernel,by decide+kernel⟩
theorem ok_08(T:Txt w K mg t):FnOk P w K mg base (CXE P w) 6 t.a_08 t.d_08 ["first","cycle","day"] (zjL K t):=by
 refine T.fn_08.okX sc_08 (λvs H Q E h=> ?_) (λcdv A outer s H vs Q E L hr h=> ?_)
 ·refine opq λ_ kq=> ?_;obtain⟨f,p,dy,c,d,rfl,f0,f1,hc,q1,q2,q3⟩:=h;apply kq;rfl
 refine opq λ_ kq=> ?_;obtain⟨f,p,dy,c,d,rfl,f0,f1,hc,q1,q2,q3⟩:=h;have nd:=sc_08.nd;obtain⟨u_Z0b,h_Z0b,r_Z0b⟩:=T.k_Z0b;apply kq;refine⟨_,(zi (zL (zC qP (pv 2) (pv 0) (zx _)) (zp (wR L T.ex_Z09 (by rfl) (by rfl) T.mg_Z09 (zc ww ze))) zN) (zi (zL (zC uV (pv 2) (zr L.toLv (ok_07 T) (hr.mono 'd') (by rfl) T.mg_07 T.fn_07.kp T.b_07 .nil (zc (pv 0) (zc (pv 1) (zc (xj (by rfl) h_Z0b r_Z0b) ze zh) zh) zh)) (zx _)) (zp (wR L T.ex_Z0e (by rfl) (by rfl) T.mg_Z0e (zc ww ze))) zN) (zi (zu (i:=3) nd rfl (Or.inl rfl) zd) (zi (zu (i:=4) nd rfl (Or.inl rfl) (xj (by rfl) h_Z0b r_Z0b)) (zi (vL (by passes_own) (zC wD (zg yc (pv 4) (pv 3)) zd (zx _)) (zi (zu (i:=5) nd rfl (Or.inl rfl) (zg zP (zg zK (pv 3) (pv 4)) zd)) (zp (zL (zC qP (pv 2) (zr L.toLv (ok_07 T) (hr.mono 'd') (by rfl) T.mg_07 T.fn_07.kp T.b_07 .nil (zc (pv 0) (zc (pv 1) (zc (pv 5) ze zh) zh) zh)) (zx _)) (zp (zu (i:=4) nd rfl (Or.inl rfl) (pv 5))) (zp (zu (i:=3) nd rfl (Or.inl rfl) (pv 5))))))) (zp (zy (zR (zc (pv 3) (zc (zr L.toLv (ok_07 T) (hr.mono 'd') (by rfl) T.mg_07 T.fn_07.kp T.b_07 .nil (zc (pv 0) (zc (pv 1) (zc (pv 3) ze zh) zh) zh)) (zc (zr L.toLv (ok_07 T) (hr.mono 'd') (by rfl) T.mg_07 T.fn_07.kp T.b_07 .nil (zc (pv 0) (zc (pv 1) (zc (pv 4) ze zh) zh) zh)) ze qv) qv) zh))))))))),?_⟩;open_k0;split
 ·rename_i h;exact q2 h _ (zj.refl _)
 rename_i h0;refine⟨f,p,dy,c,60,rfl,f0,f1,hc,λ_ _ H1 s1=> ?_,λz=>absurd z 'd',λz=>absurd z 'd'⟩;try open_k0
 split
 ·rename_i h;exact q3 h _ s1
 rename_i h1;have b0:Cal.beg f dy c 0=f:=Cal.beg_zero f0 f1;obtain⟨Pv,hPv⟩: ∃Pv:St->Hp->Prop,Pv=λσ1 H2=>zj H H2/\ ∃(lo hi:Int) (x5:Option V),0<=lo/\lo<hi/\hi<=60/\Cal.beg f dy c lo<=d/\d<Cal.beg f dy c hi/\σ1= [some (.int f),some (.ref p),some (.int d),some (.int lo),some (.int hi),x5]:=⟨_,rfl⟩
 obtain⟨mu,hmu⟩: ∃mu:St->Hp->Nat,mu=λσ1 _=>(vI σ1[4]? - vI σ1[3]?).toNat:=⟨_,rfl⟩
 refine jJ Pv mu (by rw[hPv];exact⟨s1,0,60,_,'d','d','d','o','o',rfl⟩) (λσ1 H2 h=> ?_) ?_
 ·rw[hPv] at h;refine opq λ_ kq=> ?_;obtain⟨s2,lo,hi,x5,l0,lh,l1,d0,d1,rfl⟩:=h;apply kq;open_k0;split
  ·rename_i c2;have m0:lo<(lo+hi) / 2/\(lo+hi) / 2<hi:=by omega
   generalize (lo+hi) / 2=mi at m0 ⊢;refine⟨f,p,dy,c,mi,rfl,f0,f1,hc.same s2,λ_ _ H3 s3=> ?_,λz=>absurd z 'o',λz=>absurd z 'o'⟩;try open_k0
   split
   ·rename_i dm;rw[hPv,hmu];exact⟨⟨s2.trans s3,lo,mi,_,l0,m0.1,'o',d0,dm,rfl⟩,by show (mi - lo).toNat<(hi - lo).toNat;omega⟩
   ·rename_i dm;rw[hPv,hmu];exact⟨⟨s2.trans s3,mi,hi,_,'o',m0.2,l1,'o',d1,rfl⟩,by show (hi - mi).toNat<(hi - lo).toNat;omega⟩
  ·rename_i c2;obtain rfl:hi=lo+1:=by omega
   refine⟨f,p,dy,c,lo,rfl,f0,f1,hc.same s2,λ_ _ H3 s3=> ?_,λz=>absurd z 'o',λz=>absurd z 'o'⟩;try open_k0
   refine⟨f,p,dy,c,lo+1,rfl,f0,f1,(hc.same s2).same s3,λ_ _ H4 s4=> ?_,λz=>absurd z 'o',λz=>absurd z 'o'⟩;try open_k0
   intro p5 H5 _ s5 e5;exact q1 lo l0 'o' d0 d1 p5 H5 (((s2.trans s3).trans s4).trans s5) e5
 ·intro σ1 H1 Q1 Q2 hm h;first
   |(obtain⟨x,hx,y,hy,i,j,e1,e2,i2,j2,e3,e4,k,e5,r⟩:=h
     exact⟨x,hx,y,hy,i,j,e1,e2,i2,j2,e3,e4,k,e5,hm _ _ r⟩)
   |(dsimp only[tTestJ,tOp,tVarJ,tC,rJ0,intP_int,blP_bl] at h ⊢
     simp only[varP_ex,intP_ex] at h ⊢;refine opq λ_ kq=> ?_;obtain⟨x,hx,y,hy,i,e1,j,e2,r⟩:=h;apply kq;exact⟨x,hx,y,hy,i,e1,j,e2,hm _ _ r⟩)
theorem yi(v:V)(r:List V):atI (v::r) 0=some v:=wq (j:=0) rfl
theorem qB(u v:V)(r:List V):atI (u::v::r) 1=some v:=wq (j:=1) rfl
theorem wZ(u v x:V)(r:List V):atI (u::v::x::r) 2=some x:=wq (j:=2) rfl
theorem zms(u v x y:V)(r:List V):atI (u::v::x::y::r) 3=some y:=wq (j:=3) rfl
theorem zh9{f c d:Int}{dy:Bool}(b0:Cal.beg f dy c 0<=d): ∀n:Nat,d<Cal.beg f dy c n-> ∃k:Int,0<=k/\k<n/\Cal.beg f dy c k<=d/\d<Cal.beg f dy c (k+1)
 |0,h=>absurd h (by have:Cal.beg f dy c ((0:Nat):Int)=Cal.beg f dy c 0:=rfl;omega)
 |n+1,h=>by
  by_cases z:d<Cal.beg f dy c n
  ·obtain⟨k,h1,h2,h3,h4⟩:=zh9 b0 n z;exact⟨k,h1,'o',h3,h4⟩
  ·exact⟨n,'o','o','o',h⟩
def xv(K:Fg)(H:Hp)(p:Addr)(l:Addr)(f:Int)(dy:Bool)(cc:Int):Prop:= ∃pc,0<=f/\f<=3500000/\wY K H pc dy cc/\H p=some (.tup [.ref l, .int f, .ref pc])
theorem xv.same{K:Fg}{H H':Hp}{p l:Addr}{f:Int}{dy:Bool}{cc:Int}(h:xv K H p l f dy cc)(s:zj H H'):xv K H' p l f dy cc:=
 let ⟨pc,h1,h2,h3,h4⟩:=h;⟨pc,h1,h2,h3.same s,s _ _ h4⟩
theorem xv.cyc{p:Addr}(h:xv K H p l f dy cc):0<=f/\f<=3500000/\Cal.CycOk dy cc:=let ⟨_,h1,h2,h3,_⟩:=h;⟨h1,h2,h3.2⟩
theorem kH{k:Int}(f0:0<=f)(f1:f<=3500000)(hc:Cal.CycOk dy c)(k0:0<=k)(k1:k<60):0<=Cal.beg f dy c k/\Cal.beg f dy c k<Cal.beg f dy c (k+1)/\Cal.beg f dy c (k+1)<4000000:=by
 have a1:=Cal.beg_lt (k:=k) (j:=k+1) f0 f1 hc k0 'o' 'o';have a2:=Cal.beg_ge (k:=k) f0 f1 hc k0 'o';have a3:=Cal.beg_range (k:=k+1) f0 f1 hc 'o' 'o';exact⟨'o',a1,'o'⟩
def zhw(K:Fg)(t:Adr):Sp:=λvs H Q E=> ∃(pa l:Addr) (f:Int) (dy:Bool) (c k:Int),vs= [.ref pa, .int k]/\xv K H pa l f dy c/\(0<=k->k<60-> ∀p H',zj H H'->H' p=some (.tup [.int (Cal.beg f dy c k), .int (Cal.beg f dy c (k+1))])->Q (.ref p) H')/\(k<0-> ∀H',zj H H'->E (.ref t.c_Z09) none H')/\(60<=k-> ∀H',zj H H'->E (.ref t.c_Z0e) none H')
theorem sc_0d:FnScope ["account","k","plans","first","cycle"] ["account","k"] (zJ s_0d):=⟨rfl,rfl,rfl,by decide+kernel,rfl,by decide+kernel,by decide+kernel⟩
theorem ok_0d(T:Txt w K mg t):FnOk P w K mg base (CXE P w) 6 t.a_0d t.d_0d ["account","k"] (zhw K t):=by
 refine T.fn_0d.okX sc_0d (λvs H Q E h=> ?_) (λcdv A outer s H vs Q E L hr h=> ?_)
 ·refine opq λ_ kq=> ?_;obtain⟨pa,l,f,dy,c,k,rfl,⟨pc,f0,f1,hc,ep⟩,q,q2,q3⟩:=h;apply kq;rfl
 refine opq λ_ kq=> ?_;obtain⟨pa,l,f,dy,c,k,rfl,⟨pc,f0,f1,hc,ep⟩,q,q2,q3⟩:=h;apply kq;have nd:=sc_0d.nd;refine⟨_,(zi (xo (pv 0) (qN (n:=3) rfl (zT (zD (i:=2) nd rfl (Or.inl rfl)) (zT (zD (i:=3) nd rfl (Or.inl rfl)) (zT (zD (i:=4) nd rfl (Or.inl rfl)) qM))))) (zp (zy (zR (zc (zr L.toLv (ok_07 T) (hr.mono 'd') (by rfl) T.mg_07 T.fn_07.kp T.b_07 .nil (zc (pv 3) (zc (pv 4) (zc (pv 1) ze zh) zh) zh)) (zc (zr L.toLv (ok_07 T) (hr.mono 'd') (by rfl) T.mg_07 T.fn_07.kp T.b_07 .nil (zc (pv 3) (zc (pv 4) (zc (zg zK (pv 1) zd) ze zO) zh) zh)) ze qv) qv))))),?_⟩;open_k0;refine⟨pa,_,rfl,SqT.of ep,rfl,?_⟩;open_k0;refine⟨f,pc,dy,c,k,rfl,f0,f1,hc,λk0 _ H1 s1=> ?_,q2,λz=>q3 'o'⟩;refine⟨f,pc,dy,c,k+1,rfl,f0,f1,hc.same s1,λ_ k1 H2 s2=> ?_,λz=>by omega,λz H3 s3=>q3 'o' H3 (s1.trans s3)⟩;exact λp H3 _ s3 e3=>q k0 'o' p H3 ((s1.trans s2).trans s3) e3
def zhx(K:Fg)(t:Adr):Sp:=λvs H Q E=> ∃(pa l:Addr) (f:Int) (dy:Bool) (c d:Int),vs= [.ref pa, .int d]/\xv K H pa l f dy c/\
 (∀k:Int,0<=k->k<60->Cal.beg f dy c k<=d->d<Cal.beg f dy c (k+1)-> ∀p H',zj H H'->H' p=some (.tup [.int k, .int (Cal.beg f dy c k), .int (Cal.beg f dy c (k+1))])->Q (.ref p) H')/\
 (d<f-> ∀H',zj H H'->E (.ref t.c_Z09) none H')/\(Cal.beg f dy c 60<=d-> ∀H',zj H H'->E (.ref t.c_Z0e) none H')
theorem sc_0e:FnScope ["account","day","plans","first","cycle"] ["account","day"] (zJ s_0e):=⟨rfl,rfl,rfl,by decide+kernel,rfl,by decide+kernel,by decide+kernel⟩
theorem ok_0e(T:Txt w K mg t):FnOk P w K mg base (CXE P w) 7 t.a_0e t.d_0e ["account","day"] (zhx K t):=by
 refine T.fn_0e.okX sc_0e (λvs H Q E h=> ?_) (λcdv A outer s H vs Q E L hr h=> ?_)
 ·refine opq λ_ kq=> ?_;obtain⟨pa,l,f,dy,c,d,rfl,⟨pc,f0,f1,hc,ep⟩,q1,q2,q3⟩:=h;apply kq;rfl
 refine opq λ_ kq=> ?_;obtain⟨pa,l,f,dy,c,d,rfl,⟨pc,f0,f1,hc,ep⟩,q1,q2,q3⟩:=h;apply kq;have nd:=sc_0e.nd;refine⟨_,(zi (xo (pv 0) (qN (n:=3) rfl (zT (zD (i:=2) nd rfl (Or.inl rfl)) (zT (zD (i:=3) nd rfl (Or.inl rfl)) (zT (zD (i:=4) nd rfl (Or.inl rfl)) qM))))) (zp (zy (zr L.toLv (ok_08 T) (hr.mono 'd') (by rfl) T.mg_08 T.fn_08.kp T.b_08 .nil (zc (pv 3) (zc (pv 4) (zc (pv 1) ze zh) zh) zh))))),?_⟩;open_k0;refine⟨pa,_,rfl,SqT.of ep,rfl,?_⟩;open_k0;exact⟨f,pc,dy,c,d,rfl,f0,f1,hc,q1,q2,q3⟩
theorem jz(ch:Ch)(h:zV ch=true): ∃r,(chD ch).map sv= .str (SL (chW ch)):: .int (zE ch)::r:=by
 cases ch with
 |plan d nm=>exact⟨_,rfl⟩
 |seats d n=>exact⟨_,rfl⟩
 |word w d=>exact⟨_,rfl⟩
 |undo k=>cases h
 |grant k=>cases h
 |back=>cases h
theorem zjM(h:zV ch=true)(w4: ∀w d,ch= .word w d->w<4):(chW ch= [108,97,115,116]↔zjC ch=true):=by
 cases ch with
 |plan d nm=>exact⟨λz=>absurd z (by show¬([112,108,97,110]:List Nat)=_;decide),λz=>by cases z⟩
 |seats d n=>exact⟨λz=>absurd z (by show¬([115,101,97,116,115]:List Nat)=_;decide),λz=>by cases z⟩
 |word w d=>
  have:=w4 w d rfl;match w,this with
  |0,_=>exact⟨λz=>absurd z (by show¬([104,111,108,100]:List Nat)=_;decide),λz=>by cases z⟩
  |1,_=>exact⟨λz=>absurd z (by show¬([103,111]:List Nat)=_;decide),λz=>by cases z⟩
  |2,_=>exact⟨λz=>absurd z (by show¬([115,116,111,112]:List Nat)=_;decide),λz=>by cases z⟩
  |3,_=>exact⟨λ_=>rfl,λ_=>rfl⟩
 |undo k=>cases h
 |grant k=>cases h
 |back=>cases h
def TmB(f e:Int)(ch:Ch):Prop:=zV ch=true/\f<=zE ch/\zE ch<e/\ ∀w d,ch= .word w d->w<4
def zjN(K:Fg):Sp:=λvs H Q _=> ∃(pa p l:Addr) (f:Int) (dy:Bool) (c:Int) (ch:Ch),vs= [.ref pa, .ref p]/\xv K H pa l f dy c/\SqT K H p ((chD ch).map sv)/\TmB f (Cal.beg f dy c 60) ch/\ ∀H',zj H H'->Q (.int (cntF f dy c ch)) H'
theorem sc_0g:FnScope ["account","change","own_day","k","begin","end"] ["account","change"] (zJ s_0g):=⟨rfl,rfl,rfl,by decide+kernel,rfl,by decide+kernel,by decide+kernel⟩
theorem ok_0g(T:Txt w K mg t):FnOk P w K mg base (CXE P w) 8 t.a_0g t.d_0g ["account","change"] (zjN K):=by
 refine T.fn_0g.okX sc_0g (λvs H Q E h=> ?_) (λcdv A outer s H vs Q E L hr h=> ?_)
 ·refine opq λ_ kq=> ?_;obtain⟨pa,p,l,f,dy,c,ch,rfl,ha,hp,⟨tm,d0,d1,w4⟩,q⟩:=h;apply kq;rfl
 refine opq λ_ kq=> ?_;obtain⟨pa,p,l,f,dy,c,ch,rfl,ha,hp,⟨tm,d0,d1,w4⟩,q⟩:=h;apply kq;have nd:=sc_0g.nd;refine⟨_,(zi (zu (i:=2) nd rfl (Or.inl rfl) (zq zU (pv 1) zd (λ_ _=>rfl))) (zi (zL (zC yf (zq zU (pv 1) zd (λ_ _=>rfl)) (zQ st_9) (zx _)) (zi (xo (zr L.toLv (ok_0e T) (hr.mono 'd') (by rfl) T.mg_0e T.fn_0e.kp T.b_0e .nil (zc (pv 0) (zc (pv 2) ze zh) zh)) (qN (n:=3) rfl (zT (zD (i:=3) nd rfl (Or.inl rfl)) (zT (zD (i:=4) nd rfl (Or.inl rfl)) (zT (zD (i:=5) nd rfl (Or.inl rfl)) qM))))) (zp (zy (pv 5)))) zN) (zp (zy (pv 2))))),?_⟩;obtain⟨r,er⟩:=jz ch tm;rw[er] at hp;have lw:=zjM tm w4;unfold cntF at q;open_k0;refine ixT hp (qB _ _ _) (ixT hp (yi _ _) ⟨rfl,?_⟩);by_cases e:chW ch= [108,97,115,116]
 ·rw[Jg (lw.mp e)] at q;obtain⟨f0,f1,hc⟩:=ha.cyc;refine qZ (by rw[e]) ⟨pa,l,f,dy,c,_,rfl,ha,λk k0 k1 a1 a2 p1 H1 s1 e1=> ?_,λz=>by omega,λz=>by omega⟩;rw[<-zk3 f0 f1 hc k0 k1 a1 a2] at e1;refine⟨p1,_,rfl,SqT.of e1,rfl,?_⟩;open_k0;exact q H1 s1
 ·rw[Jf (λz=>e (lw.mpr z))] at q;exact zW (qU e) (q _ (zj.refl _))
theorem zlR(f0:0<=f)(f1:f<=3500000)(hc:Cal.CycOk dy c)(h:TmB f (Cal.beg f dy c 60) ch):0<=cntF f dy c ch/\cntF f dy c ch<4000000:=by
 obtain⟨tm,d0,d1,w4⟩:=h;have b6:=Cal.beg_range (k:=60) f0 f1 hc 'd' 'd';unfold cntF;split
 ·have b0:Cal.beg f dy c 0=f:=Cal.beg_zero f0 f1;obtain⟨k,k0,k1,a1,a2⟩:=zh9 (f:=f) (c:=c) (dy:=dy) (d:=zE ch) 'o' 60 d1;rw[zk3 f0 f1 hc k0 k1 a1 a2]
  have:=Cal.beg_range (k:=k+1) f0 f1 hc 'o' 'o';omega
 ·omega
abbrev Tm:=Addr×Addr×Int×Ch
def uI(K:Fg)(H:Hp)(f e:Int)(t:Tm):Prop:=(H t.1=some (.tup [.int t.2.2.1, .ref t.2.1])/\SqT K H t.2.1 ((chD t.2.2.2).map sv))/\(0<=t.2.2.1/\t.2.2.1<64)/\TmB f e t.2.2.2
def xc(K:Fg)(H:Hp)(l:Addr)(f e:Int)(ts:List Tm):Prop:=H l=some (.lst (ts.map λt=>V.ref t.1))/\ts.length<64/\(∀t∈ts,uI K H f e t)/\ts.Pairwise (λx y=>x.2.2.1≠y.2.2.1)
theorem uI.same{t:Tm}(h:uI K H f e t)(s:zj H H'):uI K H' f e t:=⟨⟨s _ _ h.1.1,s.sqT h.1.2⟩,h.2⟩
theorem xc.same{K:Fg}{H H':Hp}{l:Addr}{f e:Int}{ts:List Tm}(h:xc K H l f e ts)(s:zj H H'):xc K H' l f e ts:=⟨s _ _ h.1,h.2.1,λt ht=>(h.2.2.1 t ht).same s,h.2.2.2⟩
theorem zjP{β:Type}{g:α->β}{ws l:List β}(h:ws.Perm l): ∀os:List α,l=os.map g-> ∃os':List α,os'.Perm os/\os'.map g=ws:=by
 induction h with
 |nil=>intro os e;exact⟨os, .refl _,e.symm⟩
 |cons x _ ih=>
  intro os e;match os,e with
  |o::r,e=>
   obtain⟨e1,e2⟩:=List.cons.inj e;obtain⟨r',p,m⟩:=ih r e2;exact⟨o::r',p.cons o,by rw[JA,m,e1]⟩
 |swap x y l=>
  intro os e;match os,e with
  |a::b::r,e=>
   obtain⟨e1,e2⟩:=List.cons.inj e;obtain⟨e3,e4⟩:=List.cons.inj e2;exact⟨b::a::r, .swap a b r,by rw[JA,JA,e1,e3,e4]⟩
 |trans _ _ ih1 ih2=>
  intro os e;obtain⟨os2,p2,m2⟩:=ih2 os e;obtain⟨os1,p1,m1⟩:=ih1 os2 m2.symm;exact⟨os1,p1.trans p2,m1⟩
noncomputable def rtT(f:Int)(dy:Bool)(c:Int)(t:Tm):Rt:=rtF f dy c t.2.2.1 t.2.2.2
abbrev Or':=Addr×Tm
def vH(K:Fg)(H:Hp)(l:Addr)(f:Int)(dy:Bool)(c:Int)(os:List Or'):Prop:=H l=some (.lst (os.map λo=>V.ref o.1))/\os.length<64/\(∀o∈os,H o.1=some (.tup [.int (cntF f dy c o.2.2.2.2), .int (zE o.2.2.2.2), .int o.2.2.2.1, .ref o.2.2.1])/\SqT K H o.2.2.1 ((chD o.2.2.2.2).map sv)/\TmB f (Cal.beg f dy c 60) o.2.2.2.2)/\os.Pairwise (λx y=>cntF f dy c x.2.2.2.2<=cntF f dy c y.2.2.2.2/\(rtT f dy c x.2).2.2.1<(rtT f dy c y.2).2.2.1)
def ziH(K:Fg):Sp:=λvs H Q _=> ∃(pa l la:Addr) (f:Int) (dy:Bool) (c:Int) (ts:List Tm),vs= [.ref pa, .ref l]/\xv K H pa la f dy c/\xc K H l f (Cal.beg f dy c 60) ts/\ ∀l' os H',zj H H'->vH K H' l' f dy c os->(∀t,t∈os.map (·.2)↔t∈ts)->Q (.ref l') H'
theorem sc_0h:FnScope ["account","terms"] ["account","terms"] (zJ s_0h):=⟨rfl,rfl,rfl,by decide+kernel,rfl,by decide+kernel,by decide+kernel⟩
theorem ok_0h(T:Txt w K mg t):FnOk P w K mg base (CXE P w) 9 t.a_0h t.d_0h ["account","terms"] (ziH K):=by
 refine T.fn_0h.okX sc_0h (λvs H Q E h=> ?_) (λcdv A outer s H vs Q E L hr h=> ?_)
 ·refine opq λ_ kq=> ?_;obtain⟨pa,l,la,f,dy,c,ts,rfl,ha,ht,q⟩:=h;apply kq;rfl
 refine opq λ_ kq=> ?_;obtain⟨pa,l,la,f,dy,c,ts,rfl,ha,ht,q⟩:=h;apply kq;have nd:=sc_0h.nd;refine⟨_,(zp (zy (zZ zgo (by rfl) T.no_sorted uv (zc (xA (n:=2) (N:= ["number","change","account"]) (js:= [0]) (by rfl) rfl rfl (qO (pv 1)) (λa=>(qN (n:=2) rfl (zT (zD (i:=0) (show List.Nodup (["number","change","account"]:List Str) from by decide+kernel) rfl (Or.inl rfl)) (zT (zD (i:=1) (show List.Nodup (["number","change","account"]:List Str) from by decide+kernel) rfl (Or.inl rfl)) qM)))) (λa=>xh) (λa=>(zR (zc (zr vy (ok_0g T) (hr.mono 'd') (by rfl) T.mg_0g T.fn_0g.kp T.b_0g .nil (zc (pv 2) (zc (pv 1) ze zh) zh)) (zc (zq zU (pv 1) zd (λ_ _=>rfl)) (zc (pv 0) (zc (pv 1) ze zh) zh) z6) qv)))) ze)))),?_⟩;refine opq λ_ kq=> ?_;obtain⟨f0,f1,hc⟩:=ha.cyc;have b6:=Cal.beg_range (k:=60) f0 f1 hc 'd' 'd';obtain⟨el,n64,hts,hn⟩:=id ht;apply kq;open_k0;refine⟨_,rfl,l,rfl,⟨_,SqL.of el⟩,λl2 hl2 aa=> ?_⟩;refine xl (λj xs H5=> ∃as:List Addr,xs=as.map V.ref/\as.length=j/\ ∀(i:Nat) (a:Addr) (t:Tm),as[i]? =some a->ts[i]? =some t->H5 a=some (.tup [.int (cntF f dy c t.2.2.2), .int (zE t.2.2.2), .int t.2.2.1, .ref t.2.1])) (xr (SqL.of el)) hl2 (by rw[Ja];exact yQ 'o') (λ_ _=>⟨[],rfl,rfl,λi a t h=>by rw[List.getElem?_nil] at h;cases h⟩) (λj x xs H8 K1 K0 hx sm pv hl k1 k0=> ?_) (λxs H2 s2 pv _ w2=> ?_)
 ·obtain⟨u,hz,rfl⟩: ∃u,ts[j]? =some u/\x= .ref u.1:=by
   rw[Jh] at hx;obtain⟨u,e,rfl⟩:=Jk.mp hx;exact⟨u,e,rfl⟩
  refine opq λ_ kq=> ?_;obtain⟨⟨z1,z2⟩,zn,tb⟩:=hts u (Ji hz);obtain⟨as,rfl,al,pa'⟩:=pv;obtain⟨r,er⟩:=jz u.2.2.2 tb.1;apply kq;lge_open0
  refine⟨_,_,rfl,SqT.of (sm _ _ z1),rfl,?_⟩;lge_open0
  refine⟨pa,u.2.1,la,f,dy,c,u.2.2.2,rfl,ha.same sm,sm.sqT z2,tb,λH9 s9=> ?_⟩;rw[er] at z2;refine ixT (s9.sqT (sm.sqT z2)) (qB _ _ _) ⟨qC 'd',λp H10 hp s10 e10=>k1 _ _ (s9.trans s10) λH5 h5=>⟨as++ [p],by rw[Jd];rfl,by rw[Jj,al];rfl,λi a t h1 h2=> ?_⟩⟩;have s810:=s9.trans s10;have nl: ∀a xs,H10 a=some (.tup xs)->a≠l2:=λa xs h z=>by rw[z,s810 _ _ hl] at h;cases h
  rw[List.getElem?_append] at h1;by_cases hi:i<as.length
  ·rw[Jg hi] at h1
   have:=s810 _ _ (pa' i a t h1 h2);exact h5 _ _ (nl _ _ this) this
  ·rw[Jf hi] at h1;have i0:i - as.length=0:=by
    rcases Nat.lt_or_ge (i - as.length) 1 with z|z
    ·omega
    ·rw[List.getElem?_eq_none (by simpa using z)] at h1;cases h1
   rw[i0] at h1;cases h1;obtain rfl:i=j:=by omega
   rw[hz] at h2;cases h2;exact h5 _ _ (nl _ _ e10) e10
 rw[Ja] at pv;refine opq λ_ kq=> ?_;obtain⟨as,rfl,al,pa'⟩:=pv;obtain⟨os,hos⟩: ∃os:List Or',os=as.zip ts:=⟨_,rfl⟩
 apply kq;have om: ∀o∈os,∃i:Nat,as[i]? =some o.1/\ts[i]? =some o.2:=λo ho=>by
  rw[hos] at ho;obtain⟨i,hi,e⟩:=List.mem_iff_getElem.mp ho;rw[List.length_zip] at hi;refine⟨i,?_,?_⟩
  ·rw[Jb 'o',<-e,List.getElem_zip]
  ·rw[Jb 'o',<-e,List.getElem_zip]
 have ol:os.length=ts.length:=by rw[hos,List.length_zip,al,Nat.min_self]
 have o1:os.map (·.1)=as:=by rw[hos];exact List.map_fst_zip 'o'
 have o2:os.map (·.2)=ts:=by rw[hos];exact List.map_snd_zip 'o'
 have ob: ∀o∈os,H2 o.1=some (.tup [.int (cntF f dy c o.2.2.2.2), .int (zE o.2.2.2.2), .int o.2.2.2.1, .ref o.2.2.1])/\SqT K H2 o.2.2.1 ((chD o.2.2.2.2).map sv)/\TmB f (Cal.beg f dy c 60) o.2.2.2.2/\(0<=o.2.2.2.1/\o.2.2.2.1<64):=λo ho=>by
  refine opq λ_ kq=> ?_;obtain⟨i,h1,h2⟩:=om o ho;obtain⟨⟨z1,z2⟩,zn,tb⟩:=hts o.2 (Ji h2);apply kq;exact⟨pa' i _ _ h1 h2,s2.sqT z2,tb,zn⟩
 obtain⟨zf,hzf⟩: ∃zf:Or'->Tz,zf=λo=>(o.1,cntF f dy c o.2.2.2.2,zE o.2.2.2.2,o.2.2.2.1):=⟨_,rfl⟩
 refine⟨l2,rfl,os.map zf,by rw[w2,List.map_map,<-o1,List.map_map,hzf];rfl,by rw[Ja];omega,λz hz=> ?_,?_,λws wp wo p H3 hp s3 e3=> ?_⟩
 ·refine opq λ_ kq=> ?_;obtain⟨o,ho,rfl⟩:=Jw.mp hz;obtain⟨a1,a2,a3,a4⟩:=ob o ho;apply kq;have ci:=zlR f0 f1 hc a3;rw[hzf];exact⟨⟨ci,⟨by show 0<=zE o.2.2.2.2;have:=a3.2.1;omega,by show zE o.2.2.2.2<4000000;have:=a3.2.2.1;omega⟩,a4⟩,_,a1⟩
 ·rw[List.pairwise_map,hzf]
  have:=hn;rw[<-o2,List.pairwise_map] at this;exact this
 ·obtain⟨os',op,rfl⟩:=zjP wp os rfl;refine q p os' H3 (s2.trans s3) ⟨by rw[e3,List.map_map,hzf];rfl,by rw[op.length_eq];omega,λo ho=> ?_,?_⟩ λt=> ?_
  ·refine opq λ_ kq=> ?_;obtain⟨a1,a2,a3,_⟩:=ob o (op.mem_iff.mp ho);apply kq;exact⟨s3 _ _ a1,s3.sqT a2,a3⟩
  ·rw[List.pairwise_map,hzf] at wo;exact wo
  ·rw[(op.map (·.2)).mem_iff,o2]
theorem zhy: ∀{w:Nat},w<4->(xS w= [104,111,108,100]/\vZ w= [104,101,108,100])\/(xS w= [103,111]/\vZ w= [111,110])\/(xS w= [115,116,111,112]/\vZ w= [111,102,102])\/(xS w= [108,97,115,116]/\vZ w= [111,102,102])
 |0,_=> .inl ⟨rfl,rfl⟩
 |1,_=> .inr (.inl ⟨rfl,rfl⟩)
 |2,_=> .inr (.inr (.inl ⟨rfl,rfl⟩))
 |3,_=> .inr (.inr (.inr ⟨rfl,rfl⟩))
def on':D:= .str [111,110]
def stT(o0 o1 o2:Option Rt):List D:= [stV o0 .non,stV o1 (.int 1),stV o2 on']
def xU(f:Int)(dy:Bool)(c:Int)(ts:List Tm)(day:Int)(o0 o1 o2:Option Rt):Prop:=Bst (ts.map (rtT f dy c)) day 0 o0/\Bst (ts.map (rtT f dy c)) day 1 o1/\Bst (ts.map (rtT f dy c)) day 2 o2
def ziI(K:Fg):Sp:=λvs H Q _=> ∃(l:Addr) (d:Int) (f:Int) (dy:Bool) (c:Int) (os:List Or'),vs= [.ref l, .int d]/\vH K H l f dy c os/\ ∀p o0 o1 o2 H',zj H H'->xU f dy c (os.map (·.2)) d o0 o1 o2->H' p=some (.tup ((stT o0 o1 o2).map sv))->Q (.ref p) H'
theorem sc_0i:FnScope ["ordered","day","name","seats","word","counts","own_day","number","change"] ["ordered","day"] (zJ s_0i):=⟨rfl,rfl,rfl,by decide+kernel,rfl,by decide+kernel,by decide+kernel⟩
theorem ok_0i(T:Txt w K mg t):FnOk P w K mg base (CXE P w) 1 t.a_0i t.d_0i ["ordered","day"] (ziI K):=by
 refine T.fn_0i.okX sc_0i (λvs H Q E h=> ?_) (λcdv A outer s H vs Q E L hr h=> ?_)
 ·refine opq λ_ kq=> ?_;obtain⟨l,d,f,dy,c,os,rfl,ho,q⟩:=h;apply kq;rfl
 refine opq λ_ kq=> ?_;obtain⟨l,d,f,dy,c,os,rfl,ho,q⟩:=h;apply kq;have nd:=sc_0i.nd;refine⟨_,(zi (zu (i:=2) nd rfl (Or.inl rfl) uM) (zi (zu (i:=3) nd rfl (Or.inl rfl) zd) (zi (zu (i:=4) nd rfl (Or.inl rfl) (zQ st_10)) (zi (xy (by passes_own) rfl (qO (pv 0)) (qN (n:=4) rfl (zT (zD (i:=5) nd rfl (Or.inl rfl)) (zT (zD (i:=6) nd rfl (Or.inl rfl)) (zT (zD (i:=7) nd rfl (Or.inl rfl)) (zT (zD (i:=8) nd rfl (Or.inl rfl)) qM))))) (zi (zL (zC wD (pv 5) (pv 1) (zx _)) (zp kW) zN) (zp (zL (zC yf (zq zU (pv 8) zd (λ_ _=>rfl)) (zQ st_11) (zx _)) (zp (zu (i:=2) nd rfl (Or.inl rfl) (zq zU (pv 8) zd (λ_ _=>rfl)))) (zp (zL (zC yf (zq zU (pv 8) zd (λ_ _=>rfl)) (zQ st_12) (zx _)) (zp (zu (i:=3) nd rfl (Or.inl rfl) (zq zU (pv 8) zd (λ_ _=>rfl)))) (zp (zu (i:=4) nd rfl (Or.inl rfl) (zjy (by rfl) T.k_Z0f (zq zU (pv 8) zd (λ_ _=>rfl)) (λ_ _=>rfl)))))))))) (zp (zy (zR (zc (pv 2) (zc (pv 3) (zc (pv 4) ze zh) zh) zh)))))))),?_⟩;refine opq λ_ kq=> ?_;obtain⟨el,n64,h3,so⟩:=id ho;apply kq;have fin: ∀(i:Nat) (kd:Nat) (o':Option Rt),(i=os.length\/ ∃x,os[i]? =some x/\d<cntF f dy c x.2.2.2.2)->Bst ((os.take i).map λx=>rtT f dy c x.2) d kd o'->Bst ((os.map (·.2)).map (rtT f dy c)) d kd o':=λi kd o' hi hb=>by
  rw[List.map_map];refine hb.more (λt ht=> ?_) λt ht nt=> ?_
  ·obtain⟨x,hx,rfl⟩:=Jw.mp ht;exact Jw.mpr ⟨x,List.mem_of_mem_take hx,rfl⟩
  ·obtain⟨x,hx,rfl⟩:=Jw.mp ht;have nx:x∉os.take i:=λz=>nt (Jw.mpr ⟨x,z,rfl⟩);show d<cntF f dy c x.2.2.2.2;rcases hi with rfl|⟨y,hy,ly⟩
   ·rw[JC] at nx;exact absurd hx nx
   ·refine opq λ_ kq=> ?_;obtain⟨j,hj,ej⟩:=List.mem_iff_getElem.mp hx;obtain⟨hi',ey⟩:=Jc.mp hy;apply kq;by_cases jl:j<i
    ·exact absurd (List.mem_iff_getElem.mpr ⟨j,by rw[JB];omega,by rw[List.getElem_take,ej]⟩) nx
    ·by_cases ji:j=i
     ·subst ji;rw[ej] at ey;rw[ey];exact ly
     ·have:=(List.pairwise_iff_getElem.mp so i j hi' hj 'o').1;rw[ey,ej] at this;omega
 open_k0
 ((try dsimp only);refine xM λR hR=> ?_;w_why)
 refine⟨⟨_,SqL.of el⟩,hR _ _ ?_⟩;clear hR;obtain⟨Pv,hPv⟩: ∃Pv:Nat->St->Hp->Prop,Pv=λi σ1 H7=>zj H H7/\ ∃(o0 o1 o2:Option Rt) (x5 x6 x7 x8:Option V),(Bst ((os.take i).map λx=>rtT f dy c x.2) d 0 o0/\Bst ((os.take i).map λx=>rtT f dy c x.2) d 1 o1/\Bst ((os.take i).map λx=>rtT f dy c x.2) d 2 o2)/\σ1= [some (.ref l),some (.int d),some (sv (stV o0 .non)),some (sv (stV o1 (.int 1))),some (sv (stV o2 on')),x5,x6,x7,x8]:=⟨_,rfl⟩
 have b0: ∀kd,Bst ((os.take 0).map λx=>rtT f dy c x.2) d kd none:=λkd t h=>by rw[List.take_zero] at h;cases h
 refine vM (xs:=os.map λo=>V.ref o.1) Pv (by rw[hPv];exact⟨zj.refl _,none,none,none,_,_,_,_,⟨b0 0,b0 1,b0 2⟩,rfl⟩) (λ_ _ _ _ h=>by rw[hPv] at h;exact SqL.of (h.1 _ _ el)) (λi x σ1 H7 hx h=> ?_) (λσ1 H7 h=> ?_)
 ·rw[hPv] at h;refine opq λ_ kq=> ?_;obtain⟨s7,o0,o1,o2,x5,x6,x7,x8,⟨c0,c1,c2⟩,rfl⟩:=h;apply kq;obtain⟨o,hz,rfl⟩: ∃o,os[i]? =some o/\x= .ref o.1:=by
   rw[Jh] at hx;obtain⟨u,e,rfl⟩:=Jk.mp hx;exact⟨u,e,rfl⟩
  refine opq λ_ kq=> ?_;obtain⟨a1,a2,tb⟩:=h3 o (Ji hz);have a2':=s7.sqT a2;obtain⟨r,er⟩:=jz o.2.2.2.2 tb.1;apply kq;rw[er] at a2';have tk:(os.take (i+1)).map (λx=>rtT f dy c x.2)=(os.take i).map (λx=>rtT f dy c x.2)++ [rtT f dy c o.2]:=by rw[JH,hz,Option.toList_some,Jd];rfl
  have rb: ∀(kd:Nat) (o':Option Rt),Bst ((os.take i).map λx=>rtT f dy c x.2) d kd o'-> ∀t,o'=some t->t.2.2.1<=(rtT f dy c o.2).2.2.1:=λkd o' hb t e=>by
   subst e;refine opq λ_ kq=> ?_;obtain⟨y,hy,rfl⟩:=Jw.mp hb.1;obtain⟨j,hj,ej⟩:=List.mem_iff_getElem.mp hy;rw[JB] at hj;rw[List.getElem_take] at ej;obtain⟨hi',eo⟩:=Jc.mp hz;apply kq
   have:=(List.pairwise_iff_getElem.mp so j i 'o' hi' 'o').2;rw[ej,eo] at this;omega
  open_k0;refine⟨o.1,_,rfl,SqT.of (s7 _ _ a1),rfl,?_⟩;simp only[yZ,qA,y8,yY,qz,yV,yR,qx,yT,yU,qy,qw,tDc,y9,qt,qu,qr,yN,yP,qm,yd,qo,qp,qq,ym,List.replicate,Option.join_some,Option.join_none,ya,ql,yK,yJ,tSl,qd,yI,qe,slT,yp,Int.reduceLT,Int.reduceLE,Int.reduceToNat,Int.reduceNeg,Int.reduceAdd,Int.reduceSub,Int.reduceMul,forall_const,yC,yB,yF,yE,qa,yD,yk,yh,yj,yo,yn,tC,tOp,rI,rI0,tUn,rU,yH,tB,yt,tOr,yu,yv,yw,yx,tIf,yr,yq,yL,qk,tCB,yM,rEq,rNe,qf,qg,qh,qi,qj,qc,yG,ipI,L2.start,JA,JQ,Jp,List.length_nil,List.cons_append,List.nil_append,Jt,List.replicate_succ,List.replicate_zero,Nat.reduceAdd,Nat.reduceSub,List.getElem?_cons_zero,List.getElem?_cons_succ,List.set_cons_zero,List.set_cons_succ,Option.some.injEq,V.int.injEq,V.bl.injEq,V.ref.injEq,V.str.injEq,exists_eq_left',exists_eq_left,exists_eq',exists_and_left,List.cons.injEq,and_true,true_and,and_self,and_assoc,decide_eq_true_eq,if_true,if_false,Bool.true_eq_false,Js,Bool.not_eq_true',Bool.not_true,Bool.not_false,decide_eq_false_iff_not,ite_true,ite_false,reduceCtorEq,false_and,exists_false,false_or,or_false,and_false,jF,Nat.reduceLeDiff];refine qE (λh p H8 _ s8 e8=>q p o0 o1 o2 H8 (s7.trans s8) ⟨fin i 0 _ (.inr ⟨o,hz,h⟩) c0,fin i 1 _ (.inr ⟨o,hz,h⟩) c1,fin i 2 _ (.inr ⟨o,hz,h⟩) c2⟩ e8) (λh=> ?_);have nx: ∀(o0' o1' o2':Option Rt),Bst ((os.take i).map (λx=>rtT f dy c x.2)++ [rtT f dy c o.2]) d 0 o0'->Bst ((os.take i).map (λx=>rtT f dy c x.2)++ [rtT f dy c o.2]) d 1 o1'->Bst ((os.take i).map (λx=>rtT f dy c x.2)++ [rtT f dy c o.2]) d 2 o2'->Pv (i+1) [some (.ref l),some (.int d),some (sv (stV o0' .non)),some (sv (stV o1' (.int 1))),some (sv (stV o2' on')),some (.int (cntF f dy c o.2.2.2.2)),some (.int (zE o.2.2.2.2)),some (.int o.2.2.2.1),some (.ref o.2.2.1)] H7:=λo0' o1' o2' h0 h1 h2=>by
   rw[<-tk] at h0 h1 h2;rw[hPv];exact⟨s7,o0',o1',o2',_,_,_,_,⟨h0,h1,h2⟩,rfl⟩
  have le:(rtT f dy c o.2).2.1<=d:=by show cntF f dy c o.2.2.2.2<=d;omega
  have ne: ∀{kd:Nat},chK o.2.2.2.2≠kd->(rtT f dy c o.2).1=kd->d<(rtT f dy c o.2).2.1:=λh e=>absurd e h;refine ixT a2' (yi _ _) ⟨rfl,?_⟩;cases hch:o.2.2.2.2 with
  |plan dd nm=>
   rw[hch] at er a2';cases er;have k0:chK o.2.2.2.2=0:=by rw[hch];rfl
   have g:=nx (some (rtT f dy c o.2)) o1 o2 (c0.last k0 le (rb 0 o0 c0)) (c1.skip (ne (by rw[k0];decide))) (c2.skip (ne (by rw[k0];decide)));rw[show sv (stV (some (rtT f dy c o.2)) .non)= .str (SL nm) by show sv (v7 o.2.2.2.2)=_;rw[hch];rfl,hch] at g;exact qZ rfl (ixT a2' (wZ _ _ _ _) g)
  |seats dd n=>
   rw[hch] at er a2';cases er;have k0:chK o.2.2.2.2=1:=by rw[hch];rfl
   have g:=nx o0 (some (rtT f dy c o.2)) o2 (c0.skip (ne (by rw[k0];decide))) (c1.last k0 le (rb 1 o1 c1)) (c2.skip (ne (by rw[k0];decide)));rw[show sv (stV (some (rtT f dy c o.2)) (.int 1))= .int n by show sv (v7 o.2.2.2.2)=_;rw[hch];rfl,hch] at g;exact zW (qU (by show¬([115,101,97,116,115]:List Nat)=_;decide)) (ixT a2' (yi _ _) ⟨rfl,qZ rfl (ixT a2' (wZ _ _ _ _) g)⟩)
  |word wi dd=>
   have w4:=tb.2.2.2 wi dd hch;rw[hch] at er a2';have k0:chK o.2.2.2.2=2:=by rw[hch];rfl
   have g:=nx o0 o1 (some (rtT f dy c o.2)) (c0.skip (ne (by rw[k0];decide))) (c1.skip (ne (by rw[k0];decide))) (c2.last k0 le (rb 2 o2 c2));rw[show sv (stV (some (rtT f dy c o.2)) on')= .str (SL (vZ wi)) by show sv (v7 o.2.2.2.2)=_;rw[hch];rfl,hch] at g;rw[show chW (.word wi dd)=xS wi from rfl] at a2' ⊢;rcases zhy w4 with⟨ew,et⟩|⟨ew,et⟩|⟨ew,et⟩|⟨ew,et⟩
   ·rw[ew] at a2' ⊢;rw[et] at g;exact zW (qU 'd') (ixT a2' (yi _ _) ⟨rfl,zW (qU 'd') (ixT a2' (yi _ _) ⟨_,rfl,_,rfl,g⟩)⟩)
   ·rw[ew] at a2' ⊢;rw[et] at g;exact zW (qU 'd') (ixT a2' (yi _ _) ⟨rfl,zW (qU 'd') (ixT a2' (yi _ _) ⟨_,rfl,_,rfl,g⟩)⟩)
   ·rw[ew] at a2' ⊢;rw[et] at g;exact zW (qU 'd') (ixT a2' (yi _ _) ⟨rfl,zW (qU 'd') (ixT a2' (yi _ _) ⟨_,rfl,_,rfl,g⟩)⟩)
   ·rw[ew] at a2' ⊢;rw[et] at g;exact zW (qU 'd') (ixT a2' (yi _ _) ⟨rfl,zW (qU 'd') (ixT a2' (yi _ _) ⟨_,rfl,_,rfl,g⟩)⟩)
  |undo k=>have:=tb.1;rw[hch] at this;cases this
  |grant k=>have:=tb.1;rw[hch] at this;cases this
  |back=>have:=tb.1;rw[hch] at this;cases this
 ·rw[hPv] at h;refine opq λ_ kq=> ?_;obtain⟨s7,o0,o1,o2,x5,x6,x7,x8,⟨c0,c1,c2⟩,rfl⟩:=h;apply kq;rw[Ja] at c0 c1 c2;open_k0;exact λp H8 _ s8 e8=>q p o0 o1 o2 H8 (s7.trans s8) ⟨fin _ 0 _ (.inl rfl) c0,fin _ 1 _ (.inl rfl) c1,fin _ 2 _ (.inl rfl) c2⟩ e8
def ziJ(K:Fg)(t:Adr):Sp:=λvs H Q E=> ∃(pa l la:Addr) (f:Int) (dy:Bool) (c d:Int) (ts:List Tm),vs= [.ref pa, .ref l, .int d]/\xv K H pa la f dy c/\xc K H l f (Cal.beg f dy c 60) ts/\
 (f<=d->d<Cal.beg f dy c 60-> ∀p ts' o0 o1 o2 H',zj H H'->(∀t,t∈ts'↔t∈ts)->xU f dy c ts' d o0 o1 o2->H' p=some (.tup ((stT o0 o1 o2).map sv))->Q (.ref p) H')/\
 (d<f-> ∀H',zj H H'->E (.ref t.c_Z09) none H')/\(Cal.beg f dy c 60<=d-> ∀H',zj H H'->E (.ref t.c_Z0e) none H')
theorem sc_0j:FnScope ["account","terms","day"] ["account","terms","day"] (zJ s_0j):=⟨rfl,rfl,rfl,by decide+kernel,rfl,by decide+kernel,by decide+kernel⟩
theorem ok_0j(T:Txt w K mg t):FnOk P w K mg base (CXE P w) 10 t.a_0j t.d_0j ["account","terms","day"] (ziJ K t):=by
 refine T.fn_0j.okX sc_0j (λvs H Q E h=> ?_) (λcdv A outer s H vs Q E L hr h=> ?_)
 ·refine opq λ_ kq=> ?_;obtain⟨pa,l,la,f,dy,c,d,ts,rfl,ha,ht,q1,q2,q3⟩:=h;apply kq;rfl
 refine opq λ_ kq=> ?_;obtain⟨pa,l,la,f,dy,c,d,ts,rfl,ha,ht,q1,q2,q3⟩:=h;apply kq;have nd:=sc_0j.nd;refine⟨_,(zi (qX (zr L.toLv (ok_0e T) (hr.mono 'd') (by rfl) T.mg_0e T.fn_0e.kp T.b_0e .nil (zc (pv 0) (zc (pv 2) ze zh) zh))) (zp (zy (zr L.toLv (ok_0i T) (hr.mono 'd') (by rfl) T.mg_0i T.fn_0i.kp T.b_0i .nil (zc (zr L.toLv (ok_0h T) (hr.mono 'd') (by rfl) T.mg_0h T.fn_0h.kp T.b_0h .nil (zc (pv 0) (zc (pv 1) ze zh) zh)) (zc (pv 2) ze zh) qv))))),?_⟩;obtain⟨f0,f1,hc⟩:=ha.cyc;have b0:Cal.beg f dy c 0=f:=Cal.beg_zero f0 f1;open_k0;refine⟨pa,la,f,dy,c,d,rfl,ha,λk k0 k1 a1 a2 p1 H1 s1 _=> ?_,q2,q3⟩;refine⟨pa,l,la,f,dy,c,ts,rfl,ha.same s1,ht.same s1,λl2 os H2 s2 ho om=> ?_⟩;have g0:=Cal.beg_ge (k:=k) f0 f1 hc k0 'o';have g1:=Cal.beg_le (k:=k+1) (j:=60) f0 f1 hc 'o' 'o' 'd';exact⟨l2,d,f,dy,c,os,rfl,ho,λp o0 o1 o2 H3 s3 so e3=>q1 'o' 'o' p _ o0 o1 o2 H3 ((s1.trans s2).trans s3) om so e3⟩
def zmt(K:Fg)(H:Hp)(pa:Addr)(f:Int)(dy:Bool)(c:Int)(nm:List Nat)(pr ct:Int):Prop:= ∃(l:Addr) (zs:List (V×Pl)),xv K H pa l f dy c/\H l=some (.lst (zs.map (·.1)))/\wc K H zs/\zs.length<=8/\(∃z0,(zs.filter λz=>decide (z.2.1=nm))[0]? =some z0/\z0.2.2=(pr,ct))/\(0<=pr/\pr<10 ^ 30)/\0<=ct/\ct<=400
def zkM(K:Fg):Sp:=λvs H Q _=> ∃(pa:Addr) (f:Int) (dy:Bool) (c:Int) (nm:List Nat) (pr ct:Int),vs= [.ref pa, .str (SL nm)]/\zmt K H pa f dy c nm pr ct/\ ∀p H',zj H H'->H' p=some (.tup [.int pr, .int ct])->Q (.ref p) H'
theorem sc_0l:FnScope ["account","name"] ["account","name"] (zJ s_0l):=⟨rfl,rfl,rfl,by decide+kernel,rfl,by decide+kernel,by decide+kernel⟩
theorem ok_0l(T:Txt w K mg t):FnOk P w K mg base (CXE P w) 1 t.a_0l t.d_0l ["account","name"] (zkM K):=by
 refine T.fn_0l.okX sc_0l (λvs H Q E h=> ?_) (λcdv A outer s H vs Q E L hr h=> ?_)
 ·refine opq λ_ kq=> ?_;obtain⟨pa,f,dy,c,nm,pr,ct,rfl,⟨l,zs,⟨pc,f0,f1,hc,ep⟩,el,za,z8,⟨z0,hz0,ez0⟩,_⟩,q⟩:=h;apply kq;rfl
 refine opq λ_ kq=> ?_;obtain⟨pa,f,dy,c,nm,pr,ct,rfl,⟨l,zs,⟨pc,f0,f1,hc,ep⟩,el,za,z8,⟨z0,hz0,ez0⟩,_⟩,q⟩:=h;apply kq;have nd:=sc_0l.nd;refine⟨_,(zp (zy (zq zG (xA (n:=3) (N:= ["plan","price","count","name"]) (js:= [1]) (by rfl) rfl rfl (qO (zq zU (pv 0) zd (λ_ _=>rfl))) (λa=>(qN (n:=3) rfl (zT (zD (i:=0) (show List.Nodup (["plan","price","count","name"]:List Str) from by decide+kernel) rfl (Or.inl rfl)) (zT (zD (i:=1) (show List.Nodup (["plan","price","count","name"]:List Str) from by decide+kernel) rfl (Or.inl rfl)) (zT (zD (i:=2) (show List.Nodup (["plan","price","count","name"]:List Str) from by decide+kernel) rfl (Or.inl rfl)) qM))))) (λa=>(jb (zC yf (pv 0) (pv 3) (zx _)))) (λa=>(zR (zc (pv 1) (zc (pv 2) ze zh) zh)))) zd (λ_ _=>rfl)))),?_⟩;simp only[yZ,qA,y8,yY,qz,yV,yR,qx,yT,yU,qy,qw,tDc,y9,qt,qu,qr,yN,yP,qm,yd,qo,qp,qq,ym,List.replicate,Option.join_some,Option.join_none,ya,ql,yK,yJ,tSl,qd,yI,qe,slT,yp,Int.reduceLT,Int.reduceLE,Int.reduceToNat,Int.reduceNeg,Int.reduceAdd,Int.reduceSub,Int.reduceMul,forall_const,yC,yB,yF,yE,qa,yD,yk,yh,yj,yo,yn,tC,tOp,rI,rI0,tUn,rU,yH,tB,yt,tOr,yu,yv,yw,yx,tIf,yr,yq,yL,qk,tCB,yM,rEq,rNe,qf,qg,qh,qi,qj,qc,yG,ipI,L2.start,JA,JQ,Jp,List.length_nil,List.cons_append,List.nil_append,Jt,List.replicate_succ,List.replicate_zero,Nat.reduceAdd,Nat.reduceSub,List.getElem?_cons_zero,List.getElem?_cons_succ,List.set_cons_zero,List.set_cons_succ,Option.some.injEq,V.int.injEq,V.bl.injEq,V.ref.injEq,V.str.injEq,exists_eq_left',exists_eq_left,exists_eq',exists_and_left,List.cons.injEq,and_true,true_and,and_self,and_assoc,decide_eq_true_eq,if_true,if_false,Bool.true_eq_false,Js,Bool.not_eq_true',Bool.not_true,Bool.not_false,decide_eq_false_iff_not,ite_true,ite_false,reduceCtorEq,false_and,exists_false,false_or,or_false,and_false,xq,xw,Nat.reduceLeDiff];refine ixT (SqT.of ep) (yi _ _) ⟨l,rfl,⟨_,SqL.of el⟩,λl2 hl2 aa=> ?_⟩;refine xl (λj xs H5=> ∃as:List Addr,xs=as.map V.ref/\as.length=((zs.take j).filter λz=>decide (z.2.1=nm)).length/\ ∀(i:Nat) (a:Addr) (z:V×Pl),as[i]? =some a->((zs.take j).filter λz=>decide (z.2.1=nm))[i]? =some z->H5 a=some (.tup [.int z.2.2.1, .int z.2.2.2])) (xr (SqL.of el)) hl2 (by rw[Ja];exact yQ 'o') (λ_ _=>⟨[],rfl,rfl,λi a t h=>by rw[List.getElem?_nil] at h;cases h⟩) (λj x xs H8 K1 K0 hx sm pv hl k1 k0=> ?_) (λxs H2 s2 pv _ w2=> ?_)
 ·obtain⟨z,hz,rfl⟩: ∃z,zs[j]? =some z/\x=z.1:=by
   rw[Jh] at hx;obtain⟨u,e,rfl⟩:=Jk.mp hx;exact⟨u,e,rfl⟩
  refine opq λ_ kq=> ?_;obtain⟨pz,ez,hT⟩:=za z (Ji hz);obtain⟨as,rfl,al,pa'⟩:=pv;apply kq;have fe:(zs.take (j+1)).filter (λz=>decide (z.2.1=nm))=(zs.take j).filter (λz=>decide (z.2.1=nm))++ [z].filter (λz=>decide (z.2.1=nm)):=by rw[JH,hz,Option.toList_some,JS]
  rw[ez];lge_open0
  refine⟨pz,_,rfl,sm.sqT hT,rfl,?_⟩;lge_open0
  have nl: ∀(Ha:Hp) a xs,zj H8 Ha->Ha a=some (.tup xs)->a≠l2:=λHa a xs sa h z=>by rw[z,sa _ _ hl] at h;cases h
  by_cases en:z.2.1=nm
  ·have f1: [z].filter (λz=>decide (z.2.1=nm))= [z]:=by rw[List.filter_cons_of_pos (by rw[decide_eq_true_eq];exact en)];rfl
   rw[f1] at fe;refine qZ en ⟨qC 'd',λp H9 hp s9 e9=>k1 _ _ s9 λH5 h5=>⟨as++ [p],by rw[Jd];rfl,by rw[fe,Jj,Jj,al];rfl,λi a t h1 h2=> ?_⟩⟩;rw[fe,List.getElem?_append,<-al] at h2;rw[List.getElem?_append] at h1;by_cases hi:i<as.length
   ·rw[Jg hi] at h1 h2
    have:=s9 _ _ (pa' i a t h1 h2);exact h5 _ _ (nl _ _ _ s9 this) this
   ·rw[Jf hi] at h1 h2;have i0:i - as.length=0:=by
     rcases Nat.lt_or_ge (i - as.length) 1 with z|z
     ·omega
     ·rw[List.getElem?_eq_none (by simpa using z)] at h1;cases h1
    rw[i0] at h1 h2;cases h1;cases h2;exact h5 _ _ (nl _ _ _ s9 e9) e9
  ·have f1: [z].filter (λz=>decide (z.2.1=nm))= []:=List.filter_cons_of_neg (by rw[decide_eq_true_eq];exact en);rw[f1,Jt] at fe;exact zW en (k0 _ (zj.refl _) ⟨as,rfl,by rw[fe];exact al,by rw[fe];exact pa'⟩)
 rw[Ja,JC] at pv;refine opq λ_ kq=> ?_;obtain⟨as,rfl,al,pa'⟩:=pv;obtain⟨h0,_⟩:=Jc.mp hz0;apply kq;have ea:as[0]? =some (as[0]''o'):=Jb _;have e0:=pa' 0 _ z0 ea hz0;rw[ez0] at e0;refine ixL (v:= .ref (as[0]''o')) (SqL.of w2) (wq (j:=0) (by rw[Jh,ea];rfl)) (q _ H2 s2 e0)
def zkN:Sp:=λvs H Q _=> ∃p n b e:Int,vs= [.int p, .int n, .int b, .int e]/\0<=p/\p<10 ^ 60/\0<n/\n<10 ^ 20/\0<=b/\b<=e/\e<10 ^ 20/\ ∀H',zj H H'->Q (.int (p*e / n - p*b / n)) H'
theorem sc_0f:FnScope ["price","count","begin","end"] ["price","count","begin","end"] (zJ s_0f):=⟨rfl,rfl,rfl,by decide+kernel,rfl,by decide+kernel,by decide+kernel⟩
theorem ok_0f(T:Txt w K mg t):FnOk P w K mg base (CXE P w) 1 t.a_0f t.d_0f ["price","count","begin","end"] (zkN):=by
 refine T.fn_0f.okX sc_0f (λvs H Q E h=> ?_) (λcdv A outer s H vs Q E L hr h=> ?_)
 ·refine opq λ_ kq=> ?_;obtain⟨p,n,b,e,rfl,p0,p1,n0,n1,b0,be,e1,q⟩:=h;apply kq;rfl
 refine opq λ_ kq=> ?_;obtain⟨p,n,b,e,rfl,p0,p1,n0,n1,b0,be,e1,q⟩:=h;apply kq;have nd:=sc_0f.nd;refine⟨_,(zp (zy (zg yc (zg uu (zg vS (pv 0) (pv 3)) (pv 1)) (zg uu (zg vS (pv 0) (pv 2)) (pv 1))))),?_⟩;have mp:Sm p:=Sm.pow10 (k:=60) 'd' 'o';have mn:Sm n:=Sm.pow10 (k:=20) 'd' 'o';have mb:Sm b:=Sm.pow10 (k:=20) 'd' 'o';have me:Sm e:=Sm.pow10 (k:=20) 'd' 'o';open_k0;refine⟨.inr ⟨mp,me⟩,n0,mn, .inr ⟨mp,mb⟩,n0,mn,q H (zj.refl _)⟩
def jA(pr ct st sb se b e:Int):Int:=pr*st*(e - sb) / (if ct=0 then se - sb else ct) - pr*st*(b - sb) / (if ct=0 then se - sb else ct)
def zmu(zs:List (V×Pl)):Prop:=1<=zs.length/\zs.length<=8/\ ∀z∈zs,(0<=z.2.2.1/\z.2.2.1<10 ^ 30)/\0<=z.2.2.2/\z.2.2.2<=400
def xE(K:Fg)(H:Hp)(pa l:Addr)(f:Int)(dy:Bool)(c:Int)(zs:List (V×Pl)):Prop:=xv K H pa l f dy c/\H l=some (.lst (zs.map (·.1)))/\wc K H zs/\zmu zs
theorem xE.same{K:Fg}{H H':Hp}{pa l:Addr}{f:Int}{dy:Bool}{c:Int}{zs:List (V×Pl)}(h:xE K H pa l f dy c zs)(s:zj H H'):xE K H' pa l f dy c zs:=⟨h.1.same s,s _ _ h.2.1,h.2.2.1.same s,h.2.2.2⟩
def plF(zs:List (V×Pl))(nm:List Nat):Int×Int:=(((zs.filter λz=>decide (z.2.1=nm))[0]?).map λz=>z.2.2).getD (0,0)
theorem xE.p{pa:Addr}(h:xE K H pa l f dy c zs){nm:List Nat}(hn:nm∈zs.map λz=>z.2.1):zmt K H pa f dy c nm (plF zs nm).1 (plF zs nm).2:=by
 obtain⟨h1,h2,h3,h4,h5,h6⟩:=h;obtain⟨z,hz,e⟩:=Jw.mp hn;have hm:z∈zs.filter λz=>decide (z.2.1=nm):=List.mem_filter.mpr ⟨hz,JN e⟩;have hl:=List.length_pos_of_mem hm;have e0:(zs.filter λz=>decide (z.2.1=nm))[0]? =some ((zs.filter λz=>decide (z.2.1=nm))[0]'hl):=Jb _;have ef:plF zs nm=((zs.filter λz=>decide (z.2.1=nm))[0]'hl).2.2:=by unfold plF;rw[e0];rfl
 have b:=h6 _ (List.mem_filter.mp (List.getElem_mem hl)).1;rw[<-ef] at b;exact⟨l,zs,h1,h2,h3,h5,⟨_,e0,ef.symm⟩,b.1,b.2⟩
def StX(zs:List (V×Pl))(d:List D):Prop:= ∃d0 n wd,d= [d0, .int n, .str wd]/\(d0= .non\/ ∃nm,d0= .str nm/\nm∈zs.map λz=>z.2.1)/\0<=n/\n<=1000000
def qH(zs:List (V×Pl))(sb se b e:Int):List D->Int
 | [.str nm, .int st, .str wd]=>if wd= [111,110] then jA (plF zs nm).1 (plF zs nm).2 st sb se b e else 0
 |_=>0
def ziK(K:Fg):Sp:=λvs H Q _=> ∃(pa l:Addr) (f:Int) (dy:Bool) (c:Int) (zs:List (V×Pl)) (d:List D) (p1 p2 p3:Addr) (sb se b e:Int),vs= [.ref pa, .ref p1, .ref p2]/\xE K H pa l f dy c zs/\StX zs d/\H p1=some (.tup [.int sb, .int se])/\H p2=some (.tup [.int b, .int e, .ref p3])/\H p3=some (.tup (d.map sv))/\sb<=b/\b<=e/\e<=se/\sb<se/\se - sb<10 ^ 10/\ ∀H',zj H H'->Q (.int (qH zs sb se b e d)) H'
theorem sc_0m:FnScope ["account","span","stretch","begin","end","state","name","seats","word","span_begin","span_end","price","count"] ["account","span","stretch"] (zJ s_0m):=⟨rfl,rfl,rfl,by decide+kernel,rfl,by decide+kernel,by decide+kernel⟩
theorem ok_0m(T:Txt w K mg t):FnOk P w K mg base (CXE P w) 2 t.a_0m t.d_0m ["account","span","stretch"] (ziK K):=by
 refine T.fn_0m.okX sc_0m (λvs H Q E h=> ?_) (λcdv A outer s H vs Q E L hr h=> ?_)
 ·refine opq λ_ kq=> ?_;obtain⟨pa,l,f,dy,c,zs,d,p1,p2,p3,sb,se,b,e,rfl,hz,⟨d0,st,wd,rfl,hd,st0,st1⟩,e1,e2,e3,h1,h2,h3,h4,h5,q⟩:=h;apply kq;rfl
 refine opq λ_ kq=> ?_;obtain⟨pa,l,f,dy,c,zs,d,p1,p2,p3,sb,se,b,e,rfl,hz,⟨d0,st,wd,rfl,hd,st0,st1⟩,e1,e2,e3,h1,h2,h3,h4,h5,q⟩:=h;apply kq;have nd:=sc_0m.nd;refine⟨_,(zi (xo (pv 2) (qN (n:=3) rfl (zT (zD (i:=3) nd rfl (Or.inl rfl)) (zT (zD (i:=4) nd rfl (Or.inl rfl)) (zT (zD (i:=5) nd rfl (Or.inl rfl)) qM))))) (zi (xo (pv 5) (qN (n:=3) rfl (zT (zD (i:=6) nd rfl (Or.inl rfl)) (zT (zD (i:=7) nd rfl (Or.inl rfl)) (zT (zD (i:=8) nd rfl (Or.inl rfl)) qM))))) (zi (zL (xX (zC zlh (pv 6) uM (zx _)) (wk (zC wB (pv 8) (zQ st_10) (zx _)))).pt (zp (zy zd)) zN) (zi (xo (pv 1) (qN (n:=2) rfl (zT (zD (i:=9) nd rfl (Or.inl rfl)) (zT (zD (i:=10) nd rfl (Or.inl rfl)) qM)))) (zi (xo (zr L.toLv (ok_0l T) (hr.mono 'd') (by rfl) T.mg_0l T.fn_0l.kp T.b_0l .nil (zc (pv 0) (zc (pv 6) ze zh) zh)) (qN (n:=2) rfl (zT (zD (i:=11) nd rfl (Or.inl rfl)) (zT (zD (i:=12) nd rfl (Or.inl rfl)) qM)))) (zi (zL (zC yf (pv 12) zd (zx _)) (zp (zu (i:=12) nd rfl (Or.inl rfl) (zg yc (pv 10) (pv 9)))) zN) (zp (zy (zr L.toLv (ok_0f T) (hr.mono 'd') (by rfl) T.mg_0f T.fn_0f.kp T.b_0f .nil (zc (zg vS (pv 11) (pv 7)) (zc (pv 12) (zc (zg yc (pv 3) (pv 9)) (zc (zg yc (pv 4) (pv 9)) ze zO) zO) zh) zO)))))))))),?_⟩;open_k0;refine⟨p2,_,rfl,SqT.of e2,rfl,?_⟩;open_k0;rcases hd with rfl|⟨nm,rfl,hn⟩
 ·have e3':H p3=some (.tup [.non, .int st, .str (SL wd)]):=e3;refine⟨p3,_,rfl,SqT.of e3',rfl,?_⟩;open_k0;exact q H (zj.refl _)
 have e3':H p3=some (.tup [.str (SL nm), .int st, .str (SL wd)]):=e3;have ha:=hz.p hn;have q0: ∀H',zj H H'->Q (.int (if wd= [111,110] then jA (plF zs nm).1 (plF zs nm).2 st sb se b e else 0)) H':=q;generalize (plF zs nm).1=pr at ha q0;generalize (plF zs nm).2=ct at ha q0;have ⟨_,_,_,_,_,_,_,⟨pr0,pr1⟩,ct0,ct1⟩:=ha;refine⟨p3,_,rfl,SqT.of e3',rfl,?_⟩;open_k0;by_cases on:wd= [111,110]
 ·subst on;refine zW (λz=>z rfl) ?_;refine⟨p1,_,rfl,SqT.of e1,rfl,?_⟩;open_k0;refine⟨pa,f,dy,c,nm,pr,ct,rfl,ha,λp4 H4 s4 e4=> ?_⟩;refine⟨p4,_,rfl,SqT.of e4,rfl,?_⟩;open_k0;have mp:Sm pr:=Sm.pow10 (k:=30) 'd' 'o';have ms:Sm st:=Sm.pow10 (k:=7) 'd' 'o';have m0:0<=pr*st:=Int.mul_nonneg pr0 st0;have m1:pr*st<10 ^ 60:=by
   have:=Int.mul_le_mul (show pr<=10 ^ 30 by omega) st1 st0 'd';exact Int.lt_of_le_of_lt this 'd'
  have q':=q0;rw[Jg rfl] at q';unfold jA at q';refine qE (λz=>⟨.inr ⟨mp,ms⟩,pr*st,se - sb,b - sb,e - sb,rfl,m0,m1,'o','o','o','o','o',λH5 s5=> ?_⟩) (λz=>⟨.inr ⟨mp,ms⟩,pr*st,ct,b - sb,e - sb,rfl,m0,m1,'o','o','o','o','o',λH5 s5=> ?_⟩)
  ·rw[Jg z] at q';exact q' H5 (s4.trans s5)
  ·rw[Jf z] at q';exact q' H5 (s4.trans s5)
 ·rw[Jf on] at q0;exact qZ on (q0 H (zj.refl _))
def TmX(zs:List (V×Pl))(ch:Ch):Prop:=(∀d nm,ch= .plan d nm->nm∈zs.map λz=>z.2.1)/\ ∀d n,ch= .seats d n->0<=n/\n<=1000000
theorem st_x(hb: ∀t∈ts,zV t.2.2.2=true)(hx: ∀t∈ts,TmX zs t.2.2.2)(h:xU f dy c ts day o0 o1 o2):StX zs (stT o0 o1 o2):=by
 obtain⟨h0,h1,h2⟩:=h;have of: ∀(kd:Nat) (t:Rt),Bst (ts.map (rtT f dy c)) day kd (some t)-> ∃u:Tm,u∈ts/\chK u.2.2.2=kd/\t.2.2.2=v7 u.2.2.2:=λkd t hb'=>by
  obtain⟨u,hu,rfl⟩:=Jw.mp hb'.1;exact⟨u,hu,hb'.2.1,rfl⟩
 have a0:stV o0 .non= .non\/ ∃nm,stV o0 .non= .str nm/\nm∈zs.map λz=>z.2.1:=by
  cases o0 with
  |none=>exact .inl rfl
  |some t=>
   obtain⟨u,hu,k,e⟩:=of 0 t h0;have x:=hx u hu;show t.2.2.2= .non\/ ∃nm,t.2.2.2= .str nm/\_;rw[e];cases hch:u.2.2.2 with
   |plan d nm=>exact .inr ⟨nm,rfl,x.1 d nm hch⟩
   |seats d n=>rw[hch] at k;cases k
   |word w d=>rw[hch] at k;cases k
   |undo k'=>rw[hch] at k;cases k
   |grant k'=>rw[hch] at k;cases k
   |back=>rw[hch] at k;cases k
 have a1: ∃n,stV o1 (.int 1)= .int n/\0<=n/\n<=1000000:=by
  cases o1 with
  |none=>exact⟨1,rfl,'d','d'⟩
  |some t=>
   obtain⟨u,hu,k,e⟩:=of 1 t h1;have x:=hx u hu;show∃n,t.2.2.2= .int n/\_;rw[e];cases hch:u.2.2.2 with
   |seats d n=>exact⟨n,rfl,x.2 d n hch⟩
   |plan d nm=>rw[hch] at k;cases k
   |word w d=>rw[hch] at k;cases k
   |undo k'=>rw[hch] at k;cases k
   |grant k'=>rw[hch] at k;cases k
   |back=>rw[hch] at k;cases k
 have a2: ∃w,stV o2 on'= .str w:=by
  cases o2 with
  |none=>exact⟨_,rfl⟩
  |some t=>
   obtain⟨u,hu,k,e⟩:=of 2 t h2;have tm:=hb u hu;show∃w,t.2.2.2= .str w;rw[e];cases hch:u.2.2.2 with
   |word w d=>exact⟨_,rfl⟩
   |plan d nm=>rw[hch] at k;cases k
   |seats d n=>rw[hch] at k;cases k
   |undo k'=>rw[hch] at tm;cases tm
   |grant k'=>rw[hch] at tm;cases tm
   |back=>rw[hch] at tm;cases tm
 obtain⟨n,e1,n0,n1⟩:=a1;obtain⟨wd,e2⟩:=a2;exact⟨_,n,wd,by unfold stT;rw[e1,e2],a0,n0,n1⟩
def ziL(K:Fg)(t:Adr):Sp:=λvs H Q E=> ∃(pa l la:Addr) (f:Int) (dy:Bool) (c d:Int) (zs:List (V×Pl)) (ts:List Tm),vs= [.ref pa, .ref l, .int d]/\xE K H pa la f dy c zs/\xc K H l f (Cal.beg f dy c 60) ts/\(∀t∈ts,TmX zs t.2.2.2)/\
 (∀k,0<=k->k<60->Cal.beg f dy c k<=d->d<Cal.beg f dy c (k+1)-> ∀ts' o0 o1 o2 H',zj H H'->(∀t,t∈ts'↔t∈ts)->xU f dy c ts' d o0 o1 o2->Q (.int (qH zs (Cal.beg f dy c k) (Cal.beg f dy c (k+1)) d (d+1) (stT o0 o1 o2))) H')/\
 (d<f-> ∀H',zj H H'->E (.ref t.c_Z09) none H')/\(Cal.beg f dy c 60<=d-> ∀H',zj H H'->E (.ref t.c_Z0e) none H')
theorem sc_0n:FnScope ["account","terms","day","k","begin","end"] ["account","terms","day"] (zJ s_0n):=⟨rfl,rfl,rfl,by decide+kernel,rfl,by decide+kernel,by decide+kernel⟩
theorem ok_0n(T:Txt w K mg t):FnOk P w K mg base (CXE P w) 11 t.a_0n t.d_0n ["account","terms","day"] (ziL K t):=by
 refine T.fn_0n.okX sc_0n (λvs H Q E h=> ?_) (λcdv A outer s H vs Q E L hr h=> ?_)
 ·refine opq λ_ kq=> ?_;obtain⟨pa,l,la,f,dy,c,d,zs,ts,rfl,hz,ht,hx,q1,q2,q3⟩:=h;apply kq;rfl
 refine opq λ_ kq=> ?_;obtain⟨pa,l,la,f,dy,c,d,zs,ts,rfl,hz,ht,hx,q1,q2,q3⟩:=h;apply kq;have nd:=sc_0n.nd;refine⟨_,(zi (xo (zr L.toLv (ok_0e T) (hr.mono 'd') (by rfl) T.mg_0e T.fn_0e.kp T.b_0e .nil (zc (pv 0) (zc (pv 2) ze zh) zh)) (qN (n:=3) rfl (zT (zD (i:=3) nd rfl (Or.inl rfl)) (zT (zD (i:=4) nd rfl (Or.inl rfl)) (zT (zD (i:=5) nd rfl (Or.inl rfl)) qM))))) (zp (zy (zr L.toLv (ok_0m T) (hr.mono 'd') (by rfl) T.mg_0m T.fn_0m.kp T.b_0m .nil (zc (pv 0) (zc (zR (zc (pv 4) (zc (pv 5) ze zh) zh)) (zc (zR (zc (pv 2) (zc (zg zK (pv 2) zd) (zc (zr L.toLv (ok_0j T) (hr.mono 'd') (by rfl) T.mg_0j T.fn_0j.kp T.b_0j .nil (zc (pv 0) (zc (pv 1) (zc (pv 2) ze zh) zh) zh)) ze qv) zO) zh)) ze xt) xt) zh))))),?_⟩;obtain⟨f0,f1,hc⟩:=hz.1.cyc;open_k0;refine⟨pa,la,f,dy,c,d,rfl,hz.1,λk k0 k1 a1 a2 p1 H1 s1 e1=> ?_,q2,q3⟩;have bw:=kH f0 f1 hc k0 k1;have g0:=Cal.beg_ge (k:=k) f0 f1 hc k0 'o';have g1:=Cal.beg_le (k:=k+1) (j:=60) f0 f1 hc 'o' 'o' 'd';refine⟨p1,_,rfl,SqT.of e1,rfl,?_⟩;open_k0;intro p2 H2 _ s2 e2;have s12:=s1.trans s2;refine⟨pa,l,la,f,dy,c,d,ts,rfl,hz.1.same s12,ht.same s12,λ_ _ p3 ts' o0 o1 o2 H3 s3 om so e3=> ?_,λz=>by omega,λz=>by omega⟩;intro p4 H4 _ s4 e4;have s34:=s3.trans s4;have sx:=st_x (zs:=zs) (λt h=>(ht.2.2.1 t ((om t).mp h)).2.2.1) (λt h=>hx t ((om t).mp h)) so;exact⟨pa,la,f,dy,c,zs,_,p2,p4,p3,_,_,_,_,rfl,hz.same (s12.trans s34),sx,s34 _ _ e2,e4,s4 _ _ e3,a1,'o','o','o','o',λH5 s5=>q1 k k0 k1 a1 a2 ts' o0 o1 o2 H5 ((s12.trans s34).trans s5) om so⟩
theorem st_kinds(hb: ∀t∈ts,zV t.2.2.2=true)(h:xU f dy c ts day o0 o1 o2):ScD (stV o0 .non)/\(∃n,stV o1 (.int 1)= .int n)/\ ∃w,stV o2 on'= .str w:=by
 obtain⟨h0,h1,h2⟩:=h;have of: ∀(kd:Nat) (t:Rt),Bst (ts.map (rtT f dy c)) day kd (some t)-> ∃u:Tm,zV u.2.2.2=true/\chK u.2.2.2=kd/\t.2.2.2=v7 u.2.2.2:=λkd t hb'=>by
  obtain⟨u,hu,rfl⟩:=Jw.mp hb'.1;exact⟨u,hb u hu,hb'.2.1,rfl⟩
 refine⟨?_,?_,?_⟩
 ·cases o0 with
  |none=>exact .inl rfl
  |some t=>
   obtain⟨u,tm,k,e⟩:=of 0 t h0;show ScD t.2.2.2;rw[e];cases hch:u.2.2.2 with
   |plan d nm=>exact .inr (.inr ⟨_,rfl⟩)
   |seats d n=>exact .inr (.inl ⟨_,rfl⟩)
   |word w d=>exact .inr (.inr ⟨_,rfl⟩)
   |undo k=>exact .inl rfl
   |grant k=>exact .inl rfl
   |back=>exact .inl rfl
 ·cases o1 with
  |none=>exact⟨1,rfl⟩
  |some t=>
   obtain⟨u,tm,k,e⟩:=of 1 t h1;show∃n,t.2.2.2= .int n;rw[e];cases hch:u.2.2.2 with
   |seats d n=>exact⟨n,rfl⟩
   |plan d nm=>rw[hch] at k;cases k
   |word w d=>rw[hch] at k;cases k
   |undo k'=>rw[hch] at tm;cases tm
   |grant k'=>rw[hch] at tm;cases tm
   |back=>rw[hch] at tm;cases tm
 ·cases o2 with
  |none=>exact⟨_,rfl⟩
  |some t=>
   obtain⟨u,tm,k,e⟩:=of 2 t h2;show∃n,t.2.2.2= .str n;rw[e];cases hch:u.2.2.2 with
   |word w d=>exact⟨_,rfl⟩
   |plan d nm=>rw[hch] at k;cases k
   |seats d nm=>rw[hch] at k;cases k
   |undo k'=>rw[hch] at tm;cases tm
   |grant k'=>rw[hch] at tm;cases tm
   |back=>rw[hch] at tm;cases tm
theorem vH.same{os:List Or'}(h:vH K H l f dy c os)(s:zj H H'):vH K H' l f dy c os:=⟨s _ _ h.1,h.2.1,λo ho=>⟨s _ _ (h.2.2.1 o ho).1,s.sqT (h.2.2.1 o ho).2.1,(h.2.2.1 o ho).2.2⟩,h.2.2.2⟩
theorem st_std(hb: ∀t∈ts,zV t.2.2.2=true)(h:xU f dy c ts day o0 o1 o2):StD (stT o0 o1 o2):=by
 obtain⟨k0,⟨n,k1⟩,w,k2⟩:=st_kinds hb h;exact⟨_,n,w,k0,by unfold stT;rw[k1,k2]⟩
theorem xU.on{f:Int}{dy:Bool}{c:Int}{ts:List Tm}{day d2:Int}{o0 o1 o2:Option Rt}(h:xU f dy c ts day o0 o1 o2)(le:day<=d2)(n: ∀t∈ts,cntF f dy c t.2.2.2<=day\/d2<cntF f dy c t.2.2.2):xU f dy c ts d2 o0 o1 o2:=by
 have n': ∀r∈ts.map (rtT f dy c),r.2.1<=day\/d2<r.2.1:=λr hr=>by
  obtain⟨t,ht,rfl⟩:=Jw.mp hr;exact n t ht
 exact⟨h.1.on le n',h.2.1.on le n',h.2.2.on le n'⟩
def IsG(f:Int)(dy:Bool)(c:Int)(ts:List Tm)(G:Int->List D):Prop:= ∀d o0 o1 o2,xU f dy c ts d o0 o1 o2->stT o0 o1 o2=G d
def kI(f:Int)(dy:Bool)(c:Int)(ts:List Tm)(d:List D):Prop:= ∃dd o0 o1 o2,xU f dy c ts dd o0 o1 o2/\d=stT o0 o1 o2
def zgZ(K:Fg):Sp:=λvs H Q _=> ∃(l:Addr) (b e:Int) (f:Int) (dy:Bool) (c:Int) (os:List Or') (G:Int->List D),vs= [.ref l, .int b, .int e]/\vH K H l f dy c os/\b<=e/\IsG f dy c (os.map (·.2)) G/\ ∀r zs H',H r=none->zj H H'->v8 H' r zs->Rws G b (zs.map (·.2)) e->(∀z∈zs,kI f dy c (os.map (·.2)) z.2.2.2)->zs.length<=64->Q (.ref r) H'
theorem sc_0k:FnScope ["ordered","begin","end","told","opened","state","term","day","behind"] ["ordered","begin","end"] (zJ s_0k):=⟨rfl,rfl,rfl,by decide+kernel,rfl,by decide+kernel,by decide+kernel⟩
theorem ok_0k(T:Txt w K mg t):FnOk P w K mg base (CXE P w) 2 t.a_0k t.d_0k ["ordered","begin","end"] (zgZ K):=by
 refine T.fn_0k.okX sc_0k (λvs H Q E h=> ?_) (λcdv A outer s H vs Q E L hr h=> ?_)
 ·refine opq λ_ kq=> ?_;obtain⟨l,b,e,f,dy,c,os,G,rfl,ho,be,hG,q⟩:=h;apply kq;rfl
 refine opq λ_ kq=> ?_;obtain⟨l,b,e,f,dy,c,os,G,rfl,ho,be,hG,q⟩:=h;apply kq;have nd:=sc_0k.nd;refine⟨_,(zi (zL (zC yf (pv 1) (pv 2) (zx _)) (zp (zy (zY ze))) zN) (zi (zu (i:=3) nd rfl (Or.inl rfl) (zY ze)) (zi (zu (i:=4) nd rfl (Or.inl rfl) (pv 1)) (zi (zu (i:=5) nd rfl (Or.inl rfl) (zr L.toLv (ok_0i T) (hr.mono 'd') (by rfl) T.mg_0i T.fn_0i.kp T.b_0i .nil (zc (pv 0) (zc (pv 1) ze zh) zh))) (zi (xy (by passes_own) rfl (qO (pv 0)) (zD (i:=6) nd rfl (Or.inl rfl)) (zi (zu (i:=7) nd rfl (Or.inl rfl) (zq zU (pv 6) zd (λ_ _=>rfl))) (zp (zL (uP (zC qP (pv 1) (pv 7) (zx _)) (uO (zC qP (pv 7) (pv 2) (zx _)))).pt (zi (zu (i:=8) nd rfl (Or.inl rfl) (zr L.toLv (ok_0i T) (hr.mono 'd') (by rfl) T.mg_0i T.fn_0i.kp T.b_0i .nil (zc (pv 0) (zc (pv 7) ze zh) zh))) (zp (zL (zC (wT hr) (pv 8) (pv 5) (zx _)) (zi (qX (qQ PySem.F.plainAttrs_list PySem.F.slot_list_append PySem.F.type_list_append xg (pv 3) (zc (zR (zc (pv 4) (zc (pv 7) (zc (pv 5) ze zh) zh) zh)) ze))) (zi (zu (i:=4) nd rfl (Or.inl rfl) (pv 7)) (zp (zu (i:=5) nd rfl (Or.inl rfl) (pv 8))))) zN))) zN)))) (zi (qX (qQ PySem.F.plainAttrs_list PySem.F.slot_list_append PySem.F.type_list_append xg (pv 3) (zc (zR (zc (pv 4) (zc (pv 2) (zc (pv 5) ze zh) zh) zh)) ze))) (zp (zy (pv 3))))))))),?_⟩;refine opq λ_ kq=> ?_;obtain⟨el,n64,h3,so⟩:=id ho;apply kq;have tm: ∀t∈os.map (·.2),zV t.2.2.2=true:=λt ht=>by
  obtain⟨o,ho',rfl⟩:=Jw.mp ht;exact(h3 o ho').2.2.1
 open_k0;refine qE (λz=> ?_) (λz=> ?_)
 ·exact λr H1 hr s1 e1=>q r [] H1 hr s1 ⟨e1,(λ_ h=>nomatch h)⟩ z (λ_ h=>nomatch h) 'd'
 intro lt H1 hlt s1 e1;refine⟨l,b,f,dy,c,os,rfl,ho.same s1,λps o0 o1 o2 H2 s2 so2 e2=> ?_⟩;have s12:=s1.trans s2
 ((try dsimp only);refine xM λR hR=> ?_;w_why)
 refine⟨⟨_,SqL.of (s12 _ _ el)⟩,hR _ _ ?_⟩;clear hR;obtain⟨Pv,hPv⟩: ∃Pv:Nat->St->Hp->Prop,Pv=λi σ1 H7=>zj H H7/\ ∃(zs:List (Addr×Rw)) (op:Int) (ps:Addr) (d:List D) (x6 x7 x8:Option V),v8 H7 lt zs/\zs.length<=i/\Rws G b (zs.map (·.2)) op/\(∀x,(zs.map (·.2)).getLast? =some x->x.2.2≠d)/\(H7 ps=some (.tup (d.map sv))/\StD d)/\((∀z∈zs,kI f dy c (os.map (·.2)) z.2.2.2)/\kI f dy c (os.map (·.2)) d)/\op<e/\(∀(j:Nat) o,os[j]? =some o->i<=j->b<cntF f dy c o.2.2.2.2->op<=cntF f dy c o.2.2.2.2)/\(∀day,op<=day->day<e->(∀(j:Nat) o,os[j]? =some o->i<=j->cntF f dy c o.2.2.2.2<=op\/day<cntF f dy c o.2.2.2.2)->G day=d)/\σ1= [some (.ref l),some (.int b),some (.int e),some (.ref lt),some (.int op),some (.ref ps),x6,x7,x8]:=⟨_,rfl⟩
 have go: ∀(k i:Nat) (x o:Or'),os[k]? =some x->os[i]? =some o->k<=i->cntF f dy c x.2.2.2.2<=cntF f dy c o.2.2.2.2:=λk i x o hk hi ki=>by
  obtain⟨hk',ek⟩:=Jc.mp hk;obtain⟨hi',ei⟩:=Jc.mp hi;rcases Nat.lt_or_ge k i with z|z
  ·have:=(List.pairwise_iff_getElem.mp so k i hk' hi' z).1;rw[ek,ei] at this;exact this
  ·obtain rfl:k=i:=by omega
   rw[hk] at hi;cases hi;exact Jz _
 refine vM (xs:=os.map λo=>V.ref o.1) Pv ?_ (λ_ _ _ _ h=>by rw[hPv] at h;exact SqL.of (h.1 _ _ el)) (λi x σ1 H7 hx h=> ?_) (λσ1 H7 h=> ?_)
 ·rw[hPv];refine⟨s12, [],b,ps,_,_,_,_,⟨s2 _ _ e1,(λ_ h=>nomatch h)⟩,Je _,rfl,(λ_ h=>nomatch h),⟨e2,st_std tm so2⟩,⟨(λ_ h=>nomatch h),_,_,_,_,so2,rfl⟩,'o',λ_ _ _ _ h=>by omega,λday h1 _ h2=> ?_,rfl⟩;refine(hG _ _ _ _ (so2.on h1 λt ht=> ?_)).symm;refine opq λ_ kq=> ?_;obtain⟨o,ho',rfl⟩:=Jw.mp ht;obtain⟨j,hj⟩:=List.getElem?_of_mem ho';apply kq;exact h2 j o hj (Jv _)
 ·rw[hPv] at h;refine opq λ_ kq=> ?_;obtain⟨s7,zs,op,ps,d,x6,x7,x8,zA,zl,hr,la,⟨e7,sd⟩,⟨zS,dS⟩,oe,oc,ok,rfl⟩:=h;apply kq;obtain⟨o,hz,rfl⟩: ∃o,os[i]? =some o/\x= .ref o.1:=by
   rw[Jh] at hx;obtain⟨u,e,rfl⟩:=Jk.mp hx;exact⟨u,e,rfl⟩
  obtain⟨a1,a2,tb⟩:=h3 o (Ji hz);have bo:=Rws.le hr;open_k0;refine ixT (SqT.of (s7 _ _ a1)) (yi _ _) ?_;have nx: ∀(x8':Option V) (H8:Hp),zj H7 H8->(∀day,op<=day->day<e->(∀(j:Nat) o,os[j]? =some o->i+1<=j->cntF f dy c o.2.2.2.2<=op\/day<cntF f dy c o.2.2.2.2)->G day=d)->Pv (i+1) [some (.ref l),some (.int b),some (.int e),some (.ref lt),some (.int op),some (.ref ps),some (.ref o.1),some (.int (cntF f dy c o.2.2.2.2)),x8'] H8:=λx8' H8 s8 hd=>by
   rw[hPv];exact⟨s7.trans s8,zs,op,ps,d,_,_,_,zA.same s8,'o',hr,la,⟨s8 _ _ e7,sd⟩,⟨zS,dS⟩,oe,λj o hj ij=>oc j o hj 'o',hd,rfl⟩
  have far:(cntF f dy c o.2.2.2.2<=op\/e<=cntF f dy c o.2.2.2.2)-> ∀day,op<=day->day<e->(∀(j:Nat) o,os[j]? =some o->i+1<=j->cntF f dy c o.2.2.2.2<=op\/day<cntF f dy c o.2.2.2.2)->G day=d:=λhf day h1 h2 h4=>ok day h1 h2 λj o' hj ij=>by
   rcases Nat.lt_or_ge i j with z|z
   ·exact h4 j o' hj z
   ·obtain rfl:i=j:=by omega
    rw[hz] at hj;cases hj;rcases hf with z|z
    ·exact .inl z
    ·exact .inr 'o'
  refine⟨_,rfl,qE (λhb=>⟨_,rfl,qE (λhe=> ?_) λhe=>nx _ _ (zj.refl _) (far (.inr 'o'))⟩) λhb=>nx _ _ (zj.refl _) (far (.inl 'o'))⟩;refine⟨l,cntF f dy c o.2.2.2.2,f,dy,c,os,rfl,ho.same s7,λpb o0 o1 o2 H8 s8 so8 e8=> ?_⟩;have oc':=oc i o hz (Je _) hb;have sd8:=st_std tm so8;have gb:=hG _ _ _ _ so8;have all: ∀day,cntF f dy c o.2.2.2.2<=day->(∀(j:Nat) o',os[j]? =some o'->i+1<=j->cntF f dy c o'.2.2.2.2<=cntF f dy c o.2.2.2.2\/day<cntF f dy c o'.2.2.2.2)->G day=stT o0 o1 o2:=λday h1 h2=>by
   refine(hG _ _ _ _ (so8.on h1 λt ht=> ?_)).symm;refine opq λ_ kq=> ?_;obtain⟨o',ho',rfl⟩:=Jw.mp ht;obtain⟨j,hj⟩:=List.getElem?_of_mem ho';apply kq;rcases Nat.lt_or_ge i j with z|z
   ·exact h2 j o' hj z
   ·exact .inl (go j i o' o hj hz z)
  have go': ∀(j:Nat) o',os[j]? =some o'->i+1<=j->cntF f dy c o.2.2.2.2<=cntF f dy c o'.2.2.2.2:=λj o' hj ij=>go i j o o' hz hj 'o';refine⟨0, .tup (stT o0 o1 o2), .tup d,sd8.dp e8,sd.dp (s8 _ _ e7),rfl,rfl,'d',sd8.cmp sd,_,rfl,?_⟩;by_cases eq:stT o0 o1 o2=d
  ·rw[(sd8.eqb sd).mpr eq];refine zW 'd' (nx _ _ s8 λday h1 h2 h4=> ?_);by_cases dc:day<cntF f dy c o.2.2.2.2
   ·exact ok day h1 h2 λj o' hj ij=>by
     rcases Nat.lt_or_ge i j with z|z
     ·exact h4 j o' hj z
     ·obtain rfl:i=j:=by omega
      rw[hz] at hj;cases hj;exact .inr dc
   ·rw[<-eq];exact all day 'o' λj o' hj ij=>by
     rcases h4 j o' hj ij with z|z
     ·exact .inl 'o'
     ·exact .inr z
  ·rw[show L2.eqb 1 (.tup (stT o0 o1 o2)) (.tup d)=false from Bool.eq_false_iff.mpr λz=>eq ((sd8.eqb sd).mp z)];refine qZ rfl ?_;have gop:=ok op (Jz _) oe λj o' _ _=>by omega
   have lo:op<cntF f dy c o.2.2.2.2:=by
    rcases Int.lt_or_eq_of_le oc' with z|z
    ·exact z
    ·rw[z] at gop;exact absurd (gb.trans gop) eq
   have z8:=zA.same s8;lgec_open0
   refine⟨.inl ⟨rfl,_,SqL.of z8.1⟩,λpt H9 hpt s9 e9=> ?_⟩;have z9:=z8.same s9;have off: ∀p xs ys,H9 p=some (.tup xs)->upd H9 lt (.lst ys) p=some (.tup xs):=λp xs ys e=>by
    rw[zI (λy=>by rw[y,z9.1] at e;cases e)];exact e
   refine⟨lt,_,_,rfl,rfl,z9.1,qC (show _+1<=1000 by rw[Ja];have:=(Jc.mp hz).1;omega),?_⟩;rw[hPv];refine⟨((s7.trans s8).trans s9).put hlt _,zs++ [(pt,op,cntF f dy c o.2.2.2.2,d)],cntF f dy c o.2.2.2.2,pb,stT o0 o1 o2,_,_,_,⟨by rw[yg,Jd];rfl,λz hz'=> ?_⟩,by rw[Jj];show _+1<=_;omega,?_,λx hx=> ?_,⟨off _ _ _ (s9 _ _ e8),sd8⟩,⟨λz hz'=> ?_,_,_,_,_,so8,rfl⟩,he,λj o' hj ij _=>go' j o' hj ij,λday h1 _ h4=>all day h1 h4,rfl⟩
   ·rcases Jr.mp hz' with h|h
    ·exact(z9.2 z h).put z9.1
    ·rw[Jm.mp h];exact⟨ps,off _ _ _ e9,off _ _ _ (s9 _ _ (s8 _ _ e7)),sd⟩
   ·rw[Jd];exact Rws.snoc (z:=(op,cntF f dy c o.2.2.2.2,d)) hr rfl lo (λday h1 h2=>by
     have h2':day<cntF f dy c o.2.2.2.2:=h2;exact ok day h1 'o' λj o' hj ij=> .inr (by
      have:=go i j o o' hz hj ij;omega)) la
   ·rw[Jd,JA,JQ,List.getLast?_concat] at hx;cases hx;exact λz=>eq z.symm
   ·rcases Jr.mp hz' with h|h
    ·exact zS z h
    ·rw[Jm.mp h];exact dS
 ·rw[hPv] at h;refine opq λ_ kq=> ?_;obtain⟨s7,zs,op,ps,d,x6,x7,x8,zA,zl,hr,la,⟨e7,sd⟩,⟨zS,dS⟩,oe,oc,ok,rfl⟩:=h;apply kq;rw[Ja] at zl ok;lgec_open0
  refine⟨.inl ⟨rfl,_,SqL.of zA.1⟩,λpt H9 hpt s9 e9=> ?_⟩;have z9:=zA.same s9;have off: ∀p xs ys,H9 p=some (.tup xs)->upd H9 lt (.lst ys) p=some (.tup xs):=λp xs ys e=>by
   rw[zI (λy=>by rw[y,z9.1] at e;cases e)];exact e
  refine⟨lt,_,_,rfl,rfl,z9.1,qC (show _+1<=1000 by rw[Ja];omega),?_⟩;refine q lt (zs++ [(pt,op,e,d)]) _ hlt ((s7.trans s9).put hlt _) ⟨by rw[yg,Jd];rfl,λz hz'=> ?_⟩ ?_ (λz hz'=> ?_) (by rw[Jj];show _+1<=_;omega)
  ·rcases Jr.mp hz' with h|h
   ·exact(z9.2 z h).put z9.1
   ·rw[Jm.mp h];exact⟨ps,off _ _ _ e9,off _ _ _ (s9 _ _ e7),sd⟩
  ·rw[Jd];exact Rws.snoc (z:=(op,e,d)) hr rfl oe (λday h1 h2=>ok day h1 h2 λj o' hj ij=>by
    have:=(Jc.mp hj).1;omega) la
  ·rcases Jr.mp hz' with h|h
   ·exact zS z h
   ·rw[Jm.mp h];exact dS
def Ss(F:Int->Int)(a:Int):Nat->Int
 |0=>0
 |n+1=>Ss F a n+F (a+n)
theorem Ss.add(F:Int->Int)(a:Int)(m:Nat): ∀n:Nat,Ss F a (m+n)=Ss F a m+Ss F (a+m) n
 |0=>by show Ss F a m=Ss F a m+0;omega
 |n+1=>by
  show Ss F a (m+n)+F (a+(m+n:Nat))=Ss F a m+(Ss F (a+m) n+F (a+m+n));rw[Ss.add F a m n,show a+((m+n:Nat):Int)=a+m+n by omega];omega
theorem Ss.congr{F G:Int->Int}{a:Int}: ∀{n:Nat},(∀i:Nat,i<n->F (a+i)=G (a+i))->Ss F a n=Ss G a n
 |0,_=>rfl
 |n+1,h=>by
  show Ss F a n+F (a+n)=Ss G a n+G (a+n);rw[Ss.congr λi hi=>h i 'o',h n 'o']
def Sb(F:Int->Int)(a b:Int):Int:=Ss F a (b - a).toNat
theorem Sb.add{F:Int->Int}{a b c:Int}(h:a<=b)(g:b<=c):Sb F a b+Sb F b c=Sb F a c:=by
 unfold Sb
 have:=Ss.add F a (b - a).toNat (c - b).toNat;rw[show (b - a).toNat+(c - b).toNat=(c - a).toNat by omega,show a+((b - a).toNat:Int)=b by omega] at this;omega
theorem Sb.self(F:Int->Int)(a:Int):Sb F a a=0:=by unfold Sb;rw[Int.sub_self];rfl
theorem Sb.one(F:Int->Int)(a:Int):Sb F a (a+1)=F a:=by
 unfold Sb;rw[show (a+1 - a).toNat=1 by omega];show 0+F (a+(0:Nat))=F a;rw[show a+((0:Nat):Int)=a by omega];omega
theorem Sb.congr{F G:Int->Int}{a b:Int}(h: ∀o,a<=o->o<b->F o=G o):Sb F a b=Sb G a b:=Ss.congr λi hi=>h _ 'o' 'o'
theorem zg0(zs:List (V×Pl))(sb se b m e:Int)(d:List D):qH zs sb se b m d+qH zs sb se m e d=qH zs sb se b e d:=by
 unfold qH;split
 ·split
  ·unfold jA;omega
  ·rfl
 ·rfl
theorem ziM(zs:List (V×Pl))(sb se b:Int)(d:List D):qH zs sb se b b d=0:=by
 have:=zg0 zs sb se b b b d;omega
theorem zib{zs:List (V×Pl)}{sb se b:Int}{G:Int->List D}{d:List D}: ∀{n:Nat},(∀i:Nat,i<n->G (b+i)=d)->Ss (λo=>qH zs sb se o (o+1) (G o)) b n=qH zs sb se b (b+n) d
 |0,_=>by
  show 0=qH zs sb se b (b+(0:Nat)) d;rw[show b+((0:Nat):Int)=b by omega,ziM]
 |n+1,h=>by
  show Ss _ b n+qH zs sb se (b+n) (b+n+1) (G (b+n))=_;rw[zib λi hi=>h i 'o',h n 'o',zg0,show b+(n:Int)+1=b+((n+1:Nat):Int) by omega]
theorem jB{zs:List (V×Pl)}{sb se:Int}{G:Int->List D}: ∀{xs:List Rw} {b e:Int},Rws G b xs e->(xs.map λx=>qH zs sb se x.1 x.2.1 x.2.2).sum=Sb (λo=>qH zs sb se o (o+1) (G o)) b e
 | [],b,e,h=>by
  obtain rfl:b=e:=h;rw[Sb.self];rfl
 |x::r,b,e,h=>by
  obtain⟨h1,h2,h3,_,h5⟩:=h;rw[JA,List.sum_cons,jB h5,<-Sb.add (show b<=x.2.1 by omega) (Rws.le h5)]
  have:Sb (λo=>qH zs sb se o (o+1) (G o)) b x.2.1=qH zs sb se b x.2.1 x.2.2:=by
   unfold Sb;rw[zib (d:=x.2.2) λi hi=>h3 _ 'o' 'o',show b+((x.2.1 - b).toNat:Int)=x.2.1 by omega]
  rw[this,h1]
def vn(zs:List (V×Pl))(sb se:Int)(H:Hp)(z:Addr×Rw):Prop:= ∃s,H z.1=some (.tup [.int z.2.1, .int z.2.2.1, .ref s, .int (qH zs sb se z.2.1 z.2.2.1 z.2.2.2)])/\H s=some (.tup (z.2.2.2.map sv))/\StD z.2.2.2
def LnR(zs:List (V×Pl))(sb se:Int)(H:Hp)(r:Addr)(ws:List (Addr×Rw)):Prop:=H r=some (.lst (ws.map λw=>V.ref w.1))/\ ∀w∈ws,vn zs sb se H w
theorem vn.same{z:Addr×Rw}(h:vn zs sb se H z)(s:zj H H'):vn zs sb se H' z:=let ⟨a,h1,h2,h3⟩:=h;⟨a,s _ _ h1,s _ _ h2,h3⟩
theorem vn.put{z:Addr×Rw}(h:vn zs sb se H z)(e:H l=some (.lst xs)):vn zs sb se (upd H l (.lst ys)) z:=by
 obtain⟨a,h1,h2,h3⟩:=h;refine⟨a,?_,?_,h3⟩
 ·rw[zI (λy=>by rw[y,e] at h1;cases h1)];exact h1
 ·rw[zI (λy=>by rw[y,e] at h2;cases h2)];exact h2
theorem LnR.same{zs:List (V×Pl)}{sb se:Int}{H H':Hp}{r:Addr}{ws:List (Addr×Rw)}(h:LnR zs sb se H r ws)(s:zj H H'):LnR zs sb se H' r ws:=⟨s _ _ h.1,λz hz=>(h.2 z hz).same s⟩
def zgw(K:Fg):Sp:=λvs H Q _=> ∃(pa l p1 la:Addr) (f:Int) (dy:Bool) (c:Int) (zs:List (V×Pl)) (sb se e:Int) (os:List Or') (G:Int->List D),vs= [.ref pa, .ref l, .ref p1, .int e]/\xE K H pa la f dy c zs/\vH K H l f dy c os/\H p1=some (.tup [.int sb, .int se])/\sb<=e/\e<=se/\sb<se/\se - sb<10 ^ 10/\IsG f dy c (os.map (·.2)) G/\(∀o∈os,TmX zs o.2.2.2.2)/\ ∀r ws H',H r=none->zj H H'->LnR zs sb se H' r ws->ws.length<=64->Rws G sb (ws.map (·.2)) e->Q (.ref r) H'
theorem sc_0o:FnScope ["account","ordered","span","day","lines","stretch","begin","end","state"] ["account","ordered","span","day"] (zJ s_0o):=⟨rfl,rfl,rfl,by decide+kernel,rfl,by decide+kernel,by decide+kernel⟩
theorem ok_0o(T:Txt w K mg t):FnOk P w K mg base (CXE P w) 3 t.a_0o t.d_0o ["account","ordered","span","day"] (zgw K):=by
 refine T.fn_0o.okX sc_0o (λvs H Q E h=> ?_) (λcdv A outer s H vs Q E L hr h=> ?_)
 ·refine opq λ_ kq=> ?_;obtain⟨pa,l,p1,la,f,dy,c,zs,sb,se,e,os,G,rfl,hz,ho,e1,h1,h2,h3,h4,hG,hx,q⟩:=h;apply kq;rfl
 refine opq λ_ kq=> ?_;obtain⟨pa,l,p1,la,f,dy,c,zs,sb,se,e,os,G,rfl,hz,ho,e1,h1,h2,h3,h4,hG,hx,q⟩:=h;apply kq;have nd:=sc_0o.nd;refine⟨_,(zi (zu (i:=4) nd rfl (Or.inl rfl) (zY ze)) (zi (xy (by passes_own) rfl (qO (zr L.toLv (ok_0k T) (hr.mono 'd') (by rfl) T.mg_0k T.fn_0k.kp T.b_0k .nil (zc (pv 1) (zc (zq zU (pv 2) zd (λ_ _=>rfl)) (zc (pv 3) ze zh) z6) zh))) (zD (i:=5) nd rfl (Or.inl rfl)) (zi (xo (pv 5) (qN (n:=3) rfl (zT (zD (i:=6) nd rfl (Or.inl rfl)) (zT (zD (i:=7) nd rfl (Or.inl rfl)) (zT (zD (i:=8) nd rfl (Or.inl rfl)) qM))))) (zp (qX (qQ PySem.F.plainAttrs_list PySem.F.slot_list_append PySem.F.type_list_append xg (pv 4) (zc (zR (zc (pv 6) (zc (pv 7) (zc (pv 8) (zc (zr L.toLv (ok_0m T) (hr.mono 'd') (by rfl) T.mg_0m T.fn_0m.kp T.b_0m .nil (zc (pv 0) (zc (pv 2) (zc (pv 5) ze zh) zh) zh)) ze qv) zh) zh) zh)) ze)))))) (zp (zy (pv 4))))),?_⟩;open_k0;intro lt H1 hlt s1 e2
 ((try dsimp only);refine xM λR hR=> ?_;w_why)
 refine ixT (SqT.of (s1 _ _ e1)) (yi _ _) ⟨l,sb,e,f,dy,c,os,G,rfl,ho.same s1,h1,hG,λr ys H2 nr s2 yA yW yS yl=> ?_⟩;refine⟨r,rfl,⟨_,SqL.of yA.1⟩,hR _ _ ?_⟩;clear hR;have s12:=s1.trans s2;have e22:=s2 _ _ e2;have rl:r≠lt:=λz=>by rw[z,e2] at nr;cases nr
 obtain⟨Pv,hPv⟩: ∃Pv:Nat->St->Hp->Prop,Pv=λi σ1 H7=>zj H H7/\v8 H7 r ys/\ ∃(ws:List (Addr×Rw)) (x5 x6 x7 x8:Option V),LnR zs sb se H7 lt ws/\ws.length=i/\ws.map (·.2)=(ys.take i).map (·.2)/\σ1= [some (.ref pa),some (.ref l),some (.ref p1),some (.int e),some (.ref lt),x5,x6,x7,x8]:=⟨_,rfl⟩
 refine vM (xs:=ys.map λy=>V.ref y.1) Pv (by rw[hPv];exact⟨s12,yA, [],_,_,_,_,⟨e22,(λ_ h=>nomatch h)⟩,rfl,rfl,rfl⟩) (λ_ _ _ _ h=>by rw[hPv] at h;exact SqL.of h.2.1.1) (λi x σ1 H7 hxx h=> ?_) (λσ1 H7 h=> ?_)
 ·rw[hPv] at h;refine opq λ_ kq=> ?_;obtain⟨s7,yA7,ws,x5,x6,x7,x8,wA,wl,wm,rfl⟩:=h;apply kq;obtain⟨y,hy,rfl⟩: ∃y,ys[i]? =some y/\x= .ref y.1:=by
   rw[Jh] at hxx;obtain⟨u,e,rfl⟩:=Jk.mp hxx;exact⟨u,e,rfl⟩
  have hm:=Ji hy;refine opq λ_ kq=> ?_;obtain⟨s,g1,g2,g3⟩:=yA7.2 y hm;obtain⟨dd,o0,o1,o2,so,ey⟩:=yS y hm;have sx:=st_x (zs:=zs) (λt h=>by obtain⟨o,ho',rfl⟩:=Jw.mp h;exact(ho.2.2.1 o ho').2.2.1) (λt h=>by obtain⟨o,ho',rfl⟩:=Jw.mp h;exact hx o ho') so;rw[<-ey] at sx;obtain⟨r1,r2,r3⟩:=Rws.in hy yW;apply kq;lgec_open0
  refine⟨y.1,_,rfl,SqT.of g1,rfl,?_⟩;lgec_open0
  refine⟨.inl ⟨rfl,_,SqL.of wA.1⟩,pa,la,f,dy,c,zs,_,p1,y.1,s,sb,se,_,_,rfl,hz.same s7,sx,s7 _ _ e1,g1,g2,r1,'o','o',h3,h4,λH3 s3=> ?_⟩;intro p4 H4 _ s4 e4;have s74:=s3.trans s4;have w4:=s74 _ _ wA.1;have off: ∀p xs zs',H4 p=some (.tup xs)->upd H4 lt (.lst zs') p=some (.tup xs):=λp xs zs' h=>by
   rw[zI (λz=>by rw[z,w4] at h;cases h)];exact h
  refine⟨lt,_,_,rfl,rfl,w4,uj (show (ws.map λw=>V.ref w.1).length<=1000 by rw[Ja];have:=(Jc.mp hy).1;omega),?_⟩;rw[hPv];refine⟨(s7.trans s74).put hlt _,⟨by rw[zI rl];exact s74 _ _ yA7.1,λz hz'=>((yA7.2 z hz').same s74).put w4⟩,ws++ [(p4,y.2)],_,_,_,_,⟨by rw[yg,Jd];rfl,λw hw=> ?_⟩,by rw[Jj,wl];rfl,?_,rfl⟩
  ·rcases Jr.mp hw with h|h
   ·exact((wA.2 w h).same s74).put w4
   ·rw[Jm.mp h];exact⟨s,off _ _ _ e4,off _ _ _ (s74 _ _ g2),g3⟩
  ·rw[Jd,wm,JH,hy,Option.toList_some,Jd];rfl
 ·rw[hPv] at h;refine opq λ_ kq=> ?_;obtain⟨s7,yA7,ws,x5,x6,x7,x8,wA,wl,wm,rfl⟩:=h;apply kq;rw[Ja,JC] at wm;rw[Ja] at wl;open_k0;refine q lt ws H7 hlt s7 wA 'o' ?_;rw[wm];exact yW
def zjQ(K:Fg):Sp:=λvs H Q _=> ∃(l:Addr) (zs:List (V×Pl)) (sb se:Int) (ws:List (Addr×Rw)),vs= [.ref l]/\LnR zs sb se H l ws/\ws.length<=64/\ ∀H',zj H H'->Q (.int ((ws.map (·.2)).map λx=>qH zs sb se x.1 x.2.1 x.2.2).sum) H'
theorem sc_0p:FnScope ["lines"] ["lines"] (zJ s_0p):=⟨rfl,rfl,rfl,by decide+kernel,rfl,by decide+kernel,by decide+kernel⟩
theorem ok_0p(T:Txt w K mg t):FnOk P w K mg base (CXE P w) 1 t.a_0p t.d_0p ["lines"] (zjQ K):=by
 refine T.fn_0p.okX sc_0p (λvs H Q E h=> ?_) (λcdv A outer s H vs Q E L hr h=> ?_)
 ·refine opq λ_ kq=> ?_;obtain⟨l,zs,sb,se,ws,rfl,wA,wl,q⟩:=h;apply kq;rfl
 refine opq λ_ kq=> ?_;obtain⟨l,zs,sb,se,ws,rfl,wA,wl,q⟩:=h;apply kq;have nd:=sc_0p.nd;refine⟨_,(zp (zy (zZ (je (by rfl)) (by rfl) T.no_sum jd (zc (xA (n:=1) (N:= ["line"]) (js:= []) (by rfl) rfl rfl (qO (pv 0)) (λa=>(zD (i:=0) (show List.Nodup (["line"]:List Str) from by decide+kernel) rfl (Or.inl rfl))) (λa=>xh) (λa=>(zq zU (pv 0) zd (λ_ _=>rfl)))) ze)))),?_⟩;simp only[yZ,qA,y8,yY,qz,yV,yR,qx,yT,yU,qy,qw,tDc,y9,qt,qu,qr,yN,yP,qm,yd,qo,qp,qq,ym,List.replicate,Option.join_some,Option.join_none,ya,ql,yK,yJ,tSl,qd,yI,qe,slT,yp,Int.reduceLT,Int.reduceLE,Int.reduceToNat,Int.reduceNeg,Int.reduceAdd,Int.reduceSub,Int.reduceMul,forall_const,yC,yB,yF,yE,qa,yD,yk,yh,yj,yo,yn,tC,tOp,rI,rI0,tUn,rU,yH,tB,yt,tOr,yu,yv,yw,yx,tIf,yr,yq,yL,qk,tCB,yM,rEq,rNe,qf,qg,qh,qi,qj,qc,yG,ipI,L2.start,JA,JQ,Jp,List.length_nil,List.cons_append,List.nil_append,Jt,List.replicate_succ,List.replicate_zero,Nat.reduceAdd,Nat.reduceSub,List.getElem?_cons_zero,List.getElem?_cons_succ,List.set_cons_zero,List.set_cons_succ,Option.some.injEq,V.int.injEq,V.bl.injEq,V.ref.injEq,V.str.injEq,exists_eq_left',exists_eq_left,exists_eq',exists_and_left,List.cons.injEq,and_true,true_and,and_self,and_assoc,decide_eq_true_eq,if_true,if_false,Bool.true_eq_false,Js,Bool.not_eq_true',Bool.not_true,Bool.not_false,decide_eq_false_iff_not,ite_true,ite_false,reduceCtorEq,false_and,exists_false,false_or,or_false,and_false,xq,xw,Nat.reduceLeDiff];refine⟨⟨_,SqL.of wA.1⟩,λl2 hl2 aa=> ?_⟩;refine xl (λj xs _=>xs=(((ws.take j).map (·.2)).map λx=>qH zs sb se x.1 x.2.1 x.2.2).map V.int) (xr (SqL.of wA.1)) hl2 (by rw[Ja];exact yQ 'o') (λ_ _=>rfl) (λj y xs H8 K1 K0 hx sm pv hl k1 k0=> ?_) (λxs H2 s2 pv _ w2=> ?_)
 ·obtain⟨w',hw,rfl⟩: ∃w',ws[j]? =some w'/\y= .ref w'.1:=by
   rw[Jh] at hx;obtain⟨u,e,rfl⟩:=Jk.mp hx;exact⟨u,e,rfl⟩
  refine opq λ_ kq=> ?_;obtain⟨s,a4,_,_⟩:=wA.2 w' (Ji hw);apply kq;lge_open0
  refine ixT (SqT.of (sm _ _ a4)) (zms _ _ _ _ _) (k1 _ _ (zj.refl _) λH5 _=> ?_);rw[pv,JH,hw,Option.toList_some,Jd,Jd,Jd];rfl
 ·rw[Ja,JC] at pv;subst pv;exact⟨l2,rfl,_,SqL.of w2,q H2 s2⟩
def vo(f:Int)(dy:Bool)(c:Int)(ts:List Tm)(G:Int->List D):Prop:= ∀ts',(∀t,t∈ts'↔t∈ts)->IsG f dy c ts' G
theorem zjR{os:List Or'}(om: ∀t,t∈os.map (·.2)↔t∈ts)(hx: ∀t∈ts,TmX zs t.2.2.2): ∀o∈os,TmX zs o.2.2.2.2:=λo h=>hx o.2 ((om o.2).mp (Jw.mpr ⟨o,h,rfl⟩))
def zg3(K:Fg)(t:Adr):Sp:=λvs H Q E=> ∃(pa l la:Addr) (f:Int) (dy:Bool) (c:Int) (zs:List (V×Pl)) (ts:List Tm) (G:Int->List D) (k:Int),vs= [.ref pa, .ref l, .int k]/\xE K H pa la f dy c zs/\xc K H l f (Cal.beg f dy c 60) ts/\(∀t∈ts,TmX zs t.2.2.2)/\vo f dy c ts G/\(0<=k->k<60-> ∀r ws H',H r=none->zj H H'->LnR zs (Cal.beg f dy c k) (Cal.beg f dy c (k+1)) H' r ws->ws.length<=64->Rws G (Cal.beg f dy c k) (ws.map (·.2)) (Cal.beg f dy c (k+1))->Q (.ref r) H')/\(k<0-> ∀H',zj H H'->E (.ref t.c_Z09) none H')/\(60<=k-> ∀H',zj H H'->E (.ref t.c_Z0e) none H')
theorem sc_0q:FnScope ["account","terms","k","span"] ["account","terms","k"] (zJ s_0q):=⟨rfl,rfl,rfl,by decide+kernel,rfl,by decide+kernel,by decide+kernel⟩
theorem ok_0q(T:Txt w K mg t):FnOk P w K mg base (CXE P w) 10 t.a_0q t.d_0q ["account","terms","k"] (zg3 K t):=by
 refine T.fn_0q.okX sc_0q (λvs H Q E h=> ?_) (λcdv A outer s H vs Q E L hr h=> ?_)
 ·refine opq λ_ kq=> ?_;obtain⟨pa,l,la,f,dy,c,zs,ts,G,k,rfl,hz,ht,hx,hG,q,q2,q3⟩:=h;apply kq;rfl
 refine opq λ_ kq=> ?_;obtain⟨pa,l,la,f,dy,c,zs,ts,G,k,rfl,hz,ht,hx,hG,q,q2,q3⟩:=h;apply kq;have nd:=sc_0q.nd;refine⟨_,(zi (zu (i:=3) nd rfl (Or.inl rfl) (zr L.toLv (ok_0d T) (hr.mono 'd') (by rfl) T.mg_0d T.fn_0d.kp T.b_0d .nil (zc (pv 0) (zc (pv 2) ze zh) zh))) (zp (zy (zr L.toLv (ok_0o T) (hr.mono 'd') (by rfl) T.mg_0o T.fn_0o.kp T.b_0o .nil (zc (pv 0) (zc (zr L.toLv (ok_0h T) (hr.mono 'd') (by rfl) T.mg_0h T.fn_0h.kp T.b_0h .nil (zc (pv 0) (zc (pv 1) ze zh) zh)) (zc (pv 3) (zc (zq zU (pv 3) zd (λ_ _=>rfl)) ze z6) zh) qv) zh))))),?_⟩;obtain⟨f0,f1,hc⟩:=hz.1.cyc;open_k0;refine⟨pa,la,f,dy,c,k,rfl,hz.1,λk0 k1 p1 H1 s1 e1=> ?_,q2,q3⟩;have bw:=kH f0 f1 hc k0 k1;refine⟨pa,l,la,f,dy,c,ts,rfl,hz.1.same s1,ht.same s1,λl2 os H2 s2 ho om=> ?_⟩;refine ixT (SqT.of (s2 _ _ e1)) (qB _ _ _) ?_;exact⟨pa,l2,p1,la,f,dy,c,zs,_,_,_,os,G,rfl,hz.same (s1.trans s2),ho,s2 _ _ e1,'o',Jz _,bw.2.1,'o',hG _ om,zjR om hx,λr ws H3 nr s3 wA wl ws'=>q k0 k1 r ws H3 ((s1.trans s2).none nr) ((s1.trans s2).trans s3) wA wl ws'⟩
def zhz(K:Fg)(t:Adr):Sp:=λvs H Q E=> ∃(pa l la:Addr) (f:Int) (dy:Bool) (c:Int) (zs:List (V×Pl)) (ts:List Tm) (G:Int->List D) (k:Int),vs= [.ref pa, .ref l, .int k]/\xE K H pa la f dy c zs/\xc K H l f (Cal.beg f dy c 60) ts/\(∀t∈ts,TmX zs t.2.2.2)/\vo f dy c ts G/\(0<=k->k<60-> ∀H',zj H H'->Q (.int (Sb (λo=>qH zs (Cal.beg f dy c k) (Cal.beg f dy c (k+1)) o (o+1) (G o)) (Cal.beg f dy c k) (Cal.beg f dy c (k+1)))) H')/\(k<0-> ∀H',zj H H'->E (.ref t.c_Z09) none H')/\(60<=k-> ∀H',zj H H'->E (.ref t.c_Z0e) none H')
theorem sc_0r:FnScope ["account","terms","k"] ["account","terms","k"] (zJ s_0r):=⟨rfl,rfl,rfl,by decide+kernel,rfl,by decide+kernel,by decide+kernel⟩
theorem ok_0r(T:Txt w K mg t):FnOk P w K mg base (CXE P w) 11 t.a_0r t.d_0r ["account","terms","k"] (zhz K t):=by
 refine T.fn_0r.okX sc_0r (λvs H Q E h=> ?_) (λcdv A outer s H vs Q E L hr h=> ?_)
 ·refine opq λ_ kq=> ?_;obtain⟨pa,l,la,f,dy,c,zs,ts,G,k,rfl,hz,ht,hx,hG,q,q2,q3⟩:=h;apply kq;rfl
 refine opq λ_ kq=> ?_;obtain⟨pa,l,la,f,dy,c,zs,ts,G,k,rfl,hz,ht,hx,hG,q,q2,q3⟩:=h;apply kq;have nd:=sc_0r.nd;refine⟨_,(zp (zy (zr L.toLv (ok_0p T) (hr.mono 'd') (by rfl) T.mg_0p T.fn_0p.kp T.b_0p .nil (zc (zr L.toLv (ok_0q T) (hr.mono 'd') (by rfl) T.mg_0q T.fn_0q.kp T.b_0q .nil (zc (pv 0) (zc (pv 1) (zc (pv 2) ze zh) zh) zh)) ze)))),?_⟩;open_k0;refine⟨pa,l,la,f,dy,c,zs,ts,G,k,rfl,hz,ht,hx,hG,λk0 k1 r ws H1 _ s1 wA wl ws'=>⟨r,zs,_,_,ws,rfl,wA,wl,λH2 s2=> ?_⟩,q2,q3⟩;rw[jB ws'];exact q k0 k1 H2 (s1.trans s2)
noncomputable def dC(f:Int)(dy:Bool)(c:Int)(zs:List (V×Pl))(G:Int->List D)(o:Int):Int:=open Classical in if h: ∃k:Int,0<=k/\k<60/\Cal.beg f dy c k<=o/\o<Cal.beg f dy c (k+1) then qH zs (Cal.beg f dy c h.choose) (Cal.beg f dy c (h.choose+1)) o (o+1) (G o) else 0
theorem kJ{o k:Int}(f0:0<=f)(f1:f<=3500000)(hc:Cal.CycOk dy c)(k0:0<=k)(k1:k<60)(a:Cal.beg f dy c k<=o)(b:o<Cal.beg f dy c (k+1)):dC f dy c zs G o=qH zs (Cal.beg f dy c k) (Cal.beg f dy c (k+1)) o (o+1) (G o):=by
 unfold dC;have h: ∃k:Int,0<=k/\k<60/\Cal.beg f dy c k<=o/\o<Cal.beg f dy c (k+1):=⟨k,k0,k1,a,b⟩
 rw[dif_pos h];obtain⟨x1,x2,x3,x4⟩:=h.choose_spec;rw[Cal.beg_one f0 f1 hc x1 x2 k0 k1 x3 x4 a b]
theorem zic{k:Int}(f0:0<=f)(f1:f<=3500000)(hc:Cal.CycOk dy c)(k0:0<=k)(k1:k<60)(he:e<=Cal.beg f dy c (k+1)):Sb (λo=>qH zs (Cal.beg f dy c k) (Cal.beg f dy c (k+1)) o (o+1) (G o)) (Cal.beg f dy c k) e=Sb (dC f dy c zs G) (Cal.beg f dy c k) e:=
 Sb.congr λo h1 h2=>(kJ f0 f1 hc k0 k1 h1 'o').symm
def zmv(K:Fg):Sp:=λvs H Q _=> ∃(pa l:Addr) (f:Int) (dy:Bool) (c:Int),vs= [.ref pa]/\xv K H pa l f dy c/\ ∀H',zj H H'->Q (.int (Cal.beg f dy c 60)) H'
theorem sc_0b:FnScope ["account","plans","first","cycle"] ["account"] (zJ s_0b):=⟨rfl,rfl,rfl,by decide+kernel,rfl,by decide+kernel,by decide+kernel⟩
theorem ok_0b(T:Txt w K mg t):FnOk P w K mg base (CXE P w) 6 t.a_0b t.d_0b ["account"] (zmv K):=by
 refine T.fn_0b.okX sc_0b (λvs H Q E h=> ?_) (λcdv A outer s H vs Q E L hr h=> ?_)
 ·refine opq λ_ kq=> ?_;obtain⟨pa,l,f,dy,c,rfl,⟨pc,f0,f1,hc,ep⟩,q⟩:=h;apply kq;rfl
 refine opq λ_ kq=> ?_;obtain⟨pa,l,f,dy,c,rfl,⟨pc,f0,f1,hc,ep⟩,q⟩:=h;have nd:=sc_0b.nd;obtain⟨u_Z0b,h_Z0b,r_Z0b⟩:=T.k_Z0b;apply kq;refine⟨_,(zi (xo (pv 0) (qN (n:=3) rfl (zT (zD (i:=1) nd rfl (Or.inl rfl)) (zT (zD (i:=2) nd rfl (Or.inl rfl)) (zT (zD (i:=3) nd rfl (Or.inl rfl)) qM))))) (zp (zy (zr L.toLv (ok_07 T) (hr.mono 'd') (by rfl) T.mg_07 T.fn_07.kp T.b_07 .nil (zc (pv 2) (zc (pv 3) (zc (xj (by rfl) h_Z0b r_Z0b) ze zh) zh) zh))))),?_⟩;open_k0;refine⟨pa,_,rfl,SqT.of ep,rfl,?_⟩;open_k0;exact⟨f,pc,dy,c,60,rfl,f0,f1,hc,λ_ _ H1 s1=>q H1 s1,λz=>absurd z 'd',λz=>absurd z 'd'⟩
def zg4(K:Fg):Sp:=λvs H Q _=> ∃(pa l la:Addr) (f:Int) (dy:Bool) (c d:Int) (zs:List (V×Pl)) (ts:List Tm) (G:Int->List D),vs= [.ref pa, .ref l, .int d]/\xE K H pa la f dy c zs/\xc K H l f (Cal.beg f dy c 60) ts/\(∀t∈ts,TmX zs t.2.2.2)/\vo f dy c ts G/\f<=d/\d<=Cal.beg f dy c 60/\ ∀H',zj H H'->Q (.int (Sb (dC f dy c zs G) f d)) H'
theorem sc_0s:FnScope ["account","terms","day","ordered","total","k","span"] ["account","terms","day"] (zJ s_0s):=⟨rfl,rfl,rfl,by decide+kernel,rfl,by decide+kernel,by decide+kernel⟩
theorem ok_0s(T:Txt w K mg t):FnOk P w K mg base (CXE P w) 10 t.a_0s t.d_0s ["account","terms","day"] (zg4 K):=by
 refine T.fn_0s.okX sc_0s (λvs H Q E h=> ?_) (λcdv A outer s H vs Q E L hr h=> ?_)
 ·refine opq λ_ kq=> ?_;obtain⟨pa,l,la,f,dy,c,d,zs,ts,G,rfl,hz,ht,hx,hG,d0,d1,q⟩:=h;apply kq;rfl
 refine opq λ_ kq=> ?_;obtain⟨pa,l,la,f,dy,c,d,zs,ts,G,rfl,hz,ht,hx,hG,d0,d1,q⟩:=h;have nd:=sc_0s.nd;obtain⟨u_Z0b,h_Z0b,r_Z0b⟩:=T.k_Z0b;apply kq;refine⟨_,(zi (xz (zL (zC wB (pv 2) (zr L.toLv (ok_0b T) (hr.mono 'd') (by rfl) T.mg_0b T.fn_0b.kp T.b_0b .nil (zc (pv 0) ze)) (zx _)) (zp (qX (zr L.toLv (ok_0e T) (hr.mono 'd') (by rfl) T.mg_0e T.fn_0e.kp T.b_0e .nil (zc (pv 0) (zc (pv 2) ze zh) zh)))) zN)) (zi (zu (i:=3) nd rfl (Or.inl rfl) (zr L.toLv (ok_0h T) (hr.mono 'd') (by rfl) T.mg_0h T.fn_0h.kp T.b_0h .nil (zc (pv 0) (zc (pv 1) ze zh) zh))) (zi (zu (i:=4) nd rfl (Or.inl rfl) zd) (zi (xy (by passes_own) rfl (wz (by rfl) T.no_range (zc (xj (by rfl) h_Z0b r_Z0b) ze)) (zD (i:=5) nd rfl (Or.inl rfl)) (zi (zu (i:=6) nd rfl (Or.inl rfl) (zr L.toLv (ok_0d T) (hr.mono 'd') (by rfl) T.mg_0d T.fn_0d.kp T.b_0d .nil (zc (pv 0) (zc (pv 5) ze zh) zh))) (zi (zL (zC uV (zq zU (pv 6) zd (λ_ _=>rfl)) (pv 2) (zx _)) (zp kW) zN) (zp (ud (i:=4) nd rfl (Or.inl rfl) (zr L.toLv (ok_0p T) (hr.mono 'd') (by rfl) T.mg_0p T.fn_0p.kp T.b_0p .nil (zc (zr L.toLv (ok_0o T) (hr.mono 'd') (by rfl) T.mg_0o T.fn_0o.kp T.b_0o .nil (zc (pv 0) (zc (pv 3) (zc (pv 6) (zc (zZ (vb (by rfl)) (by rfl) T.no_min vd (zc (zq zU (pv 6) zd (λ_ _=>rfl)) (zc (pv 2) ze zh) z6)) ze qv) zh) zh) zh)) ze)) jG))))) (zp (zy (pv 4))))))),?_⟩;obtain⟨f0,f1,hc⟩:=hz.1.cyc;have b0:Cal.beg f dy c 0=f:=Cal.beg_zero f0 f1;open_k0;obtain⟨R,hR⟩: ∃R:St->Hp->Prop,R=λσ' H'=>zj H H'/\σ'= [some (.ref pa),some (.ref l),some (.int d),none,none,none,none]:=⟨_,rfl⟩
 refine⟨R,?_,λσ1 H1 h1=> ?_⟩
 ·open_k0;refine⟨pa,la,f,dy,c,rfl,hz.1,λH1 s1=>⟨rfl,qE (λh=>⟨pa,la,f,dy,c,d,rfl,hz.1.same s1,λk k0 k1 a1 a2 p1 H2 s2 e2=> ?_,λz=>by omega,λz=> ?_⟩) (λ_=> ?_)⟩⟩
  ·rw[hR];exact⟨s1.trans s2,rfl⟩
  ·exact absurd (by rw[show d=Cal.beg f dy c 60 by omega]) h
  ·rw[hR];exact⟨s1,rfl⟩
 rw[hR] at h1;obtain⟨s1,rfl⟩:=h1;clear hR;open_k0;refine⟨pa,l,la,f,dy,c,ts,rfl,hz.1.same s1,ht.same s1,λl2 os H2 s2 ho om=> ?_⟩;have s12:=s1.trans s2;have hox:=zjR om hx
 ((try dsimp only);refine xM λR hR=> ?_;w_why)
 refine⟨'d','d',hR _ _ ?_⟩;clear hR;obtain⟨mf,hmf⟩: ∃mf:Int->Int,mf=λi=>if Cal.beg f dy c i<=d then Cal.beg f dy c i else d:=⟨_,rfl⟩
 have m0:mf 0=f:=by rw[hmf];dsimp only;rw[b0,Jg d0]
 obtain⟨Pv,hPv⟩: ∃Pv:Nat->St->Hp->Prop,Pv=λ(i:Nat) σ1 H7=>zj H2 H7/\ ∃x5 x6:Option V,σ1= [some (.ref pa),some (.ref l),some (.int d),some (.ref l2),some (.int (Sb (dC f dy c zs G) f (mf (i:Int)))),x5,x6]:=⟨_,rfl⟩
 refine vq (n:=60) Pv (by rw[hPv];exact⟨zj.refl _,_,_,by rw[show ((0:Nat):Int)=0 from rfl,m0,Sb.self]⟩) (λi σ1 H7 hi h=> ?_) (λσ1 H7 h=> ?_)
 ·rw[hPv] at h;refine opq λ_ kq=> ?_;obtain⟨s7,x5,x6,rfl⟩:=h;apply kq;have s17:=s12.trans s7;have bw:=kH (k:=(i:Int)) f0 f1 hc 'o' 'o';have bge:=Cal.beg_ge (k:=(i:Int)) f0 f1 hc 'o' 'o';simp only[yZ,qA,y8,yY,qz,yV,yR,qx,yT,yU,qy,qw,tDc,y9,qt,qu,qr,yN,yP,qm,yd,qo,qp,qq,ym,List.replicate,Option.join_some,Option.join_none,ya,ql,yK,yJ,tSl,qd,yI,qe,slT,yp,Int.reduceLT,Int.reduceLE,Int.reduceToNat,Int.reduceNeg,Int.reduceAdd,Int.reduceSub,Int.reduceMul,forall_const,yC,yB,yF,yE,qa,yD,yk,yh,yj,yo,yn,tC,tOp,rI,rI0,tUn,rU,yH,tB,yt,tOr,yu,yv,yw,yx,tIf,yr,yq,yL,qk,tCB,yM,rEq,rNe,qf,qg,qh,qi,qj,qc,yG,ipI,L2.start,JA,JQ,Jp,List.length_nil,List.cons_append,List.nil_append,Jt,List.replicate_succ,List.replicate_zero,Nat.reduceAdd,Nat.reduceSub,List.getElem?_cons_zero,List.getElem?_cons_succ,List.set_cons_zero,List.set_cons_succ,Option.some.injEq,V.int.injEq,V.bl.injEq,V.ref.injEq,V.str.injEq,exists_eq_left',exists_eq_left,exists_eq',exists_and_left,List.cons.injEq,and_true,true_and,and_self,and_assoc,decide_eq_true_eq,if_true,if_false,Bool.true_eq_false,Js,Bool.not_eq_true',Bool.not_true,Bool.not_false,decide_eq_false_iff_not,ite_true,ite_false,reduceCtorEq,false_and,exists_false,false_or,or_false,and_false,jF,Nat.reduceLeDiff];refine⟨pa,la,f,dy,c,(i:Int),by rw[JR],hz.1.same s17,λ_ _ p1 H8 s8 e8=> ?_,λz=>absurd z 'o',λz=>absurd z 'o'⟩;refine ixT (SqT.of e8) (yi _ _) ⟨_,rfl,qE (λhb=> ?_) (λhb=> ?_)⟩
  ·have em:mf (i:Int)=d:=by rw[hmf];dsimp only;split<;>omega
   rw[em];exact q H8 (s17.trans s8)
  ·have em:mf (i:Int)=Cal.beg f dy c i:=by rw[hmf];dsimp only;rw[Jg 'o']
   have em1:mf ((i+1:Nat):Int)=if d<Cal.beg f dy c ((i:Int)+1) then d else Cal.beg f dy c ((i:Int)+1):=by
    rw[hmf,show ((i+1:Nat):Int)=(i:Int)+1 by omega];dsimp only;split<;>split<;>omega
   have s18:=s17.trans s8;refine ixT (SqT.of e8) (qB _ _ _) ⟨_,rfl,pa,l2,p1,la,f,dy,c,zs,_,_,_,os,G,rfl,hz.same s18,ho.same (s7.trans s8),e8,by split<;>omega,by split<;>omega,bw.2.1,'o',hG _ om,hox,λr ws H9 _ s9 wA wl wW=>⟨r,zs,_,_,ws,rfl,wA,wl,λH10 s10=>⟨_,rfl,?_⟩⟩⟩;rw[hPv,jB wW,zic f0 f1 hc 'o' 'o' (by split<;>omega),em,Sb.add bge (by split<;>omega),<-em1];exact⟨s7.trans (s8.trans (s9.trans s10)),_,_,rfl⟩
 ·rw[hPv] at h;refine opq λ_ kq=> ?_;obtain⟨s7,x5,x6,rfl⟩:=h;apply kq;have em:mf ((60:Nat):Int)=d:=by rw[hmf];dsimp only;rw[show ((60:Nat):Int)=60 from rfl];split<;>omega
  rw[em];open_k0;exact q H7 (s12.trans s7)
def ziN:Sp:=λvs H Q _=> ∃d:D,vs= [sv d]/\jZ d/\Q (.bl (isI d)) H
theorem sc_09:FnScope ["value"] ["value"] (zJ s_09):=⟨rfl,rfl,rfl,by decide+kernel,rfl,by decide+kernel,by decide+kernel⟩
theorem ok_09(T:Txt w K mg t):FnOk P w K mg base (CXE P w) 1 t.a_09 t.d_09 ["value"] (ziN):=by
 refine T.fn_09.okX sc_09 (λvs H Q E h=> ?_) (λcdv A outer s H vs Q E L hr h=> ?_)
 ·refine opq λ_ kq=> ?_;obtain⟨d,rfl,hd,q⟩:=h;apply kq;rfl
 refine opq λ_ kq=> ?_;obtain⟨d,rfl,hd,q⟩:=h;apply kq;have nd:=sc_09.nd;refine⟨_,(zp (zy (wy (zZ zeL (by rfl) T.no_isinstance zd9 (zc (pv 0) (zc (zkZ (by rfl) T.no_int vQ) ze zh) zh)) (wP (zle (zZ zeL (by rfl) T.no_isinstance zd9 (zc (pv 0) (zc (zkZ (by rfl) T.no_bool zkp) ze zh) zh))))))),?_⟩;rcases hd with⟨i,rfl⟩|⟨cs,rfl,hl⟩
 ·simp only[yZ,qA,y8,yY,qz,yV,yR,qx,yT,yU,qy,qw,tDc,y9,qt,qu,qr,yN,yP,qm,yd,qo,qp,qq,ym,List.replicate,Option.join_some,Option.join_none,ya,ql,yK,yJ,tSl,qd,yI,qe,slT,yp,Int.reduceLT,Int.reduceLE,Int.reduceToNat,Int.reduceNeg,Int.reduceAdd,Int.reduceSub,Int.reduceMul,forall_const,yC,yB,yF,yE,qa,yD,yk,yh,yj,yo,yn,tC,tOp,rI,rI0,tUn,rU,yH,tB,yt,tOr,yu,yv,yw,yx,tIf,yr,yq,yL,qk,tCB,yM,rEq,rNe,qf,qg,qh,qi,qj,qc,yG,ipI,L2.start,JA,JQ,Jp,List.length_nil,List.cons_append,List.nil_append,Jt,List.replicate_succ,List.replicate_zero,Nat.reduceAdd,Nat.reduceSub,List.getElem?_cons_zero,List.getElem?_cons_succ,List.set_cons_zero,List.set_cons_succ,Option.some.injEq,V.int.injEq,V.bl.injEq,V.ref.injEq,V.str.injEq,exists_eq_left',exists_eq_left,exists_eq',exists_and_left,List.cons.injEq,and_true,true_and,and_self,and_assoc,decide_eq_true_eq,if_true,if_false,Bool.true_eq_false,Js,Bool.not_eq_true',Bool.not_true,Bool.not_false,decide_eq_false_iff_not,ite_true,ite_false,reduceCtorEq,false_and,exists_false,false_or,or_false,and_false,Nat.reduceLeDiff,sv];refine⟨_, .old (.int _),_,rfl,_,zgJ,?_⟩;rw[Jg rfl];refine⟨_, .old (.int _),_,rfl,_,zgf,?_⟩;exact q
 ·simp only[yZ,qA,y8,yY,qz,yV,yR,qx,yT,yU,qy,qw,tDc,y9,qt,qu,qr,yN,yP,qm,yd,qo,qp,qq,ym,List.replicate,Option.join_some,Option.join_none,ya,ql,yK,yJ,tSl,qd,yI,qe,slT,yp,Int.reduceLT,Int.reduceLE,Int.reduceToNat,Int.reduceNeg,Int.reduceAdd,Int.reduceSub,Int.reduceMul,forall_const,yC,yB,yF,yE,qa,yD,yk,yh,yj,yo,yn,tC,tOp,rI,rI0,tUn,rU,yH,tB,yt,tOr,yu,yv,yw,yx,tIf,yr,yq,yL,qk,tCB,yM,rEq,rNe,qf,qg,qh,qi,qj,qc,yG,ipI,L2.start,JA,JQ,Jp,List.length_nil,List.cons_append,List.nil_append,Jt,List.replicate_succ,List.replicate_zero,Nat.reduceAdd,Nat.reduceSub,List.getElem?_cons_zero,List.getElem?_cons_succ,List.set_cons_zero,List.set_cons_succ,Option.some.injEq,V.int.injEq,V.bl.injEq,V.ref.injEq,V.str.injEq,exists_eq_left',exists_eq_left,exists_eq',exists_and_left,List.cons.injEq,and_true,true_and,and_self,and_assoc,decide_eq_true_eq,if_true,if_false,Bool.true_eq_false,Js,Bool.not_eq_true',Bool.not_true,Bool.not_false,decide_eq_false_iff_not,ite_true,ite_false,reduceCtorEq,false_and,exists_false,false_or,or_false,and_false,Nat.reduceLeDiff,sv];refine⟨_, .old (.str _),_,rfl,_,zgO,?_⟩;rw[Jf 'd'];exact q
def zmw:Sp:=λvs H Q _=> ∃(d:D) (lo hi:Int),vs= [sv d, .int lo, .int hi]/\jZ d/\Q (.bl (btw lo hi d)) H
theorem sc_0a:FnScope ["value","least","greatest"] ["value","least","greatest"] (zJ s_0a):=⟨rfl,rfl,rfl,by decide+kernel,rfl,by decide+kernel,by decide+kernel⟩
theorem ok_0a(T:Txt w K mg t):FnOk P w K mg base (CXE P w) 2 t.a_0a t.d_0a ["value","least","greatest"] (zmw):=by
 refine T.fn_0a.okX sc_0a (λvs H Q E h=> ?_) (λcdv A outer s H vs Q E L hr h=> ?_)
 ·refine opq λ_ kq=> ?_;obtain⟨d,lo,hi,rfl,hd,q⟩:=h;apply kq;rfl
 refine opq λ_ kq=> ?_;obtain⟨d,lo,hi,rfl,hd,q⟩:=h;apply kq;have nd:=sc_0a.nd;refine⟨_,(zp (zy (wy (zr L.toLv (ok_09 T) (hr.mono 'd') (by rfl) T.mg_09 T.fn_09.kp T.b_09 .nil (zc (pv 0) ze)) (wy (qT uU (pv 1) (pv 0) (zx _)) (wP (qT uU (pv 0) (pv 2) (zx _))))))),?_⟩;open_k0;refine⟨d,rfl,hd,?_⟩;rcases hd with⟨i,rfl⟩|⟨cs,rfl,hl⟩
 ·have e:btw lo hi (.int i)=(decide (lo<=i) && decide (i<=hi)):=rfl;rw[e] at q;simp only[yZ,qA,y8,yY,qz,yV,yR,qx,yT,yU,qy,qw,tDc,y9,qt,qu,qr,yN,yP,qm,yd,qo,qp,qq,ym,List.replicate,Option.join_some,Option.join_none,ya,ql,yK,yJ,tSl,qd,yI,qe,slT,yp,Int.reduceLT,Int.reduceLE,Int.reduceToNat,Int.reduceNeg,Int.reduceAdd,Int.reduceSub,Int.reduceMul,forall_const,yC,yB,yF,yE,qa,yD,yk,yh,yj,yo,yn,tC,tOp,rI,rI0,tUn,rU,yH,tB,yt,tOr,yu,yv,yw,yx,tIf,yr,yq,yL,qk,tCB,yM,rEq,rNe,qf,qg,qh,qi,qj,qc,yG,ipI,L2.start,JA,JQ,Jp,List.length_nil,List.cons_append,List.nil_append,Jt,List.replicate_succ,List.replicate_zero,Nat.reduceAdd,Nat.reduceSub,List.getElem?_cons_zero,List.getElem?_cons_succ,List.set_cons_zero,List.set_cons_succ,Option.some.injEq,V.int.injEq,V.bl.injEq,V.ref.injEq,V.str.injEq,exists_eq_left',exists_eq_left,exists_eq',exists_and_left,List.cons.injEq,and_true,true_and,and_self,and_assoc,decide_eq_true_eq,if_true,if_false,Bool.true_eq_false,Js,Bool.not_eq_true',Bool.not_true,Bool.not_false,decide_eq_false_iff_not,ite_true,ite_false,reduceCtorEq,false_and,exists_false,false_or,or_false,and_false,Nat.reduceLeDiff,sv,isI];by_cases h1:lo<=i
  ·rw[Jg h1];rw[JN h1,Bool.true_and] at q;exact q
  ·rw[Jf h1];rw[JO h1,Bool.false_and] at q;exact q
 ·simp only[yZ,qA,y8,yY,qz,yV,yR,qx,yT,yU,qy,qw,tDc,y9,qt,qu,qr,yN,yP,qm,yd,qo,qp,qq,ym,List.replicate,Option.join_some,Option.join_none,ya,ql,yK,yJ,tSl,qd,yI,qe,slT,yp,Int.reduceLT,Int.reduceLE,Int.reduceToNat,Int.reduceNeg,Int.reduceAdd,Int.reduceSub,Int.reduceMul,forall_const,yC,yB,yF,yE,qa,yD,yk,yh,yj,yo,yn,tC,tOp,rI,rI0,tUn,rU,yH,tB,yt,tOr,yu,yv,yw,yx,tIf,yr,yq,yL,qk,tCB,yM,rEq,rNe,qf,qg,qh,qi,qj,qc,yG,ipI,L2.start,JA,JQ,Jp,List.length_nil,List.cons_append,List.nil_append,Jt,List.replicate_succ,List.replicate_zero,Nat.reduceAdd,Nat.reduceSub,List.getElem?_cons_zero,List.getElem?_cons_succ,List.set_cons_zero,List.set_cons_succ,Option.some.injEq,V.int.injEq,V.bl.injEq,V.ref.injEq,V.str.injEq,exists_eq_left',exists_eq_left,exists_eq',exists_and_left,List.cons.injEq,and_true,true_and,and_self,and_assoc,decide_eq_true_eq,if_true,if_false,Bool.true_eq_false,Js,Bool.not_eq_true',Bool.not_true,Bool.not_false,decide_eq_false_iff_not,ite_true,ite_false,reduceCtorEq,false_and,exists_false,false_or,or_false,and_false,isI];exact q
def zkO(K:Fg):Sp:=λvs H Q _=> ∃(pa l:Addr) (f:Int) (dy:Bool) (c:Int) (d:D),vs= [.ref pa,sv d]/\jZ d/\xv K H pa l f dy c/\ ∀H',zj H H'->Q (.bl (btw f (Cal.beg f dy c 60 - 1) d)) H'
theorem sc_0c:FnScope ["account","value","plans","first","cycle"] ["account","value"] (zJ s_0c):=⟨rfl,rfl,rfl,by decide+kernel,rfl,by decide+kernel,by decide+kernel⟩
theorem ok_0c(T:Txt w K mg t):FnOk P w K mg base (CXE P w) 7 t.a_0c t.d_0c ["account","value"] (zkO K):=by
 refine T.fn_0c.okX sc_0c (λvs H Q E h=> ?_) (λcdv A outer s H vs Q E L hr h=> ?_)
 ·refine opq λ_ kq=> ?_;obtain⟨pa,l,f,dy,c,d,rfl,hd,ha,q⟩:=h;apply kq;rfl
 refine opq λ_ kq=> ?_;obtain⟨pa,l,f,dy,c,d,rfl,hd,ha,q⟩:=h;apply kq;have nd:=sc_0c.nd;refine⟨_,(zi (xo (pv 0) (qN (n:=3) rfl (zT (zD (i:=2) nd rfl (Or.inl rfl)) (zT (zD (i:=3) nd rfl (Or.inl rfl)) (zT (zD (i:=4) nd rfl (Or.inl rfl)) qM))))) (zp (zy (zr L.toLv (ok_0a T) (hr.mono 'd') (by rfl) T.mg_0a T.fn_0a.kp T.b_0a .nil (zc (pv 1) (zc (pv 3) (zc (zg yc (zr L.toLv (ok_0b T) (hr.mono 'd') (by rfl) T.mg_0b T.fn_0b.kp T.b_0b .nil (zc (pv 0) ze)) zd) ze zO) zh) zh))))),?_⟩;have ha':=ha;refine opq λ_ kq=> ?_;obtain⟨pc,f0,f1,hc,ep⟩:=ha';apply kq;open_k0;refine⟨pa,_,rfl,SqT.of ep,rfl,?_⟩;open_k0;exact⟨pa,l,f,dy,c,rfl,ha,λH1 s1=>⟨_,rfl,d,_,_,rfl,hd,q H1 s1⟩⟩
def EnB(f e:Int)(zs:List En):Prop:= ∀z∈zs,zV z.2.2.2=true->TmB f e z.2.2.2
theorem EnB.of{zs:List En}(h:qS nms f e zs):EnB f e zs:=λz hz tm=>by
 obtain⟨i,hi,ez⟩:=List.mem_iff_getElem.mp hz;have ci:=(h i z (by rw[Jb hi,ez])).2.2.2;cases hch:z.2.2.2 with
 |plan d nm=>rw[hch] at ci;exact⟨rfl,ci.1,ci.2.1,λw d h=>by cases h⟩
 |seats d n=>rw[hch] at ci;exact⟨rfl,ci.1,ci.2.1,λw d h=>by cases h⟩
 |word w d=>rw[hch] at ci;exact⟨rfl,ci.2.1,ci.2.2,λw d h=>by cases h;exact ci.1⟩
 |undo k=>rw[hch] at tm;cases tm
 |grant k=>rw[hch] at tm;cases tm
 |back=>rw[hch] at tm;cases tm
def jC:List (List Nat):= [[112,108,97,110], [115,101,97,116,115], [104,111,108,100], [103,111], [115,116,111,112], [108,97,115,116]]
theorem uJ(w:Nat):xS w∈jC/\xS w≠ [112,108,97,110]/\xS w≠ [115,101,97,116,115]:=by
 match w with
 |0=>exact⟨'d','d','d'⟩
 |1=>exact⟨'d','d','d'⟩
 |2=>exact⟨'d','d','d'⟩
 |n+3=>exact⟨(by decide: [108,97,115,116]∈jC),(by decide: [108,97,115,116]≠ [112,108,97,110]),(by decide: [108,97,115,116]≠ [115,101,97,116,115])⟩
theorem zjT(c:Ch):decide (chW c∈jC)=zV c:=by
 cases c with
 |plan=>rfl
 |seats=>rfl
 |word w _=>exact JN (uJ w).1
 |undo=>rfl
 |grant=>rfl
 |back=>rfl
def zjU(K:Fg):Sp:=λvs H Q _=> ∃(p:Addr) (c:Ch),vs= [.ref p]/\SqT K H p ((chD c).map sv)/\Q (.bl (zV c)) H
theorem sc_0t:FnScope ["change"] ["change"] (zJ s_0t):=⟨rfl,rfl,rfl,by decide+kernel,rfl,by decide+kernel,by decide+kernel⟩
theorem ok_0t(T:Txt w K mg t):FnOk P w K mg base (CXE P w) 1 t.a_0t t.d_0t ["change"] (zjU K):=by
 refine T.fn_0t.okX sc_0t (λvs H Q E h=> ?_) (λcdv A outer s H vs Q E L hr h=> ?_)
 ·refine opq λ_ kq=> ?_;obtain⟨p,c,rfl,hp,q⟩:=h;apply kq;rfl
 refine opq λ_ kq=> ?_;obtain⟨p,c,rfl,hp,q⟩:=h;have nd:=sc_0t.nd;obtain⟨a_Z0d,h_Z0d,q_Z0d⟩:=T.k_Z0d;apply kq;have r_Z0d:zF (.ref a_Z0d) (.ref a_Z0d):=rfl;refine⟨_,(zp (zy (qT u8 (zq zU (pv 0) zd (λ_ _=>rfl)) (xj (by rfl) h_Z0d r_Z0d) rfl))),?_⟩;obtain⟨r,er⟩:=uy c;rw[er] at hp;open_k0;refine ixT hp (yi _ _) ⟨a_Z0d,_,rfl, .inr (q_Z0d _),rfl,rfl,?_⟩;have e:inV (.str (SL (chW c))) (jC.map λx=>V.str (SL x))=zV c:=by rw[vC,zjT]
 exact e ▸ q
def xF(zs:List En)(k:Int):V:=((zs[k.toNat]?).map λz=>V.ref z.2.1).getD .non
def zhA(K:Fg):Sp:=λvs H Q _=> ∃(a:Addr) (zs:List En),vs= [.ref a]/\SqL K H a (zs.map (·.1))/\yX K H zs/\zs.length<=63/\(∀i z k,zs[i]? =some z->z.2.2.2= .undo k->k∈zX (chs (zs.take i)))/\ ∀r H',H r=none->zj H H'->H' r=some (.dK (kvG (xF zs) (zX (chs zs))))->Q (.ref r) H'
theorem sc_0z:FnScope ["entries","standing","number","entry","change"] ["entries"] (zJ s_0z):=⟨rfl,rfl,rfl,by decide+kernel,rfl,by decide+kernel,by decide+kernel⟩
theorem ok_0z(T:Txt w K mg t):FnOk P w K mg base (CXE P w) 2 t.a_0z t.d_0z ["entries"] (zhA K):=by
 refine T.fn_0z.okX sc_0z (λvs H Q E h=> ?_) (λcdv A outer s H vs Q E L hr h=> ?_)
 ·refine opq λ_ kq=> ?_;obtain⟨a,zs,rfl,hS,hE,z63,hu,q⟩:=h;apply kq;rfl
 refine opq λ_ kq=> ?_;obtain⟨a,zs,rfl,hS,hE,z63,hu,q⟩:=h;apply kq;have nd:=sc_0z.nd;refine⟨_,(zi (zu (i:=1) nd rfl (Or.inl rfl) zjo) (zi (xy (by passes_own) rfl (zhZ (by rfl) T.no_enumerate (zc (pv 0) ze)) (qN (n:=2) rfl (zT (zD (i:=2) nd rfl (Or.inl rfl)) (zT (zD (i:=3) nd rfl (Or.inl rfl)) qM))) (zi (zu (i:=4) nd rfl (Or.inl rfl) (zq zU (pv 3) zd (λ_ _=>rfl))) (zi (xz (zL (vp (zr L.toLv (ok_0t T) (hr.mono 'd') (by rfl) T.mg_0t T.fn_0t.kp T.b_0t .nil (zc (pv 4) ze))) (zp (zku (zkX hr) (pv 1) (pv 2) (pv 4) rfl)) zN)) (zp (zL (zC yf (zq zU (pv 4) zd (λ_ _=>rfl)) (zQ st_14) (zx _)) (zp (qX (zjn (pv 1) (zq zU (pv 4) zd (λ_ _=>rfl)) ⟨by rfl,by rfl,by rfl,by rfl⟩))) zN))))) (zp (zy (pv 1))))),?_⟩;open_k0;intro dd H1 hdd s1 e1
 ((try dsimp only);refine xM λR hR=> ?_;w_why)
 refine⟨⟨_,s1.seq hS⟩,hR _ _ ?_⟩;clear hR;refine zgP (xs:=zs.map (·.1)) (λi σ1 H2=>zj H H2/\H2 dd=some (.dK (kvG (xF zs) (zX (chs (zs.take i)))))/\ ∃(x2 x3 x4:Option V),σ1= [some (.ref a),some (.ref dd),x2,x3,x4]) ⟨s1,e1,_,_,_,rfl⟩ (λi σ1 H1 _ h=>h.1.seq hS) (λi σ1 H1 H2 h s=>⟨h.1.trans s,s _ _ h.2.1,h.2.2⟩) (λi x σ1 H2 hx h=> ?_) (λσ1 H2 h=> ?_)
 ·refine opq λ_ kq=> ?_;obtain⟨s2,e2,x2,x3,x4,rfl⟩:=h;apply kq;obtain⟨z,hz,rfl⟩: ∃z,zs[i]? =some z/\x=z.1:=by
   rw[Jh] at hx;obtain⟨u,e,rfl⟩:=Jk.mp hx;exact⟨u,e,rfl⟩
  refine opq λ_ kq=> ?_;obtain⟨pe,ee,q1,q2⟩:=(hE.same s2) z (Ji hz);apply kq;have hi:=(Jc.mp hz).1;have li:(zX (chs (zs.take i))).length<100:=by have:=j9 (chs (zs.take i));rw[xT,JB] at this;omega
  have pz:xF zs (i:Int)= .ref z.2.1:=by unfold xF;rw[JF,hz];rfl
  have nx:=zhi hz;have ni:=(wL (chs (zs.take i))).2;rw[xT,JB,Nat.min_eq_left 'o'] at ni;have nd:=(wL (chs (zs.take i))).1;have hui:=hu i z;rw[ee];open_k0;refine ixT q1 (qB _ _ _) ?_;generalize hc:z.2.2.2=c at q2 nx hui;generalize zX (chs (zs.take i))=S at e2 li nx ni nd hui;obtain⟨R,hR⟩: ∃R:St->Hp->Prop,R=λσ' H'=>zj H H'/\H' dd=some (.dK (kvG (xF zs) (if zV c=true then S++ [(i:Int)] else S)))/\σ'= [some (.ref a),some (.ref dd),some (.int i),some (.ref pe),some (.ref z.2.1)]:=⟨_,rfl⟩
  refine⟨R,?_,λσ3 H3 h3=> ?_⟩
  ·open_k0;refine⟨z.2.1,c,rfl,q2,_,rfl,qE (λtm=> ?_) (λtm=> ?_)⟩
   ·refine⟨_,ux.k (k:=Sum.inl (i:Int)) e2 (qC (show (kvG (xF zs) S).length+1<=1000 by unfold kvG;rw[Ja];omega)),?_⟩;rw[hR];refine⟨s2.put hdd _,?_,rfl⟩;rw[yg,Jg tm,<-pz,zlA _ (λy=>by have:=(ni _ y).2;omega)]
   ·rw[hR];exact⟨s2,by rw[Jf tm];exact e2,rfl⟩
  rw[hR] at h3;obtain⟨s3,e3,rfl⟩:=h3;clear hR;open_k0;refine opq λ_ kq=> ?_;obtain⟨_,_,_,q3⟩:=(hE.same s3) z (Ji hz);apply kq;rw[hc] at q3;rw[nx];obtain⟨r,er⟩:=uy c;have q3':=q3;rw[er] at q3';refine ixT q3' (yi _ _) ⟨rfl,?_⟩;cases c with
  |plan=>exact zW (qU (show [112,108,97,110]≠ [117,110,100,111] by decide)) ⟨s3,e3⟩
  |seats=>exact zW (qU (show [115,101,97,116,115]≠ [117,110,100,111] by decide)) ⟨s3,e3⟩
  |word w d=>exact zW (qU (λz=>absurd ((uJ w).1) (by rw[show xS w=_ from z];decide))) ⟨s3,e3⟩
  |grant=>exact zW (qU (show [103,114,97,110,116]≠ [117,110,100,111] by decide)) ⟨s3,e3⟩
  |back=>exact zW (qU (show [98,97,99,107]≠ [117,110,100,111] by decide)) ⟨s3,e3⟩
  |undo k=>
   have q3:SqT K H3 z.2.1 [.str (SL [117,110,100,111]), .int k]:=q3;have hk:=hui k hz rfl;refine qZ rfl ⟨.inl ⟨_,Rd.of e3⟩,ixT q3 (qB _ _ _) ⟨_,e3,Sum.inl k,rfl,_,(by show xu (kvG (xF zs) S) (Sum.inl k)=_;rw[ju,Jg hk]),s3.put hdd _,?_⟩⟩;rw[yg];show some (HO.dK (vf (kvG (xF zs) S) (Sum.inl k)))=_;rw[zh0 _ _ nd];rfl
 ·refine opq λ_ kq=> ?_;obtain⟨s2,e2,x2,x3,x4,rfl⟩:=h;apply kq;rw[Ja,JC] at e2;open_k0;exact q dd H2 hdd s2 e2
def uK(H:Hp)(zs:List En)(Ls:List Int)(as:List Addr):Prop:=as.length=Ls.length/\ ∀(i:Nat) (p:Addr) (k:Int),as[i]? =some p->Ls[i]? =some k-> ∃z,zs[k.toNat]? =some z/\H p=some (.tup [.int k, .ref z.2.1])
theorem uK.same{zs:List En}{Ls:List Int}{as:List Addr}(h:uK H zs Ls as)(s:zj H H'):uK H' zs Ls as:=⟨h.1,λi p k h1 h2=>let ⟨z,h3,h4⟩:=h.2 i p k h1 h2;⟨z,h3,s _ _ h4⟩⟩
def qV(zs:List En)(mo:Int):List Int:=zX (chs (zs.take (mOf zs mo)))
def ziO(K:Fg):Sp:=λvs H Q _=> ∃(a:Addr) (zs:List En) (mo:Int),vs= [.ref a, .int mo]/\SqL K H a (zs.map (·.1))/\yX K H zs/\zs.length<=40/\zs.Pairwise (λa b=>a.2.2.1<=b.2.2.1)/\xD (chs zs)/\ ∀r as H',H r=none->zj H H'->H' r=some (.lst (as.map V.ref))->uK H' zs (qV zs mo) as->Q (.ref r) H'
theorem sc_11:FnScope ["entries","moment","known"] ["entries","moment"] (zJ s_11):=⟨rfl,rfl,rfl,by decide+kernel,rfl,by decide+kernel,by decide+kernel⟩
theorem ok_11(T:Txt w K mg t):FnOk P w K mg base (CXE P w) 3 t.a_11 t.d_11 ["entries","moment"] (ziO K):=by
 refine T.fn_11.okX sc_11 (λvs H Q E h=> ?_) (λcdv A outer s H vs Q E L hr h=> ?_)
 ·refine opq λ_ kq=> ?_;obtain⟨a,zs,mo,rfl,hS,hE,z40,hp,ho,q⟩:=h;apply kq;rfl
 refine opq λ_ kq=> ?_;obtain⟨a,zs,mo,rfl,hS,hE,z40,hp,ho,q⟩:=h;apply kq;have nd:=sc_11.nd;refine⟨_,(zi (vA (i:=2) nd rfl rfl (n:=1) (N:= ["entry","moment"]) (js:= [1]) (by rfl) rfl rfl (qO (pv 0)) (λa=>(zD (i:=0) (show List.Nodup (["entry","moment"]:List Str) from by decide+kernel) rfl (Or.inl rfl))) (λa=>(jb (zC uU (zq zU (pv 0) zd (λ_ _=>rfl)) (pv 1) (zx _)))) (λa=>(pv 0))) (zp (zy (zgl (by rfl) (by rfl) T.no_list (zr L.toLv (ok_0z T) (hr.mono 'd') (by rfl) T.mg_0z T.fn_0z.kp T.b_0z .nil (zc (pv 2) ze)) (by rfl) (by rfl))))),?_⟩;open_k0;obtain⟨kt,kb⟩:=zfo mo hp;have ml:mOf zs mo<=zs.length:=List.length_filter_le _ _;refine⟨_,rfl,a,rfl,⟨_,hS⟩,λl2 hl2 aa=> ?_⟩;refine xl (λj xs _=>xs=((zs.take j).filter (enL mo)).map (·.1)) (xr hS) hl2 (by rw[Ja];exact yQ 'o') (λ_ _=>rfl) (λj x xs H8 K1 K0 hx sm pv hl k1 k0=> ?_) (λxs H2 s2 pv _ w2=> ?_)
 ·obtain⟨z,hz,rfl⟩: ∃z,zs[j]? =some z/\x=z.1:=by
   rw[Jh] at hx;obtain⟨u,e,rfl⟩:=Jk.mp hx;exact⟨u,e,rfl⟩
  refine opq λ_ kq=> ?_;obtain⟨pe,ee,q1,q2⟩:=(hE.same sm) z (Ji hz);apply kq;have ez:(zs.take (j+1)).filter (enL mo)=(zs.take j).filter (enL mo)++ [z].filter (enL mo):=by rw[JH,hz,Option.toList_some,JS]
  rw[ee];lge_open0
  refine ixT q1 (yi _ _) ⟨_,rfl,qE (λh=>k1 _ _ (zj.refl _) λH' _=> ?_) (λh=>k0 _ (zj.refl _) ?_)⟩
  ·rw[ez,List.filter_cons_of_pos (show enL mo z=true from JN h),Jd,pv,<-ee];rfl
  ·rw[ez,List.filter_cons_of_neg (show¬enL mo z=true from by unfold enL;simpa using h),Jd,pv];exact(Jt _).symm
 rw[Ja,JC,kt] at pv;subst pv;have uo:xD (chs (zs.take (mOf zs mo))):=by rw[vW];exact ho.take _
 refine⟨l2,zs.take (mOf zs mo),rfl,SqL.of w2,(hE.same s2).take _,by rw[JB];omega,λi z k hz hk=> ?_,λr H3 _ s3 e3=>⟨r,rfl,_,e3,λl H4 as nl s4 al ak e4=>q l as H4 (by
  rcases hh:H l with _|o
  ·rfl
  ·rw[(s2.trans s3) _ _ hh] at nl;cases nl) ((s2.trans s3).trans s4) e4 ⟨?_,λi p k hp' hk'=> ?_⟩⟩⟩
 ·rw[vW];refine uo i k ?_;unfold chs;rw[Jh,hz];exact congrArg some hk
 ·rw[al];exact Ja ..
 ·have kin:=(wL (chs (zs.take (mOf zs mo)))).2 k (Ji hk');rw[xT,JB] at kin;have kl:k.toNat<zs.length:=by omega
  refine⟨zs[k.toNat],Jb kl,?_⟩
  have:=ak i (Sum.inl k,xF (zs.take (mOf zs mo)) k) p (by
   unfold kvG;rw[Jh];show Option.map _ (qV zs mo)[i]? =_;rw[hk'];rfl) hp'
  rw[this];show some (HO.tup [V.int k,xF (zs.take (mOf zs mo)) k])=_;unfold xF;rw[List.getElem?_take,Jg 'o',Jb kl];rfl
theorem zjW(f0:0<=f)(e1:e<4000000)(h3: ∀t∈ts,uI K H f e t)(hn:ts.Pairwise (λx y=>x.2.2.1≠y.2.2.1)): ∀t∈ts.map (rtT f dy c),∀u∈ts.map (rtT f dy c),t.2.2.1=u.2.2.1->t=u:=λt ht u hu e=>by
 obtain⟨x,hx,rfl⟩:=Jw.mp ht;obtain⟨y,hy,rfl⟩:=Jw.mp hu;obtain⟨_,nx,_,x1,x2,_⟩:=h3 x hx;obtain⟨_,ny,_,y1,y2,_⟩:=h3 y hy;have e':(cntF f dy c x.2.2.2*4000000+zE x.2.2.2)*64+x.2.2.1=(cntF f dy c y.2.2.2*4000000+zE y.2.2.2)*64+y.2.2.1:=e;have nn:x.2.2.1=y.2.2.1:=by omega
 obtain⟨i,hi,ei⟩:=List.mem_iff_getElem.mp hx;obtain⟨j,hj,ej⟩:=List.mem_iff_getElem.mp hy;have ij:i=j:=by
  rcases Nat.lt_trichotomy i j with z|z|z
  ·exact absurd (by rw[ei,ej];exact nn) (List.pairwise_iff_getElem.mp hn i j hi hj z)
  ·exact z
  ·exact absurd (by rw[ei,ej];exact nn.symm) (List.pairwise_iff_getElem.mp hn j i hj hi z)
 subst ij;rw[<-ei,<-ej]
theorem zlT(inj: ∀t∈ts.map (rtT f dy c),∀u∈ts.map (rtT f dy c),t.2.2.1=u.2.2.1->t=u): ∃G,∀ts',(∀t,t∈ts'↔t∈ts)->IsG f dy c ts' G:=by
 have mm: ∀{ts':List Tm},(∀t,t∈ts'↔t∈ts)-> ∀t,t∈ts'.map (rtT f dy c)↔t∈ts.map (rtT f dy c):=λm t=>by
  constructor
  ·intro h;obtain⟨x,hx,rfl⟩:=Jw.mp h;exact Jw.mpr ⟨x,(m x).mp hx,rfl⟩
  ·intro h;obtain⟨x,hx,rfl⟩:=Jw.mp h;exact Jw.mpr ⟨x,(m x).mpr hx,rfl⟩
 have h: ∀d,∃x:List D,∀ts',(∀t,t∈ts'↔t∈ts)-> ∀o0 o1 o2,xU f dy c ts' d o0 o1 o2->stT o0 o1 o2=x:=λd=>by
  by_cases z: ∃o0 o1 o2,xU f dy c ts d o0 o1 o2
  ·obtain⟨p0,p1,p2,hp⟩:=z;refine⟨stT p0 p1 p2,λts' m o0 o1 o2 h=> ?_⟩;obtain rfl:=Bst.one inj (mm m) hp.1 h.1;obtain rfl:=Bst.one inj (mm m) hp.2.1 h.2.1;obtain rfl:=Bst.one inj (mm m) hp.2.2 h.2.2;rfl
  ·exact⟨[],λts' m o0 o1 o2 h=>absurd ⟨o0,o1,o2,h.1.mem λt=>(mm m t).symm,h.2.1.mem λt=>(mm m t).symm,h.2.2.mem λt=>(mm m t).symm⟩ z⟩
 exact⟨λd=>(h d).choose,λts' m d o0 o1 o2 hs=>(h d).choose_spec ts' m o0 o1 o2 hs⟩
theorem zjX{zs:List En}(hp:zs.Pairwise (λa b=>a.2.2.1<=b.2.2.1))(ho:xD (chs zs)):(qV zs mo).Nodup/\ ∀k∈qV zs mo,∃z,0<=k/\zs[k.toNat]? =some z/\zV z.2.2.2=true:=by
 have ml:mOf zs mo<=zs.length:=List.length_filter_le _ _;obtain⟨cs,hcs⟩: ∃cs,cs=chs (zs.take (mOf zs mo)):=⟨_,rfl⟩
 have csl:cs.length=mOf zs mo:=by rw[hcs,xT,JB];omega
 have uo:xD cs:=by rw[hcs,vW];exact ho.take _
 have sd:=(kg cs uo cs.length (Je _)).1;rw[JC] at sd;refine⟨(wL (chs (zs.take (mOf zs mo)))).1,λk hk=> ?_⟩;unfold qV at hk;rw[<-hcs,sd] at hk;unfold wX at hk;obtain⟨j,hj,rfl⟩:=Jw.mp hk;obtain⟨h1,h2⟩:=List.mem_filter.mp hj;have hj:=List.mem_range.mp h1;have tm:wj cs[j]? =true:=by
  rw[Bool.and_eq_true] at h2;exact h2.1
 have jl:j<zs.length:=by omega
 refine⟨zs[j],'o',by rw[JF];exact Jb jl,?_⟩;have e:cs[j]? =some (zs[j]).2.2.2:=by
  rw[hcs,vW,List.getElem?_take,Jg 'o'];unfold chs;rw[Jh,Jb jl];rfl
 rw[e] at tm;exact tm
theorem zg5{zs:List En}{as:List Addr}(hp:zs.Pairwise (λa b=>a.2.2.1<=b.2.2.1))(ho:xD (chs zs))(z40:zs.length<=40)(hE:yX K H zs)(hB:EnB f e zs)(er:H r=some (.lst (as.map V.ref)))(ht:uK H zs (qV zs mo) as): ∃ts:List Tm,xc K H r f e ts/\ts.map (λt=>(t.2.2.1,t.2.2.2))=(qV zs mo).map (λk=>(k,(zs.getD k.toNat (.non,0,0, .back)).2.2.2))/\ ∀t∈ts,∃z∈zs,t.2.2.2=z.2.2.2:=by
 obtain⟨kn,ki⟩:=zjX (mo:=mo) hp ho;obtain⟨al,av⟩:=ht;have kl:(qV zs mo).length<=40:=by
  have:=j9 (chs (zs.take (mOf zs mo)));rw[xT,JB] at this;unfold qV;omega
 obtain⟨g,hg⟩: ∃g:Addr×Int->Tm,g=λx=>(x.1,(zs.getD x.2.toNat (.non,0,0, .back)).2.1,x.2,(zs.getD x.2.toNat (.non,0,0, .back)).2.2.2):=⟨_,rfl⟩
 have gd: ∀k z,zs[Int.toNat k]? =some z->zs.getD k.toNat (.non,0,0, .back)=z:=λk z h=>by rw[Jo,h];rfl
 have zm: ∀x∈as.zip (qV zs mo),∃z,0<=x.2/\zs[x.2.toNat]? =some z/\zV z.2.2.2=true/\H x.1=some (.tup [.int x.2, .ref z.2.1]):=λx hx=>by
  obtain⟨i,hi,ei⟩:=List.mem_iff_getElem.mp hx;rw[List.length_zip] at hi;rw[List.getElem_zip] at ei;have h1:as[i]? =some x.1:=by rw[Jb 'o',<-ei]
  have h2:(qV zs mo)[i]? =some x.2:=by rw[Jb 'o',<-ei]
  obtain⟨z,e1,e2⟩:=av i x.1 x.2 h1 h2;obtain⟨z',k0,e3,tm⟩:=ki x.2 (Ji h2);rw[e1] at e3;cases e3;exact⟨z,k0,e1,tm,e2⟩
 have zl:(as.zip (qV zs mo)).length<=40:=by rw[List.length_zip];omega
 refine⟨(as.zip (qV zs mo)).map g,⟨?_,by rw[Ja];omega,λt h=> ?_,?_⟩,?_,λt h=> ?_⟩
 ·rw[er,List.map_map]
  have:(as.zip (qV zs mo)).map ((λt:Tm=>V.ref t.1) ∘ g)=((as.zip (qV zs mo)).map (·.1)).map V.ref:=by rw[List.map_map,hg];rfl
  rw[this,List.map_fst_zip 'o']
 ·obtain⟨x,hx,rfl⟩:=Jw.mp h;obtain⟨z,k0,e1,tm,e2⟩:=zm x hx;have hz:=Ji e1;have kl2:=(Jc.mp e1).1;obtain⟨pe,_,_,q2⟩:=hE z hz;rw[hg];dsimp only;rw[gd _ _ e1];exact⟨⟨e2,q2⟩,⟨k0,by show x.2<64;omega⟩,hB z hz tm⟩
 ·rw[List.pairwise_map,hg]
  have:((as.zip (qV zs mo)).map (·.2)).Pairwise (· ≠ ·):=by rw[List.map_snd_zip 'o'];exact kn
  rw[List.pairwise_map] at this;exact this
 ·have:(as.zip (qV zs mo)).map ((λt:Tm=>(t.2.2.1,t.2.2.2)) ∘ g)=((as.zip (qV zs mo)).map (·.2)).map (λk=>(k,(zs.getD k.toNat (.non,0,0, .back)).2.2.2)):=by rw[List.map_map,hg];rfl
  rw[List.map_map,this,List.map_snd_zip 'o']
 ·obtain⟨x,hx,rfl⟩:=Jw.mp h;obtain⟨z,k0,e1,tm,e2⟩:=zm x hx;exact⟨z,Ji e1,by rw[hg];dsimp only;rw[gd _ _ e1]⟩
def EnX(zs:List (V×Pl))(f e:Int)(K:Fg)(H:Hp)(ys:List En):Prop:=yX K H ys/\ys.length<=40/\ys.Pairwise (λa b=>a.2.2.1<=b.2.2.1)/\xD (chs ys)/\EnB f e ys/\ ∀z∈ys,zV z.2.2.2=true->TmX zs z.2.2.2
theorem EnX.tmx{ys:List En}(h:EnX zs f e K H ys)(h3: ∀t∈ts,zV t.2.2.2=true)(hz: ∀t∈ts,∃z∈ys,t.2.2.2=z.2.2.2): ∀t∈ts,TmX zs t.2.2.2:=λt ht=>by
 obtain⟨z,h1,h2⟩:=hz t ht
 have:=h3 t ht;rw[h2] at this ⊢;exact h.2.2.2.2.2 z h1 this
def Acc(K:Fg)(H:Hp)(p:Addr)(f:Int)(dy:Bool)(cc:Int)(zs:List (V×Pl)):Prop:= ∃l,xv K H p l f dy cc/\SqL K H l (zs.map (·.1))/\wc K H zs/\1<=zs.length/\zs.length<=8
theorem Acc.same{K:Fg}{H H':Hp}{p:Addr}{f:Int}{dy:Bool}{cc:Int}{zs:List (V×Pl)}(h:Acc K H p f dy cc zs)(s:zj H H'):Acc K H' p f dy cc zs:=
 let ⟨l,h1,h2,h3,h4⟩:=h;⟨l,h1.same s,s.seq h2,h3.same s,h4⟩
def xa(zs:List (V×Pl)):List (List Nat):=zs.map λz=>z.2.1
def ziP(K:Fg):Sp:=λvs H Q _=> ∃(pa:Addr) (f:Int) (dy:Bool) (c:Int) (zs:List (V×Pl)),vs= [.ref pa]/\Acc K H pa f dy c zs/\ ∀r H',zj H H'->H' r=some (.lst ((xa zs).map λn=>V.str (SL n)))->Q (.ref r) H'
theorem sc_0u:FnScope ["account"] ["account"] (zJ s_0u):=⟨rfl,rfl,rfl,by decide+kernel,rfl,by decide+kernel,by decide+kernel⟩
theorem ok_0u(T:Txt w K mg t):FnOk P w K mg base (CXE P w) 1 t.a_0u t.d_0u ["account"] (ziP K):=by
 refine T.fn_0u.okX sc_0u (λvs H Q E h=> ?_) (λcdv A outer s H vs Q E L hr h=> ?_)
 ·refine opq λ_ kq=> ?_;obtain⟨pa,f,dy,c,zs,rfl,⟨l,⟨pc,f0,f1,hc,ep⟩,el,za,zo⟩,q⟩:=h;apply kq;rfl
 refine opq λ_ kq=> ?_;obtain⟨pa,f,dy,c,zs,rfl,⟨l,⟨pc,f0,f1,hc,ep⟩,el,za,zo⟩,q⟩:=h;apply kq;have nd:=sc_0u.nd;refine⟨_,(zp (zy (xA (n:=1) (N:= ["plan"]) (js:= []) (by rfl) rfl rfl (qO (zq zU (pv 0) zd (λ_ _=>rfl))) (λa=>(zD (i:=0) (show List.Nodup (["plan"]:List Str) from by decide+kernel) rfl (Or.inl rfl))) (λa=>xh) (λa=>(zq zU (pv 0) zd (λ_ _=>rfl)))))),?_⟩;open_k0;obtain⟨o1,o2⟩:=zo;refine⟨_,rfl,?_⟩;simp only[tC];refine ixT (SqT.of ep) (yi _ _) ?_;refine⟨l,rfl,⟨_,el⟩,λln hln an=> ?_⟩;refine xl (λj xs _=>xs=(zs.take j).map λz=>V.str (SL z.2.1)) (xr el) hln (by rw[Ja];exact yQ 'o') (λ_ _=>rfl) (λj x xs H8 K1 K0 hx sm pv hl k1 k0=> ?_) (λxs H8 s8 pv _ w8=> ?_)
 ·obtain⟨u,hu,rfl⟩: ∃u,zs[j]? =some u/\x=u.1:=by
   rw[Jh] at hx;obtain⟨u,e,rfl⟩:=Jk.mp hx;exact⟨u,e,rfl⟩
  obtain⟨p,eu,hq⟩:=za u (Ji hu);rw[eu];lge_open0
  refine ixT (sm.sqT hq) (v:= .str (SL u.2.1)) rfl (k1 _ _ (zj.refl _) λH5 _=> ?_);rw[pv,JH,hu,Jd];rfl
 rw[Ja,JC] at pv;subst pv;exact q ln H8 s8 (by rw[w8,xa,List.map_map];rfl)
def zhB(K:Fg):Sp:=λvs H Q _=> ∃(pa p:Addr) (f:Int) (dy:Bool) (cc:Int) (zs:List (V×Pl)) (c:Ch) (L:List Int),vs= [.ref pa, .ref p]/\Acc K H pa f dy cc zs/\SqT K H p ((chD c).map sv)/\zV c=true/\wg (xa zs) f (Cal.beg f dy cc 60) L c/\ ∀H',zj H H'->Q (.bl true) H'
theorem sc_0v:FnScope ["account","change","word"] ["account","change"] (zJ s_0v):=⟨rfl,rfl,rfl,by decide+kernel,rfl,by decide+kernel,by decide+kernel⟩
theorem ok_0v(T:Txt w K mg t):FnOk P w K mg base (CXE P w) 8 t.a_0v t.d_0v ["account","change"] (zhB K):=by
 refine T.fn_0v.okX sc_0v (λvs H Q E h=> ?_) (λcdv A outer s H vs Q E L hr h=> ?_)
 ·refine opq λ_ kq=> ?_;obtain⟨pa,p,f,dy,cc,zs,c,Ls,rfl,ha,hp,tm,ci,q⟩:=h;apply kq;rfl
 refine opq λ_ kq=> ?_;obtain⟨pa,p,f,dy,cc,zs,c,Ls,rfl,ha,hp,tm,ci,q⟩:=h;have nd:=sc_0v.nd;obtain⟨u_Z06,h_Z06,r_Z06⟩:=T.k_Z06;apply kq;refine⟨_,(zi (zL (xX (zC qP (zZ qI (by rfl) T.no_len qJ (zc (pv 1) ze)) zd (zx _)) (wk (uQ (vp (zr L.toLv (ok_0c T) (hr.mono 'd') (by rfl) T.mg_0c T.fn_0c.kp T.b_0c .nil (zc (pv 0) (zc (zq zU (pv 1) zd (λ_ _=>rfl)) ze z6) zh)))))).pt (zp (zy xQ)) zN) (zi (zu (i:=2) nd rfl (Or.inl rfl) (zq zU (pv 1) zd (λ_ _=>rfl))) (zi (zL (zC yf (pv 2) (zQ st_11) (zx _)) (zp (zy (wy (qT yf (zZ qI (by rfl) T.no_len qJ (zc (pv 1) ze)) zd (zx _)) (wP (qT u8 (zq zU (pv 1) zd (λ_ _=>rfl)) (zr L.toLv (ok_0u T) (hr.mono 'd') (by rfl) T.mg_0u T.fn_0u.kp T.b_0u .nil (zc (pv 0) ze)) rfl))))) zN) (zi (zL (zC yf (pv 2) (zQ st_12) (zx _)) (zp (zy (wy (qT yf (zZ qI (by rfl) T.no_len qJ (zc (pv 1) ze)) zd (zx _)) (wP (zr L.toLv (ok_0a T) (hr.mono 'd') (by rfl) T.mg_0a T.fn_0a.kp T.b_0a .nil (zc (zq zU (pv 1) zd (λ_ _=>rfl)) (zc zd (zc (xj (by rfl) h_Z06 r_Z06) ze zh) zw) z6)))))) zN) (zp (zy (qT yf (zZ qI (by rfl) T.no_len qJ (zc (pv 1) ze)) zd (zx _)))))))),?_⟩;have ha':=ha;refine opq λ_ kq=> ?_;obtain⟨l,hi,_,_,_⟩:=ha';apply kq;have day: ∀{d:Int},f<=d->d<Cal.beg f dy cc 60->btw f (Cal.beg f dy cc 60 - 1) (.int d)=true:=λh1 h2=>by
  show (decide (f<=_) && decide (_<=Cal.beg f dy cc 60 - 1))=true;rw[JN h1,JN 'o'];rfl
 cases c with
 |plan d nm=>
  obtain⟨d0,d1,hn⟩:=ci;have hp:SqT K H p [.str (SL [112,108,97,110]), .int d, .str (SL nm)]:=hp;open_k0;refine⟨_, .inr hp,zW (by show¬((3:Nat):Int)<2;decide) (ixT hp (qB _ _ _) ⟨pa,l,f,dy,cc, .int d,rfl, .inl ⟨_,rfl⟩,hi,λH1 s1=>⟨_,rfl,zW (by rw[day d0 d1];decide) (ixT (s1.sqT hp) (yi _ _) ⟨rfl,qZ rfl ⟨_, .inr (s1.sqT hp),qZ rfl (ixT (s1.sqT hp) (wZ _ _ _ _) ?_)⟩⟩)⟩⟩)⟩;refine⟨pa,f,dy,cc,zs,rfl,ha.same s1,λr H2 s2 e2=>⟨r,_,rfl, .inl (SqL.of e2),rfl,?_,?_⟩⟩
  ·rw[List.all_map,List.all_eq_true];intro z _;rfl
  ·rw[vC,JN hn];exact q H2 (s1.trans s2)
 |seats d n=>
  refine opq λ_ kq=> ?_;obtain⟨d0,d1,n0,n1⟩:=ci;apply kq;have hp:SqT K H p [.str (SL [115,101,97,116,115]), .int d, .int n]:=hp;open_k0;refine⟨_, .inr hp,zW (by show¬((3:Nat):Int)<2;decide) (ixT hp (qB _ _ _) ⟨pa,l,f,dy,cc, .int d,rfl, .inl ⟨_,rfl⟩,hi,λH1 s1=>⟨_,rfl,zW (by rw[day d0 d1];decide) (ixT (s1.sqT hp) (yi _ _) ⟨rfl,zW (qU 'd') ⟨rfl,qZ rfl ⟨_, .inr (s1.sqT hp),qZ rfl (ixT (s1.sqT hp) (wZ _ _ _ _) ?_)⟩⟩⟩)⟩⟩)⟩;refine⟨.int n,_,_,rfl, .inl ⟨_,rfl⟩,?_⟩;have e:btw 0 1000000 (.int n)=true:=by
   show (decide (0<=n) && decide (n<=1000000))=true;rw[JN n0,JN n1];rfl
  rw[e];exact q H1 s1
 |word w d=>
  obtain⟨_,d0,d1⟩:=ci;have hp:SqT K H p [.str (SL (xS w)), .int d]:=hp;open_k0;obtain⟨_,w1,w2⟩:=uJ w;refine⟨_, .inr hp,zW (by show¬((2:Nat):Int)<2;decide) (ixT hp (qB _ _ _) ⟨pa,l,f,dy,cc, .int d,rfl, .inl ⟨_,rfl⟩,hi,λH1 s1=>⟨_,rfl,zW (by rw[day d0 d1];decide) (ixT (s1.sqT hp) (yi _ _) ⟨rfl,zW (qU w1) ⟨rfl,zW (qU w2) ⟨_, .inr (s1.sqT hp),q H1 s1⟩⟩⟩)⟩⟩)⟩
 |undo k=>cases tm
 |grant a=>cases tm
 |back=>cases tm
def zg6(K:Fg):Sp:=λvs H Q _=> ∃(p:Addr) (a:Int),vs= [.ref p]/\SqT K H p ((chD (.grant a)).map sv)/\1<=a/\a<10 ^ 30/\Q (.bl true) H
theorem sc_0w:FnScope ["change"] ["change"] (zJ s_0w):=⟨rfl,rfl,rfl,by decide+kernel,rfl,by decide+kernel,by decide+kernel⟩
theorem ok_0w(T:Txt w K mg t):FnOk P w K mg base (CXE P w) 3 t.a_0w t.d_0w ["change"] (zg6 K):=by
 refine T.fn_0w.okX sc_0w (λvs H Q E h=> ?_) (λcdv A outer s H vs Q E L hr h=> ?_)
 ·refine opq λ_ kq=> ?_;obtain⟨p,a,rfl,hp,a0,a1,q⟩:=h;apply kq;rfl
 refine opq λ_ kq=> ?_;obtain⟨p,a,rfl,hp,a0,a1,q⟩:=h;apply kq;have nd:=sc_0w.nd;refine⟨_,(zp (zy (wy (qT yf (zZ qI (by rfl) T.no_len qJ (zc (pv 0) ze)) zd (zx _)) (wP (zr L.toLv (ok_0a T) (hr.mono 'd') (by rfl) T.mg_0a T.fn_0a.kp T.b_0a .nil (zc (zq zU (pv 0) zd (λ_ _=>rfl)) (zc zd (zc (zg yc (zg w9 zd zd) zd) ze zO) zw) z6)))))),?_⟩;open_k0;have hp:SqT K H p [.str (SL [103,114,97,110,116]), .int a]:=hp;refine⟨_, .inr hp,qZ rfl ?_⟩;refine ixT hp (qB _ _ _) ⟨⟨'d','d','d'⟩, .int a,_,_,rfl, .inl ⟨_,rfl⟩,?_⟩;have e:btw 1 (10 ^ 30 - 1) (.int a)=true:=by
  show (decide (1<=a) && decide (a<=10 ^ 30 - 1))=true;rw[JN a0,JN 'o'];rfl
 rw[e];exact q
def zhC(K:Fg):Sp:=λvs H Q _=> ∃(p d:Addr) (k:Int) (g:Int->V) (L:List Int),vs= [.ref p, .ref d]/\SqT K H p ((chD (.undo k)).map sv)/\H d=some (.dK (kvG g L))/\k∈L/\Q (.bl true) H
theorem sc_0x:FnScope ["change","standing"] ["change","standing"] (zJ s_0x):=⟨rfl,rfl,rfl,by decide+kernel,rfl,by decide+kernel,by decide+kernel⟩
theorem ok_0x(T:Txt w K mg t):FnOk P w K mg base (CXE P w) 2 t.a_0x t.d_0x ["change","standing"] (zhC K):=by
 refine T.fn_0x.okX sc_0x (λvs H Q E h=> ?_) (λcdv A outer s H vs Q E L hr h=> ?_)
 ·refine opq λ_ kq=> ?_;obtain⟨p,d,k,g,Ls,rfl,hp,hd,hk,q⟩:=h;apply kq;rfl
 refine opq λ_ kq=> ?_;obtain⟨p,d,k,g,Ls,rfl,hp,hd,hk,q⟩:=h;apply kq;have nd:=sc_0x.nd;refine⟨_,(zp (zy (wy (qT yf (zZ qI (by rfl) T.no_len qJ (zc (pv 0) ze)) zd (zx _)) (wy (zr L.toLv (ok_09 T) (hr.mono 'd') (by rfl) T.mg_09 T.fn_09.kp T.b_09 .nil (zc (zq zU (pv 0) zd (λ_ _=>rfl)) ze)) (wP (zld (zlv (zkX hr) (zq zU (pv 0) zd (λ_ _=>rfl)) (pv 1)))))))),?_⟩;open_k0;have hp:SqT K H p [.str (SL [117,110,100,111]), .int k]:=hp;refine⟨_, .inr hp,qZ rfl ?_⟩;refine ixT hp (qB _ _ _) ⟨.int k,rfl, .inl ⟨_,rfl⟩,_,rfl,qZ rfl (ixT hp (qB _ _ _) ⟨_,vg.k (k:=Sum.inl k) hd,?_⟩)⟩;rw[ju,Jg hk];exact q
def zlU(K:Fg):Sp:=λvs H Q _=> ∃(pa a p:Addr) (f:Int) (dy:Bool) (cc:Int) (ps:List (V×Pl)) (zs:List En) (c:Ch),vs= [.ref pa, .ref a, .ref p]/\Acc K H pa f dy cc ps/\SqL K H a (zs.map (·.1))/\yX K H zs/\zs.length<=63/\qS (xa ps) f (Cal.beg f dy cc 60) zs/\SqT K H p ((chD c).map sv)/\wg (xa ps) f (Cal.beg f dy cc 60) (zX (chs zs)) c/\ ∀H',zj H H'->Q (.bl true) H'
theorem sc_0y:FnScope ["account","ahead","change","word"] ["account","ahead","change"] (zJ s_0y):=⟨rfl,rfl,rfl,by decide+kernel,rfl,by decide+kernel,by decide+kernel⟩
theorem ok_0y(T:Txt w K mg t):FnOk P w K mg base (CXE P w) 9 t.a_0y t.d_0y ["account","ahead","change"] (zlU K):=by
 refine T.fn_0y.okX sc_0y (λvs H Q E h=> ?_) (λcdv A outer s H vs Q E L hr h=> ?_)
 ·refine opq λ_ kq=> ?_;obtain⟨pa,a,p,f,dy,cc,ps,zs,c,rfl,ha,hS,hE,z63,hO,hp,ci,q⟩:=h;apply kq;rfl
 refine opq λ_ kq=> ?_;obtain⟨pa,a,p,f,dy,cc,ps,zs,c,rfl,ha,hS,hE,z63,hO,hp,ci,q⟩:=h;apply kq;have nd:=sc_0y.nd;refine⟨_,(zi (zL (zC yf (zZ qI (by rfl) T.no_len qJ (zc (pv 2) ze)) zd (zx _)) (zp (zy xQ)) zN) (zi (zu (i:=3) nd rfl (Or.inl rfl) (zq zU (pv 2) zd (λ_ _=>rfl))) (zi (zL (vp (zr L.toLv (ok_0t T) (hr.mono 'd') (by rfl) T.mg_0t T.fn_0t.kp T.b_0t .nil (zc (pv 2) ze))) (zp (zy (zr L.toLv (ok_0v T) (hr.mono 'd') (by rfl) T.mg_0v T.fn_0v.kp T.b_0v .nil (zc (pv 0) (zc (pv 2) ze zh) zh)))) zN) (zi (zL (zC yf (pv 3) (zQ st_13) (zx _)) (zp (zy (zr L.toLv (ok_0w T) (hr.mono 'd') (by rfl) T.mg_0w T.fn_0w.kp T.b_0w .nil (zc (pv 2) ze)))) zN) (zi (zL (zC yf (pv 3) (zQ st_14) (zx _)) (zp (zy (zr L.toLv (ok_0x T) (hr.mono 'd') (by rfl) T.mg_0x T.fn_0x.kp T.b_0x .nil (zc (pv 2) (zc (zr L.toLv (ok_0z T) (hr.mono 'd') (by rfl) T.mg_0z T.fn_0z.kp T.b_0z .nil (zc (pv 1) ze)) ze qv) zh)))) zN) (zp (zy (qT (zlt hr) (pv 2) (zR (zc (zQ st_15) ze)) (zx _))))))))),?_⟩;obtain⟨r,er⟩:=uy c;have hp':=hp;rw[er] at hp';open_k0;refine⟨_, .inr hp',?_⟩;rw[Jf (by rw[Jp];omega)];refine ixT hp' (yi _ _) ⟨p,c,rfl,hp,_,rfl,?_⟩;by_cases tm:zV c=true
 ·rw[Jg tm];exact⟨pa,p,f,dy,cc,ps,c,_,rfl,ha,hp,tm,ci,q⟩
 refine zW tm ⟨rfl,?_⟩;cases c with
 |plan=>exact absurd rfl tm
 |seats=>exact absurd rfl tm
 |word=>exact absurd rfl tm
 |grant g=>exact qZ rfl ⟨p,g,rfl,hp,ci.1,ci.2,q _ (zj.refl _)⟩
 |undo k=>
  refine zW (qU (show [117,110,100,111]≠ [103,114,97,110,116] by decide)) ⟨rfl,qZ rfl ?_⟩;refine⟨a,zs,rfl,hS,hE,z63,λi z k' hz hk'=> ?_,λr H1 _ s1 e1=>⟨p,r,k,_,_,rfl,s1.sqT hp,e1,ci,q H1 s1⟩⟩
  have:=(hO i z hz).2.2.2;rw[hk'] at this;exact this
 |back=>
  refine zW (qU (show [98,97,99,107]≠ [103,114,97,110,116] by decide)) ⟨rfl,zW (qU (show [98,97,99,107]≠ [117,110,100,111] by decide)) ?_⟩;intro pb H1 _ s1 e1;have hp:SqT K H p [.str (SL [98,97,99,107])]:=hp;exact eqD (n:=0) (d:= .tup [.str [98,97,99,107]]) (wJ (s1.sqT hp) ⟨xL,trivial⟩) (wJ (SqT.of e1) ⟨xL,trivial⟩) rfl 'd' (q H1 s1)
def ziQ(K:Fg):Sp:=λvs H Q _=> ∃(pa a:Addr) (f:Int) (dy:Bool) (cc:Int) (ps:List (V×Pl)) (zs:List En),vs= [.ref pa, .ref a]/\Acc K H pa f dy cc ps/\SqL K H a (zs.map (·.1))/\yX K H zs/\zs.length<=40/\qS (xa ps) f (Cal.beg f dy cc 60) zs/\ ∀H',zj H H'->Q .non H'
theorem sc_10:FnScope ["account","entries","front","number","entry","entered","change"] ["account","entries"] (zJ s_10):=⟨rfl,rfl,rfl,by decide+kernel,rfl,by decide+kernel,by decide+kernel⟩
theorem ok_10(T:Txt w K mg t):FnOk P w K mg base (CXE P w) 10 t.a_10 t.d_10 ["account","entries"] (ziQ K):=by
 refine T.fn_10.okX sc_10 (λvs H Q E h=> ?_) (λcdv A outer s H vs Q E L hr h=> ?_)
 ·refine opq λ_ kq=> ?_;obtain⟨pa,a,f,dy,cc,ps,zs,rfl,ha,hS,hE,z40,hO,q⟩:=h;apply kq;rfl
 refine opq λ_ kq=> ?_;obtain⟨pa,a,f,dy,cc,ps,zs,rfl,ha,hS,hE,z40,hO,q⟩:=h;have nd:=sc_10.nd;obtain⟨u_Z05,h_Z05,r_Z05⟩:=T.k_Z05;apply kq;refine⟨_,(zi (zL (zC wD (zZ qI (by rfl) T.no_len qJ (zc (pv 1) ze)) (xj (by rfl) h_Z05 r_Z05) (zx _)) (zp (wR L T.ex_Z0e (by rfl) (by rfl) T.mg_Z0e (zc ww ze))) zN) (zi (zu (i:=2) nd rfl (Or.inl rfl) (zq zU (pv 0) zd (λ_ _=>rfl))) (zp (xy (by passes_own) rfl (zhZ (by rfl) T.no_enumerate (zc (pv 1) ze)) (qN (n:=2) rfl (zT (zD (i:=3) nd rfl (Or.inl rfl)) (zT (zD (i:=4) nd rfl (Or.inl rfl)) qM))) (zi (xo (pv 4) (qN (n:=2) rfl (zT (zD (i:=5) nd rfl (Or.inl rfl)) (zT (zD (i:=6) nd rfl (Or.inl rfl)) qM)))) (zi (zL (xX (uQ (vp (zr L.toLv (ok_0c T) (hr.mono 'd') (by rfl) T.mg_0c T.fn_0c.kp T.b_0c .nil (zc (pv 0) (zc (pv 5) ze zh) zh)))) (wk (zC qP (pv 5) (pv 2) (zx _)))).pt (zp kX) zN) (zi (zL (uQ (vp (zr L.toLv (ok_0y T) (hr.mono 'd') (by rfl) T.mg_0y T.fn_0y.kp T.b_0y .nil (zc (pv 0) (zc (wQ wU (pv 1) uY (xI (pv 3))) (zc (pv 6) ze zh) z6) zh)))) (zp kX) zN) (zp (zu (i:=2) nd rfl (Or.inl rfl) (pv 5)))))))))),?_⟩;have ha':=ha;refine opq λ_ kq=> ?_;obtain⟨l,⟨pc,f0,f1,hc,ep⟩,el,za,zo⟩:=ha';apply kq;open_k0;refine⟨_, .inl hS,?_⟩;rw[Jf (by rw[Ja];omega)];refine ixT (SqT.of ep) (qB _ _ _) ?_
 ((try dsimp only);refine xM λR hR=> ?_;w_why)
 refine⟨⟨_,hS⟩,hR _ _ ?_⟩;clear hR;refine zgP (xs:=zs.map (·.1)) (λi σ1 H1=>zj H H1/\ ∃(fr:Int) (x3 x4 x5 x6:Option V),(∀z,zs[i]? =some z->fr<=z.2.2.1)/\σ1= [some (.ref pa),some (.ref a),some (.int fr),x3,x4,x5,x6]) ⟨zj.refl _,f,_,_,_,_,λz hz=>(hO 0 z hz).1,rfl⟩ (λi σ1 H1 _ h=>h.1.seq hS) (λi σ1 H1 H2 h s=>⟨h.1.trans s,h.2⟩) (λi x σ1 H1 hx h=> ?_) (λσ1 H1 h=> ?_)
 ·refine opq λ_ kq=> ?_;obtain⟨s1,fr,x3,x4,x5,x6,hf,rfl⟩:=h;apply kq;obtain⟨z,hz,rfl⟩: ∃z,zs[i]? =some z/\x=z.1:=by
   rw[Jh] at hx;obtain⟨u,e,rfl⟩:=Jk.mp hx;exact⟨u,e,rfl⟩
  refine opq λ_ kq=> ?_;obtain⟨pe,ee,q1,q2⟩:=(hE.same s1) z (Ji hz);obtain⟨b1,b2,b3,b4⟩:=hO i z hz;apply kq;rw[ee];open_k0;refine⟨pe,_,rfl,q1,rfl,?_⟩;open_k0;have e:btw f (Cal.beg f dy cc 60 - 1) (.int z.2.2.1)=true:=by
   show (decide (f<=_) && decide (_<=Cal.beg f dy cc 60 - 1))=true;rw[JN b1,JN 'o'];rfl
  refine⟨pa,l,f,dy,cc, .int z.2.2.1,rfl, .inl ⟨_,rfl⟩,⟨pc,f0,f1,hc.same s1,s1 _ _ ep⟩,λH2 s2=>⟨_,rfl,zW (by rw[e];decide) (zW (by have:=hf z hz;omega) ?_)⟩⟩;have s12:=s1.trans s2;refine⟨a,_,rfl,s12.seq hS,λr H3 _ s3 e3=> ?_⟩;rw[zhY,<-List.map_take] at e3;have s13:=s12.trans s3;refine⟨pa,r,z.2.1,f,dy,cc,ps,zs.take i,z.2.2.2,rfl,ha.same s13,SqL.of e3,(hE.same s13).take i,by rw[JB];omega,hO.take i,(s2.trans s3).sqT q2,b4,λH4 s4=>⟨_,rfl,zW 'd' ⟨s13.trans s4,_,λy hy=> ?_,rfl⟩⟩⟩;exact(hO (i+1) y hy).2.2.1 z (by rw[JH,hz];exact List.mem_append_right _ (Jm.mpr rfl))
 ·exact q _ h.1
abbrev zmQ:Pos:=⟨253,38,253,60⟩
abbrev zmR:Str:=(("in_time":Str)++".<locals>.")++"<lambda>"
def Tab(H:Hp)(T:Addr):Prop:=vj H T zmQ zmR
def qF(H H':Hp):Prop:= ∀b o,H b=some o->(∀ps,o≠ .tbl ps)->H' b=some o
theorem qF.trans{H1 H2:Hp}(a:qF H H1)(b:qF H1 H2):qF H H2:=λc o h n=>b c o (a c o h n) n
theorem wN(s:zj H H'):qF H H':=λb o h _=>s b o h
theorem zie{T:Addr}{ps:Array Value}(g:vX T H H')(e:H T=some (.tbl ps)):qF H H':=λb o h n=>g b o (λz=>by rw[z,e] at h;exact n ps (JU h).symm) h
theorem qF.lst{H H':Hp}(s:qF H H'){a:Addr}{xs:List V}(h:H a=some (.lst xs)):H' a=some (.lst xs):=s _ _ h λ_ z=>by cases z
theorem qF.tup{H H':Hp}(s:qF H H'){a:Addr}{xs:List V}(h:H a=some (.tup xs)):H' a=some (.tup xs):=s _ _ h λ_ z=>by cases z
theorem qF.sqT(s:qF H H')(h:SqT K H a xs):SqT K H' a xs:=by
 rcases h with(h|⟨o,h⟩)|h
 ·exact .inl (.inl (s.tup h))
 ·exact .inl (.inr ⟨o,s _ _ h λ_ z=>by cases z⟩)
 ·exact .inr h
theorem qF.seq(s:qF H H')(h:SqL K H a xs):SqL K H' a xs:=by
 rcases h with(h|⟨o,h⟩)|h
 ·exact .inl (.inl (s.lst h))
 ·exact .inl (.inr ⟨o,s _ _ h λ_ z=>by cases z⟩)
 ·exact .inr h
theorem jD{zs:List En}(h:yX K H zs)(s:qF H H'):yX K H' zs:=λz hz=>
 let ⟨p,e,q1,q2⟩:=h z hz;⟨p,e,s.sqT q1,s.sqT q2⟩
theorem Tab.same{T:Addr}(h:Tab H T)(s:zj H H'):Tab H' T:=by
 obtain⟨ps,e,tr,c⟩:=h;refine⟨ps,s _ _ e,tr,?_⟩;rcases c with c|⟨c',c1,c2⟩
 ·exact .inl c
 ·exact .inr ⟨c',c1,s _ _ c2⟩
theorem kK(zs:List En):(zs.map ce).map (·.2)=chs zs:=by rw[List.map_map];rfl
def zjY(K:Fg)(T:Addr):Sp:=λvs H Q _=> ∃(a:Addr) (zs:List En),vs= [.ref a]/\SqL K H a (zs.map (·.1))/\yX K H zs/\zs.length<=40/\xD (chs zs)/\Tab H T/\ ∀r rs so H',H r=none->qF H H'->Tab H' T->(∀b ps,b≠T->H b=some (.tbl ps)->H' b=some (.tbl ps))->H' r=some (.lst (rs.map (·.1)))->yX K H' rs->uH (zs.map ce) so->rs.map ce=so.map rc->Q (.ref r) H'
theorem sc_12:FnScope ["entries","terms","others"] ["entries"] (zJ s_12):=⟨rfl,rfl,rfl,by decide+kernel,rfl,by decide+kernel,by decide+kernel⟩
theorem ok_12(T:Txt w K mg t)(B:BM mg base):FnOk P w K mg base (CXE P w) 4 t.a_12 t.d_12 ["entries"] (zjY K t.p_12):=by
 refine T.fn_12.okXC T.cc_12 sc_12 (λvs H Q E h=> ?_) (λA outer s H vs Q E L hr h=> ?_)
 ·refine opq λ_ kq=> ?_;obtain⟨a,zs,rfl,hS,hE,z40,hU,hT,q⟩:=h;apply kq;rfl
 refine opq λ_ kq=> ?_;obtain⟨a,zs,rfl,hS,hE,z40,hU,hT,q⟩:=h;apply kq;have nd:=sc_12.nd;refine⟨_,(zi (vA (i:=1) nd rfl rfl (n:=1) (N:= ["change"]) (js:= []) (by rfl) rfl rfl (zkB (zr L.toLv (ok_0z T) (hr.mono 'd') (by rfl) T.mg_0z T.fn_0z.kp T.b_0z .nil (zc (pv 0) ze)) (by rfl) (by rfl)) (λa=>(zD (i:=0) (show List.Nodup (["change"]:List Str) from by decide+kernel) rfl (Or.inl rfl))) (λa=>xh) (λa=>(zR (zc (zq zU (pv 0) zd (λ_ _=>rfl)) (zc (pv 0) ze zh) z6)))) (zi (vA (i:=2) nd rfl rfl (n:=1) (N:= ["entry"]) (js:= []) (by rfl) rfl rfl (qO (pv 0)) (λa=>(zD (i:=0) (show List.Nodup (["entry"]:List Str) from by decide+kernel) rfl (Or.inl rfl))) (λa=>(jb (zC u8 (zq zU (zq zU (pv 0) zd (λ_ _=>rfl)) zd (λ_ _=>rfl)) (zR (zc (zQ st_13) (zc (zQ st_15) ze zw) zw)) rfl))) (λa=>(pv 0))) (zp (zy (zgW (k:=0) (x:="entry") (N:= ["entry"]) (hr.mono 'd') (by rfl) T.no_sorted (zc (zg wb (pv 1) (pv 2)) ze) rfl B (λ_ X=>T.tb_12.hd X) ⟨rfl,rfl,rfl,by decide+kernel,rfl,by decide+kernel,by decide+kernel⟩ (λ_ _ _ _=>rfl) (λ_ _ _ _ _ _=>(zq (zhS (K:=K) rfl) (pv 0) zd (λ_ _=>rfl)))))))),?_⟩;open_k0;refine⟨_,rfl,?_⟩;try open_k0
 refine⟨a,zs,rfl,hS,hE,'o',λi z k hz hk=> ?_,λd H1 nd s1 e1=>⟨d,rfl,_,e1,λo H2 k2 k2' e2 l1 hl1 an=> ?_⟩⟩
 ·have:=hU i k (by unfold chs;rw[Jh,hz,<-hk];rfl);rw[vW];exact this
 have s2:zj H H2:=λb u h=>k2 b u (λz=>by rw[z,nd] at h;cases h) (s1 b u h);obtain⟨es,hes⟩: ∃es,es=zs.map ce:=⟨_,rfl⟩
 have esl:es.length=zs.length:=by rw[hes,Ja]
 have ecs:es.map (·.2)=chs zs:=by rw[hes,kK]
 obtain⟨RT,hRT⟩: ∃RT,RT=(List.range es.length).filterMap (xO (es.map (·.2)) (z7 (es.map (·.2)))):=⟨_,rfl⟩
 have hst:zX (chs zs)=RT.map λr=>r.2.2.1:=by rw[hRT,ecs,esl,<-xT];exact zfw hU
 have rl:RT.length<=40:=by
  have:=j9 (chs zs);rw[hst,Ja,xT] at this;omega
 have kvm:(kvG (xF zs) (zX (chs zs))).map (·.2)=RT.map λr=>xF zs r.2.2.1:=by
  unfold kvG;rw[List.map_map,hst,List.map_map];rfl
 have rt: ∀r∈RT,∃z,z∈zs/\xF zs r.2.2.1= .ref z.2.1/\z.2.2.2=r.2.2.2/\zV r.2.2.2=true/\r.1=zE r.2.2.2:=λr hr=>by
  rw[hRT] at hr;obtain⟨i,_,hi⟩:=List.mem_filterMap.mp hr;have b:=ua hi;have b4:=b.2.2.2.1;rw[ecs] at b4;unfold chs at b4;rw[Jh] at b4;obtain⟨z,hz,ez⟩:=Jk.mp b4;refine⟨z,Ji hz,?_,ez,b.2.2.2.2.1,b.2.2.1⟩;unfold xF;rw[b.2.1,JF,hz];rfl
 refine xl (λj xs H'=> ∃ts:List En,xs=ts.map (·.1)/\yX K H' ts/\ts.map ce=(RT.take j).map rc) (zhl e2) hl1 (by rw[kvm,Ja];exact yQ 'o') (λ_ _=>⟨[],rfl,(λz h=>nomatch h),rfl⟩) (λj x xs H8 K1 K0 hx sm pv hl k1 k0=> ?_) (λxs H3 s3 pv _ w3=> ?_)
 ·refine opq λ_ kq=> ?_;obtain⟨ts,rfl,tE,tc⟩:=pv;rw[kvm,Jh] at hx;obtain⟨r,hr,rfl⟩:=Jk.mp hx;obtain⟨z,hz,ez,ec,tm,ed⟩:=rt r (Ji hr);obtain⟨pe,ee,q1,q2⟩:=(hE.same (s2.trans sm)) z hz;obtain⟨rr,er⟩:=jz r.2.2.2 tm;apply kq;have q2':=q2;rw[ec,er] at q2';rw[ez];lge_open0
  refine ixT q2' (qB _ _ _) ⟨qC (by simp),λp H5 _ s5 e5=>k1 _ _ s5 λH6 kp=> ?_⟩;have hl5:=s5 _ _ hl;have np:p≠l1:=λy=>by rw[y,hl5] at e5;cases e5
  refine⟨ts++ [(.ref p,z.2.1,zE r.2.2.2,r.2.2.2)],by rw[Jd];rfl,λy hy=> ?_,?_⟩
  ·rcases Jr.mp hy with h|h
   ·exact((tE.same s5).off hl5 kp) y h
   ·rw[Jm.mp h];refine⟨p,rfl,SqT.of (kp _ _ np e5),?_⟩;have q3:=s5.sqT q2;rw[ec] at q3;exact zju q3 hl5 hl5 λb o h1 _ h2=>kp b o h1 h2
  ·rw[Jd,tc,JH,hr,Jd];show _++ [(zE r.2.2.2,r.2.2.2)]=_++ [(r.1,r.2.2.2)];rw[ed]
 refine opq λ_ kq=> ?_;obtain⟨ts,rfl,tE,tc⟩:=pv;apply kq;rw[kvm,Ja,JC] at tc;have s23:=s2.trans s3;simp only[yZ,qA,y8,yY,qz,yV,yR,qx,yT,yU,qy,qw,tDc,y9,qt,qu,qr,yN,yP,qm,yd,qo,qp,qq,ym,List.replicate,Option.join_some,Option.join_none,ya,ql,yK,yJ,tSl,qd,yI,qe,slT,yp,Int.reduceLT,Int.reduceLE,Int.reduceToNat,Int.reduceNeg,Int.reduceAdd,Int.reduceSub,Int.reduceMul,forall_const,yC,yB,yF,yE,qa,yD,yk,yh,yj,yo,yn,tC,tOp,rI,rI0,tUn,rU,yH,tB,yt,tOr,yu,yv,yw,yx,tIf,yr,yq,yL,qk,tCB,yM,rEq,rNe,qf,qg,qh,qi,qj,qc,yG,ipI,L2.start,JA,JQ,Jp,List.length_nil,List.cons_append,List.nil_append,Jt,List.replicate_succ,List.replicate_zero,Nat.reduceAdd,Nat.reduceSub,List.getElem?_cons_zero,List.getElem?_cons_succ,List.set_cons_zero,List.set_cons_succ,Option.some.injEq,V.int.injEq,V.bl.injEq,V.ref.injEq,V.str.injEq,exists_eq_left',exists_eq_left,exists_eq',exists_and_left,List.cons.injEq,and_true,true_and,and_self,and_assoc,decide_eq_true_eq,if_true,if_false,Bool.true_eq_false,Js,Bool.not_eq_true',Bool.not_true,Bool.not_false,decide_eq_false_iff_not,ite_true,ite_false,reduceCtorEq,false_and,exists_false,false_or,or_false,and_false,xq,xw,Nat.reduceLeDiff];refine⟨⟨_,s23.seq hS⟩,λl2 hl2 aa=> ?_⟩;refine xl (λj xs _=> ∃os:List En,xs=os.map (·.1)/\(∀y∈os,y∈zs)/\os.map ce=((List.range j).filterMap (xm es)).map rc) (xr (s23.seq hS)) hl2 (by rw[Ja];exact yQ 'o') (λ_ _=>⟨[],rfl,(λz h=>nomatch h),rfl⟩) (λj x xs H8 K1 K0 hx sm pv hl k1 k0=> ?_) (λxs H4 s4 pv _ w4=> ?_)
 ·refine opq λ_ kq=> ?_;obtain⟨os,rfl,oz,oc⟩:=pv;apply kq;obtain⟨z,hz,rfl⟩: ∃z,zs[j]? =some z/\x=z.1:=by
   rw[Jh] at hx;obtain⟨u,e,rfl⟩:=Jk.mp hx;exact⟨u,e,rfl⟩
  refine opq λ_ kq=> ?_;obtain⟨pe,ee,q1,q2⟩:=(hE.same (s23.trans sm)) z (Ji hz);obtain⟨r,er⟩:=uy z.2.2.2;apply kq;rw[er] at q2;have ez:es[j]? =some (ce z):=by rw[hes,Jh,hz];rfl
  have ro:xm es j=if qD z.2.2.2=true then some (z.2.2.1,1,(j:Int),z.2.2.2) else none:=by
   unfold xm;rw[ez];rfl
  rw[ee];lge_open0
  refine ixT q1 (qB _ _ _) (ixT q2 (yi _ _) ⟨qC (by simp),λpg H5 _ s5 e5=>⟨pg,_,rfl, .inr (SqT.of e5),rfl,rfl,_,rfl,?_⟩⟩);have iv:inV (.str (SL (chW z.2.2.2))) [V.str (SL [103,114,97,110,116]),V.str (SL [98,97,99,107])]=qD z.2.2.2:=by rw[<-zh5,<-vC];rfl
  rw[iv];by_cases ho:qD z.2.2.2=true
  ·refine qZ ho (k1 _ _ s5 λH6 _=>⟨os++ [z],by rw[Jd,<-ee];rfl,λy hy=> ?_,?_⟩)
   ·rcases Jr.mp hy with h|h
    ·exact oz y h
    ·rw[Jm.mp h];exact Ji hz
   ·rw[zf6,ro,Jg ho,Jd,Jd,oc];rfl
  ·refine zW ho (k0 _ s5 ⟨os,rfl,oz,?_⟩);rw[zf6,ro,Jf ho,oc];simp
 refine opq λ_ kq=> ?_;obtain⟨os,rfl,oz,oc⟩:=pv;apply kq;rw[Ja,<-esl] at oc;have s24:=s23.trans s4;have ol:os.length<=40:=by
  have h1:=congrArg List.length oc;rw[Ja,Ja] at h1;have h2:=List.length_filterMap_le (xm es) (List.range es.length);rw[JI] at h2;omega
 have tl:ts.length<=40:=by
  have h1:=congrArg List.length tc;rw[Ja,Ja] at h1;omega
 try open_k0
 refine⟨l1,l2,_,_,rfl,rfl,s4 _ _ w3,w4,qC (by rw[Ja,Ja];omega),λr5 H5 _ s5 e5=> ?_⟩;have s25:=s24.trans s5;refine⟨hT.same s25,λH6 g6 t6=>⟨r5,rfl,?_⟩⟩;obtain⟨us,hus⟩: ∃us,us=ts++os:=⟨_,rfl⟩
 have e5':H5 r5=some (.lst (us.map (·.1))):=by rw[e5,hus,Jd]
 have uE5:yX K H5 us:=λy hy=>by
  rw[hus] at hy;rcases Jr.mp hy with h|h
  ·exact(tE.same (s4.trans s5)) y h
  ·exact(hE.same s25) y (oz y h)
 have uc:us.map ce=(usR es).map rc:=by rw[hus,Jd,tc,oc,hRT];unfold usR;rw[Jd]
 have ul:us.length<=63/\us.length=(usR es).length:=by
  have h1:=congrArg List.length uc;rw[Ja,Ja] at h1;have h2:=(kC es).length_eq;have h3:=List.length_filterMap_le (v9 es) (List.range es.length);rw[JI] at h3;unfold uF jx at h2;exact⟨'o',h1⟩
 have hT5:=hT.same s25;obtain⟨ps5,et5,_⟩:=id hT5;have g6s:qF H5 H6:=zie g6 et5;have uE6:=jD uE5 g6s;have kk:(usR es).map (·.1)=us.map λu=>u.2.2.1:=by
  have:=congrArg (List.map (·.1)) uc;rw[List.map_map,List.map_map] at this;exact this.symm
 refine⟨us.map (·.1),g6s.lst e5',(usR es).map (·.1),by rw[Ja,Ja,ul.2],by rw[Ja];omega,λi v z hv hz=> ?_,λix hix r7 H7 n7 s7 e7=> ?_⟩
 ·rw[Jh] at hv;obtain⟨u,hu,rfl⟩:=Jk.mp hv;rw[kk,Jh,hu] at hz;cases hz;refine opq λ_ kq=> ?_;obtain⟨pe,ee,q1,_⟩:=uE6 u (Ji hu);apply kq;rw[ee];exact ixT q1 (yi _ _) ⟨rfl,rfl⟩
 have inr: ∀i∈ix,i<us.length:=λi hi=>by
  have:=List.mem_range.mp (hix.1.mem_iff.mp hi);rw[Ja] at this;omega
 have gd: ∀i,i<us.length->(us.map (·.1)).getD i .non=(us.getD i (.non,0,0, .back)).1:=λi hi=>by
  rw[Jo,Jh,Jo,Jb hi];rfl
 have e7':H7 r7=some (.lst ((ix.map λi=>us.getD i (.non,0,0, .back)).map (·.1))):=by
  rw[e7,List.map_map];congr 2;exact List.map_congr_left λi hi=>gd i (inr i hi)
 have hn:H r7=none:=by
  cases z:H r7 with
  |none=>rfl
  |some o=>
   have z5:=s25 _ _ z;by_cases y:r7=t.p_12
   ·obtain⟨ps6,et6,_⟩:=t6;rw[y,et6] at n7;cases n7
   ·rw[g6 _ _ y z5] at n7;cases n7
 refine q r7 _ _ H7 hn ((wN s25).trans (g6s.trans (wN s7))) (Tab.same t6 s7) (λb ps hb hps=>s7 _ _ (g6 _ _ hb (s25 _ _ hps))) e7' (λy hy=> ?_) (by rw[<-hes];exact zhs hix) ?_
 ·obtain⟨i,hi,rfl⟩:=Jw.mp hy;exact(uE6.same s7) _ (wt (inr i hi))
 ·rw[List.map_map,List.map_map];refine List.map_congr_left λi hi=> ?_;have li:=inr i hi
  have:=congrArg (λl=>l[i]?) uc;simp only[Jh,Jb li,Jb (show i<(usR es).length by omega),Option.map_some,Option.some.injEq] at this;show ce (us.getD i _)=rc ((usR es).getD i _);rw[Jo,Jb li,Jo,Jb (show i<(usR es).length by omega)];exact this
def xG(c k:Int):Int:=
 let n:=(c % 2147483647*48271+69621*k+7919) % 2147483629
 let n:=(n*n+k) % 2147483587
 n*(n+69621) % 2147483563
theorem zkP(c k:Int):0<=xG c k/\xG c k<2147483563:=by
 unfold xG;exact⟨JM _ 'd',JK _ 'd'⟩
def zkQ:Sp:=λvs H Q _=> ∃c k:Int,vs= [.int c, .int k]/\ -1000000<=k/\k<=1000000/\Q (.int (xG c k)) H
theorem sc_14:FnScope ["_law_cell","_law_k","_law_number"] ["_law_cell","_law_k"] (zJ s_14):=⟨rfl,rfl,rfl,by decide+kernel,rfl,by decide+kernel,by decide+kernel⟩
theorem ok_14(T:Txt w K mg t):FnOk P w K mg base (CXE P w) 1 t.a_14 t.d_14 ["_law_cell","_law_k"] (zkQ):=by
 refine T.fn_14.okX sc_14 (λvs H Q E h=> ?_) (λcdv A outer s H vs Q E L hr h=> ?_)
 ·refine opq λ_ kq=> ?_;obtain⟨c,k,rfl,k0,k1,q⟩:=h;apply kq;rfl
 refine opq λ_ kq=> ?_;obtain⟨c,k,rfl,k0,k1,q⟩:=h;apply kq;have nd:=sc_14.nd;refine⟨_,(zi (zu (i:=2) nd rfl (Or.inl rfl) (zg zH (zg zK (zg zK (zg qY (zg zH (pv 0) zd) zd) (zg qY zd (pv 1))) zd) zd)) (zi (zu (i:=2) nd rfl (Or.inl rfl) (zg zH (zg zK (zg qY (pv 2) (pv 2)) (pv 1)) zd)) (zp (zy (zg zH (zg qY (pv 2) (zg zK (pv 2) zd)) zd))))),?_⟩;open_k0;have e: ∀n1,(c % 2147483647*48271+69621*k+7919) % 2147483629=n1-> ∀n2,(n1*n1+k) % 2147483587=n2->xG c k=n2*(n2+69621) % 2147483563:=λn1 h1 n2 h2=>by
  unfold xG;rw[h1];dsimp only;rw[h2]
 generalize h1:(c % 2147483647*48271+69621*k+7919) % 2147483629=n1;have b1:0<=n1/\n1<2147483629:=by omega
 have e:=e n1 h1;generalize h2:(n1*n1+k) % 2147483587=n2;have b2:0<=n2/\n2<2147483587:=by
  rw[<-h2];exact⟨JM _ 'd',JK _ 'd'⟩
 rw[e n2 h2] at q;exact⟨.inr ⟨'d','d'⟩, .inl ⟨'d','d'⟩, .inl ⟨'o','o'⟩, .inl ⟨'o','o'⟩,q⟩
def zkR(K:Fg):Sp:=λvs H Q _=> ∃c m:Int,vs= [.int c, .int m]/\0<=m/\m<=8/\ ∀l (ws:List (List Nat)) H',zj H H'->(ws.length:Int)=m->(∀w∈ws,jq w)->ws.Nodup->H' l=some (.lst (ws.map λw=> .str (SL w)))->Q (.ref l) H'
theorem sc_1c:FnScope ["_law_cell","_law_many_here","_law_letters","_law_base","_law_at","_law_step","_law_words_here","_law_k","_law_sign"] ["_law_cell","_law_many_here"] (zJ s_1c):=⟨rfl,rfl,rfl,by decide+kernel,rfl,by decide+kernel,by decide+kernel⟩
theorem ok_1c(T:Txt w K mg t):FnOk P w K mg base (CXE P w) 2 t.a_1c t.d_1c ["_law_cell","_law_many_here"] (zkR K):=by
 refine T.fn_1c.okX sc_1c (λvs H Q E h=> ?_) (λcdv A outer s H vs Q E L hr h=> ?_)
 ·refine opq λ_ kq=> ?_;obtain⟨c,m,rfl,m0,m1,q⟩:=h;apply kq;rfl
 refine opq λ_ kq=> ?_;obtain⟨c,m,rfl,m0,m1,q⟩:=h;apply kq;have nd:=sc_1c.nd;refine⟨_,(zi (zu (i:=2) nd rfl (Or.inr rfl) (zQ st_18)) (zi (xz (vA (i:=3) nd rfl rfl (n:=1) (N:= ["_law_j","_law_letters","_law_cell"]) (js:= [2,0]) (by rfl) rfl rfl (wz (by rfl) T.no_range (zc (zg zK zd (zg zH (pv 0) zd)) ze)) (λa=>(zD (i:=0) (show List.Nodup (["_law_j","_law_letters","_law_cell"]:List Str) from by decide+kernel) rfl (Or.inl rfl))) (λa=>xh) (λa=>(zq jP (pv 1) (zg zH (zr vy (ok_14 T) (hr.mono 'd') (by rfl) T.mg_14 T.fn_14.kp T.b_14 .nil (zc (pv 2) (zc (zg zK zd (pv 0)) ze zO) zh)) zd) (λ_ _=>rfl))))) (zi (zu (i:=4) nd rfl (Or.inl rfl) (zg zH (zg zP (pv 0) zd) (zZ qI (by rfl) T.no_len qJ (zc (pv 3) ze)))) (zi (zu (i:=5) nd rfl (Or.inl rfl) (zq zG (zY (zc zd (zc zd (zc zd (zc zd ze zw) zw) zw) zw)) (zg zH (zg zP (pv 0) zd) zd) (λ_ _=>rfl))) (zi (zu (i:=6) nd rfl (Or.inl rfl) (zY ze)) (zi (xy (by passes_own) rfl (wz (by rfl) T.no_range (zc (pv 1) ze)) (zD (i:=7) nd rfl (Or.inl rfl)) (zi (zu (i:=8) nd rfl (Or.inl rfl) (zq jP (pv 2) (zg zH (zg zK (qQ PySem.F.plainAttrs_str PySem.F.slot_str_index PySem.F.type_str_index zjq (pv 2) (zc (zq zG (pv 3) (pv 4) (λ_ _=>rfl)) ze)) (zg qY (pv 7) (pv 5))) zd) (λ_ _=>rfl))) (zp (qX (qQ PySem.F.plainAttrs_list PySem.F.slot_list_append PySem.F.type_list_append xg (pv 6) (zc (qQ PySem.F.plainAttrs_str PySem.F.slot_str_join PySem.F.type_str_join zhU (zQ st_19) (zc (zg wb (zg wb (wQ wU (pv 3) uY (xI (pv 4))) (zY (zc (pv 8) ze))) (wQ wU (pv 3) (xI (zg zK (pv 4) zd)) uY)) ze)) ze)))))) (zp (zy (pv 6))))))))),?_⟩;open_k0;obtain⟨R,hR⟩: ∃R:St->Hp->Prop,R=λσ' H'=>zj H H'/\ ∃(l:Addr) (bs:List Nat),H' l=some (.lst (bs.map λb=>V.str (SL [b])))/\1<=bs.length/\bs.length<=8/\(∀b∈bs,97<=b/\b<=122)/\σ'= [some (.int c),some (.int m),some (.str (SL azL)),some (.ref l),none,none,none,none,none]:=⟨_,rfl⟩
 refine⟨R,?_,λσ2 H2 h2=> ?_⟩
 ·simp only[yZ,qA,y8,yY,qz,yV,yR,qx,yT,yU,qy,qw,tDc,y9,qt,qu,qr,yN,yP,qm,yd,qo,qp,qq,ym,List.replicate,Option.join_some,Option.join_none,ya,ql,yK,yJ,tSl,qd,yI,qe,slT,yp,Int.reduceLT,Int.reduceLE,Int.reduceToNat,Int.reduceNeg,Int.reduceAdd,Int.reduceSub,Int.reduceMul,forall_const,yC,yB,yF,yE,qa,yD,yk,yh,yj,yo,yn,tC,tOp,rI,rI0,tUn,rU,yH,tB,yt,tOr,yu,yv,yw,yx,tIf,yr,yq,yL,qk,tCB,yM,rEq,rNe,qf,qg,qh,qi,qj,qc,yG,ipI,L2.start,JA,JQ,Jp,List.length_nil,List.cons_append,List.nil_append,Jt,List.replicate_succ,List.replicate_zero,Nat.reduceAdd,Nat.reduceSub,List.getElem?_cons_zero,List.getElem?_cons_succ,List.set_cons_zero,List.set_cons_succ,Option.some.injEq,V.int.injEq,V.bl.injEq,V.ref.injEq,V.str.injEq,exists_eq_left',exists_eq_left,exists_eq',exists_and_left,List.cons.injEq,and_true,true_and,and_self,and_assoc,decide_eq_true_eq,if_true,if_false,Bool.true_eq_false,Js,Bool.not_eq_true',Bool.not_true,Bool.not_false,decide_eq_false_iff_not,ite_true,ite_false,reduceCtorEq,false_and,exists_false,false_or,or_false,and_false,xq,ue,Nat.reduceLeDiff];refine⟨'o','o',λl hl a=> ?_⟩;refine ut (mI λj=> .str (SL [97+(xG c (70+j) % 26).toNat])) (ur 0 (1+c % 8).toNat H) hl (by rw[xi];exact yQ 'o') (λx H4 K1 hx sm k1=> ?_) (λH4 s4 e4=> ?_)
  ·obtain⟨j,hj,rfl⟩:=jk hx;lge_open0
   have mb:0<=xG c (70+(0+(j:Int))) % 26/\xG c (70+(0+(j:Int))) % 26<26:=by omega
   exact⟨c,_,rfl,'o','o',_,rfl,qC (by simp),_,j3 mb.1 mb.2,k1 H4 (zj.refl _)⟩
  ·rw[jT] at e4;rw[hR];refine⟨s4,l,(List.range (1+c % 8).toNat).map λ(j:Nat)=>97+(xG c (70+(0+(j:Int))) % 26).toNat,by rw[e4,List.map_map];rfl,by rw[Ja,JI];omega,by rw[Ja,JI];omega,λb hb=> ?_,rfl⟩;obtain⟨j,_,rfl⟩:=Jw.mp hb;omega
 rw[hR] at h2;refine opq λ_ kq=> ?_;obtain⟨s2,lb,bs,eb,b0,b1,bb,rfl⟩:=h2;apply kq;clear hR;open_k0;refine⟨_, .inl (SqL.of eb),?_⟩;rw[Ja];refine⟨'o',λp3 H3 _ s3 e3=> ?_⟩;have e3':H3 p3=some (.lst (([1,3,5,7]:List Int).map V.int)):=e3;have c4:0<=c / 64 % 4/\c / 64 % 4<4:=by omega
 have sm:([1,3,5,7]:List Int).getD (c / 64 % 4).toNat 0∈([1,3,5,7]:List Int):=zjs c4.1 c4.2;refine ixL (SqL.of e3') (xZ c4.1 c4.2) ?_;clear e3 e3';generalize ([1,3,5,7]:List Int).getD (c / 64 % 4).toNat 0=st at sm ⊢;have s4v:st=1\/st=3\/st=5\/st=7:=by simpa using sm
 intro pw H4 hpw s4 e4;have ab:0<=c / 8 % (bs.length:Int)/\c / 8 % (bs.length:Int)<bs.length:=⟨JM _ 'o',JK _ 'o'⟩
 obtain⟨at',hat⟩:=Int.eq_ofNat_of_zero_le ab.1;rw[hat] at ab ⊢;have al:at'<bs.length:=by omega
 obtain⟨bx,hbx⟩: ∃bx,bs[at']? =some bx:=⟨bs[at'],Jb al⟩
 have bxb:=bb bx (Ji hbx);obtain⟨sg,hsg⟩: ∃sg:Nat->Nat,sg=λ(k:Nat)=>97+((((bx - 97:Nat):Int)+(0+(k:Int))*st) % 26).toNat:=⟨_,rfl⟩
 have sgb: ∀k,97<=sg k/\sg k<=122:=λk=>by rw[hsg];dsimp only;omega
 have sgi: ∀k k',k<8->k'<8->sg k=sg k'->k=k':=λk k' h1 h2 e=>by
  rw[hsg] at e;dsimp only at e;rcases s4v with rfl|rfl|rfl|rfl<;>omega
 obtain⟨wd,hwd⟩: ∃wd:Nat->List Nat,wd=λk=>bs.take at'++ [sg k]++bs.drop (at'+1):=⟨_,rfl⟩
 have wdl: ∀k,(wd k).length=bs.length:=λk=>by
  rw[hwd];simp only[Jj,JB,List.length_drop,Jp,List.length_nil];omega
 have wdi: ∀k k',wd k=wd k'->sg k=sg k':=λk k' e=>by
  rw[hwd] at e;dsimp only at e;rw[JL,JL] at e;exact(List.cons.inj (List.append_cancel_left e)).1
 have wdn: ∀k,jq (wd k):=λk=>by
  refine⟨by rw[wdl];exact b0,by rw[wdl];exact b1,λx hx=> ?_⟩;rw[hwd] at hx;rcases Jr.mp hx with h|h
  ·rcases Jr.mp h with h|h
   ·exact bb x (List.mem_of_mem_take h)
   ·rw[Jm.mp h];exact sgb k
  ·exact bb x (List.mem_of_mem_drop h)
 ((try dsimp only);refine xM λR hR=> ?_;w_why)
 refine⟨'o','o',hR _ _ ?_⟩;clear hR;refine vq (λi σ1 H5=>zj H3 H5/\H5 pw=some (.lst ((List.range i).map λk=>V.str (SL (wd k))))/\ ∃x7 x8,σ1= [some (.int c),some (.int m),some (.str (SL azL)),some (.ref lb),some (.int (at':Int)),some (.int st),some (.ref pw),x7,x8]) ⟨s4,e4,_,_,rfl⟩ (λi σ1 H5 hi h=> ?_) (λσ1 H5 h=> ?_)
 ·refine opq λ_ kq=> ?_;obtain⟨s5,e5,x7,x8,rfl⟩:=h;apply kq;have hi8:i<8:=by omega
  have eb5:=s5 _ _ (s3 _ _ eb);lgec_open0
  have hbx':(bs.map λb=>V.str (SL [b]))[at']? =some (.str (SL [bx])):=by rw[Jh,hbx];rfl
  refine⟨rfl,ixL (SqL.of eb5) (wq hbx') ⟨bx,rfl,bxb.1,bxb.2, .inr ⟨'o','o'⟩,?_⟩⟩;have rb:0<=(((bx - 97:Nat):Int)+(0+(i:Int))*st) % 26/\(((bx - 97:Nat):Int)+(0+(i:Int))*st) % 26<26:=⟨JM _ 'd',JK _ 'd'⟩
  have esg:97+((((bx - 97:Nat):Int)+(0+(i:Int))*st) % 26).toNat=sg i:=by rw[hsg]
  refine⟨_,j3 rb.1 rb.2, .inl ⟨rfl,_,SqL.of e5⟩,rfl,lb,_,rfl,SqL.of eb5,λq1 H6 _ t6 f6=> ?_⟩;rw[esg];intro q2 H7 _ t7 f7;have bl:(bs.map λb=>V.str (SL [b])).length=bs.length:=Ja ..;rw[zjd _ 'o' (by rw[bl];omega),JF] at f6;refine⟨q1,q2,_,_,rfl,rfl,t7 _ _ f6,f7,qC (by rw[JB,bl];simp only[Jp,List.length_nil];omega),λq3 H8 _ t8 f8=> ?_⟩;refine⟨lb,_,rfl,SqL.of (t8 _ _ (t7 _ _ (t6 _ _ eb5))),λq4 H9 _ t9 f9=> ?_⟩;rw[zje _ 'o' (by rw[bl];omega),show ((at':Int)+1).toNat=at'+1 by omega] at f9;refine⟨q3,q4,_,_,rfl,rfl,t9 _ _ f8,f9,qC (by rw[Jj,JB,List.length_drop,bl];simp only[Jp,List.length_nil];omega),λq5 H10 _ t10 f10=> ?_⟩;have s10:=((((s5.trans t6).trans t7).trans t8).trans t9).trans t10;have f10':H10 q5=some (.lst (((wd i).map λb=> [b]).map λy=>V.str (SL y))):=by
   rw[f10,hwd,List.map_map];dsimp only;rw[Jd,Jd,List.map_take,List.map_drop];rfl
  refine⟨q5,rfl,(wd i).map λb=> [b],SqL.of f10',?_,?_⟩
  ·rw[j6,Ja,wdl];omega
  rw[j4];have e10:=t10 _ _ (t9 _ _ (t8 _ _ (t7 _ _ (t6 _ _ e5))));refine⟨pw,_,_,rfl,rfl,e10,by rw[Ja,JI];exact uj 'o',vR s10 hpw,?_⟩;rw[yg,JP,Jd];rfl
 ·refine opq λ_ kq=> ?_;obtain⟨s5,e5,x7,x8,rfl⟩:=h;apply kq;open_k0;refine q pw ((List.range m.toNat).map wd) H5 ((s2.trans s3).trans s5) (by rw[Ja,JI];omega) (λx hx=> ?_) ?_ (by rw[e5,List.map_map];rfl)
  ·obtain⟨k,_,rfl⟩:=Jw.mp hx;exact wdn k
  ·refine zeW λk k' h1 h2 e=>sgi k k' 'o' 'o' (wdi k k' e)
def zif(K:Fg):Sp:=λvs H Q _=> ∃c:Int,vs= [.int c]/\ ∀l (zs:List (V×Pl)) H',zj H H'->j5 (zs.map (·.2))->wc K H' zs->H' l=some (.lst (zs.map (·.1)))->Q (.ref l) H'
theorem sc_1d:FnScope ["_law_cell","_law_many_here","_law_names","_law_plans_here","_law_k","_law_m","_law_price","_law_count"] ["_law_cell"] (zJ s_1d):=⟨rfl,rfl,rfl,by decide+kernel,rfl,by decide+kernel,by decide+kernel⟩
theorem ok_1d(T:Txt w K mg t):FnOk P w K mg base (CXE P w) 3 t.a_1d t.d_1d ["_law_cell"] (zif K):=by
 refine T.fn_1d.okX sc_1d (λvs H Q E h=> ?_) (λcdv A outer s H vs Q E L hr h=> ?_)
 ·obtain⟨c,rfl,q⟩:=h;rfl
 obtain⟨c,rfl,q⟩:=h;have nd:=sc_1d.nd;refine⟨_,(zi (zu (i:=1) nd rfl (Or.inl rfl) (zq zG (zY (zc zd (zc zd (zc zd (zc zd (zc zd (zc zd (zc zd (zc zd ze zw) zw) zw) zw) zw) zw) zw) zw)) (zg zH (pv 0) zd) (λ_ _=>rfl))) (zi (zu (i:=2) nd rfl (Or.inl rfl) (zr L.toLv (ok_1c T) (hr.mono 'd') (by rfl) T.mg_1c T.fn_1c.kp T.b_1c .nil (zc (zg zP (pv 0) zd) (zc (pv 1) ze zh) zO))) (zi (zu (i:=3) nd rfl (Or.inl rfl) (zY ze)) (zi (xy (by passes_own) rfl (wz (by rfl) T.no_range (zc (pv 1) ze)) (zD (i:=4) nd rfl (Or.inl rfl)) (zi (zu (i:=5) nd rfl (Or.inl rfl) (zr L.toLv (ok_14 T) (hr.mono 'd') (by rfl) T.mg_14 T.fn_14.kp T.b_14 .nil (zc (pv 0) (zc (pv 4) ze zh) zh))) (zi (zu (i:=6) nd rfl (Or.inl rfl) (zq zG (zY (zc (zg zH (zg zP (pv 5) zd) zd) (zc (zg zH (zg zP (pv 5) zd) zd) (zc (zg zH (zg zP (pv 0) (zg zK (pv 4) zd)) (zg w9 zd zd)) (zc (zg zH (zg zP (pv 5) zd) zd) ze zO) zO) zO) zO)) (zg zH (pv 5) zd) (λ_ _=>rfl))) (zi (zu (i:=7) nd rfl (Or.inl rfl) (zq zG (zY (zc zd (zc zd (zc zd (zc (zg zK zd (zg zH (zg zP (pv 5) zd) zd)) (zc zd (zc (zg zK zd (zg zH (zg zP (pv 5) zd) zd)) (zc zd (zc zd ze zw) zw) zO) zw) zO) zw) zw) zw)) (zg zH (zg zP (pv 5) zd) zd) (λ_ _=>rfl))) (zp (qX (qQ PySem.F.plainAttrs_list PySem.F.slot_list_append PySem.F.type_list_append xg (pv 3) (zc (zR (zc (zq zG (pv 2) (pv 4) (λ_ _=>rfl)) (zc (pv 6) (zc (pv 7) ze zh) zh) z6)) ze)))))))) (zp (zy (pv 3))))))),?_⟩;open_k0;intro p1 H1 _ s1 e1;have e1':H1 p1=some (.lst (([1,2,3,4,2,3,1,8]:List Int).map V.int)):=e1;have c8:0<=c % 8/\c % 8<8:=by omega
 have bm:=vx (xs:= [1,2,3,4,2,3,1,8]) (lo:=1) (hi:=8) 'd' c8.1 c8.2;refine ixL (SqL.of e1') (xZ c8.1 c8.2) ?_;clear e1 e1';generalize ([1,2,3,4,2,3,1,8]:List Int).getD (c % 8).toNat 0=m at bm ⊢;refine⟨_,m,rfl,'o','o',λln ws H2 s2 wl wn wd e2=> ?_⟩;intro pp H3 hpp s3 e3
 ((try dsimp only);refine xM λR hR=> ?_;w_why)
 refine⟨'o','o',hR _ _ ?_⟩;clear hR;refine vq (λi σ1 H4=>zj H2 H4/\(∃zs:List (V×Pl),zs.length=i/\wc K H4 zs/\(∀z∈zs,vV z.2)/\zs.map (λz=>z.2.1)=ws.take i/\H4 pp=some (.lst (zs.map (·.1))))/\ ∃x4 x5 x6 x7,σ1= [some (.int c),some (.int m),some (.ref ln),some (.ref pp),x4,x5,x6,x7]) ⟨s3,⟨[],rfl,(λz h=>nomatch h),(λz h=>nomatch h),rfl,e3⟩,_,_,_,_,rfl⟩ (λi σ1 H4 hi h=> ?_) (λσ1 H4 h=> ?_)
 ·refine opq λ_ kq=> ?_;obtain⟨s4,⟨zs,zl,za,zo,zn,e4⟩,x4,x5,x6,x7,rfl⟩:=h;apply kq;have him:(i:Int)<m:=by omega
  lgec_open0
  refine⟨c,_,rfl,'o','o',?_⟩;have mb:=zkP c (0+(i:Int));generalize xG c (0+(i:Int))=mm at mb ⊢;refine⟨mm,rfl,mm,rfl,'o','o',⟨'d','d','d'⟩,'d',mm,rfl,λp5 H5 _ s5 e5=>⟨mm,rfl,?_⟩⟩;have e5':H5 p5=some (.lst (([mm / 32 % 1000,mm / 32 % 7,c / (0+(i:Int)+1) % 10 ^ 30,mm / 32 % 20000]:List Int).map V.int)):=e5;have m4:0<=mm % 4/\mm % 4<4:=by omega
  have bp:=vx (xs:= [mm / 32 % 1000,mm / 32 % 7,c / (0+(i:Int)+1) % 10 ^ 30,mm / 32 % 20000]) (lo:=0) (hi:=10 ^ 30 - 1) (λx hx=>by
   have:=JM (c / (0+(i:Int)+1)) (show (10:Int) ^ 30≠0 by decide)
   have:=JK (c / (0+(i:Int)+1)) (show (0:Int)<10 ^ 30 by decide);simp only[JD,List.not_mem_nil,or_false] at hx;rcases hx with rfl|rfl|rfl|rfl<;>omega) m4.1 m4.2
  refine ixL (SqL.of e5') (xZ m4.1 m4.2) ⟨mm,rfl,mm,rfl,?_⟩;clear e5 e5';generalize ([mm / 32 % 1000,mm / 32 % 7,c / (0+(i:Int)+1) % 10 ^ 30,mm / 32 % 20000]:List Int).getD (mm % 4).toNat 0=pr at bp ⊢;intro p6 H6 _ s6 e6;refine⟨mm,rfl,?_⟩;have e6':H6 p6=some (.lst (([0,30,0,28+mm / 32 % 4,7,1+mm / 32 % 400,0,400]:List Int).map V.int)):=e6;have m8:0<=mm / 4 % 8/\mm / 4 % 8<8:=by omega
  have bc:=vx (xs:= [0,30,0,28+mm / 32 % 4,7,1+mm / 32 % 400,0,400]) (lo:=0) (hi:=400) (λx hx=>by
   simp only[JD,List.not_mem_nil,or_false] at hx;rcases hx with rfl|rfl|rfl|rfl|rfl|rfl|rfl|rfl<;>omega) m8.1 m8.2
  refine ixL (SqL.of e6') (xZ m8.1 m8.2) ?_;clear e6 e6';generalize ([0,30,0,28+mm / 32 % 4,7,1+mm / 32 % 400,0,400]:List Int).getD (mm / 4 % 8).toNat 0=ct at bc ⊢;have hiw:i<ws.length:=by omega
  have hw:ws[i]? =some ws[i]:=Jb hiw;generalize ws[i]=wi at hw;have s46:=s5.trans s6;have e26:=s46 _ _ (s4 _ _ e2);have e46:=s46 _ _ e4;have hwi:(ws.map λw=>V.str (SL w))[i]? =some (.str (SL wi)):=by rw[Jh,hw];rfl
  refine⟨.inl ⟨rfl,_,SqL.of e46⟩,ixL (SqL.of e26) (by rw[JR];exact wq hwi) ?_⟩;intro p7 H7 _ s7 e7;have e47:=s7 _ _ e46;have s47:=s46.trans s7;have np:p7≠pp:=λz=>by rw[z,e47] at e7;cases e7
  refine⟨pp,_,_,rfl,rfl,e47,by rw[Ja,zl];exact uj 'o',vR (s4.trans s47) hpp,zs++ [(.ref p7,wi,pr,ct)],by rw[Jj,zl];rfl,λz hz=> ?_,λz hz=> ?_,?_,?_⟩
  ·rcases Jr.mp hz with y|y
   ·obtain⟨p,e,hq⟩:=(za.same s47) z y;refine⟨p,e,zhX hq e47⟩
   ·rw[Jm.mp y];exact⟨p7,rfl,SqT.of (by rw[zI np];exact e7)⟩
  ·rcases Jr.mp hz with y|y
   ·exact zo z y
   ·rw[Jm.mp y];exact⟨wn wi (Ji hw),bp.1,by show pr<10 ^ 30;omega,bc.1,bc.2⟩
  ·rw[Jd,zn,JH,hw];rfl
  ·rw[yg,Jd];rfl
 ·refine opq λ_ kq=> ?_;obtain⟨s4,⟨zs,zl,za,zo,zn,e4⟩,x4,x5,x6,x7,rfl⟩:=h;apply kq;open_k0;refine q pp zs H4 ((s1.trans s2).trans s4) ⟨by rw[Ja];omega,by rw[Ja];omega,λx hx=> ?_,?_⟩ za e4
  ·obtain⟨z,hz,rfl⟩:=Jw.mp hx;exact zo z hz
  ·rw[List.map_map];show (zs.map λz=>z.2.1).Nodup;rw[zn];exact wd.sublist (List.take_sublist _ _)
def zjZ(K:Fg):Sp:=λvs H Q _=> ∃(c:Int) (a:Addr) (zs:List Int),vs= [.int c, .ref a]/\SqL K H a (zs.map V.int)/\zs.length<=100/\(∀z∈zs,0<z/\z<10 ^ 60)/\ ∀l (ds:List Int) H',zj H H'->ds.length=zs.length->(∀(i:Nat) (d z:Int),ds[i]? =some d->zs[i]? =some z->0<=d/\d<z)->H' l=some (.lst (ds.map V.int))->Q (.ref l) H'
theorem sc_1e:FnScope ["_law_cell","_law_sizes","_law_found","_law_size"] ["_law_cell","_law_sizes"] (zJ s_1e):=⟨rfl,rfl,rfl,by decide+kernel,rfl,by decide+kernel,by decide+kernel⟩
theorem ok_1e(T:Txt w K mg t):FnOk P w K mg base (CXE P w) 1 t.a_1e t.d_1e ["_law_cell","_law_sizes"] (zjZ K):=by
 refine T.fn_1e.okX sc_1e (λvs H Q E h=> ?_) (λcdv A outer s H vs Q E L hr h=> ?_)
 ·refine opq λ_ kq=> ?_;obtain⟨c,a,zs,rfl,hS,zl,zb,q⟩:=h;apply kq;rfl
 refine opq λ_ kq=> ?_;obtain⟨c,a,zs,rfl,hS,zl,zb,q⟩:=h;apply kq;have nd:=sc_1e.nd;refine⟨_,(zi (zu (i:=2) nd rfl (Or.inl rfl) (zY ze)) (zi (xy (by passes_own) rfl (qO (pv 1)) (zD (i:=3) nd rfl (Or.inl rfl)) (zi (qX (qQ PySem.F.plainAttrs_list PySem.F.slot_list_append PySem.F.type_list_append xg (pv 2) (zc (zg zH (pv 0) (pv 3)) ze))) (zp (zu (i:=0) nd rfl (Or.inl rfl) (zg uu (pv 0) (pv 3)))))) (zp (zy (pv 2))))),?_⟩;open_k0;intro pl H1 hpl s1 e1
 ((try dsimp only);refine xM λR hR=> ?_;w_why)
 refine⟨⟨_,s1.seq hS⟩,hR _ _ ?_⟩;clear hR;refine vM (xs:=zs.map V.int) (λi σ1 H2=>zj H H2/\(∃ds:List Int,ds.length=i/\(∀(j:Nat) (d z:Int),ds[j]? =some d->zs[j]? =some z->0<=d/\d<z)/\H2 pl=some (.lst (ds.map V.int)))/\ ∃(k:Int) (x3:Option V),σ1= [some (.int k),some (.ref a),some (.ref pl),x3]) ⟨s1,⟨[],rfl,(λj d z h=>by simp at h),e1⟩,c,_,rfl⟩ (λ_ _ _ _ h=>h.1.seq hS) (λi x σ1 H2 hx h=> ?_) (λσ1 H2 h=> ?_)
 ·refine opq λ_ kq=> ?_;obtain⟨s2,⟨ds,dl,db,e2⟩,k,x3,rfl⟩:=h;apply kq;obtain⟨z,hz,rfl⟩: ∃z,zs[i]? =some z/\x= .int z:=by
   rw[Jh] at hx;obtain⟨j,e,rfl⟩:=Jk.mp hx;exact⟨j,e,rfl⟩
  have z0:=zb z (Ji hz);have hi:i<zs.length:=(Jc.mp hz).1;lgec_open0
  refine⟨.inl ⟨rfl,_,SqL.of e2⟩,z0.1,pl,_,_,rfl,rfl,e2,by rw[Ja,dl];exact uj 'o',?_⟩;refine⟨z0.1,Sm.pow10 (k:=60) 'd' 'o',vR s2 hpl,ds++ [k % z],by rw[Jj,dl];rfl,λj d z' hd hz'=> ?_,by rw[yg,Jd];rfl⟩;by_cases hj:j<ds.length
  ·exact db j d z' (by rw[List.getElem?_append_left hj] at hd;exact hd) hz'
  ·have hl:=(Jc.mp hd).1;rw[Jj,List.length_singleton] at hl;obtain rfl:j=ds.length:=by omega
   rw[List.getElem?_append_right (Je _),Nat.sub_self] at hd;cases hd;rw[dl,hz] at hz';cases hz';exact⟨JM _ 'o',JK _ 'o'⟩
 ·refine opq λ_ kq=> ?_;obtain⟨s2,⟨ds,dl,db,e2⟩,k,x3,rfl⟩:=h;apply kq;open_k0;rw[Ja] at dl;exact q pl ds H2 s2 dl db e2
theorem sc_1f:FnScope ["_law_cell","_law_letters","_law_plans_here","_law_many_here","_law_k","_law_some","_law_name"] ["_law_cell"] (zJ s_1f):=⟨rfl,rfl,rfl,by decide+kernel,rfl,by decide+kernel,by decide+kernel⟩
theorem ok_1f(T:Txt w K mg t):FnOk P w K mg base (CXE P w) 2 t.a_1f t.d_1f ["_law_cell"] (zif K):=by
 refine T.fn_1f.okX sc_1f (λvs H Q E h=> ?_) (λcdv A outer s H vs Q E L hr h=> ?_)
 ·obtain⟨c,rfl,q⟩:=h;rfl
 obtain⟨c,rfl,q⟩:=h;have nd:=sc_1f.nd;refine⟨_,(zi (zu (i:=1) nd rfl (Or.inr rfl) (zQ st_18)) (zi (zu (i:=2) nd rfl (Or.inl rfl) (zY ze)) (zi (zu (i:=3) nd rfl (Or.inl rfl) (zg zK zd (zg zH (pv 0) zd))) (zi (zu (i:=0) nd rfl (Or.inl rfl) (zg uu (pv 0) zd)) (zi (xy (by passes_own) rfl (wz (by rfl) T.no_range (zc (pv 3) ze)) (zD (i:=4) nd rfl (Or.inl rfl)) (zi (zu (i:=5) nd rfl (Or.inl rfl) (zr L.toLv (ok_1e T) (hr.mono 'd') (by rfl) T.mg_1e T.fn_1e.kp T.b_1e .nil (zc (pv 0) (zc (zg wb (zg wb (zY (zc zd ze)) (zg zhV (zY (zc zd ze)) zd)) (zY (zc (zg w9 zd zd) (zc zd ze zw) zO))) ze zO) zh))) (zi (zu (i:=6) nd rfl (Or.inl rfl) (qQ PySem.F.plainAttrs_str PySem.F.slot_str_join PySem.F.type_str_join zhU (zQ st_19) (zc (xA (n:=1) (N:= ["_law_one","_law_letters"]) (js:= [1]) (by rfl) rfl rfl (qO (wQ wU (pv 5) (xI zd) (xI (zg zK zd (zq zG (pv 5) zd (λ_ _=>rfl)))))) (λa=>(zD (i:=0) (show List.Nodup (["_law_one","_law_letters"]:List Str) from by decide+kernel) rfl (Or.inl rfl))) (λa=>xh) (λa=>(zq jP (pv 1) (pv 0) (λ_ _=>rfl)))) ze))) (zi (xz (zL (zC jN (pv 6) (xA (n:=1) (N:= ["_law_plan"]) (js:= []) (by rfl) rfl rfl (qO (pv 2)) (λa=>(zD (i:=0) (show List.Nodup (["_law_plan"]:List Str) from by decide+kernel) rfl (Or.inl rfl))) (λa=>xh) (λa=>(zq zU (pv 0) zd (λ_ _=>rfl)))) rfl) (zp (qX (qQ PySem.F.plainAttrs_list PySem.F.slot_list_append PySem.F.type_list_append xg (pv 2) (zc (zR (zc (pv 6) (zc (zq zG (pv 5) zd (λ_ _=>rfl)) (zc (zq zG (pv 5) zd (λ_ _=>rfl)) ze z6) z6) zh)) ze)))) zN)) (zp (zu (i:=0) nd rfl (Or.inl rfl) (zg uu (pv 0) (zg vS (zg vS (zg vS zd (zg w9 zd zd)) zd) (zg w9 zd zd))))))))) (zp (zy (pv 2)))))))),?_⟩;open_k0;intro pp H1 hpp s1 e1;refine⟨Sm.small 'd' 'd',?_⟩;have mb:1<=1+c % 8/\1+c % 8<=8:=by omega
 generalize 1+c % 8=m at mb ⊢
 ((try dsimp only);refine xM λR hR=> ?_;w_why)
 refine⟨'o','o',hR _ _ ?_⟩;clear hR;refine vq (λi σ1 H2=>zj H H2/\(∃zs:List (V×Pl),zs.length<=i/\(0<i->0<zs.length)/\wc K H2 zs/\(∀z∈zs,vV z.2)/\(zs.map λz=>z.2.1).Nodup/\H2 pp=some (.lst (zs.map (·.1))))/\ ∃(k:Int) (x4 x5 x6:Option V),σ1= [some (.int k),some (.str (SL azL)),some (.ref pp),some (.int m),x4,x5,x6]) ⟨s1,⟨[],Je _,(λh=>h),(λz h=>nomatch h),(λz h=>nomatch h),List.nodup_nil,e1⟩,_,_,_,_,rfl⟩ (λi σ1 H2 hi h=> ?_) (λσ1 H2 h=> ?_)
 ·refine opq λ_ kq=> ?_;obtain⟨s2,⟨zs,zl,z1,za,zo,zn,e2⟩,k,x4,x5,x6,rfl⟩:=h;apply kq;have him:(i:Int)<m:=by omega
  open_k0;intro a1 A1 _ t1 f1 a2 A2 _ t2 f2;refine⟨a2,8,_,rfl,rfl,f2,'d','d',qC 'd',λa3 A3 _ t3 f3=> ?_⟩;refine⟨a1,a3,_,_,rfl,rfl,t3 _ _ (t2 _ _ f1),f3,qC 'd',λa4 A4 _ t4 f4=> ?_⟩;refine⟨⟨'d','d','d'⟩,λa5 A5 _ t5 f5=> ?_⟩;refine⟨a4,a5,_,_,rfl,rfl,t5 _ _ f4,f5,qC 'd',λa6 A6 _ t6 f6=> ?_⟩;have f6':A6 a6=some (.lst (([8,26,26,26,26,26,26,26,26,10 ^ 30,401]:List Int).map V.int)):=f6;refine⟨k,a6,_,rfl,SqL.of f6','d','d',λls ds A7 t7 dl db f7=> ?_⟩;refine opq λ_ kq=> ?_;obtain⟨d0,d1,d2,d3,d4,d5,d6,d7,d8,d9,d10,rfl⟩:=ziA dl;apply kq;have b0:=db 0 d0 8 rfl rfl;have b9:=db 9 d9 (10 ^ 30) rfl rfl;have b10:=db 10 d10 401 rfl rfl;have bx: ∀x∈ [d1,d2,d3,d4,d5,d6,d7,d8],0<=x/\x<26:=λx hx=>by
   simp only[JD,List.not_mem_nil,or_false] at hx;rcases hx with rfl|rfl|rfl|rfl|rfl|rfl|rfl|rfl
   ·exact db 1 _ 26 rfl rfl
   ·exact db 2 _ 26 rfl rfl
   ·exact db 3 _ 26 rfl rfl
   ·exact db 4 _ 26 rfl rfl
   ·exact db 5 _ 26 rfl rfl
   ·exact db 6 _ 26 rfl rfl
   ·exact db 7 _ 26 rfl rfl
   ·exact db 8 _ 26 rfl rfl
  clear db dl;simp only[yZ,qA,y8,yY,qz,yV,yR,qx,yT,yU,qy,qw,tDc,y9,qt,qu,qr,yN,yP,qm,yd,qo,qp,qq,ym,List.replicate,Option.join_some,Option.join_none,ya,ql,yK,yJ,tSl,qd,yI,qe,slT,yp,Int.reduceLT,Int.reduceLE,Int.reduceToNat,Int.reduceNeg,Int.reduceAdd,Int.reduceSub,Int.reduceMul,forall_const,yC,yB,yF,yE,qa,yD,yk,yh,yj,yo,yn,tC,tOp,rI,rI0,tUn,rU,yH,tB,yt,tOr,yu,yv,yw,yx,tIf,yr,yq,yL,qk,tCB,yM,rEq,rNe,qf,qg,qh,qi,qj,qc,yG,ipI,L2.start,JA,JQ,Jp,List.length_nil,List.cons_append,List.nil_append,Jt,List.replicate_succ,List.replicate_zero,Nat.reduceAdd,Nat.reduceSub,List.getElem?_cons_zero,List.getElem?_cons_succ,List.set_cons_zero,List.set_cons_succ,Option.some.injEq,V.int.injEq,V.bl.injEq,V.ref.injEq,V.str.injEq,exists_eq_left',exists_eq_left,exists_eq',exists_and_left,List.cons.injEq,and_true,true_and,and_self,and_assoc,decide_eq_true_eq,if_true,if_false,Bool.true_eq_false,Js,Bool.not_eq_true',Bool.not_true,Bool.not_false,decide_eq_false_iff_not,ite_true,ite_false,reduceCtorEq,false_and,exists_false,false_or,or_false,and_false,tBM,xq,xw,Nat.reduceLeDiff];refine⟨rfl,ixL (SqL.of f7) (v:= .int d0) rfl ⟨d0,rfl,ls,_,rfl,SqL.of f7,λlc A8 _ t8 f8=> ?_⟩⟩;obtain⟨ys,hys⟩: ∃ys:List Int,ys=([d1,d2,d3,d4,d5,d6,d7,d8]:List Int).take (1+d0).toNat:=⟨_,rfl⟩
  have yb: ∀y∈ys,0<=y/\y<26:=λy hy=>bx y (by rw[hys] at hy;exact List.mem_of_mem_take hy);have yl:(ys.length:Int)=1+d0:=by
   rw[hys,JB];simp only[Jp,List.length_nil];omega
  have f8':A8 lc=some (.lst (ys.map V.int)):=by
   rw[f8,zkx _ 'o' (by show (2+d0:Int)<=11;omega),show (2+d0 - 1).toNat=(1+d0).toNat by omega,hys,List.map_take];have e8:(1+d0).toNat<=8:=by omega
   generalize (1+d0).toNat=n at e8;show some (HO.lst (List.take n ([V.int d1,V.int d2,V.int d3,V.int d4,V.int d5,V.int d6,V.int d7,V.int d8]++ [V.int d9,V.int d10])))=some (HO.lst (List.take n [V.int d1,V.int d2,V.int d3,V.int d4,V.int d5,V.int d6,V.int d7,V.int d8]));rw[List.take_append_of_le_length (by simp only[Jp,List.length_nil];omega)]
  clear f8 hys;refine⟨lc,rfl,⟨_,SqL.of f8'⟩,λlw hlw aw=> ?_⟩;refine ut (mI λd=> .str (SL [97+d.toNat])) (xr (SqL.of f8')) hlw (by rw[Ja];exact yQ 'o') (λx H4 K1 hx sm k1=> ?_) (λA9 t9 f9=> ?_)
  ·obtain⟨d,hd,rfl⟩:=Jw.mp hx;have db:=yb d hd;lge_open0
   exact⟨qC (by simp),_,j3 db.1 db.2,k1 H4 (zj.refl _)⟩
  obtain⟨nm,hnm⟩: ∃nm:List Nat,nm=ys.map λd=>97+d.toNat:=⟨_,rfl⟩
  have nl:(nm.length:Int)=1+d0:=by rw[hnm,Ja];exact yl
  have nok:jq nm:=⟨'o','o',λx hx=>by
   rw[hnm] at hx;obtain⟨d,hd,rfl⟩:=Jw.mp hx
   have:=yb d hd;omega⟩
  have f9':A9 lw=some (.lst ((nm.map λb=> [b]).map λy=>V.str (SL y))):=by
   rw[f9,hnm,List.map_map,List.map_map,List.map_map];rfl
  refine⟨lw,rfl,nm.map λb=> [b],SqL.of f9',by rw[j6,Ja];omega,?_⟩;rw[j4];have s29:=(((((((t1.trans t2).trans t3).trans t4).trans t5).trans t6).trans t7).trans t8).trans t9;have e29:=s29 _ _ e2;have f79:=t9 _ _ (t8 _ _ f7);obtain⟨R2,hR2⟩: ∃R2:St->Hp->Prop,R2=λσ' H'=>zj H H'/\(∃zs:List (V×Pl),zs.length<=i+1/\0<zs.length/\wc K H' zs/\(∀z∈zs,vV z.2)/\(zs.map λz=>z.2.1).Nodup/\H' pp=some (.lst (zs.map (·.1))))/\ ∃x4 x5 x6,σ'= [some (.int k),some (.str (SL azL)),some (.ref pp),some (.int m),x4,x5,x6]:=⟨_,rfl⟩
  refine⟨R2,?_,λσ3 H3 h3=> ?_⟩
  ·simp only[yZ,qA,y8,yY,qz,yV,yR,qx,yT,yU,qy,qw,tDc,y9,qt,qu,qr,yN,yP,qm,yd,qo,qp,qq,ym,List.replicate,Option.join_some,Option.join_none,ya,ql,yK,yJ,tSl,qd,yI,qe,slT,yp,Int.reduceLT,Int.reduceLE,Int.reduceToNat,Int.reduceNeg,Int.reduceAdd,Int.reduceSub,Int.reduceMul,forall_const,yC,yB,yF,yE,qa,yD,yk,yh,yj,yo,yn,tC,tOp,rI,rI0,tUn,rU,yH,tB,yt,tOr,yu,yv,yw,yx,tIf,yr,yq,yL,qk,tCB,yM,rEq,rNe,qf,qg,qh,qi,qj,qc,yG,ipI,L2.start,JA,JQ,Jp,List.length_nil,List.cons_append,List.nil_append,Jt,List.replicate_succ,List.replicate_zero,Nat.reduceAdd,Nat.reduceSub,List.getElem?_cons_zero,List.getElem?_cons_succ,List.set_cons_zero,List.set_cons_succ,Option.some.injEq,V.int.injEq,V.bl.injEq,V.ref.injEq,V.str.injEq,exists_eq_left',exists_eq_left,exists_eq',exists_and_left,List.cons.injEq,and_true,true_and,and_self,and_assoc,decide_eq_true_eq,if_true,if_false,Bool.true_eq_false,Js,Bool.not_eq_true',Bool.not_true,Bool.not_false,decide_eq_false_iff_not,ite_true,ite_false,reduceCtorEq,false_and,exists_false,false_or,or_false,and_false,tBM,xq,xw,Nat.reduceLeDiff];refine⟨⟨_,SqL.of e29⟩,λln hln an=> ?_⟩;refine xl (λj xs _=>xs=(zs.take j).map λz=>V.str (SL z.2.1)) (xr (SqL.of e29)) hln (by rw[Ja];exact yQ 'o') (λ_ _=>rfl) (λj x xs H4 K1 K0 hx sm pv hl k1 k0=> ?_) (λxs A10 t10 pv _ f10=> ?_)
   ·obtain⟨z,hz,rfl⟩: ∃z,zs[j]? =some z/\x=z.1:=by
     rw[Jh] at hx;obtain⟨z,e,rfl⟩:=Jk.mp hx;exact⟨z,e,rfl⟩
    obtain⟨p,ez,hq⟩:=za z (Ji hz);rw[ez];lge_open0
    refine ixT ((s29.trans sm).sqT hq) (v:= .str (SL z.2.1)) rfl (k1 _ _ (zj.refl _) λH5 _=> ?_);rw[pv,JH,hz,Jd];rfl
   rw[Ja,JC] at pv;have iv:inV (.str (SL nm)) xs=decide (nm∈zs.map λz=>z.2.1):=by
    rw[pv,<-vC,List.map_map];rfl
   have fl:xs.all xJ=true:=by
    rw[pv,List.all_map,List.all_eq_true];intro z _;rfl
   refine⟨ln,xs,rfl, .inl (SqL.of f10),rfl,fl,_,rfl,?_⟩;rw[iv];have s210:=s29.trans t10;have e210:=t10 _ _ e29;have f710:=t10 _ _ f79;by_cases hm:nm∈zs.map λz=>z.2.1
   ·rw[JN hm];rw[Jf 'd',hR2];refine⟨s2.trans s210,⟨zs,'o',?_,za.same s210,zo,zn,e210⟩,_,_,_,rfl⟩;cases zs with
    |nil=>cases hm
    |cons _ _=>exact Nat.succ_pos _
   ·rw[JO hm];rw[Jg 'd'];refine⟨.inl ⟨rfl,_,SqL.of e210⟩,ixL (SqL.of f710) (v:= .int d9) rfl (ixL (SqL.of f710) (v:= .int d10) rfl λpt A11 _ t11 f11=> ?_)⟩;have e211:=t11 _ _ e210;have np:pt≠pp:=λz=>by rw[z,e211] at f11;cases f11
    have s211:=s210.trans t11;refine⟨pp,_,_,rfl,rfl,e211,by rw[Ja];exact uj 'o',?_⟩;rw[hR2];refine⟨vR (s2.trans s211) hpp,⟨zs++ [(.ref pt,nm,d9,d10)],by rw[Jj,List.length_singleton];omega,by rw[Jj,List.length_singleton];omega,λz hz=> ?_,λz hz=> ?_,?_,?_⟩,_,_,_,rfl⟩
    ·rcases Jr.mp hz with y|y
     ·obtain⟨p,e,hq⟩:=(za.same s211) z y;exact⟨p,e,zhX hq e211⟩
     ·rw[Jm.mp y];exact⟨pt,rfl,SqT.of (by rw[zI np];exact f11)⟩
    ·rcases Jr.mp hz with y|y
     ·exact zo z y
     ·rw[Jm.mp y];exact⟨nok,b9.1,b9.2,b10.1,by show d10<=400;omega⟩
    ·rw[Jd,List.nodup_append];refine⟨zn,by simp,λa ha b hb e=> ?_⟩
     have:b=nm:=by simpa using hb
     rw[e,this] at ha;exact hm ha
    ·rw[yg,Jd];rfl
  rw[hR2] at h3;refine opq λ_ kq=> ?_;obtain⟨s3,⟨zs',zl',z1',za',zo',zn',e3⟩,y4,y5,y6,rfl⟩:=h3;apply kq;clear hR2;open_k0;exact⟨⟨'d','d','d'⟩, .inl (.inl ⟨'d','d'⟩), .inl (.inr ⟨'d','d'⟩),⟨'d','d','d'⟩, .inl (.inl ⟨'d','d'⟩),'d',Sm.pow10 (k:=50) 'd' 'd',s3,zs',zl',λ_=>z1',za',zo',zn',e3⟩
 ·refine opq λ_ kq=> ?_;obtain⟨s2,⟨zs,zl,z1,za,zo,zn,e2⟩,k,x4,x5,x6,rfl⟩:=h;apply kq;open_k0;refine q pp zs H2 s2 ⟨by rw[Ja];exact z1 'o',by rw[Ja];omega,λx hx=> ?_,by rw[List.map_map];exact zn⟩ za e2;obtain⟨z,hz,rfl⟩:=Jw.mp hx;exact zo z hz
def ziR(K:Fg):Sp:=λvs H Q _=> ∃(a:Addr) (ns:List Int),vs= [.ref a]/\SqL K H a (ns.map V.int)/\ns.length<=63/\ ∀p l (zs:List (V×Pl)) (f:Int) pc dy cc H',zj H H'->j5 (zs.map (·.2))->wc K H' zs->0<=f->f<=3500000->wY K H' pc dy cc->H' l=some (.lst (zs.map (·.1)))->H' p=some (.tup [.ref l, .int f, .ref pc])->Q (.ref p) H'
theorem sc_1g:FnScope ["_law_script","_law_plans_here"] ["_law_script"] (zJ s_1g):=⟨rfl,rfl,rfl,by decide+kernel,rfl,by decide+kernel,by decide+kernel⟩
theorem ok_1g(T:Txt w K mg t):FnOk P w K mg base (CXE P w) 5 t.a_1g t.d_1g ["_law_script"] (ziR K):=by
 refine T.fn_1g.okX sc_1g (λvs H Q E h=> ?_) (λcdv A outer s H vs Q E L hr h=> ?_)
 ·refine opq λ_ kq=> ?_;obtain⟨a,ns,rfl,hS,h63,q⟩:=h;apply kq;rfl
 refine opq λ_ kq=> ?_;obtain⟨a,ns,rfl,hS,h63,q⟩:=h;apply kq;have nd:=sc_1g.nd;refine⟨_,(zi (zu (i:=1) nd rfl (Or.inl rfl) (zr L.toLv (ok_1d T) (hr.mono 'd') (by rfl) T.mg_1d T.fn_1d.kp T.b_1d .nil (zc (zg zP (zr L.toLv (ok_13 T) (hr.mono 'd') (by rfl) T.mg_13 T.fn_13.kp T.b_13 .nil (zc (pv 0) (zc zd ze zw) zh)) zd) ze))) (zi (xz (zL (zC yf (zg zH (zr L.toLv (ok_13 T) (hr.mono 'd') (by rfl) T.mg_13 T.fn_13.kp T.b_13 .nil (zc (pv 0) (zc zd ze zw) zh)) zd) zd (zx _)) (zp (zu (i:=1) nd rfl (Or.inl rfl) (zr L.toLv (ok_1f T) (hr.mono 'd') (by rfl) T.mg_1f T.fn_1f.kp T.b_1f .nil (zc (zg zP (zr L.toLv (ok_13 T) (hr.mono 'd') (by rfl) T.mg_13 T.fn_13.kp T.b_13 .nil (zc (pv 0) (zc zd ze zw) zh)) zd) ze)))) zN)) (zp (zy (zR (zc (pv 1) (zc (zr L.toLv (ok_1a T) (hr.mono 'd') (by rfl) T.mg_1a T.fn_1a.kp T.b_1a .nil (zc (zr L.toLv (ok_13 T) (hr.mono 'd') (by rfl) T.mg_13 T.fn_13.kp T.b_13 .nil (zc (pv 0) (zc zd ze zw) zh)) ze)) (zc (zr L.toLv (ok_1b T) (hr.mono 'd') (by rfl) T.mg_1b T.fn_1b.kp T.b_1b .nil (zc (zr L.toLv (ok_13 T) (hr.mono 'd') (by rfl) T.mg_13 T.fn_13.kp T.b_13 .nil (zc (pv 0) (zc zd ze zw) zh)) ze)) ze qv) qv) zh)))))),?_⟩;open_k0;refine⟨a,ns,0,rfl,hS,h63,'d',_,rfl,_,rfl,λl zs H1 s1 zo za e1=> ?_⟩;obtain⟨R,hR⟩: ∃R:St->Hp->Prop,R=λσ' H'=>zj H H'/\ ∃(l:Addr) (zs:List (V×Pl)),j5 (zs.map (·.2))/\wc K H' zs/\H' l=some (.lst (zs.map (·.1)))/\σ'= [some (.ref a),some (.ref l)]:=⟨_,rfl⟩
 refine⟨R,?_,λσ2 H2 h2=> ?_⟩
 ·open_k0;refine⟨a,ns,0,rfl,s1.seq hS,h63,'d',?_⟩;try open_k0
  split
  ·refine⟨a,ns,0,rfl,s1.seq hS,h63,'d',_,rfl,_,rfl,λl' zs' H2 s2 zo' za' e2=> ?_⟩;rw[hR];exact⟨s1.trans s2,l',zs',zo',za',e2,rfl⟩
  ·rw[hR];exact⟨s1,l,zs,zo,za,e1,rfl⟩
 rw[hR] at h2;refine opq λ_ kq=> ?_;obtain⟨s2,l2,zs2,zo2,za2,e2,rfl⟩:=h2;apply kq;clear hR;open_k0;refine⟨a,ns,1,rfl,s2.seq hS,h63,'d',_,rfl,λf H3 s3 f0 f1=> ?_⟩;refine⟨a,ns,2,rfl,(s2.trans s3).seq hS,h63,'d',_,rfl,λpc dy cc H4 s4 hc=> ?_⟩;intro p H5 _ s5 e5;have s25:=(s3.trans s4).trans s5;exact q p l2 zs2 f pc dy cc H5 (s2.trans s25) zo2 (za2.same s25) f0 f1 (hc.same s5) (s25 _ _ e2) e5
theorem ub(f:Int)(dy:Bool)(c:Int):atI (begs f dy c 61) (-1)=some (.int (Cal.beg f dy c 60)):=by
 refine ziw ?_;unfold begs;rw[JP,Jd];exact List.getLast?_concat
def zlV(K:Fg):Sp:=λvs H Q _=> ∃(y en:Int) (lb:Addr) (f:Int) (dy:Bool) (c sp:Int),vs= [.int y, .int en, .ref lb, .int sp]/\SqL K H lb (begs f dy c 61)/\0<=f/\f<=3500000/\Cal.CycOk dy c/\1<=sp/\sp<=60/\ ∀d H',zj H H'->f<=d->d<Cal.beg f dy c 60->Q (.int d) H'
theorem sc_1h:FnScope ["_law_y","_law_entered","_law_begins_here","_law_spans","_law_day_here"] ["_law_y","_law_entered","_law_begins_here","_law_spans"] (zJ s_1h):=⟨rfl,rfl,rfl,by decide+kernel,rfl,by decide+kernel,by decide+kernel⟩
theorem ok_1h(T:Txt w K mg t):FnOk P w K mg base (CXE P w) 1 t.a_1h t.d_1h ["_law_y","_law_entered","_law_begins_here","_law_spans"] (zlV K):=by
 refine T.fn_1h.okX sc_1h (λvs H Q E h=> ?_) (λcdv A outer s H vs Q E L hr h=> ?_)
 ·refine opq λ_ kq=> ?_;obtain⟨y,en,lb,f,dy,c,sp,rfl,hS,f0,f1,hc,sp0,sp1,q⟩:=h;apply kq;rfl
 refine opq λ_ kq=> ?_;obtain⟨y,en,lb,f,dy,c,sp,rfl,hS,f0,f1,hc,sp0,sp1,q⟩:=h;apply kq;have nd:=sc_1h.nd;refine⟨_,(zi (zu (i:=4) nd rfl (Or.inl rfl) (zq zG (zY (zc (pv 1) (zc (zq zG (pv 2) (zg zH (zg zP (pv 0) zd) (pv 3)) (λ_ _=>rfl)) (zc (zg yc (zq zG (pv 2) (zg zH (zg zP (pv 0) zd) (pv 3)) (λ_ _=>rfl)) zd) (zc (zg zK (pv 1) (zg zH (zg zP (pv 0) zd) zd)) ze zO) zO) z6) zh)) (zg zH (pv 0) zd) (λ_ _=>rfl))) (zi (xz (zL (zC yf (zg zH (pv 0) zd) zd (zx _)) (zp (zu (i:=4) nd rfl (Or.inl rfl) (zg yc (pv 1) (zg zH (zg zP (pv 0) zd) zd)))) zN)) (zi (xz (zL (zC yf (zg zH (pv 0) zd) zd (zx _)) (zp (zu (i:=4) nd rfl (Or.inl rfl) (zg zK (zq zG (pv 2) zd (λ_ _=>rfl)) (zg zH (zg zP (pv 0) zd) (zg yc (zq zG (pv 2) (pv 3) (λ_ _=>rfl)) (zq zG (pv 2) zd (λ_ _=>rfl))))))) zN)) (zp (zy (zZ (ziq (by rfl)) (by rfl) T.no_max zlq (zc (zq zG (pv 2) zd (λ_ _=>rfl)) (zc (zZ (vb (by rfl)) (by rfl) T.no_min vd (zc (pv 4) (zc (zg yc (zq zG (pv 2) (vN vO zd) (λ_ _=>rfl)) zd) ze zO) zh)) ze qv) z6))))))),?_⟩;have b0:Cal.beg f dy c 0=f:=Cal.beg_zero f0 f1;have bs: ∀k,0<=k->k<=60->f<=Cal.beg f dy c k:=λk h0 h1=>Cal.beg_ge f0 f1 hc h0 h1;have bl:f<Cal.beg f dy c 60:=by have:=Cal.beg_lt (k:=0) (j:=60) f0 f1 hc 'd' 'd' 'd';omega
 open_k0;have m1:0<=y / 8 % sp/\y / 8 % sp<sp:=⟨JM _ 'o',JK _ 'o'⟩
 refine⟨'o',ixL hS (qK m1.1 'o') ⟨'o',ixL hS (qK m1.1 'o') ⟨_,rfl,λp1 H1 _ s1 e1=> ?_⟩⟩⟩;generalize Cal.beg f dy c (y / 8 % sp)=bk at e1;have e1':H1 p1=some (.lst (([en,bk,bk - 1,en+y / 8 % 40]:List Int).map V.int)):=e1;have y4:0<=y % 4/\y % 4<4:=by omega
 refine ixL (SqL.of e1') (xZ y4.1 y4.2) ?_;clear e1 e1';generalize ([en,bk,bk - 1,en+y / 8 % 40]:List Int).getD (y % 4).toNat 0=d;have hS1:=s1.seq hS;obtain⟨R,hR⟩: ∃R:St->Hp->Prop,R=λσ' H'=>H'=H1/\ ∃d:Int,σ'= [some (.int y),some (.int en),some (.ref lb),some (.int sp),some (.int d)]:=⟨_,rfl⟩
 refine⟨R,?_,λσ2 H2 h2=> ?_⟩
 ·open_k0;rw[hR];exact qE (λ_=>⟨rfl,_,rfl⟩) (λ_=>⟨rfl,_,rfl⟩)
 rw[hR] at h2;obtain⟨rfl,d',rfl⟩:=h2;open_k0;refine⟨R,?_,λσ3 H3 h3=> ?_⟩
 ·open_k0;rw[hR];refine qE (λ_=> ?_) (λ_=>⟨rfl,_,rfl⟩);have bsp:=Cal.beg_lt (k:=0) (j:=sp) f0 f1 hc 'd' 'o' sp1;refine ixL hS1 (qK 'd' 'd') (ixL hS1 (qK 'o' 'o') ?_);refine ixL hS1 (qK 'd' 'd') ⟨_,rfl,_,rfl,'o',_,rfl,rfl,_,rfl⟩
 rw[hR] at h3;obtain⟨rfl,d3,rfl⟩:=h3;clear hR;open_k0;refine ixL hS1 (qK 'd' 'd') (ixL hS1 (ub f dy c) ⟨_,rfl,?_⟩);refine⟨_,rfl,q _ _ s1 ?_ ?_⟩
 ·rw[b0];split<;>split<;>omega
 ·rw[b0];split<;>split<;>omega
def zmx(nms:List (List Nat))(live:List Int)(d:Int):Ch->Prop
 | .plan d' nm=>d'=d/\nm∈nms
 | .seats d' n=>d'=d/\0<=n/\n<=1000000
 | .word w d'=>w<4/\d'=d
 | .undo k=>k∈live
 | .grant a=>1<=a/\a<10 ^ 30
 | .back=>True
def TmC(nms:List (List Nat))(d:Int)(ch:Ch):Prop:=zV ch=true/\zE ch=d/\zmx nms [] d ch
def zj0(K:Fg):Sp:=λvs H Q _=> ∃(x d:Int) (ln ll:Addr) (nms:List (List Nat)),vs= [.int x, .int d, .ref ln, .ref ll]/\x % 13<9/\SqL K H ln (nms.map λn=>V.str (SL n))/\1<=nms.length/\ ∀p ch H',zj H H'->TmC nms d ch->H' p=some (.tup ((chD ch).map sv))->Q (.ref p) H'
theorem zg7{i:Int}(h0:0<=i)(h1:i<4): ∃k,k<4/\atI [V.str (SL [104,111,108,100]),V.str (SL [103,111]),V.str (SL [115,116,111,112]),V.str (SL [108,97,115,116])] i=some (.str (SL (xS k))):=by
 have h:i=0\/i=1\/i=2\/i=3:=by omega
 rcases h with rfl|rfl|rfl|rfl
 ·exact⟨0,'d',rfl⟩
 ·exact⟨1,'d',rfl⟩
 ·exact⟨2,'d',rfl⟩
 ·exact⟨3,'d',rfl⟩
theorem sc_1i:FnScope ["_law_x","_law_day_here","_law_names","_law_live","_law_kind"] ["_law_x","_law_day_here","_law_names","_law_live"] (zJ s_1i):=⟨rfl,rfl,rfl,by decide+kernel,rfl,by decide+kernel,by decide+kernel⟩
theorem ok_1i(T:Txt w K mg t):FnOk P w K mg base (CXE P w) 1 t.a_1i t.d_1i ["_law_x","_law_day_here","_law_names","_law_live"] (zj0 K):=by
 refine T.fn_1i.okX sc_1i (λvs H Q E h=> ?_) (λcdv A outer s H vs Q E L hr h=> ?_)
 ·refine opq λ_ kq=> ?_;obtain⟨x,d,ln,ll,nms,rfl,hx,hN,n1,q⟩:=h;apply kq;rfl
 refine opq λ_ kq=> ?_;obtain⟨x,d,ln,ll,nms,rfl,hx,hN,n1,q⟩:=h;apply kq;have nd:=sc_1i.nd;refine⟨_,(zi (zu (i:=4) nd rfl (Or.inl rfl) (zg zH (pv 0) zd)) (zi (zL (zC qP (pv 4) zd (zx _)) (zp (zy (zR (zc (zQ st_11) (zc (pv 1) (zc (zq zG (pv 2) (zg zH (zg zP (pv 0) zd) (zZ qI (by rfl) T.no_len qJ (zc (pv 2) ze))) (λ_ _=>rfl)) ze z6) zh) zw)))) zN) (zi (zL (zC qP (pv 4) zd (zx _)) (zp (zy (zR (zc (zQ st_12) (zc (pv 1) (zc (zq zG (zY (zc zd (zc zd (zc zd (zc zd (zc zd (zc (zg zH (zg zP (pv 0) zd) zd) ze zO) zw) zw) zw) zw) zw)) (zg zH (zg zP (pv 0) zd) zd) (λ_ _=>rfl)) ze z6) zh) zw)))) zN) (zi (zL (zC qP (pv 4) zd (zx _)) (zp (zy (zR (zc (zq zG (zY (zc (zQ st_22) (zc (zQ st_20) (zc (zQ st_21) (zc (zQ st_9) ze zw) zw) zw) zw)) (zg yc (pv 4) zd) (λ_ _=>rfl)) (zc (pv 1) ze zh) z6)))) zN) (zi (zL (uP (zC qP (pv 4) zd (zx _)) (uO (zC (wT hr) (pv 3) (zY ze) (zx _)))).pt (zp (zy (zR (zc (zQ st_14) (zc (zq zG (pv 3) (zg zH (zg zP (pv 0) zd) (zZ qI (by rfl) T.no_len qJ (zc (pv 3) ze))) (λ_ _=>rfl)) ze z6) zw)))) zN) (zi (zL (zC yf (pv 4) zd (zx _)) (zp (zy (zR (zc (zQ st_13) (zc (zg zK zd (zq zG (zY (zc (zg zH (zg zP (pv 0) zd) zd) (zc (zg zH (zg qY (zg zP (pv 0) zd) (zg w9 zd zd)) (zg yc (zg w9 zd zd) zd)) ze zO) zO)) (zg zH (zg zP (pv 0) zd) zd) (λ_ _=>rfl))) ze zO) zw)))) zN) (zi (zL (zC yf (pv 4) zd (zx _)) (zp (zy (zR (zc (zQ st_15) ze)))) zN) (zp (zy (zR (zc (zq zG (zY (zc (zQ st_20) (zc (zQ st_21) (zc (zQ st_22) (zc (zQ st_9) ze zw) zw) zw) zw)) (zg zH (zg zP (pv 0) zd) zd) (λ_ _=>rfl)) (zc (pv 1) ze zh) z6))))))))))),?_⟩;open_k0;refine qE (λ_=> ?_) (λ_=>qE (λ_=> ?_) (λ_=>qE (λ_=> ?_) (λh=>absurd hx h)))
 ·refine⟨_, .inl hN,?_⟩;rw[Ja];have i1:0<=x / 13 % (nms.length:Int)/\x / 13 % (nms.length:Int)<nms.length:=⟨JM _ 'o',JK _ 'o'⟩
  obtain⟨y,hy,ey⟩:=ja (ys:=nms) i1.1 i1.2;exact⟨'o',ixL hN ey λp1 H1 _ s1 e1=>q p1 (.plan d y) H1 s1 ⟨rfl,rfl,rfl,hy⟩ e1⟩
 ·intro p1 H1 _ s1 e1;have e1':H1 p1=some (.lst (([0,1,2,3,1000000,x / 104 % 1000]:List Int).map V.int)):=e1;have i6:0<=x / 13 % 6/\x / 13 % 6<6:=by omega
  have b:=vx (xs:= [0,1,2,3,1000000,x / 104 % 1000]) (lo:=0) (hi:=1000000) (λy hy=>by
   simp only[JD,List.not_mem_nil,or_false] at hy;rcases hy with rfl|rfl|rfl|rfl|rfl|rfl<;>omega) i6.1 i6.2
  exact ixL (SqL.of e1') (xZ i6.1 i6.2) λp2 H2 _ s2 e2=>q p2 (.seats d _) H2 (s1.trans s2) ⟨rfl,rfl,rfl,b.1,b.2⟩ e2
 ·intro p1 H1 _ s1 e1;obtain⟨k,hk,ek⟩:=zg7 (i:=x % 13 - 5) 'o' 'o';exact ixL (SqL.of e1) ek λp2 H2 _ s2 e2=>q p2 (.word k d) H2 (s1.trans s2) ⟨rfl,rfl,hk,rfl⟩ e2
theorem zkS{Ls:List Int}(h:zmx nms Ls d ch)(d0:f<=d)(d1:d<e):wg nms f e Ls ch:=by
 cases ch with
 |plan d' nm=>exact⟨by have:=h.1;omega,by have:=h.1;omega,h.2⟩
 |seats d' n=>exact⟨by have:=h.1;omega,by have:=h.1;omega,h.2.1,h.2.2⟩
 |word w d'=>exact⟨h.1,by have:=h.2;omega,by have:=h.2;omega⟩
 |undo k=>exact h
 |grant a=>exact h
 |back=>trivial
def zg8(K:Fg):Sp:=λvs H Q _=> ∃(la lb ln ll:Addr) (s0 s1 s2:Int) (f:Int) (dy:Bool) (c:Int) (nms:List (List Nat)),vs= [.ref la, .ref lb, .ref ln, .ref ll]/\SqL K H la ([s0,s1,s2].map V.int)/\0<=s1/\s1<9/\SqL K H lb (begs f dy c 61)/\0<=f/\f<=3500000/\Cal.CycOk dy c/\SqL K H ln (nms.map λn=>V.str (SL n))/\1<=nms.length/\ ∀p d ch H',zj H H'->f<=d->d<Cal.beg f dy c 60->TmC nms d ch->H' p=some (.tup ((chD ch).map sv))->Q (.ref p) H'
theorem sc_1j:FnScope ["_law_some","_law_begins_here","_law_names","_law_live","_law_day_here"] ["_law_some","_law_begins_here","_law_names","_law_live"] (zJ s_1j):=⟨rfl,rfl,rfl,by decide+kernel,rfl,by decide+kernel,by decide+kernel⟩
theorem ok_1j(T:Txt w K mg t):FnOk P w K mg base (CXE P w) 1 t.a_1j t.d_1j ["_law_some","_law_begins_here","_law_names","_law_live"] (zg8 K):=by
 refine T.fn_1j.okX sc_1j (λvs H Q E h=> ?_) (λcdv A outer s H vs Q E L hr h=> ?_)
 ·refine opq λ_ kq=> ?_;obtain⟨la,lb,ln,ll,s0,s1,s2,f,dy,c,nms,rfl,hA,a0,a1,hS,f0,f1,hc,hN,n1,q⟩:=h;apply kq;rfl
 refine opq λ_ kq=> ?_;obtain⟨la,lb,ln,ll,s0,s1,s2,f,dy,c,nms,rfl,hA,a0,a1,hS,f0,f1,hc,hN,n1,q⟩:=h;apply kq;have nd:=sc_1j.nd;refine⟨_,(zi (zu (i:=4) nd rfl (Or.inl rfl) (zg zK (zq zG (pv 1) zd (λ_ _=>rfl)) (zg zH (zq zG (pv 0) zd (λ_ _=>rfl)) (zg yc (zq zG (pv 1) (vN vO zd) (λ_ _=>rfl)) (zq zG (pv 1) zd (λ_ _=>rfl)))))) (zi (zL (zC qP (zq zG (pv 0) zd (λ_ _=>rfl)) zd (zx _)) (zp (zy (zR (zc (zQ st_11) (zc (pv 4) (zc (zq zG (pv 2) (zg zH (zq zG (pv 0) zd (λ_ _=>rfl)) (zZ qI (by rfl) T.no_len qJ (zc (pv 2) ze))) (λ_ _=>rfl)) ze z6) zh) zw)))) zN) (zi (zL (zC qP (zq zG (pv 0) zd (λ_ _=>rfl)) zd (zx _)) (zp (zy (zR (zc (zQ st_12) (zc (pv 4) (zc (zg zH (zq zG (pv 0) zd (λ_ _=>rfl)) zd) ze zO) zh) zw)))) zN) (zi (zL (zC qP (zq zG (pv 0) zd (λ_ _=>rfl)) zd (zx _)) (zp (zy (zR (zc (zq zG (zY (zc (zQ st_22) (zc (zQ st_20) (zc (zQ st_21) (zc (zQ st_9) ze zw) zw) zw) zw)) (zg yc (zq zG (pv 0) zd (λ_ _=>rfl)) zd) (λ_ _=>rfl)) (zc (pv 4) ze zh) z6)))) zN) (zi (zL (uP (zC qP (zq zG (pv 0) zd (λ_ _=>rfl)) zd (zx _)) (uO (zC (wT hr) (pv 3) (zY ze) (zx _)))).pt (zp (zy (zR (zc (zQ st_14) (zc (zq zG (pv 3) (zg zH (zq zG (pv 0) zd (λ_ _=>rfl)) (zZ qI (by rfl) T.no_len qJ (zc (pv 3) ze))) (λ_ _=>rfl)) ze z6) zw)))) zN) (zi (zL (zC yf (zq zG (pv 0) zd (λ_ _=>rfl)) zd (zx _)) (zp (zy (zR (zc (zQ st_13) (zc (zg zK zd (zg zH (zq zG (pv 0) zd (λ_ _=>rfl)) (zg yc (zg w9 zd zd) zd))) ze zO) zw)))) zN) (zp (zy (zR (zc (zQ st_15) ze)))))))))),?_⟩;have b0:Cal.beg f dy c 0=f:=Cal.beg_zero f0 f1;have bl:f<Cal.beg f dy c 60:=by have:=Cal.beg_lt (k:=0) (j:=60) f0 f1 hc 'd' 'd' 'd';omega
 have hA:SqL K H la [.int s0, .int s1, .int s2]:=hA;open_k0;refine ixL hS (qK 'd' 'd') (ixL hA (yi _ _) (ixL hS (ub f dy c) (ixL hS (qK 'd' 'd') ⟨_,rfl,_,rfl,_,rfl,'o',_,rfl,ixL hA (qB _ _ _) ⟨_,rfl,?_⟩⟩)));rw[b0];obtain⟨d,hd⟩: ∃d,d=f+s0 % (Cal.beg f dy c 60 - f):=⟨_,rfl⟩
 rw[<-hd];have m1:=JM s0 (show Cal.beg f dy c 60 - f≠0 by omega);have m2:=JK s0 (show 0<Cal.beg f dy c 60 - f by omega);have d0:f<=d:=by omega
 have d1:d<Cal.beg f dy c 60:=by omega
 clear hd m1 m2;refine qE (λ_=> ?_) (λ_=>ixL hA (qB _ _ _) ⟨_,rfl,qE (λ_=> ?_) (λ_=>ixL hA (qB _ _ _) ⟨_,rfl,qE (λ_=> ?_) (λh=>absurd a1 h)⟩)⟩)
 ·refine ixL hA (wZ _ _ _ _) ⟨_, .inl hN,_,rfl,?_⟩;rw[Ja];have i1:0<=s2 % (nms.length:Int)/\s2 % (nms.length:Int)<nms.length:=⟨JM _ 'o',JK _ 'o'⟩
  obtain⟨y,hy,ey⟩:=ja (ys:=nms) i1.1 i1.2;exact⟨'o',ixL hN ey λp1 H1 _ s1 e1=>q p1 d (.plan d y) H1 s1 d0 d1 ⟨rfl,rfl,rfl,hy⟩ e1⟩
 ·exact ixL hA (wZ _ _ _ _) ⟨_,rfl,λp1 H1 _ s1 e1=>q p1 d (.seats d _) H1 s1 d0 d1 ⟨rfl,rfl,rfl,'o','o'⟩ e1⟩
 ·intro p1 H1 _ u1 e1;obtain⟨k,hk,ek⟩:=zg7 (i:=s1 - 5) 'o' 'o';exact ixL (u1.seq hA) (qB _ _ _) ⟨_,rfl,ixL (SqL.of e1) ek λp2 H2 _ u2 e2=>q p2 d (.word k d) H2 (u1.trans u2) d0 d1 ⟨rfl,rfl,hk,rfl⟩ e2⟩
def qG(c:Ch):List Nat:=match c with| .plan .. => [112,108,97,110]| .seats .. => [115,101,97,116,115]|_=> [119,111,114,100]
def zlW(K:Fg):Sp:=λvs H Q _=> ∃(p:Addr) (c:Ch),vs= [.ref p]/\SqT K H p ((chD c).map sv)/\zV c=true/\ ∀H',zj H H'->Q (.str (SL (qG c))) H'
theorem sc_1k:FnScope ["_law_change_here"] ["_law_change_here"] (zJ s_1k):=⟨rfl,rfl,rfl,by decide+kernel,rfl,by decide+kernel,by decide+kernel⟩
theorem ok_1k(T:Txt w K mg t):FnOk P w K mg base (CXE P w) 1 t.a_1k t.d_1k ["_law_change_here"] (zlW K):=by
 refine T.fn_1k.okX sc_1k (λvs H Q E h=> ?_) (λcdv A outer s H vs Q E L hr h=> ?_)
 ·refine opq λ_ kq=> ?_;obtain⟨p,c,rfl,hp,tm,q⟩:=h;apply kq;rfl
 refine opq λ_ kq=> ?_;obtain⟨p,c,rfl,hp,tm,q⟩:=h;apply kq;have nd:=sc_1k.nd;refine⟨_,(zp (zy (zq zG (zY (zc (zq zU (pv 0) zd (λ_ _=>rfl)) (zc (zQ st_23) ze zw) z6)) (vw ug (by rfl) T.no_int vQ (zc (qT jN (zq zU (pv 0) zd (λ_ _=>rfl)) (zR (zc (zQ st_11) (zc (zQ st_12) ze zw) zw)) rfl) ze)) (λ_ _=>rfl)))),?_⟩;open_k0;obtain⟨r,er,_⟩:=vk tm;rw[er] at hp;refine ixT hp (yi _ _) λp1 H1 _ s1 e1=>ixT (s1.sqT hp) (yi _ _) λp2 H2 _ s2 e2=> ?_;have e2':H2 p2=some (.tup (([[112,108,97,110], [115,101,97,116,115]]:List (List Nat)).map λw=>V.str (SL w))):=e2;refine⟨p2,_,rfl, .inr (SqT.of e2'),rfl,rfl, .inr ⟨_,rfl,?_⟩⟩;rw[Jg rfl,vC];have fin:=q H2 (s1.trans s2);have e1':=SqL.of (K:=K) (s2 _ _ e1);cases c with
 |plan d nm=>exact ixL e1' (yi _ _) fin
 |seats d n=>exact ixL e1' (yi _ _) fin
 |word w d=>
  have h:=uJ w;rw[show decide (chW (.word w d)∈ [[112,108,97,110], [115,101,97,116,115]])=false from JO λz=>by
   rcases JD.mp z with z|z
   ·exact h.2.1 z
   ·exact h.2.2 (Jm.mp z)]
  exact ixL e1' (qB _ _ _) fin
 |undo=>cases tm
 |grant=>cases tm
 |back=>cases tm
def xV(K:Fg)(H:Hp)(nms:List (List Nat))(f e:Int)(zs:List Cz):Prop:=(∀z∈zs,SqT K H z.1 ((chD z.2).map sv)/\(f<=zE z.2/\zE z.2<e)/\TmC nms (zE z.2) z.2)/\zs.Pairwise (λx y=> ¬(qG x.2=qG y.2/\zE x.2=zE y.2))
theorem xV.same{zs:List Cz}(h:xV K H nms f e zs)(s:zj H H'):xV K H' nms f e zs:=⟨λz hz=>⟨s.sqT (h.1 z hz).1,(h.1 z hz).2⟩,h.2⟩
theorem xV.snoc{zs:List Cz}{p:Addr}{c:Ch}(h:xV K H nms f e zs)(er:H r=some (.lst ys))(ep:H p=some (.tup ((chD c).map sv)))(d0:f<=d)(d1:d<e)(tc:TmC nms d c)(n: ¬ ∃z∈zs,qG z.2=qG c/\zE z.2=zE c)(k: ∀b o,b≠r->H b=some o->H' b=some o):xV K H' nms f e (zs++ [(p,c)]):=by
 refine⟨λz hz=> ?_,?_⟩
 ·rcases Jr.mp hz with hz|hz
  ·exact⟨wV (h.1 z hz).1 er k,(h.1 z hz).2⟩
  ·rw[Jm.mp hz];obtain⟨t1,rfl,t3⟩:=tc;exact⟨SqT.of (k _ _ (λz:p=r=>by rw[z,er] at ep;cases ep) ep),⟨d0,d1⟩,t1,rfl,t3⟩
 ·rw[List.pairwise_append];exact⟨h.2,List.pairwise_singleton ..,λx hx y hy z=>n ⟨x,hx,by rw[Jm.mp hy] at z;exact z⟩⟩
def sd(c:Ch):D:= .tup [.str (qG c), .int (zE c)]
theorem zj1(a b:Ch):qR 1 (sd a) (sd b):=by
 show∀(j:Nat) (x y:D),_->_->qR 0 x y;intro j x y hx hy;match j,hx,hy with
 |0,hx,hy=>cases hx;cases hy;exact⟨rfl,rfl⟩
 |1,hx,hy=>cases hx;cases hy;exact⟨rfl,rfl⟩
 |n+2,hx,_=>cases hx
theorem zk5(a b:Ch):eqb 1 (sd a) (sd b)=true↔qG a=qG b/\zE a=zE b:=by
 show ((qG a==qG b) && ((zE a==zE b) && true))=true↔_;simp
theorem zj2(zs:List Cz)(c:Ch):((zs.map λz=>sd z.2).any λe=>eqb 1 e (sd c))=decide (∃z∈zs,qG z.2=qG c/\zE z.2=zE c):=by
 rw[Bool.eq_iff_iff,List.any_eq_true,decide_eq_true_iff];constructor
 ·rintro⟨d,hd,q⟩;obtain⟨z,hz,rfl⟩:=Jw.mp hd;exact⟨z,hz,(zk5 _ _).mp q⟩
 ·rintro⟨z,hz,q⟩;exact⟨_,Jw.mpr ⟨z,hz,rfl⟩,(zk5 _ _).mpr q⟩
theorem kL{K:Fg}{H:Hp}: ∀{zs:List Cz} {as:List Addr},as.length=zs.length->(∀(i:Nat) (a:Addr) (z:Cz),as[i]? =some a->zs[i]? =some z->H a=some (.tup [.str (SL (qG z.2)), .int (zE z.2)]))->all2 (Dp K H 1) (zs.map λz=>sd z.2) (as.map V.ref)
 | [], [],_,_=>trivial
 |z::zs,a::as,h,g=>⟨wJ (SqT.of (g 0 a z rfl rfl)) ⟨xL,xB,trivial⟩,kL (by simpa using h) λi a z h1 h2=>g (i+1) a z (by simpa using h1) (by simpa using h2)⟩
 | [],_::_,h,_=>by cases h
 |_::_, [],h,_=>by cases h
def zkT(K:Fg):Sp:=λvs H Q _=> ∃(a:Addr) (ns:List Int) (h:Int) (lb:Addr) (f:Int) (dy:Bool) (c:Int) (ln:Addr) (nms:List (List Nat)),vs= [.ref a, .int h, .ref lb, .ref ln]/\H a=some (.lst (ns.map V.int))/\ns.length<=12/\SqL K H lb (begs f dy c 61)/\0<=f/\f<=3500000/\Cal.CycOk dy c/\SqL K H ln (nms.map λn=>V.str (SL n))/\1<=nms.length/\ ∀r zs H',zj H H'->H r=none->xV K H' nms f (Cal.beg f dy c 60) zs->zs.length<=12->H' r=some (.lst (zs.map λz=>V.ref z.1))->Q (.ref r) H'
theorem sc_1l:FnScope ["_law_cells","_law_head","_law_begins_here","_law_names","_law_spans","_law_terms_here","_law_k","_law_x","_law_day_here","_law_change_here"] ["_law_cells","_law_head","_law_begins_here","_law_names"] (zJ s_1l):=⟨rfl,rfl,rfl,by decide+kernel,rfl,by decide+kernel,by decide+kernel⟩
theorem ok_1l(T:Txt w K mg t):FnOk P w K mg base (CXE P w) 2 t.a_1l t.d_1l ["_law_cells","_law_head","_law_begins_here","_law_names"] (zkT K):=by
 refine T.fn_1l.okX sc_1l (λvs H Q E h=> ?_) (λcdv A outer s H vs Q E L hr h=> ?_)
 ·refine opq λ_ kq=> ?_;obtain⟨a,ns,h,lb,f,dy,c,ln,nms,rfl,eA,h12,hS,f0,f1,hc,hN,n1,q⟩:=h;apply kq;rfl
 refine opq λ_ kq=> ?_;obtain⟨a,ns,h,lb,f,dy,c,ln,nms,rfl,eA,h12,hS,f0,f1,hc,hN,n1,q⟩:=h;apply kq;have nd:=sc_1l.nd;refine⟨_,(zi (zu (i:=4) nd rfl (Or.inl rfl) (zq zG (zY (zc zd (zc zd ze zw) zw)) (vw ug (by rfl) T.no_int vQ (zc (qT yf (zg zH (pv 1) zd) zd (zx _)) ze)) (λ_ _=>rfl))) (zi (xz (zL (zC yf (zg zH (zg zP (pv 1) zd) zd) zd (zx _)) (zp (zu (i:=0) nd rfl (Or.inl rfl) (wQ wU (zg wb (pv 0) (xA (n:=1) (N:= ["_law_k","_law_head"]) (js:= [1]) (by rfl) rfl rfl (wz (by rfl) T.no_range (zc zd ze)) (λa=>(zD (i:=0) (show List.Nodup (["_law_k","_law_head"]:List Str) from by decide+kernel) rfl (Or.inl rfl))) (λa=>xh) (λa=>(zr vy (ok_14 T) (hr.mono 'd') (by rfl) T.mg_14 T.fn_14.kp T.b_14 .nil (zc (pv 1) (zc (zg zK zd (pv 0)) ze zO) zh))))) uY (xI zd)))) zN)) (zi (zu (i:=5) nd rfl (Or.inl rfl) (zY ze)) (zi (xy (by passes_own) rfl (wz (by rfl) T.no_range (zc (zZ qI (by rfl) T.no_len qJ (zc (pv 0) ze)) ze)) (zD (i:=6) nd rfl (Or.inl rfl)) (zi (zu (i:=7) nd rfl (Or.inl rfl) (zr L.toLv (ok_14 T) (hr.mono 'd') (by rfl) T.mg_14 T.fn_14.kp T.b_14 .nil (zc (zq zG (pv 0) (pv 6) (λ_ _=>rfl)) (zc (pv 6) ze zh) z6))) (zi (zu (i:=8) nd rfl (Or.inl rfl) (zr L.toLv (ok_1h T) (hr.mono 'd') (by rfl) T.mg_1h T.fn_1h.kp T.b_1h .nil (zc (zr L.toLv (ok_14 T) (hr.mono 'd') (by rfl) T.mg_14 T.fn_14.kp T.b_14 .nil (zc (pv 7) (zc (zg zK (pv 6) zd) ze zO) zh)) (zc (zq zG (pv 2) (zg zH (zg zP (pv 7) zd) zd) (λ_ _=>rfl)) (zc (pv 2) (zc (pv 4) ze zh) zh) z6) qv))) (zi (zu (i:=9) nd rfl (Or.inl rfl) (zr L.toLv (ok_1i T) (hr.mono 'd') (by rfl) T.mg_1i T.fn_1i.kp T.b_1i .nil (zc (zg zK (zg zH (zg zP (pv 7) zd) zd) (zg qY zd (zg zP (pv 7) zd))) (zc (pv 8) (zc (pv 3) (zc (zY ze) ze) zh) zh) zO))) (zp (zL (zC (zf2 hr) (zR (zc (zr L.toLv (ok_1k T) (hr.mono 'd') (by rfl) T.mg_1k T.fn_1k.kp T.b_1k .nil (zc (pv 9) ze)) (zc (pv 8) ze zh) qv)) (xA (n:=1) (N:= ["_law_one"]) (js:= []) (by rfl) rfl rfl (qO (pv 5)) (λa=>(zD (i:=0) (show List.Nodup (["_law_one"]:List Str) from by decide+kernel) rfl (Or.inl rfl))) (λa=>xh) (λa=>(zR (zc (zr vy (ok_1k T) (hr.mono 'd') (by rfl) T.mg_1k T.fn_1k.kp T.b_1k .nil (zc (pv 0) ze)) (zc (zq zU (pv 0) zd (λ_ _=>rfl)) ze z6) qv)))) rfl) (zp (qX (qQ PySem.F.plainAttrs_list PySem.F.slot_list_append PySem.F.type_list_append xg (pv 5) (zc (pv 9) ze)))) zN)))))) (zp (zy (pv 5))))))),?_⟩;have b0:Cal.beg f dy c 0=f:=Cal.beg_zero f0 f1;have bl:f<Cal.beg f dy c 60:=by have:=Cal.beg_lt (k:=0) (j:=60) f0 f1 hc 'd' 'd' 'd';omega
 open_k0;intro p1 H1 _ s1 e1;obtain⟨sp,esp,sp0,sp1⟩: ∃sp:Int,atI [V.int 10,V.int 60] (if h % 8=5 then 1 else 0)=some (.int sp)/\1<=sp/\sp<=60:=by
  by_cases z:h % 8=5
  ·rw[Jg z];exact⟨60,rfl,'d','d'⟩
  ·rw[Jf z];exact⟨10,rfl,'d','d'⟩
 refine ixL (SqL.of e1) esp ?_;obtain⟨R,hR⟩: ∃R:St->Hp->Prop,R=λσ' H'=> ∃(a2:Addr) (ms:List Int),zj H H'/\H' a2=some (.lst (ms.map V.int))/\ms.length<=12/\σ'= [some (.ref a2),some (.int h),some (.ref lb),some (.ref ln),some (.int sp),none,none,none,none,none]:=⟨_,rfl⟩
 refine⟨R,?_,λσ2 H2 h2=> ?_⟩
 ·open_k0;refine qE (λ_=> ?_) (λ_=>by rw[hR];exact⟨a,ns,s1,s1 _ _ eA,h12,rfl⟩);simp only[xq,ue,yZ,qA,y8,yY,qz,yV,yR,qx,yT,yU,qy,qw,tDc,y9,qt,qu,qr,yN,yP,qm,yd,qo,qp,qq,ym,List.replicate,Option.join_some,Option.join_none,ya,ql,yK,yJ,tSl,qd,yI,qe,slT,yp,Int.reduceLT,Int.reduceLE,Int.reduceToNat,Int.reduceNeg,Int.reduceAdd,Int.reduceSub,Int.reduceMul,forall_const,yC,yB,yF,yE,qa,yD,yk,yh,yj,yo,yn,tC,tOp,rI,rI0,tUn,rU,yH,tB,yt,tOr,yu,yv,yw,yx,tIf,yr,yq,yL,qk,tCB,yM,rEq,rNe,qf,qg,qh,qi,qj,qc,yG,ipI,L2.start,JA,JQ,Jp,List.length_nil,List.cons_append,List.nil_append,Jt,List.replicate_succ,List.replicate_zero,Nat.reduceAdd,Nat.reduceSub,List.getElem?_cons_zero,List.getElem?_cons_succ,List.set_cons_zero,List.set_cons_succ,Option.some.injEq,V.int.injEq,V.bl.injEq,V.ref.injEq,V.str.injEq,exists_eq_left',exists_eq_left,exists_eq',exists_and_left,List.cons.injEq,and_true,true_and,and_self,and_assoc,decide_eq_true_eq,if_true,if_false,Bool.true_eq_false,Js,Bool.not_eq_true',Bool.not_true,Bool.not_false,decide_eq_false_iff_not,ite_true,ite_false,reduceCtorEq,false_and,exists_false,false_or,or_false,and_false];refine⟨'d','d',λld hld aa=> ?_⟩;refine xl (λj xs _=> ∃gs:List Int,xs=gs.map V.int/\gs.length=j) (ur 0 12 H1) hld (by rw[xi];exact yQ 'd') (λ_ _=>⟨[],rfl,rfl⟩) (λj y xs H8 K1 K0 hxx sm pv hl k1 k0=> ?_) (λxs H8 s8 pv _ w8=> ?_)
  ·have hj:=(Jc.mp hxx).1;rw[xi] at hj;rw[jc hj] at hxx;cases hxx;obtain⟨gs,rfl,gl⟩:=pv;lge_open0
   exact⟨_,_,rfl,'o','o',k1 _ _ (zj.refl _) λH' _=>⟨gs++ [_],by rw[Jd];rfl,by rw[Jj,gl];rfl⟩⟩
  rw[xi] at pv;obtain⟨gs,rfl,gl⟩:=pv;refine⟨a,ld,_,_,rfl,rfl,(s1.trans s8) _ _ eA,w8,qC (by rw[Ja,Ja,gl];omega),λr9 H9 _ s9 e9=>⟨r9,_,rfl,SqL.of e9,λr10 H10 _ s10 e10=> ?_⟩⟩;rw[show ((12:Int))=((12:Nat):Int) from rfl,zhY,<-Jd,<-List.map_take] at e10;rw[hR];exact⟨r10,(ns++gs).take 12,((s1.trans s8).trans s9).trans s10,e10,by rw[JB];omega,rfl⟩
 rw[hR] at h2;clear hR;refine opq λ_ kq=> ?_;obtain⟨a2,ms,s2,eM,m12,rfl⟩:=h2;apply kq;open_k0;intro r H3 fr s3 eR0;have fr0:H r=none:=s2.free fr;have ra:r≠a2:=λz=>by rw[z,eM] at fr;cases fr
 have s03:=s2.trans s3
 ((try dsimp only);refine xM λR hR=> ?_;w_why)
 refine⟨_, .inl (SqL.of (s3 _ _ eM)),?_⟩;rw[Ja];refine⟨'o','o',hR _ _ ?_⟩;clear hR;rw[JF];obtain⟨Pv,hPv⟩: ∃Pv:Nat->St->Hp->Prop,Pv=λi σ1 H5=> ∃(zs:List Cz) (x6 x7 x8 x9:Option V),zj H H5/\H5 a2=some (.lst (ms.map V.int))/\H5 r=some (.lst (zs.map λz=>V.ref z.1))/\xV K H5 nms f (Cal.beg f dy c 60) zs/\zs.length<=i/\σ1= [some (.ref a2),some (.int h),some (.ref lb),some (.ref ln),some (.int sp),some (.ref r),x6,x7,x8,x9]:=⟨_,rfl⟩
 refine vq (n:=ms.length) Pv (by rw[hPv];exact⟨[],_,_,_,_,s03,s3 _ _ eM,eR0,⟨λz hz=>(nomatch hz), .nil⟩,Je _,rfl⟩) (λi σ1 H5 hi hv=> ?_) (λσ1 H5 hv=> ?_)
 ·rw[hPv] at hv;refine opq λ_ kq=> ?_;obtain⟨zs,x6,x7,x8,x9,s5,eM5,eR,tR,zl,rfl⟩:=hv;apply kq;lgec_open0
  refine ixL (SqL.of eM5) (xZ 'o' 'o') ⟨_,_,rfl,'o','o',_,_,rfl,'o','o',_,rfl,?_⟩;generalize xG (ms.getD (0+(i:Int)).toNat 0) (0+(i:Int))=x;generalize xG x (0+(i:Int)+30)=y;refine ixL (s5.seq hS) (qK 'o' 'o') ⟨y,_,lb,f,dy,c,sp,rfl,s5.seq hS,f0,f1,hc,sp0,sp1,λd J1 u1 d0 d1=>⟨_,rfl,_,rfl, .inl ⟨'d','d'⟩,λpl J2 _ u2 g2=>⟨_,d,ln,pl,nms,rfl,'o',((s5.trans u1).trans u2).seq hN,n1,λp ch J3 u3 tc g3=>⟨p,ch,rfl,SqT.of g3,tc.1,λJ4 u4 pt J5 _ u5 eT=> ?_⟩⟩⟩⟩;have u15:=(((u1.trans u2).trans u3).trans u4).trans u5;have tday:=tc.2.1;have eR:=u15 _ _ eR;have tR:=tR.same u15;have s5:=s5.trans u15;have eM5:=u15 _ _ eM5;have g3:=(u4.trans u5) _ _ g3;rw[<-tday] at eT;clear u15 u1 u2 u3 u4 u5;simp only[xq,xw,yZ,qA,y8,yY,qz,yV,yR,qx,yT,yU,qy,qw,tDc,y9,qt,qu,qr,yN,yP,qm,yd,qo,qp,qq,ym,List.replicate,Option.join_some,Option.join_none,ya,ql,yK,yJ,tSl,qd,yI,qe,slT,yp,Int.reduceLT,Int.reduceLE,Int.reduceToNat,Int.reduceNeg,Int.reduceAdd,Int.reduceSub,Int.reduceMul,forall_const,yC,yB,yF,yE,qa,yD,yk,yh,yj,yo,yn,tC,tOp,rI,rI0,tUn,rU,yH,tB,yt,tOr,yu,yv,yw,yx,tIf,yr,yq,yL,qk,tCB,yM,rEq,rNe,qf,qg,qh,qi,qj,qc,yG,ipI,L2.start,JA,JQ,Jp,List.length_nil,List.cons_append,List.nil_append,Jt,List.replicate_succ,List.replicate_zero,Nat.reduceAdd,Nat.reduceSub,List.getElem?_cons_zero,List.getElem?_cons_succ,List.set_cons_zero,List.set_cons_succ,Option.some.injEq,V.int.injEq,V.bl.injEq,V.ref.injEq,V.str.injEq,exists_eq_left',exists_eq_left,exists_eq',exists_and_left,List.cons.injEq,and_true,true_and,and_self,and_assoc,decide_eq_true_eq,if_true,if_false,Bool.true_eq_false,Js,Bool.not_eq_true',Bool.not_true,Bool.not_false,decide_eq_false_iff_not,ite_true,ite_false,reduceCtorEq,false_and,exists_false,false_or,or_false,and_false];refine⟨⟨_,SqL.of eR⟩,λlc hlc aa=> ?_⟩;refine xl (λj xs Hx=> ∃as:List Addr,xs=as.map V.ref/\as.length=j/\ ∀(i:Nat) (a:Addr) (z:Cz),as[i]? =some a->zs[i]? =some z->Hx a=some (.tup [.str (SL (qG z.2)), .int (zE z.2)])) (xr (SqL.of eR)) hlc (by rw[Ja];exact yQ 'o') (λ_ _=>⟨[],rfl,rfl,λi a z h=>by rw[List.getElem?_nil] at h;cases h⟩) (λj y xs H8 K1 K0 hxx sm pv hl8 k1 k0=> ?_) (λxs H8 s8 pv _ w8=> ?_)
  ·refine opq λ_ kq=> ?_;obtain⟨as,rfl,al,ab⟩:=pv;rw[Jh] at hxx;obtain⟨z,hz,rfl⟩:=Jk.mp hxx;have hzm:=Ji hz;obtain⟨hq,_,tm,_⟩:=(tR.same sm).1 z hzm;obtain⟨r0,er,_⟩:=vk tm;apply kq;lge_open0
   refine⟨z.1,z.2,rfl,hq,tm,λH9 s9=> ?_⟩;rw[er] at hq;refine ixT (s9.sqT hq) (qB _ _ _) ⟨qC 'd',λpt H10 _ s10 e10=>k1 _ _ (s9.trans s10) λH11 h11=>⟨as++ [pt],by rw[Jd];rfl,by rw[Jj,al];rfl,λi a z' h1 h2=> ?_⟩⟩;have ll:=(s9.trans s10) _ _ hl8;by_cases ij:i<as.length
   ·rw[List.getElem?_append_left ij] at h1;have h3:=(s9.trans s10) _ _ (ab i a z' h1 h2);exact h11 _ _ (λz=>by rw[z,ll] at h3;cases h3) h3
   ·rw[List.getElem?_append_right 'o'] at h1;have i0:i - as.length=0:=by
     cases h:i - as.length with
     |zero=>rfl
     |succ m=>rw[h] at h1;cases h1
    rw[i0] at h1;cases h1
    have:i=j:=by omega
    subst this;rw[hz] at h2;cases h2;exact h11 _ _ (λz=>by rw[z,ll] at e10;cases e10) e10
  rw[Ja] at pv;refine opq λ_ kq=> ?_;obtain⟨as,rfl,al,ab⟩:=pv;apply kq;refine⟨lc,as,1,zs.map λz=>sd z.2,sd ch,rfl,SqL.of w8,kL al ab,wJ (SqT.of (s8 _ _ eT)) ⟨xL,xB,trivial⟩,'d',λe he=> ?_,?_⟩
  ·obtain⟨z,_,rfl⟩:=Jw.mp he;exact zj1 _ _
  rw[Jg rfl,zj2];have eR8:=s8 _ _ eR;refine⟨_,rfl,qE (λz=>⟨.inl ⟨rfl,_,SqL.of eR8⟩,r,_,_,rfl,rfl,eR8,yQ (by rw[Ja];omega),?_⟩) (λ_=> ?_)⟩
  ·have nx: ¬ ∃z∈zs,qG z.2=qG ch/\zE z.2=zE ch:=λy=>by rw[JN y] at z;cases z
   rw[hPv];refine⟨zs++ [(p,ch)],_,_,_,_,(s5.trans s8).put fr0 _,?_,?_,(tR.same s8).snoc eR8 (s8 _ _ g3) d0 d1 tc nx λb o n e=>by rw[zI n];exact e,by rw[Jj];exact Nat.succ_le_succ zl,rfl⟩
   ·have:=s8 _ _ eM5;rw[zI (λz=>ra z.symm)];exact this
   ·rw[yg,Jd];rfl
  ·rw[hPv];exact⟨zs,_,_,_,_,s5.trans s8,s8 _ _ eM5,eR8,tR.same s8,Nat.le_succ_of_le zl,rfl⟩
 ·rw[hPv] at hv;refine opq λ_ kq=> ?_;obtain⟨zs,x6,x7,x8,x9,s5,eM5,eR,tR,zl,rfl⟩:=hv;apply kq;open_k0;exact q r zs H5 s5 fr0 tR 'o' eR
def zhE(K:Fg):Sp:=λvs H Q _=> ∃(a:Addr) (ns:List Int) (lb:Addr) (f:Int) (dy:Bool) (c:Int) (ln:Addr) (nms:List (List Nat)),vs= [.ref a, .ref lb, .ref ln]/\H a=some (.lst (ns.map V.int))/\ns.length<=12/\SqL K H lb (begs f dy c 61)/\0<=f/\f<=3500000/\Cal.CycOk dy c/\SqL K H ln (nms.map λn=>V.str (SL n))/\1<=nms.length/\ ∀r zs H',zj H H'->H r=none->xV K H' nms f (Cal.beg f dy c 60) zs->zs.length<=12->H' r=some (.lst (zs.map λz=>V.ref z.1))->Q (.ref r) H'
theorem sc_1m:FnScope ["_law_cells","_law_begins_here","_law_names","_law_terms_here","_law_cell","_law_some","_law_change_here"] ["_law_cells","_law_begins_here","_law_names"] (zJ s_1m):=⟨rfl,rfl,rfl,by decide+kernel,rfl,by decide+kernel,by decide+kernel⟩
theorem ok_1m(T:Txt w K mg t):FnOk P w K mg base (CXE P w) 2 t.a_1m t.d_1m ["_law_cells","_law_begins_here","_law_names"] (zhE K):=by
 refine T.fn_1m.okX sc_1m (λvs H Q E h=> ?_) (λcdv A outer s H vs Q E L hr h=> ?_)
 ·refine opq λ_ kq=> ?_;obtain⟨a,ns,lb,f,dy,c,ln,nms,rfl,eA,h12,hS,f0,f1,hc,hN,n1,q⟩:=h;apply kq;rfl
 refine opq λ_ kq=> ?_;obtain⟨a,ns,lb,f,dy,c,ln,nms,rfl,eA,h12,hS,f0,f1,hc,hN,n1,q⟩:=h;apply kq;have nd:=sc_1m.nd;refine⟨_,(zi (zu (i:=3) nd rfl (Or.inl rfl) (zY ze)) (zi (xy (by passes_own) rfl (qO (pv 0)) (zD (i:=4) nd rfl (Or.inl rfl)) (zi (zu (i:=5) nd rfl (Or.inl rfl) (zr L.toLv (ok_1e T) (hr.mono 'd') (by rfl) T.mg_1e T.fn_1e.kp T.b_1e .nil (zc (pv 4) (zc (zY (zc (zg yc (zq zG (pv 1) (vN vO zd) (λ_ _=>rfl)) (zq zG (pv 1) zd (λ_ _=>rfl))) (zc zd (zc zd ze zw) zw) zO)) ze) zh))) (zi (zu (i:=6) nd rfl (Or.inl rfl) (zr L.toLv (ok_1j T) (hr.mono 'd') (by rfl) T.mg_1j T.fn_1j.kp T.b_1j .nil (zc (pv 5) (zc (pv 1) (zc (pv 2) (zc (zY ze) ze) zh) zh) zh))) (zp (zL (zC (zf2 hr) (zR (zc (zr L.toLv (ok_1k T) (hr.mono 'd') (by rfl) T.mg_1k T.fn_1k.kp T.b_1k .nil (zc (pv 6) ze)) (zc (zq zU (pv 6) zd (λ_ _=>rfl)) ze z6) qv)) (xA (n:=1) (N:= ["_law_one"]) (js:= []) (by rfl) rfl rfl (qO (pv 3)) (λa=>(zD (i:=0) (show List.Nodup (["_law_one"]:List Str) from by decide+kernel) rfl (Or.inl rfl))) (λa=>xh) (λa=>(zR (zc (zr vy (ok_1k T) (hr.mono 'd') (by rfl) T.mg_1k T.fn_1k.kp T.b_1k .nil (zc (pv 0) ze)) (zc (zq zU (pv 0) zd (λ_ _=>rfl)) ze z6) qv)))) rfl) (zp (qX (qQ PySem.F.plainAttrs_list PySem.F.slot_list_append PySem.F.type_list_append xg (pv 3) (zc (pv 6) ze)))) zN))))) (zp (zy (pv 3))))),?_⟩;have b0:Cal.beg f dy c 0=f:=Cal.beg_zero f0 f1;have bl:f<Cal.beg f dy c 60:=by have:=Cal.beg_lt (k:=0) (j:=60) f0 f1 hc 'd' 'd' 'd';omega
 have br:=Cal.beg_range (k:=60) f0 f1 hc 'd' 'd';open_k0;intro r H3 fr s3 eR0;have ra:r≠a:=λz=>by rw[z,eA] at fr;cases fr
 ((try dsimp only);refine xM λR hR=> ?_;w_why)
 refine⟨⟨_,SqL.of (s3 _ _ eA)⟩,hR _ _ ?_⟩;clear hR;obtain⟨Pv,hPv⟩: ∃Pv:Nat->St->Hp->Prop,Pv=λi σ1 H5=> ∃(zs:List Cz) (x4 x5 x6:Option V),zj H H5/\H5 r=some (.lst (zs.map λz=>V.ref z.1))/\xV K H5 nms f (Cal.beg f dy c 60) zs/\zs.length<=i/\σ1= [some (.ref a),some (.ref lb),some (.ref ln),some (.ref r),x4,x5,x6]:=⟨_,rfl⟩
 refine vM (xs:=ns.map V.int) Pv (by rw[hPv];exact⟨[],_,_,_,s3,eR0,⟨λz hz=>(nomatch hz), .nil⟩,Je _,rfl⟩) (λ_ _ _ _ h=>by rw[hPv] at h;obtain⟨_,_,_,_,s,_⟩:=h;exact SqL.of (s _ _ eA)) (λi x σ1 H5 hx hv=> ?_) (λσ1 H5 hv=> ?_)
 ·rw[hPv] at hv;refine opq λ_ kq=> ?_;obtain⟨zs,x4,x5,x6,s5,eR,tR,zl,rfl⟩:=hv;have hi:i<ns.length:=by have:=(Jc.mp hx).1;rwa[Ja] at this
  rw[Jh] at hx;obtain⟨cell,_,rfl⟩:=Jk.mp hx;apply kq;clear hx;lgec_open0
  refine ixL (s5.seq hS) (ub f dy c) (ixL (s5.seq hS) (qK 'd' 'd') ⟨_,rfl,_,rfl,?_⟩);rw[b0];intro p1 J1 _ u1 g1;have g1':J1 p1=some (.lst (([Cal.beg f dy c 60 - f,9,1000001]:List Int).map V.int)):=g1;refine⟨cell,p1,_,rfl,SqL.of g1',by show 3<=100;decide,λz hz=> ?_,λp2 ds J2 u2 dl db g2=> ?_⟩
  ·simp only[JD,List.not_mem_nil,or_false] at hz;rcases hz with rfl|rfl|rfl
   ·exact⟨'o','o'⟩
   ·decide
   ·decide
  obtain⟨y0,y1,y2,rfl⟩: ∃y0 y1 y2,ds= [y0,y1,y2]:=by
   match ds,dl with
   | [a,b,c],_=>exact⟨a,b,c,rfl⟩
  have r1:=db 1 _ _ rfl rfl;clear db dl g1 g1';intro pl J3 _ u3 g3;have u13:=(u1.trans u2).trans u3;refine⟨p2,lb,ln,pl,y0,y1,y2,f,dy,c,nms,rfl,SqL.of (u3 _ _ g2),r1.1,r1.2,(s5.trans u13).seq hS,f0,f1,hc,(s5.trans u13).seq hN,n1,λp d ch J4 u4 d0 d1 tc g4=>⟨p,ch,rfl,SqT.of g4,tc.1,λJ5 u5=> ?_⟩⟩;obtain⟨r0,er,_⟩:=vk tc.1;have g4':=g4;rw[er] at g4';refine ixT (u5.sqT (SqT.of g4')) (qB _ _ _) λpt J6 _ u6 eT=> ?_;clear g4' er;have u16:=((u13.trans u4).trans u5).trans u6;have eR:=u16 _ _ eR;have tR:=tR.same u16;have s5:=s5.trans u16;have g3:=(u5.trans u6) _ _ g4;clear u16 u13 u1 u2 u3 u4 u5 u6 g4 g2;simp only[xq,xw,yZ,qA,y8,yY,qz,yV,yR,qx,yT,yU,qy,qw,tDc,y9,qt,qu,qr,yN,yP,qm,yd,qo,qp,qq,ym,List.replicate,Option.join_some,Option.join_none,ya,ql,yK,yJ,tSl,qd,yI,qe,slT,yp,Int.reduceLT,Int.reduceLE,Int.reduceToNat,Int.reduceNeg,Int.reduceAdd,Int.reduceSub,Int.reduceMul,forall_const,yC,yB,yF,yE,qa,yD,yk,yh,yj,yo,yn,tC,tOp,rI,rI0,tUn,rU,yH,tB,yt,tOr,yu,yv,yw,yx,tIf,yr,yq,yL,qk,tCB,yM,rEq,rNe,qf,qg,qh,qi,qj,qc,yG,ipI,L2.start,JA,JQ,Jp,List.length_nil,List.cons_append,List.nil_append,Jt,List.replicate_succ,List.replicate_zero,Nat.reduceAdd,Nat.reduceSub,List.getElem?_cons_zero,List.getElem?_cons_succ,List.set_cons_zero,List.set_cons_succ,Option.some.injEq,V.int.injEq,V.bl.injEq,V.ref.injEq,V.str.injEq,exists_eq_left',exists_eq_left,exists_eq',exists_and_left,List.cons.injEq,and_true,true_and,and_self,and_assoc,decide_eq_true_eq,if_true,if_false,Bool.true_eq_false,Js,Bool.not_eq_true',Bool.not_true,Bool.not_false,decide_eq_false_iff_not,ite_true,ite_false,reduceCtorEq,false_and,exists_false,false_or,or_false,and_false];refine⟨⟨_,SqL.of eR⟩,λlc hlc aa=> ?_⟩;refine xl (λj xs Hx=> ∃as:List Addr,xs=as.map V.ref/\as.length=j/\ ∀(i:Nat) (a:Addr) (z:Cz),as[i]? =some a->zs[i]? =some z->Hx a=some (.tup [.str (SL (qG z.2)), .int (zE z.2)])) (xr (SqL.of eR)) hlc (by rw[Ja];exact yQ 'o') (λ_ _=>⟨[],rfl,rfl,λi a z h=>by rw[List.getElem?_nil] at h;cases h⟩) (λj y xs H8 K1 K0 hxx sm pv hl8 k1 k0=> ?_) (λxs H8 s8 pv _ w8=> ?_)
  ·refine opq λ_ kq=> ?_;obtain⟨as,rfl,al,ab⟩:=pv;rw[Jh] at hxx;obtain⟨z,hz,rfl⟩:=Jk.mp hxx;have hzm:=Ji hz;obtain⟨hq,_,tm,_⟩:=(tR.same sm).1 z hzm;obtain⟨r0,er,_⟩:=vk tm;apply kq;lge_open0
   refine⟨z.1,z.2,rfl,hq,tm,λH9 s9=> ?_⟩;rw[er] at hq;refine ixT (s9.sqT hq) (qB _ _ _) ⟨qC 'd',λpt H10 _ s10 e10=>k1 _ _ (s9.trans s10) λH11 h11=>⟨as++ [pt],by rw[Jd];rfl,by rw[Jj,al];rfl,λi a z' h1 h2=> ?_⟩⟩;have ll:=(s9.trans s10) _ _ hl8;by_cases ij:i<as.length
   ·rw[List.getElem?_append_left ij] at h1;have h3:=(s9.trans s10) _ _ (ab i a z' h1 h2);exact h11 _ _ (λz=>by rw[z,ll] at h3;cases h3) h3
   ·rw[List.getElem?_append_right 'o'] at h1;have i0:i - as.length=0:=by
     cases h:i - as.length with
     |zero=>rfl
     |succ m=>rw[h] at h1;cases h1
    rw[i0] at h1;cases h1
    have:i=j:=by omega
    subst this;rw[hz] at h2;cases h2;exact h11 _ _ (λz=>by rw[z,ll] at e10;cases e10) e10
  rw[Ja] at pv;refine opq λ_ kq=> ?_;obtain⟨as,rfl,al,ab⟩:=pv;apply kq;refine⟨lc,as,1,zs.map λz=>sd z.2,sd ch,rfl,SqL.of w8,kL al ab,wJ (SqT.of (s8 _ _ eT)) ⟨xL,xB,trivial⟩,'d',λe he=> ?_,?_⟩
  ·obtain⟨z,_,rfl⟩:=Jw.mp he;exact zj1 _ _
  rw[Jg rfl,zj2];have eR8:=s8 _ _ eR;refine⟨_,rfl,qE (λz=>⟨.inl ⟨rfl,_,SqL.of eR8⟩,r,_,_,rfl,rfl,eR8,yQ (by rw[Ja];omega),?_⟩) (λ_=> ?_)⟩
  ·have nx: ¬ ∃z∈zs,qG z.2=qG ch/\zE z.2=zE ch:=λy=>by rw[JN y] at z;cases z
   rw[hPv];refine⟨zs++ [(p,ch)],_,_,_,(s5.trans s8).put fr _,?_,(tR.same s8).snoc eR8 (s8 _ _ g3) d0 d1 tc nx λb o n e=>by rw[zI n];exact e,by rw[Jj];exact Nat.succ_le_succ zl,rfl⟩;rw[yg,Jd];rfl
  ·rw[hPv];exact⟨zs,_,_,_,s5.trans s8,eR8,tR.same s8,Nat.le_succ_of_le zl,rfl⟩
 ·rw[hPv] at hv;refine opq λ_ kq=> ?_;obtain⟨zs,x4,x5,x6,s5,eR,tR,zl,rfl⟩:=hv;apply kq;open_k0;exact q r zs H5 s5 fr tR (by rw[Ja] at zl;omega) eR
def stC(cs:List Ch):List Ch:=(zX cs).map λk=>cs.getD k.toNat .back
theorem zig(c:Ch):(zX cs).map (λk=>(cs++ [c]).getD k.toNat .back)=stC cs:=by
 refine List.map_congr_left λk hk=> ?_
 have:=(wL cs).2 k hk;rw[Jo,Jo,List.getElem?_append_left 'o']
theorem kM{c:Ch}(h:zV c=true):stC (cs++ [c])=stC cs++ [c]:=by
 have e:zX (cs++ [c])=zX cs++ [(cs.length:Int)]:=by
  rw[vE];cases c<;>first|rfl|cases h
 unfold stC;rw[e,Jd]
 have:=zig (cs:=cs) c;unfold stC at this;rw[this];simp
theorem zj3{c:Ch}(h:qD c=true):stC (cs++ [c])=stC cs:=by
 have e:zX (cs++ [c])=zX cs:=by
  rw[vE];cases c<;>first|rfl|cases h
 unfold stC;rw[e];exact zig c
theorem zih{c:Ch}(h:zV c=true):stC (cs++ [c]++ [.undo cs.length])=stC cs:=by
 have e:zX (cs++ [c])=zX cs++ [(cs.length:Int)]:=by
  rw[vE];cases c<;>first|rfl|cases h
 have e2:zX (cs++ [c]++ [.undo cs.length])=zX cs:=by
  rw[vE,e];show (zX cs++ [(cs.length:Int)]).erase (cs.length:Int)=_;rw[List.erase_append_right _ (λz=>by have:=(wL cs).2 _ z;omega)];simp
 unfold stC;rw[e2];refine List.map_congr_left λk hk=> ?_
 have:=(wL cs).2 k hk;rw[Jo,Jo,JL,List.getElem?_append_left 'o']
theorem zg9{c:Ch}(h:zV c=true):(cs.length:Int)∈zX (cs++ [c]):=by
 have e:zX (cs++ [c])=zX cs++ [(cs.length:Int)]:=by
  rw[vE];cases c<;>first|rfl|cases h
 rw[e];exact Jr.mpr (.inr (Jm.mpr rfl))
structure Lat (K:Fg) (H:Hp) (le:Addr) (nms:List (List Nat)) (f e en:Int) (es:List En):Prop where
 li:H le=some (.lst (es.map (·.1)))
 at':yX K H es
 ok:qS nms f e es
 lo:f<=en
 hi:en<e
 day: ∀y∈es,y.2.2.1<=en
theorem Lat.same{K:Fg}{H H':Hp}{le:Addr}{nms:List (List Nat)}{f e en:Int}{es:List En}(L:Lat K H le nms f e en es)(s:zj H H'):Lat K H' le nms f e en es:=⟨s _ _ L.li,L.at'.same s,L.ok,L.lo,L.hi,L.day⟩
theorem Lat.later{le:Addr}{en':Int}(L:Lat K H le nms f e en es)(h:en<=en')(h2:en'<e):Lat K H le nms f e en' es:=⟨L.li,L.at',L.ok,by have:=L.lo;omega,h2,λy hy=>by have:=L.day y hy;omega⟩
theorem Lat.put{le:Addr}{pe p:Addr}(L:Lat K H le nms f e en es)(ep:H pe=some (.tup [.int en, .ref p]))(ec:SqT K H p ((chD ch).map sv))(ci:wg nms f e (zX (chs es)) ch):Lat K (upd H le (.lst (es.map (·.1)++ [.ref pe]))) le nms f e en (es++ [(.ref pe,p,en,ch)]):=by
 have k: ∀b o,b≠le->H b=some o->upd H le (.lst (es.map (·.1)++ [.ref pe])) b=some o:=λb o n h=>by rw[zI n];exact h
 refine⟨by rw[yg,Jd];rfl,λz hz=> ?_,L.ok.snoc L.lo L.hi L.day ci,L.lo,L.hi,λy hy=> ?_⟩
 ·rcases Jr.mp hz with hz|hz
  ·exact L.at'.off L.li k z hz
  ·rw[Jm.mp hz];exact⟨pe,rfl,SqT.of (k _ _ (λz=>by rw[z,L.li] at ep;cases ep) ep),wV ec L.li k⟩
 ·rcases Jr.mp hy with hy|hy
  ·exact L.day y hy
  ·rw[Jm.mp hy];exact Jz _
def Lft(K:Fg)(H:Hp)(ll:Addr)(nms:List (List Nat))(f e:Int)(us:List Cz):Prop:=H ll=some (.lst (us.map λz=>V.ref z.1))/\ ∀z∈us,SqT K H z.1 ((chD z.2).map sv)/\zV z.2=true/\ ∀S,wg nms f e S z.2
theorem Lft.same(h:Lft K H ll nms f e us)(s:zj H H'):Lft K H' ll nms f e us:=⟨s _ _ h.1,λz hz=>⟨s.sqT (h.2 z hz).1,(h.2 z hz).2⟩⟩
theorem Lft.off{le:Addr}(h:Lft K H ll nms f e us)(n:ll≠le)(el:H le=some (.lst ys))(k: ∀b o,b≠le->H b=some o->H' b=some o):Lft K H' ll nms f e us:=⟨k _ _ n h.1,λz hz=>⟨wV (h.2 z hz).1 el k,(h.2 z hz).2⟩⟩
theorem kN(h:TmC nms d ch)(d0:f<=d)(d1:d<e): ∀S,wg nms f e S ch:=λS=>by
 have:=zkS (f:=f) (e:=e) h.2.2 d0 d1;have tm:=h.1;cases ch<;>first|exact this|cases tm
theorem uL{K:Fg}{H:Hp}{n:Nat}: ∀{us:List Cz},(∀z∈us,SqT K H z.1 ((chD z.2).map sv))->all2 (Dp K H (n+1)) (us.map λz=> .tup (chD z.2)) (us.map λz=>V.ref z.1)
 | [],_=>trivial
 |z::us,h=>⟨wJ (h z (.head _)) (zgQ _),uL λy hy=>h y (.tail _ hy)⟩
def LU(K:Fg)(H J:Hp)(le ll:Addr)(nms:List (List Nat))(f e en:Int)(es:List En)(us:List Cz):Prop:=zj H J/\Lat K J le nms f e en es/\Lft K J ll nms f e us
theorem LU.same{K:Fg}{H J J':Hp}{le ll:Addr}{nms:List (List Nat)}{f e en:Int}{es:List En}{us:List Cz}(h:LU K H J le ll nms f e en es us)(s:zj J J'):LU K H J' le ll nms f e en es us:=⟨h.1.trans s,h.2.1.same s,h.2.2.same s⟩
theorem LU.put{K:Fg}{H J:Hp}{le ll:Addr}{nms:List (List Nat)}{f e en:Int}{es:List En}{us:List Cz}{pe p:Addr}{ch:Ch}(h:LU K H J le ll nms f e en es us)(fe:H le=none)(n:ll≠le)(ep:J pe=some (.tup [.int en, .ref p]))(ec:SqT K J p ((chD ch).map sv))(ci:wg nms f e (zX (chs es)) ch):LU K H (upd J le (.lst (es.map (·.1)++ [.ref pe]))) le ll nms f e en (es++ [(.ref pe,p,en,ch)]) us:=
 ⟨h.1.put fe _,h.2.1.put ep ec ci,h.2.2.off n h.2.1.li λb o n e=>by rw[zI n];exact e⟩
theorem wO(es:List En)(z:En):chs (es++ [z])=chs es++ [z.2.2.2]:=by unfold chs;rw[Jd];rfl
theorem Lft.pop(h:Lft K H ll nms f e us)(j:Nat):Lft K (upd H ll (.lst ((us.map λz=>V.ref z.1).eraseIdx j))) ll nms f e (us.eraseIdx j):=by
 refine⟨by rw[yg,zfx],λz hz=> ?_⟩;have hm:=List.mem_of_mem_eraseIdx hz;exact⟨wV (h.2 z hm).1 h.1 λb o n e=>by rw[zI n];exact e,(h.2 z hm).2⟩
theorem zlX{k:Int}(h0:0<=k)(h1:k<n):ixN n k=some k.toNat:=by
 unfold ixN;rw[Jg h0,Jg h1]
theorem zk6{j:Nat}(h:j<n):seqIndex? (j:Int) n=some j:=(zhR (zlX (Int.natCast_nonneg j) 'o')).1
def zlY(K:Fg):Sp:=λvs H Q _=> ∃(lt lb ln:Addr) (zs:List Cz) (cell:Int) (f:Int) (dy:Bool) (c:Int) (nms:List (List Nat)),vs= [.ref lt, .int cell, .ref lb, .ref ln]/\H lt=some (.lst (zs.map λz=>V.ref z.1))/\xV K H nms f (Cal.beg f dy c 60) zs/\zs.length<=12/\SqL K H lb (begs f dy c 61)/\0<=f/\f<=3500000/\Cal.CycOk dy c/\SqL K H ln (nms.map λn=>V.str (SL n))/\1<=nms.length/\
 ∀le es en H',zj H H'->H le=none->Lat K H' le nms f (Cal.beg f dy c 60) en es->(stC (chs es)).Perm (zs.map (·.2))->es.length<=48->Q (.ref le) H'
theorem sc_1n:FnScope ["_law_terms_here","_law_cell","_law_begins_here","_law_names","_law_left","_law_entered","_law_entries","_law_k","_law_x"] ["_law_terms_here","_law_cell","_law_begins_here","_law_names"] (zJ s_1n):=⟨rfl,rfl,rfl,by decide+kernel,rfl,by decide+kernel,by decide+kernel⟩
theorem ok_1n(T:Txt w K mg t):FnOk P w K mg base (CXE P w) 2 t.a_1n t.d_1n ["_law_terms_here","_law_cell","_law_begins_here","_law_names"] (zlY K):=by
 refine T.fn_1n.okX sc_1n (λvs H Q E h=> ?_) (λcdv A outer s H vs Q E L hr h=> ?_)
 ·refine opq λ_ kq=> ?_;obtain⟨lt,lb,ln,zs,cell,f,dy,c,nms,rfl,eT,tT,z12,hS,f0,f1,hc,hN,n1,q⟩:=h;apply kq;rfl
 refine opq λ_ kq=> ?_;obtain⟨lt,lb,ln,zs,cell,f,dy,c,nms,rfl,eT,tT,z12,hS,f0,f1,hc,hN,n1,q⟩:=h;apply kq;have nd:=sc_1n.nd;refine⟨_,(zi (zu (i:=4) nd rfl (Or.inl rfl) (vw zeb (by rfl) T.no_list u9 (zc (pv 0) ze))) (zi (zu (i:=5) nd rfl (Or.inl rfl) (zq zG (pv 2) zd (λ_ _=>rfl))) (zi (zu (i:=6) nd rfl (Or.inl rfl) (zY ze)) (zi (zu (i:=7) nd rfl (Or.inl rfl) zd) (zi (vL (by passes_own) (zC (wT hr) (pv 4) (zY ze) (zx _)) (zi (zu (i:=8) nd rfl (Or.inl rfl) (zr L.toLv (ok_14 T) (hr.mono 'd') (by rfl) T.mg_14 T.fn_14.kp T.b_14 .nil (zc (pv 1) (zc (pv 7) ze zh) zh))) (zi (zu (i:=5) nd rfl (Or.inl rfl) (zZ (vb (by rfl)) (by rfl) T.no_min vd (zc (zg zK (pv 5) (zq zG (zY (zc zd (zc zd (zc (zg zH (zg zP (pv 8) zd) zd) (zc (zg zH (zg zP (pv 8) zd) zd) ze zO) zO) zw) zw)) (zg zH (pv 8) zd) (λ_ _=>rfl))) (zc (zg yc (zq zG (pv 2) (vN vO zd) (λ_ _=>rfl)) zd) ze zO) zO))) (zi (xz (zL (zC yf (zg zH (zg zP (pv 8) zd) zd) zd (zx _)) (zi (qX (qQ PySem.F.plainAttrs_list PySem.F.slot_list_append PySem.F.type_list_append xg (pv 6) (zc (zR (zc (pv 5) (zc (zR (zc (zQ st_11) (zc (zq zG (pv 2) (zg zH (zg zP (pv 8) zd) zd) (λ_ _=>rfl)) (zc (zq zG (pv 3) (zg zH (zg zP (pv 8) zd) (zZ qI (by rfl) T.no_len qJ (zc (pv 3) ze))) (λ_ _=>rfl)) ze z6) z6) zw)) ze xt) zh)) ze))) (zp (qX (qQ PySem.F.plainAttrs_list PySem.F.slot_list_append PySem.F.type_list_append xg (pv 6) (zc (zR (zc (pv 5) (zc (zR (zc (zQ st_14) (zc (zg yc (zZ qI (by rfl) T.no_len qJ (zc (pv 6) ze)) zd) ze zO) zw)) ze xt) zh)) ze))))) zN)) (zi (xz (zL (zC yf (zg zH (zg zP (pv 8) zd) zd) zd (zx _)) (zp (qX (qQ PySem.F.plainAttrs_list PySem.F.slot_list_append PySem.F.type_list_append xg (pv 6) (zc (zR (zc (pv 5) (zc (zq zG (zY (zc (zR (zc (zQ st_13) (zc (zg zK zd (zg zH (pv 8) zd)) ze zO) zw)) (zc (zR (zc (zQ st_15) ze)) ze xt) xt)) (zg zH (zg zP (pv 8) zd) zd) (λ_ _=>rfl)) ze z6) zh)) ze)))) zN)) (zi (qX (qQ PySem.F.plainAttrs_list PySem.F.slot_list_append PySem.F.type_list_append xg (pv 6) (zc (zR (zc (pv 5) (zc (qQ PySem.F.plainAttrs_list PySem.F.slot_list_pop PySem.F.type_list_pop zgI (pv 4) (zc (zg zH (zg zP (pv 8) zd) (zZ qI (by rfl) T.no_len qJ (zc (pv 4) ze))) ze)) ze qv) zh)) ze))) (zp (zu (i:=7) nd rfl (Or.inl rfl) (zg zK (pv 7) zd))))))))) (zp (zy (pv 6)))))))),?_⟩;have b0:Cal.beg f dy c 0=f:=Cal.beg_zero f0 f1;have bl:f<Cal.beg f dy c 60:=by have:=Cal.beg_lt (k:=0) (j:=60) f0 f1 hc 'd' 'd' 'd';omega
 open_k0;refine⟨_, .inl (SqL.of eT),λll H1 fl s1 e1=>ixL (s1.seq hS) (qK 'd' 'd') λle H2 fe s2 e2=> ?_⟩;rw[b0];have fe0:H le=none:=s1.free fe;have s02:=s1.trans s2;have lne:ll≠le:=λz=>by rw[<-z,e1] at fe;cases fe
 have L0:Lft K H2 ll nms f (Cal.beg f dy c 60) zs:=⟨s2 _ _ e1,λz hz=>⟨s02.sqT (tT.1 z hz).1,(tT.1 z hz).2.2.1,kN (tT.1 z hz).2.2 (tT.1 z hz).2.1.1 (tT.1 z hz).2.1.2⟩⟩
 have I0:Lat K H2 le nms f (Cal.beg f dy c 60) f []:=⟨e2,λz hz=>(nomatch hz),qS.nil,Jz _,bl,λy hy=>(nomatch hy)⟩
 obtain⟨Pv,hPv⟩: ∃Pv:St->Hp->Prop,Pv=λσ1 H5=> ∃(es:List En) (us:List Cz) (en:Int) (k:Nat) (x8:Option V),zj H H5/\Lat K H5 le nms f (Cal.beg f dy c 60) en es/\Lft K H5 ll nms f (Cal.beg f dy c 60) us/\(stC (chs es)++us.map (·.2)).Perm (zs.map (·.2))/\es.length+4*us.length<=48/\k+us.length<=12/\σ1= [some (.ref lt),some (.int cell),some (.ref lb),some (.ref ln),some (.ref ll),some (.int en),some (.ref le),some (.int k),x8]:=⟨_,rfl⟩
 obtain⟨mu,hmu⟩: ∃mu:St->Hp->Nat,mu=λ_ H6=>(match H6 ll with|some (.lst xs)=>xs.length|_=>0):=⟨_,rfl⟩
 have muat: ∀(σ1:St) (H6:Hp) (xs:List V),H6 ll=some (.lst xs)->mu σ1 H6=xs.length:=λσ1 H6 xs e=>by rw[hmu];dsimp only;rw[e]
 clear hmu;refine jJ Pv mu (by rw[hPv];exact⟨[],zs,f,0,_,s02,I0,L0, .refl _,by show 0+4*zs.length<=48;omega,'o',rfl⟩) (λσ1 H5 h=> ?_) ?_
 ·rw[hPv] at h;refine opq λ_ kq=> ?_;obtain⟨es,us,en,k,x8,s5,L5,U5,pm,l48,k12,rfl⟩:=h;apply kq;lgec_open0
  intro pe H6 _ s6 e6;have L6:=L5.same s6;have U6:=U5.same s6;have m5:=muat (σ1:= [some (.ref lt),some (.int cell),some (.ref lb),some (.ref ln),some (.ref ll),some (.int en),some (.ref le),some (.int k),x8]) _ _ U5.1;refine⟨1, .lst (us.map λz=> .tup (chD z.2)), .lst [],wK (SqL.of U6.1) (uL λz hz=>(U6.2 z hz).1),wK (SqL.of e6) trivial,rfl,rfl,'d',(by intro j x y _ h;cases h),_,rfl,?_⟩;have s56:=s5.trans s6;cases hus:us with
  |nil=>
   refine zW 'd' ?_;subst hus;rw[JQ,Jt] at pm;exact q le es en H6 s56 fe0 L6 pm 'o'
  |cons w0 us'=>
   refine qZ rfl ?_;have u1:1<=us.length:=by rw[hus];exact Nat.le_add_left _ _
   clear hus;rw[m5,Ja];refine⟨cell,k,rfl,'o','o',?_⟩;generalize xG cell k=x;refine⟨_,rfl,_,rfl,λp1 J1 _ v1 g1=>⟨_,rfl,?_⟩⟩;have g1':J1 p1=some (.lst (([0,0,x / 8 % 9,x / 8 % 50]:List Int).map V.int)):=g1;have bs:=vx (xs:= [0,0,x / 8 % 9,x / 8 % 50]) (lo:=0) (hi:=50) (i:=x % 4) (λy hy=>by
    simp only[JD,List.not_mem_nil,or_false] at hy;rcases hy with rfl|rfl|rfl|rfl<;>omega) 'o' (by simp only[Jp,List.length_nil];omega)
   have s61:=s56.trans v1;refine ixL (SqL.of g1') (xZ (i:=x % 4) 'o' (by simp only[Jp,List.length_nil];omega)) ⟨_,rfl,ixL (s61.seq hS) (ub f dy c) ⟨_,rfl,?_⟩⟩;clear g1 g1';generalize ([0,0,x / 8 % 9,x / 8 % 50]:List Int).getD (x % 4).toNat 0=st at bs ⊢;obtain⟨en',hen⟩: ∃en':Int,en'=(if Cal.beg f dy c 60 - 1<en+st then Cal.beg f dy c 60 - 1 else en+st):=⟨_,rfl⟩
   rw[<-hen];have l5:=L5.hi;have e0:en<=en'/\en'<Cal.beg f dy c 60:=by rw[hen];split<;>omega
   clear hen;have LA:=(L6.same v1).later e0.1 e0.2;have UA:=U6.same v1;clear L6 U6;obtain⟨R,hR⟩: ∃R:Nat->St->Hp->Prop,R=λm σ' H'=> ∃es',zj H H'/\Lat K H' le nms f (Cal.beg f dy c 60) en' es'/\Lft K H' ll nms f (Cal.beg f dy c 60) us/\stC (chs es')=stC (chs es)/\es'.length<=es.length+m/\σ'= [some (.ref lt),some (.int cell),some (.ref lb),some (.ref ln),some (.ref ll),some (.int en'),some (.ref le),some (.int k),some (.int x)]:=⟨_,rfl⟩
   refine⟨R 2,?_,λσ2 J2 h2=> ?_⟩
   ·lgec_open0
    refine qE (λ_=> ?_) (λ_=>by rw[hR];exact⟨es,s61,LA,UA,rfl,'o',rfl⟩);obtain⟨y,hy,ey⟩:=ja (ys:=nms) (i:=x / 96 % nms.length) (JM _ 'o') (JK _ 'o');refine⟨.inl ⟨rfl,_,SqL.of LA.li⟩,ixL (s61.seq hS) (qK 'o' 'o') ⟨_, .inl (s61.seq hN),?_⟩⟩;rw[Ja];refine⟨'o',ixL (s61.seq hN) ey λpp K1 _ w1 h1 pn K2 _ w2 h2=> ?_⟩;have D:=LU.same (H:=H) ⟨s61,LA,UA⟩ (w1.trans w2);have bg1:=Cal.beg_ge (k:=x / 96 % 10) f0 f1 hc 'o' 'o';have bg2:=Cal.beg_lt (k:=x / 96 % 10) (j:=60) f0 f1 hc 'o' 'o' 'd';refine⟨le,_,_,rfl,rfl,D.2.1.li,yQ (by rw[Ja];omega),?_⟩;have D2:=D.put fe0 lne h2 (ch:= .plan (Cal.beg f dy c (x / 96 % 10)) y) (SqT.of (w2 _ _ h1)) ⟨'o',bg2,hy⟩;generalize upd K2 le (.lst (es.map (·.1)++ [.ref pn]))=K3 at D2 ⊢;refine⟨.inl ⟨rfl,_,SqL.of D2.2.1.li⟩,_, .inl (SqL.of D2.2.1.li),λpu K4 _ w4 h4 pw K5 _ w5 h5=> ?_⟩;rw[show (((es++ [((V.ref pn:V),pp,en',Ch.plan (Cal.beg f dy c (x / 96 % 10)) y)]).map (·.1)).length:Int) - 1=((chs es).length:Int) from by rw[Ja,Jj,xT];show ((es.length+1:Nat):Int) - 1=_;omega] at h4;have D3:=D2.same (w4.trans w5);refine⟨le,_,_,rfl,rfl,D3.2.1.li,yQ (by rw[Ja,Jj];show _+1<=_;omega),?_⟩;have D4:=D3.put fe0 lne h5 (ch:= .undo (chs es).length) (SqT.of (w5 _ _ h4)) (by rw[wO];exact zg9 rfl);rw[hR];exact⟨_,D4.1,D4.2.1,D4.2.2,by rw[wO,wO];exact zih rfl,by rw[Jj,Jj];exact Je _,rfl⟩
   rw[hR] at h2;refine opq λ_ kq=> ?_;obtain⟨es2,s2',L2',U2',st2,n2,rfl⟩:=h2;apply kq;lgec_open0
   refine⟨R 3,?_,λσ3 J3 h3=> ?_⟩
   ·lgec_open0
    refine qE (λ_=> ?_) (λ_=>by rw[hR];exact⟨es2,s2',L2',U2',st2,'o',rfl⟩);refine⟨.inl ⟨rfl,_,SqL.of L2'.li⟩,λpg K1 _ w1 h1 pb K2 _ w2 h2 pl K3 _ w3 h3=> ?_⟩;obtain⟨pc,ch,epc,ec,oth,ci⟩: ∃pc ch,atI [V.ref pg,V.ref pb] (x / 320 % 2)=some (.ref pc)/\SqT K K3 pc ((chD ch).map sv)/\qD ch=true/\ ∀S,wg nms f (Cal.beg f dy c 60) S ch:=by
     have i2:x / 320 % 2=0\/x / 320 % 2=1:=by omega
     rcases i2 with z|z<;>rw[z]
     ·exact⟨pg, .grant (1+x % 99),yi _ _,SqT.of ((w2.trans w3) _ _ h1),rfl,λS=>⟨'o','o'⟩⟩
     ·exact⟨pb, .back,qB _ _ _,SqT.of (w3 _ _ h2),rfl,λS=>trivial⟩
    refine ixL (SqL.of h3) epc λpn K4 _ w4 h4=> ?_;have D:=LU.same (H:=H) ⟨s2',L2',U2'⟩ (((w1.trans w2).trans w3).trans w4);refine⟨le,_,_,rfl,rfl,D.2.1.li,yQ (by rw[Ja];omega),?_⟩;have D2:=D.put fe0 lne h4 (w4.sqT ec) (ci _);rw[hR];exact⟨_,D2.1,D2.2.1,D2.2.2,by rw[wO,zj3 oth,st2],by rw[Jj];exact Nat.succ_le_succ n2,rfl⟩
   rw[hR] at h3;refine opq λ_ kq=> ?_;obtain⟨es3,s3',L3',U3',st3,n3,rfl⟩:=h3;apply kq;clear hR;lgec_open0
   have ul:(us.map λz=>V.ref z.1).length=us.length:=Ja ..;refine⟨.inl ⟨rfl,_,SqL.of L3'.li⟩, .inl ⟨rfl,_,SqL.of U3'.1⟩,_, .inl (SqL.of U3'.1),?_⟩;rw[ul];obtain⟨j,hj⟩:=Int.eq_ofNat_of_zero_le (JM (x / 1024) (show (us.length:Int)≠0 by omega));have j1:=JK (x / 1024) (show (0:Int)<us.length by omega);rw[hj] at j1 ⊢;have jl:j<us.length:=by omega
   refine opq λ_ kq=> ?_;obtain⟨u,hu⟩: ∃u,us[j]? =some u:=⟨_,Jb jl⟩
   obtain⟨hq,htm,hci⟩:=U3'.2 u (Ji hu);apply kq;refine⟨'o',ll,_,_,j, .ref u.1,rfl,rfl,U3'.1,'o','o',zk6 (by rw[ul];exact jl),by rw[Jh,hu];rfl,?_⟩;have fl0:H ll=none:=fl;have D0:LU K H (upd J3 ll (.lst ((us.map λz=>V.ref z.1).eraseIdx j))) le ll nms f (Cal.beg f dy c 60) en' es3 (us.eraseIdx j):=⟨s3'.put fl0 _,⟨by rw[zI (Ne.symm lne)];exact L3'.li,L3'.at'.off U3'.1 λb o n e=>by rw[zI n];exact e,L3'.ok,L3'.lo,L3'.hi,L3'.day⟩,U3'.pop j⟩
   have hq0:=wV (H':=upd J3 ll (.lst ((us.map λz=>V.ref z.1).eraseIdx j))) hq U3'.1 λb o n e=>by rw[zI n];exact e
   generalize upd J3 ll (.lst ((us.map λz=>V.ref z.1).eraseIdx j))=K0 at D0 hq0 ⊢;intro pn K1 _ w1 h1;have D:=D0.same w1;refine⟨le,_,_,rfl,rfl,D.2.1.li,yQ (by rw[Ja];omega),?_⟩;have D2:=D.put fe0 lne h1 (w1.sqT hq0) (hci _);have pe':=kD hu;have el:(us.eraseIdx j).length+1=us.length:=by
    have:=pe'.length_eq;rw[Jp] at this;omega
   refine⟨?_,?_⟩
   ·rw[hPv];refine⟨_,us.eraseIdx j,en',k+1,_,D2.1,D2.2.1,D2.2.2,?_,by rw[Jj];show es3.length+1+_<=_;omega,'o',rfl⟩;rw[wO,kM htm,st3,JL];exact(List.Perm.append_left _ (pe'.map (·.2)).symm).trans pm
   ·rw[muat _ _ _ D2.2.2.1,Ja];omega
 ·intro σ1 H6 Q1 Q2 hm h;obtain⟨x,hx,h3⟩:=h;refine⟨x,hx,?_⟩;obtain⟨hlen,h3⟩:=h3;refine⟨hlen,λp H' a1 a2 a3=> ?_⟩;refine opq λ_ kq=> ?_;obtain⟨n,d,e,p1,p2,p3,p4,p5,p6,k,ek,r⟩:=h3 p H' a1 a2 a3;apply kq;exact⟨n,d,e,p1,p2,p3,p4,p5,p6,k,ek,hm _ _ r⟩
def ziS(K:Fg):Sp:=λvs H Q _=> ∃(lt la lb ln:Addr) (zs:List Cz) (od:Int) (ns:List Int) (f:Int) (dy:Bool) (c:Int) (nms:List (List Nat)),vs= [.ref lt, .int od, .ref la, .ref lb, .ref ln]/\H lt=some (.lst (zs.map λz=>V.ref z.1))/\xV K H nms f (Cal.beg f dy c 60) zs/\zs.length<=12/\H la=some (.lst (ns.map V.int))/\ns.length<=63/\SqL K H lb (begs f dy c 61)/\0<=f/\f<=3500000/\Cal.CycOk dy c/\SqL K H ln (nms.map λn=>V.str (SL n))/\1<=nms.length/\
 ∀le es en H',zj H H'->H le=none->Lat K H' le nms f (Cal.beg f dy c 60) en es->(stC (chs es)).Perm (zs.map (·.2))->es.length<=48->Q (.ref le) H'
theorem sc_1o:FnScope ["_law_terms_here","_law_order","_law_cells","_law_begins_here","_law_names","_law_total","_law_left","_law_entered","_law_entries","_law_some","_law_step"] ["_law_terms_here","_law_order","_law_cells","_law_begins_here","_law_names"] (zJ s_1o):=⟨rfl,rfl,rfl,by decide+kernel,rfl,by decide+kernel,by decide+kernel⟩
theorem ok_1o(T:Txt w K mg t):FnOk P w K mg base (CXE P w) 2 t.a_1o t.d_1o ["_law_terms_here","_law_order","_law_cells","_law_begins_here","_law_names"] (ziS K):=by
 refine T.fn_1o.okX sc_1o (λvs H Q E h=> ?_) (λcdv A outer s H vs Q E L hr h=> ?_)
 ·refine opq λ_ kq=> ?_;obtain⟨lt,la,lb,ln,zs,od,ns,f,dy,c,nms,rfl,eT,tT,z12,eA,h63,hS,f0,f1,hc,hN,n1,q⟩:=h;apply kq;rfl
 refine opq λ_ kq=> ?_;obtain⟨lt,la,lb,ln,zs,od,ns,f,dy,c,nms,rfl,eT,tT,z12,eA,h63,hS,f0,f1,hc,hN,n1,q⟩:=h;apply kq;have nd:=sc_1o.nd;refine⟨_,(zi (zu (i:=5) nd rfl (Or.inl rfl) (zg yc (zq zG (pv 3) (vN vO zd) (λ_ _=>rfl)) (zq zG (pv 3) zd (λ_ _=>rfl)))) (zi (zu (i:=6) nd rfl (Or.inl rfl) (vw zeb (by rfl) T.no_list u9 (zc (pv 0) ze))) (zi (zu (i:=7) nd rfl (Or.inl rfl) (zq zG (pv 3) zd (λ_ _=>rfl))) (zi (zu (i:=8) nd rfl (Or.inl rfl) (zY ze)) (zi (vL (by passes_own) (zC (wT hr) (pv 6) (zY ze) (zx _)) (zi (zu (i:=9) nd rfl (Or.inl rfl) (zr L.toLv (ok_1e T) (hr.mono 'd') (by rfl) T.mg_1e T.fn_1e.kp T.b_1e .nil (zc (zq zG (zg wb (pv 2) (zg zhV (zY (zc zd ze)) zd)) (zg yc (zZ qI (by rfl) T.no_len qJ (zc (pv 6) ze)) zd) (λ_ _=>rfl)) (zc (zY (zc zd (zc (pv 5) (zc zd (zc (pv 5) (zc zd ze zw) zh) zw) zh) zw)) ze) z6))) (zi (zu (i:=10) nd rfl (Or.inl rfl) (zq zG (zY (zc zd (zc (zg zH (zq zG (pv 9) zd (λ_ _=>rfl)) zd) (zc (zg zH (zq zG (pv 9) zd (λ_ _=>rfl)) zd) (zc (zq zG (pv 9) zd (λ_ _=>rfl)) ze z6) zO) zO) zw)) (zq zG (pv 9) zd (λ_ _=>rfl)) (λ_ _=>rfl))) (zi (zu (i:=7) nd rfl (Or.inl rfl) (zZ (vb (by rfl)) (by rfl) T.no_min vd (zc (zg zK (pv 7) (pv 10)) (zc (zg yc (zq zG (pv 3) (vN vO zd) (λ_ _=>rfl)) zd) ze zO) zO))) (zi (xz (zL (zC yf (zq zG (pv 9) zd (λ_ _=>rfl)) zd (zx _)) (zi (qX (qQ PySem.F.plainAttrs_list PySem.F.slot_list_append PySem.F.type_list_append xg (pv 8) (zc (zR (zc (pv 7) (zc (zR (zc (zQ st_11) (zc (zg zK (zq zG (pv 3) zd (λ_ _=>rfl)) (zq zG (pv 9) zd (λ_ _=>rfl))) (zc (zq zG (pv 4) (zg zH (zq zG (pv 9) zd (λ_ _=>rfl)) (zZ qI (by rfl) T.no_len qJ (zc (pv 4) ze))) (λ_ _=>rfl)) ze z6) zO) zw)) ze xt) zh)) ze))) (zp (qX (qQ PySem.F.plainAttrs_list PySem.F.slot_list_append PySem.F.type_list_append xg (pv 8) (zc (zR (zc (pv 7) (zc (zR (zc (zQ st_14) (zc (zg yc (zZ qI (by rfl) T.no_len qJ (zc (pv 8) ze)) zd) ze zO) zw)) ze xt) zh)) ze))))) zN)) (zi (xz (zL (zC yf (zq zG (pv 9) zd (λ_ _=>rfl)) zd (zx _)) (zp (qX (qQ PySem.F.plainAttrs_list PySem.F.slot_list_append PySem.F.type_list_append xg (pv 8) (zc (zR (zc (pv 7) (zc (zR (zc (zQ st_15) ze)) ze xt) zh)) ze)))) zN)) (zi (qX (qQ PySem.F.plainAttrs_list PySem.F.slot_list_append PySem.F.type_list_append xg (pv 8) (zc (zR (zc (pv 7) (zc (qQ PySem.F.plainAttrs_list PySem.F.slot_list_pop PySem.F.type_list_pop zgI (pv 6) (zc (zg zH (pv 1) (zZ qI (by rfl) T.no_len qJ (zc (pv 6) ze))) ze)) ze qv) zh)) ze))) (zp (zu (i:=1) nd rfl (Or.inl rfl) (zg zP (pv 1) zd)))))))))) (zp (zy (pv 8)))))))),?_⟩;have b0:Cal.beg f dy c 0=f:=Cal.beg_zero f0 f1;have bl:f<Cal.beg f dy c 60:=by have:=Cal.beg_lt (k:=0) (j:=60) f0 f1 hc 'd' 'd' 'd';omega
 have br:=Cal.beg_range (k:=60) f0 f1 hc 'd' 'd';open_k0;refine ixL hS (ub f dy c) (ixL hS (qK 'd' 'd') ⟨_,rfl,_,rfl,_, .inl (SqL.of eT),λll H1 fl s1 e1=>ixL (s1.seq hS) (qK 'd' 'd') λle H2 fe s2 e2=> ?_⟩);rw[b0];have fe0:H le=none:=s1.free fe;have s02:=s1.trans s2;have lne:ll≠le:=λz=>by rw[<-z,e1] at fe;cases fe
 have L0:Lft K H2 ll nms f (Cal.beg f dy c 60) zs:=⟨s2 _ _ e1,λz hz=>⟨s02.sqT (tT.1 z hz).1,(tT.1 z hz).2.2.1,kN (tT.1 z hz).2.2 (tT.1 z hz).2.1.1 (tT.1 z hz).2.1.2⟩⟩
 have I0:Lat K H2 le nms f (Cal.beg f dy c 60) f []:=⟨e2,λz hz=>(nomatch hz),qS.nil,Jz _,bl,λy hy=>(nomatch hy)⟩
 obtain⟨tot,htot⟩: ∃tot,tot=Cal.beg f dy c 60 - f:=⟨_,rfl⟩
 rw[<-htot];obtain⟨Pv,hPv⟩: ∃Pv:St->Hp->Prop,Pv=λσ1 H5=> ∃(es:List En) (us:List Cz) (en od:Int) (x9 x10:Option V),zj H H5/\Lat K H5 le nms f (Cal.beg f dy c 60) en es/\Lft K H5 ll nms f (Cal.beg f dy c 60) us/\(stC (chs es)++us.map (·.2)).Perm (zs.map (·.2))/\es.length+4*us.length<=48/\us.length<=12/\σ1= [some (.ref lt),some (.int od),some (.ref la),some (.ref lb),some (.ref ln),some (.int tot),some (.ref ll),some (.int en),some (.ref le),x9,x10]:=⟨_,rfl⟩
 obtain⟨mu,hmu⟩: ∃mu:St->Hp->Nat,mu=λ_ H6=>(match H6 ll with|some (.lst xs)=>xs.length|_=>0):=⟨_,rfl⟩
 have muat: ∀(σ1:St) (H6:Hp) (xs:List V),H6 ll=some (.lst xs)->mu σ1 H6=xs.length:=λσ1 H6 xs e=>by rw[hmu];dsimp only;rw[e]
 clear hmu;refine jJ Pv mu (by rw[hPv];exact⟨[],zs,f,_,_,_,s02,I0,L0, .refl _,by show 0+4*zs.length<=48;omega,z12,rfl⟩) (λσ1 H5 h=> ?_) ?_
 ·rw[hPv] at h;refine opq λ_ kq=> ?_;obtain⟨es,us,en,od,x9,x10,s5,L5,U5,pm,l48,u12,rfl⟩:=h;apply kq;lgec_open0
  intro pe H6 _ s6 e6;have L6:=L5.same s6;have U6:=U5.same s6;have m5:=muat (σ1:= [some (.ref lt),some (.int od),some (.ref la),some (.ref lb),some (.ref ln),some (.int tot),some (.ref ll),some (.int en),some (.ref le),x9,x10]) _ _ U5.1;refine⟨1, .lst (us.map λz=> .tup (chD z.2)), .lst [],wK (SqL.of U6.1) (uL λz hz=>(U6.2 z hz).1),wK (SqL.of e6) trivial,rfl,rfl,'d',(by intro j x y _ h;cases h),_,rfl,?_⟩;have s56:=s5.trans s6;cases hus:us with
  |nil=>
   refine zW 'd' ?_;subst hus;rw[JQ,Jt] at pm;exact q le es en H6 s56 fe0 L6 pm 'o'
  |cons w0 us'=>
   refine qZ rfl ?_;have u1:1<=us.length:=by rw[hus];exact Nat.le_add_left _ _
   clear hus;rw[m5,Ja];intro p1 J1 _ v1 g1;refine⟨p1,12,_,rfl,rfl,g1,'d','d',by rw[sizeLine_eq];decide,?_⟩;intro p2 J2 _ v2 g2;have g2':J2 p2=some (.lst (([0,0,0,0,0,0,0,0,0,0,0,0]:List Int).map V.int)):=g2;have v12:=v1.trans v2;refine⟨la,p2,_,_,rfl,rfl,(s56.trans v12) _ _ eA,g2',qC (by rw[Ja];show _+12<=1000;omega),λp3 J3 _ v3 g3=> ?_⟩;rw[<-Jd] at g3;have v13:=v12.trans v3;refine⟨_, .inl (SqL.of (v13 _ _ U6.1)),?_⟩;rw[Ja];refine ixL (SqL.of g3) (xZ 'o' (by rw[Jj];show _<((_+12:Nat):Int);omega)) ?_;generalize (ns++ [0,0,0,0,0,0,0,0,0,0,0,0]).getD ((us.length:Int) - 1).toNat 0=cell;clear g1 g2 g2' g3;intro p4 J4 _ v4 g4;have g4':J4 p4=some (.lst (([4,tot,3,tot,5]:List Int).map V.int)):=g4;refine⟨cell,p4,_,rfl,SqL.of g4',by show 5<=100;decide,λz hz=> ?_,λp5 ds J5 v5 dl db g5=> ?_⟩
   ·simp only[JD,List.not_mem_nil,or_false] at hz;rcases hz with rfl|rfl|rfl|rfl|rfl
    ·decide
    ·exact⟨'o','o'⟩
    ·decide
    ·exact⟨'o','o'⟩
    ·decide
   obtain⟨y0,y1,y2,y3,y4,rfl⟩: ∃y0 y1 y2 y3 y4,ds= [y0,y1,y2,y3,y4]:=by
    match ds,dl with
    | [a,b,c,d,e],_=>exact⟨a,b,c,d,e,rfl⟩
   have r0:=db 0 _ _ rfl rfl;have r1:=db 1 _ _ rfl rfl;have r3:=db 3 _ _ rfl rfl;clear db dl g4 g4';have h5:J5 p5=some (.lst [.int y0, .int y1, .int y2, .int y3, .int y4]):=g5;have g5:SqL K J5 p5 [.int y0, .int y1, .int y2, .int y3, .int y4]:=SqL.of g5;have at3:atI [V.int y0, .int y1, .int y2, .int y3, .int y4] 3=some (.int y3):=rfl;have at4:atI [V.int y0, .int y1, .int y2, .int y3, .int y4] 4=some (.int y4):=rfl;refine ixL g5 (qB _ _ _) ⟨_,rfl,ixL g5 (qB _ _ _) ⟨_,rfl,ixL g5 (qB _ _ _) λp6 J6 _ v6 g6=>ixL (v6.seq g5) (yi _ _) ?_⟩⟩;have g6':J6 p6=some (.lst (([0,y1 % 8,y1 % 100,y1]:List Int).map V.int)):=g6;have bs:=vx (xs:= [0,y1 % 8,y1 % 100,y1]) (lo:=0) (hi:=y1) (i:=y0) (λx hx=>by
    simp only[JD,List.not_mem_nil,or_false] at hx;rcases hx with rfl|rfl|rfl|rfl<;>omega) r0.1 r0.2
   have v46:=(v4.trans v5).trans v6;have s66:=s56.trans (v13.trans v46);refine ixL (SqL.of g6') (xZ r0.1 r0.2) ⟨_,rfl,ixL (s66.seq hS) (ub f dy c) ⟨_,rfl,?_⟩⟩;clear g6 g6';generalize ([0,y1 % 8,y1 % 100,y1]:List Int).getD y0.toNat 0=st at bs ⊢;have g56:=v6.seq g5;obtain⟨en',hen⟩: ∃en':Int,en'=(if Cal.beg f dy c 60 - 1<en+st then Cal.beg f dy c 60 - 1 else en+st):=⟨_,rfl⟩
   rw[<-hen];have l5:=L5.hi;have e0:en<=en'/\en'<Cal.beg f dy c 60:=by rw[hen];split<;>omega
   clear hen;have LA:=(L6.same (v13.trans v46)).later e0.1 e0.2;have UA:=U6.same (v13.trans v46);clear L6 U6 v46 v13 v12;obtain⟨R,hR⟩: ∃R:Nat->St->Hp->Prop,R=λm σ' H'=> ∃es',zj H H'/\Lat K H' le nms f (Cal.beg f dy c 60) en' es'/\Lft K H' ll nms f (Cal.beg f dy c 60) us/\H' p5=some (.lst [.int y0, .int y1, .int y2, .int y3, .int y4])/\stC (chs es')=stC (chs es)/\es'.length<=es.length+m/\σ'= [some (.ref lt),some (.int od),some (.ref la),some (.ref lb),some (.ref ln),some (.int tot),some (.ref ll),some (.int en'),some (.ref le),some (.ref p5),some (.int st)]:=⟨_,rfl⟩
   have h56:=v6 _ _ h5;have pn:p5≠le:=λz=>by
    have h:=LA.li;rw[<-z,h56] at h;have h:=(HO.lst.inj (JU h)).symm;match es,h,LA.at' with
    |z::r,h,a=>
     obtain⟨p,e,_⟩:=a z (.head _);rw[JA,e] at h;cases h
   refine⟨R 2,?_,λσ2 J2 h2=> ?_⟩
   ·lgec_open0
    refine ixL g56 (wZ _ _ _ _) ⟨rfl,qE (λ_=> ?_) (λ_=>by rw[hR];exact⟨es,s66,LA,UA,h56,rfl,'o',rfl⟩)⟩;obtain⟨y,hy,ey⟩:=ja (ys:=nms) (i:=y3 % nms.length) (JM _ 'o') (JK _ 'o');refine⟨.inl ⟨rfl,_,SqL.of LA.li⟩,ixL (s66.seq hS) (qK 'd' 'd') (ixL g56 at3 ⟨_,rfl,_,rfl,ixL g56 at3 ⟨_, .inl (s66.seq hN),_,rfl,?_⟩⟩)⟩;rw[Ja,b0];refine⟨'o',ixL (s66.seq hN) ey λpp K1 _ w1 h1 pn1 K2 _ w2 h2=> ?_⟩;have D:=LU.same (H:=H) ⟨s66,LA,UA⟩ (w1.trans w2);refine⟨le,_,_,rfl,rfl,D.2.1.li,yQ (by rw[Ja];omega),?_⟩;have D2:=D.put fe0 lne h2 (ch:= .plan (f+y3) y) (SqT.of (w2 _ _ h1)) ⟨'o','o',hy⟩;have q2:upd K2 le (.lst (es.map (·.1)++ [.ref pn1])) p5=some (.lst [.int y0, .int y1, .int y2, .int y3, .int y4]):=by rw[zI pn];exact(w1.trans w2) _ _ h56
    generalize upd K2 le (.lst (es.map (·.1)++ [.ref pn1]))=K3 at D2 q2 ⊢;refine⟨.inl ⟨rfl,_,SqL.of D2.2.1.li⟩,_, .inl (SqL.of D2.2.1.li),λpu K4 _ w4 h4 pw K5 _ w5 h5=> ?_⟩;rw[show (((es++ [((V.ref pn1:V),pp,en',Ch.plan (f+y3) y)]).map (·.1)).length:Int) - 1=((chs es).length:Int) from by rw[Ja,Jj,xT];show ((es.length+1:Nat):Int) - 1=_;omega] at h4;have D3:=D2.same (w4.trans w5);refine⟨le,_,_,rfl,rfl,D3.2.1.li,yQ (by rw[Ja,Jj];show _+1<=_;omega),?_⟩;have D4:=D3.put fe0 lne h5 (ch:= .undo (chs es).length) (SqT.of (w5 _ _ h4)) (by rw[wO];exact zg9 rfl);rw[hR];exact⟨_,D4.1,D4.2.1,D4.2.2,by rw[zI pn];exact(w4.trans w5) _ _ q2,by rw[wO,wO];exact zih rfl,by rw[Jj,Jj];exact Je _,rfl⟩
   rw[hR] at h2;refine opq λ_ kq=> ?_;obtain⟨es2,s2',L2',U2',g2',st2,n2,rfl⟩:=h2;apply kq;lgec_open0
   refine⟨R 3,?_,λσ3 J3 h3=> ?_⟩
   ·lgec_open0
    refine ixL (SqL.of g2') at4 ⟨rfl,qE (λ_=> ?_) (λ_=>by rw[hR];exact⟨es2,s2',L2',U2',g2',st2,'o',rfl⟩)⟩;refine⟨.inl ⟨rfl,_,SqL.of L2'.li⟩,λpb K1 _ w1 h1 pn1 K2 _ w2 h2=> ?_⟩;have D:=LU.same (H:=H) ⟨s2',L2',U2'⟩ (w1.trans w2);refine⟨le,_,_,rfl,rfl,D.2.1.li,yQ (by rw[Ja];omega),?_⟩;have D2:=D.put fe0 lne h2 (ch:= .back) (SqT.of (w2 _ _ h1)) trivial;rw[hR];exact⟨_,D2.1,D2.2.1,D2.2.2,by rw[zI pn];exact(w1.trans w2) _ _ g2',by rw[wO,zj3 rfl,st2],by rw[Jj];exact Nat.succ_le_succ n2,rfl⟩
   rw[hR] at h3;refine opq λ_ kq=> ?_;obtain⟨es3,s3',L3',U3',_,st3,n3,rfl⟩:=h3;apply kq;clear hR;lgec_open0
   have ul:(us.map λz=>V.ref z.1).length=us.length:=Ja ..;refine⟨.inl ⟨rfl,_,SqL.of L3'.li⟩, .inl ⟨rfl,_,SqL.of U3'.1⟩,_, .inl (SqL.of U3'.1),?_⟩;rw[ul];obtain⟨j,hj⟩:=Int.eq_ofNat_of_zero_le (JM (od) (show (us.length:Int)≠0 by omega));have j1:=JK (od) (show (0:Int)<us.length by omega);rw[hj] at j1 ⊢;have jl:j<us.length:=by omega
   refine opq λ_ kq=> ?_;obtain⟨u,hu⟩: ∃u,us[j]? =some u:=⟨_,Jb jl⟩
   obtain⟨hq,htm,hci⟩:=U3'.2 u (Ji hu);apply kq;refine⟨'o',ll,_,_,j, .ref u.1,rfl,rfl,U3'.1,'o','o',zk6 (by rw[ul];exact jl),by rw[Jh,hu];rfl,?_⟩;have fl0:H ll=none:=fl;have D0:LU K H (upd J3 ll (.lst ((us.map λz=>V.ref z.1).eraseIdx j))) le ll nms f (Cal.beg f dy c 60) en' es3 (us.eraseIdx j):=⟨s3'.put fl0 _,⟨by rw[zI (Ne.symm lne)];exact L3'.li,L3'.at'.off U3'.1 λb o n e=>by rw[zI n];exact e,L3'.ok,L3'.lo,L3'.hi,L3'.day⟩,U3'.pop j⟩
   have hq0:=wV (H':=upd J3 ll (.lst ((us.map λz=>V.ref z.1).eraseIdx j))) hq U3'.1 λb o n e=>by rw[zI n];exact e
   generalize upd J3 ll (.lst ((us.map λz=>V.ref z.1).eraseIdx j))=K0 at D0 hq0 ⊢;intro pn1 K1 _ w1 h1;have D:=D0.same w1;refine⟨le,_,_,rfl,rfl,D.2.1.li,yQ (by rw[Ja];omega),?_⟩;have D2:=D.put fe0 lne h1 (w1.sqT hq0) (hci _);have pe':=kD hu;have el:(us.eraseIdx j).length+1=us.length:=by
    have:=pe'.length_eq;rw[Jp] at this;omega
   refine⟨?_,?_⟩
   ·rw[hPv];refine⟨_,us.eraseIdx j,en',od / 12,_,_,D2.1,D2.2.1,D2.2.2,?_,by rw[Jj];show es3.length+1+_<=_;omega,'o',rfl⟩;rw[wO,kM htm,st3,JL];exact(List.Perm.append_left _ (pe'.map (·.2)).symm).trans pm
   ·rw[muat _ _ _ D2.2.2.1,Ja];omega
 ·intro σ1 H6 Q1 Q2 hm h;obtain⟨x,hx,h3⟩:=h;refine⟨x,hx,?_⟩;obtain⟨hlen,h3⟩:=h3;refine⟨hlen,λp H' a1 a2 a3=> ?_⟩;refine opq λ_ kq=> ?_;obtain⟨n,d,e,p1,p2,p3,p4,p5,p6,k,ek,r⟩:=h3 p H' a1 a2 a3;apply kq;exact⟨n,d,e,p1,p2,p3,p4,p5,p6,k,ek,hm _ _ r⟩
def zlZ(K:Fg):Sp:=λvs H Q _=> ∃(pa l:Addr) (f:Int) (dy:Bool) (c:Int),vs= [.ref pa]/\xv K H pa l f dy c/\ ∀(m:Nat) H',zj H H'->(m=3\/m=12)->Q (.int m) H'
theorem sc_1p:FnScope ["_law_account_here"] ["_law_account_here"] (zJ s_1p):=⟨rfl,rfl,rfl,by decide+kernel,rfl,by decide+kernel,by decide+kernel⟩
theorem ok_1p(T:Txt w K mg t):FnOk P w K mg base (CXE P w) 1 t.a_1p t.d_1p ["_law_account_here"] (zlZ K):=by
 refine T.fn_1p.okX sc_1p (λvs H Q E h=> ?_) (λcdv A outer s H vs Q E L hr h=> ?_)
 ·refine opq λ_ kq=> ?_;obtain⟨pa,l,f,dy,c,rfl,⟨pc,f0,f1,hc,ep⟩,q⟩:=h;apply kq;rfl
 refine opq λ_ kq=> ?_;obtain⟨pa,l,f,dy,c,rfl,⟨pc,f0,f1,hc,ep⟩,q⟩:=h;apply kq;have nd:=sc_1p.nd;refine⟨_,(zp (zy (zq zG (zY (zc zd (zc zd ze zw) zw)) (vw ug (by rfl) T.no_int vQ (zc (wy (qT yf (zq zU (zq zU (pv 0) zd (λ_ _=>rfl)) zd (λ_ _=>rfl)) (zQ st_17) (zx _)) (wP (qT qP (zq zU (zq zU (pv 0) zd (λ_ _=>rfl)) zd (λ_ _=>rfl)) zd (zx _)))) ze)) (λ_ _=>rfl)))),?_⟩;open_k0;intro p1 H1 _ s1 e1;have ep1:=SqT.of (K:=K) (s1 _ _ ep);have hc1:=hc.same s1;refine ixT ep1 (wZ _ _ _ _) (ixT hc1.1 (yi _ _) ⟨rfl,qE (λ_=>ixT ep1 (wZ _ _ _ _) (ixT hc1.1 (qB _ _ _) ⟨_,rfl,?_⟩)) (λ_=>ixL (SqL.of e1) (yi _ _) (q 3 H1 s1 (.inl rfl)))⟩);by_cases z:c<31
 ·rw[Jg z];exact ixL (SqL.of e1) (qB _ _ _) (q 12 H1 s1 (.inr rfl))
 ·rw[Jf z];exact ixL (SqL.of e1) (yi _ _) (q 3 H1 s1 (.inl rfl))
def lwD(zs:List (V×Pl))(sb se:Int)(x:Rw):D:= .tup [.int x.1, .int x.2.1, .tup x.2.2, .int (qH zs sb se x.1 x.2.1 x.2.2)]
theorem kO{K:Fg}{H:Hp}{zs:List (V×Pl)}{sb se:Int}: ∀{ws:List (Addr×Rw)},(∀w∈ws,vn zs sb se H w)->all2 (Dp K H 2) ((ws.map (·.2)).map (lwD zs sb se)) (ws.map λw=>V.ref w.1)
 | [],_=>trivial
 |w::ws,h=>by
  obtain⟨s,h1,h2,h3⟩:=h w Jq;exact⟨wJ (SqT.of h1) ⟨xB,xB,h3.dp h2,xB,trivial⟩,kO λu hu=>h u (Jl _ hu)⟩
def zeB(K:Fg):Sp:=λvs H Q _=> ∃(pa l1 l2 lb la:Addr) (f:Int) (dy:Bool) (c:Int) (zs:List (V×Pl)) (ts us:List Tm) (G:Int->List D) (hd:Int),vs= [.ref pa, .ref l1, .ref l2, .ref lb, .int hd]/\xE K H pa la f dy c zs/\xc K H l1 f (Cal.beg f dy c 60) ts/\(∀t∈ts,TmX zs t.2.2.2)/\vo f dy c ts G/\xc K H l2 f (Cal.beg f dy c 60) us/\(∀t∈us,TmX zs t.2.2.2)/\vo f dy c us G/\SqL K H lb (begs f dy c 61)/\ ∀H',zj H H'->Q (.bl true) H'
theorem zmy{m:Nat}{hd:Int}{i:Nat}{x:V}(hm:m=3\/m=12)(h:(rng 0 m++ [V.int (m+hd % (58 - (m:Int))),V.int 59])[i]? =some x): ∃k:Int,x= .int k/\0<=k/\k<60/\(i<m->k=i)/\(m<=i->(m:Int)<=k):=by
 have r0:=JM hd (show (58:Int) - m≠0 by omega);have r1:=JK hd (show (0:Int)<58 - m by omega);by_cases z:i<m
 ·rw[List.getElem?_append_left (by rw[xi];exact z),jc z] at h;cases h;exact⟨_,rfl,'o','o',λ_=>by omega,λy=>by omega⟩
 ·rw[List.getElem?_append_right (by rw[xi];omega),xi] at h
  have:i - m=0\/i - m=1\/2<=i - m:=by omega
  rcases this with y|y|y
  ·rw[y] at h;cases h;exact⟨_,rfl,'o','o',λu=>by omega,λ_=>by omega⟩
  ·rw[y] at h;cases h;exact⟨_,rfl,'d','d',λu=>by omega,λ_=>by omega⟩
  ·rw[List.getElem?_eq_none (by simpa using y)] at h;cases h
theorem sc_1q:FnScope ["_law_account_here","_law_one","_law_other","_law_begins_here","_law_head","_law_many_here","_law_total","_law_k","_law_lines","_law_cost"] ["_law_account_here","_law_one","_law_other","_law_begins_here","_law_head"] (zJ s_1q):=⟨rfl,rfl,rfl,by decide+kernel,rfl,by decide+kernel,by decide+kernel⟩
theorem ok_1q(T:Txt w K mg t):FnOk P w K mg base (CXE P w) 12 t.a_1q t.d_1q ["_law_account_here","_law_one","_law_other","_law_begins_here","_law_head"] (zeB K):=by
 refine T.fn_1q.okX sc_1q (λvs H Q E h=> ?_) (λcdv A outer s H vs Q E L hr h=> ?_)
 ·refine opq λ_ kq=> ?_;obtain⟨pa,l1,l2,lb,la,f,dy,c,zs,ts,us,G,hd,rfl,hz,ht,hx,hG,hu,hy,hG2,hS,q⟩:=h;apply kq;rfl
 refine opq λ_ kq=> ?_;obtain⟨pa,l1,l2,lb,la,f,dy,c,zs,ts,us,G,hd,rfl,hz,ht,hx,hG,hu,hy,hG2,hS,q⟩:=h;apply kq;have nd:=sc_1q.nd;refine⟨_,(zi (zu (i:=5) nd rfl (Or.inl rfl) (zr L.toLv (ok_1p T) (hr.mono 'd') (by rfl) T.mg_1p T.fn_1p.kp T.b_1p .nil (zc (pv 0) ze))) (zi (zu (i:=6) nd rfl (Or.inl rfl) zd) (zi (xy (by passes_own) rfl (qO (zg wb (zjE (by rfl) (by rfl) T.no_list (by rfl) T.no_range (zc (pv 5) ze)) (zY (zc (zg zK (pv 5) (zg zH (pv 4) (zg yc zd (pv 5)))) (zc zd ze zw) zO)))) (zD (i:=7) nd rfl (Or.inl rfl)) (zi (zu (i:=8) nd rfl (Or.inl rfl) (zr L.toLv (ok_0q T) (hr.mono 'd') (by rfl) T.mg_0q T.fn_0q.kp T.b_0q .nil (zc (pv 0) (zc (pv 1) (zc (pv 7) ze zh) zh) zh))) (zi (zu (i:=9) nd rfl (Or.inl rfl) (zr L.toLv (ok_0r T) (hr.mono 'd') (by rfl) T.mg_0r T.fn_0r.kp T.b_0r .nil (zc (pv 0) (zc (pv 1) (zc (pv 7) ze zh) zh) zh))) (zi (zL (xX (zC (wT hr) (pv 8) (zr L.toLv (ok_0q T) (hr.mono 'd') (by rfl) T.mg_0q T.fn_0q.kp T.b_0q .nil (zc (pv 0) (zc (pv 2) (zc (pv 7) ze zh) zh) zh)) (zx _)) (wk (zC wB (pv 9) (zr L.toLv (ok_0r T) (hr.mono 'd') (by rfl) T.mg_0r T.fn_0r.kp T.b_0r .nil (zc (pv 0) (zc (pv 2) (zc (pv 7) ze zh) zh) zh)) (zx _)))).pt (zp (zy xQ)) zN) (zi (zL (zC wB (zZ (je (by rfl)) (by rfl) T.no_sum jd (zc (xA (n:=1) (N:= ["_law_line"]) (js:= []) (by rfl) rfl rfl (qO (pv 8)) (λa=>(zD (i:=0) (show List.Nodup (["_law_line"]:List Str) from by decide+kernel) rfl (Or.inl rfl))) (λa=>xh) (λa=>(zq zU (pv 0) zd (λ_ _=>rfl)))) ze)) (pv 9) (zx _)) (zp (zy xQ)) zN) (zp (zL (zC qP (pv 7) (pv 5) (zx _)) (zp (zu (i:=6) nd rfl (Or.inl rfl) (zg zK (pv 6) (pv 9)))) zN))))))) (zi (zL (xX (zC wB (zr L.toLv (ok_0s T) (hr.mono 'd') (by rfl) T.mg_0s T.fn_0s.kp T.b_0s .nil (zc (pv 0) (zc (pv 1) (zc (zq zG (pv 3) (pv 5) (λ_ _=>rfl)) ze z6) zh) zh)) (pv 6) (zx _)) (wk (zC wB (zr L.toLv (ok_0s T) (hr.mono 'd') (by rfl) T.mg_0s T.fn_0s.kp T.b_0s .nil (zc (pv 0) (zc (pv 2) (zc (zq zG (pv 3) (pv 5) (λ_ _=>rfl)) ze z6) zh) zh)) (pv 6) (zx _)))).pt (zp (zy xQ)) zN) (zi (zL (zC yf (pv 5) zd (zx _)) (zp (zy xQ)) zN) (zp (zy (qT yf (zr L.toLv (ok_0s T) (hr.mono 'd') (by rfl) T.mg_0s T.fn_0s.kp T.b_0s .nil (zc (pv 0) (zc (pv 1) (zc (zq zG (pv 3) zd (λ_ _=>rfl)) ze z6) zh) zh)) (zr L.toLv (ok_0s T) (hr.mono 'd') (by rfl) T.mg_0s T.fn_0s.kp T.b_0s .nil (zc (pv 0) (zc (pv 2) (zc (zq zG (pv 3) zd (λ_ _=>rfl)) ze z6) zh) zh)) (zx _))))))))),?_⟩;obtain⟨f0,f1,hc⟩:=hz.1.cyc;have b0:Cal.beg f dy c 0=f:=Cal.beg_zero f0 f1;open_k0;refine⟨pa,la,f,dy,c,rfl,hz.1,λm H1 s1 hm=> ?_⟩
 ((try dsimp only);refine xM λR hR=> ?_;w_why)
 refine⟨'o','o',λp2 H2 _ s2 e2=> ?_⟩;rw[JF] at e2;refine⟨'o',λp3 H3 _ s3 e3=>⟨p2,p3,_,_,rfl,rfl,s3 _ _ e2,e3,qC (by rw[xi];show m+2<=1000;omega),λp4 H4 _ s4 e4=>⟨p4,rfl,⟨_,SqL.of e4⟩,hR _ _ ?_⟩⟩⟩;clear hR;have s14:=((s1.trans s2).trans s3).trans s4;have kl:(rng 0 m++ [V.int (m+hd % (58 - (m:Int))),V.int 59]).length=m+2:=by rw[Jj,xi];rfl
 obtain⟨F,hF⟩: ∃F,F=dC f dy c zs G:=⟨_,rfl⟩
 obtain⟨Pv,hPv⟩: ∃Pv:Nat->St->Hp->Prop,Pv=λi σ1 H1=>zj H4 H1/\ ∃x7 x8 x9,σ1= [some (.ref pa),some (.ref l1),some (.ref l2),some (.ref lb),some (.int hd),some (.int m),some (.int (Sb F f (Cal.beg f dy c (min i m:Nat)))),x7,x8,x9]:=⟨_,rfl⟩
 refine vM (xs:=rng 0 m++ [V.int (m+hd % (58 - (m:Int))),V.int 59]) Pv ?_ (λ_ _ _ _ h=>by rw[hPv] at h;exact SqL.of (h.1 _ _ e4)) (λi x σ1 H5 hxx h=> ?_) (λσ1 H5 h=> ?_)
 ·rw[hPv];exact⟨zj.refl _,none,none,none,by rw[show Cal.beg f dy c ((min 0 m:Nat):Int)=f from by rw[Nat.zero_min];exact b0,Sb.self]⟩
 ·rw[hPv] at h;refine opq λ_ kq=> ?_;obtain⟨s5,x7,x8,x9,rfl⟩:=h;obtain⟨k,rfl,k0,k1,ka,kb⟩:=zmy hm hxx;apply kq;have bk:=Cal.beg_lt (k:=k) (j:=k+1) f0 f1 hc k0 'o' 'o';open_k0;have s15:=s14.trans s5;refine⟨pa,l1,la,f,dy,c,zs,ts,G,k,rfl,hz.same s15,ht.same s15,hx,hG,λ_ _ r ws H6 nr s6 wA wl wW=> ?_,λz=>absurd z 'o',λz=>absurd z 'o'⟩;have s16:=s15.trans s6;refine⟨pa,l1,la,f,dy,c,zs,ts,G,k,rfl,hz.same s16,ht.same s16,hx,hG,λ_ _ H7 s7=> ?_,λz=>absurd z 'o',λz=>absurd z 'o'⟩;have s17:=s16.trans s7;refine⟨pa,l2,la,f,dy,c,zs,us,G,k,rfl,hz.same s17,hu.same s17,hy,hG2,λ_ _ r2 ws2 H8 nr2 s8 wA2 wl2 wW2=> ?_,λz=>absurd z 'o',λz=>absurd z 'o'⟩;have e12:=Rws.one wW2 wW;have wA8:=(wA.same s7).same s8;have d2:Dp K H8 3 (.lst ((ws.map (·.2)).map (lwD zs (Cal.beg f dy c k) (Cal.beg f dy c (k+1))))) (.ref r2):=by
   rw[<-e12];exact wK (SqL.of wA2.1) (kO wA2.2)
  refine neD (n:=2) (wK (SqL.of wA8.1) (kO wA8.2)) d2 rfl 'd' ⟨_,rfl,zW 'd' ?_⟩;have s18:=s17.trans s8;refine⟨pa,l2,la,f,dy,c,zs,us,G,k,rfl,hz.same s18,hu.same s18,hy,hG2,λ_ _ H9 s9=>⟨rfl,zW (λz=>z rfl) ?_⟩,λz=>absurd z 'o',λz=>absurd z 'o'⟩;have wA9:=wA8.same s9;have rs:=jB (zs:=zs) (sb:=Cal.beg f dy c k) (se:=Cal.beg f dy c (k+1)) wW;have sp:=zic (zs:=zs) (G:=G) (e:=Cal.beg f dy c (k+1)) f0 f1 hc k0 k1 (Jz _);generalize hC:Sb (λo=>qH zs (Cal.beg f dy c k) (Cal.beg f dy c (k+1)) o (o+1) (G o)) (Cal.beg f dy c k) (Cal.beg f dy c (k+1))=C at rs sp ⊢;rw[<-hF] at sp;simp only[xq,xw,yZ,qA,y8,yY,qz,yV,yR,qx,yT,yU,qy,qw,tDc,y9,qt,qu,qr,yN,yP,qm,yd,qo,qp,qq,ym,List.replicate,Option.join_some,Option.join_none,ya,ql,yK,yJ,tSl,qd,yI,qe,slT,yp,Int.reduceLT,Int.reduceLE,Int.reduceToNat,Int.reduceNeg,Int.reduceAdd,Int.reduceSub,Int.reduceMul,forall_const,yC,yB,yF,yE,qa,yD,yk,yh,yj,yo,yn,tC,tOp,rI,rI0,tUn,rU,yH,tB,yt,tOr,yu,yv,yw,yx,tIf,yr,yq,yL,qk,tCB,yM,rEq,rNe,qf,qg,qh,qi,qj,qc,yG,ipI,L2.start,JA,JQ,Jp,List.length_nil,List.cons_append,List.nil_append,Jt,List.replicate_succ,List.replicate_zero,Nat.reduceAdd,Nat.reduceSub,List.getElem?_cons_zero,List.getElem?_cons_succ,List.set_cons_zero,List.set_cons_succ,Option.some.injEq,V.int.injEq,V.bl.injEq,V.ref.injEq,V.str.injEq,exists_eq_left',exists_eq_left,exists_eq',exists_and_left,List.cons.injEq,and_true,true_and,and_self,and_assoc,decide_eq_true_eq,if_true,if_false,Bool.true_eq_false,Js,Bool.not_eq_true',Bool.not_true,Bool.not_false,decide_eq_false_iff_not,ite_true,ite_false,reduceCtorEq,false_and,exists_false,false_or,or_false,and_false];refine⟨⟨_,SqL.of wA9.1⟩,λlc hlc aa=> ?_⟩;refine xl (λj xs _=>xs=((ws.take j).map λw=>qH zs (Cal.beg f dy c k) (Cal.beg f dy c (k+1)) w.2.1 w.2.2.1 w.2.2.2).map V.int) (xr (SqL.of wA9.1)) hlc (by rw[Ja];exact yQ 'o') (λ_ _=>rfl) (λj y xs HA K1 K0 hx9 sm pv hl k1' k0'=> ?_) (λxs HA sA pv _ wE=> ?_)
  ·rw[Jh] at hx9;refine opq λ_ kq=> ?_;obtain⟨w,hw,rfl⟩:=Jk.mp hx9;obtain⟨s,h1,_,_⟩:=(wA9.same sm).2 w (Ji hw);apply kq;lge_open0
   refine ixT (SqT.of h1) (zms _ _ _ _ _) (k1' _ _ (zj.refl _) λH5 _=> ?_);rw[pv,JH,hw,Jd,Jd];rfl
  rw[Ja,JC] at pv;subst pv;have rs':(ws.map λw=>qH zs (Cal.beg f dy c k) (Cal.beg f dy c (k+1)) w.2.1 w.2.2.1 w.2.2.2).sum=C:=by rw[<-rs,List.map_map];rfl
  have s4A:=((((s5.trans s6).trans s7).trans s8).trans s9).trans sA;refine⟨lc,rfl,_,SqL.of wE,zW (λz=>z rs') (qE (λkm=> ?_) (λkm=> ?_))⟩
  ·have im:i<m:=by
    by_cases z:i<m
    ·exact z
    ·have:=kb 'o';omega
   have ki:=ka im;rw[hPv];refine⟨s4A,some (.int k),some (.ref r),some (.int C),?_⟩;have bi:=Cal.beg_le (k:=0) (j:=i) f0 f1 hc 'd' 'o' 'o';rw[b0] at bi;rw[Nat.min_eq_left 'o',Nat.min_eq_left 'o',sp,ki,Sb.add bi (by rw[<-ki];exact Int.le_of_lt bk)];rfl
  ·have im:m<=i:=by
    by_cases z:i<m
    ·have:=ka z;omega
    ·omega
   rw[hPv];refine⟨s4A,some (.int k),some (.ref r),some (.int C),?_⟩;rw[Nat.min_eq_right im,Nat.min_eq_right 'o']
 ·rw[hPv] at h;refine opq λ_ kq=> ?_;obtain⟨s5,x7,x8,x9,rfl⟩:=h;apply kq;rw[kl,Nat.min_eq_right 'o'];have s15:=s14.trans s5;have bm:=Cal.beg_le (k:=0) (j:=m) f0 f1 hc 'd' 'o' 'o';have bm2:=Cal.beg_le (k:=m) (j:=60) f0 f1 hc 'o' 'o' 'd';have b6:=Cal.beg_le (k:=0) (j:=60) f0 f1 hc 'd' 'd' 'd';rw[b0] at bm b6;open_k0;have e1: ∀(r l:Addr) (ts:List Tm) (d:Int) (H':Hp) (Qq:VK),r=l->zj H H'->xc K H l f (Cal.beg f dy c 60) ts->(∀t∈ts,TmX zs t.2.2.2)->vo f dy c ts G->f<=d->d<=Cal.beg f dy c 60->(∀H2,zj H' H2->Qq (.int (Sb F f d)) H2)->zg4 K [V.ref pa,V.ref r, .int d] H' Qq E:=λr l ts d H' Qq e s ht hx hG d0 d1 k=>by
   subst e;rw[hF] at k;exact⟨pa,r,la,f,dy,c,d,zs,ts,G,rfl,hz.same s,ht.same s,hx,hG,d0,d1,k⟩
  refine ixL (s15.seq hS) (qK 'o' 'o') (e1 _ _ _ _ _ _ rfl s15 ht hx hG bm bm2 λH6 s6=>⟨rfl,zW (λz=>z rfl) (ixL ((s15.trans s6).seq hS) (qK 'o' 'o') (e1 _ _ _ _ _ _ rfl (s15.trans s6) hu hy hG2 bm bm2 λH7 s7=>⟨rfl,zW (λz=>z rfl) ?_⟩))⟩);have s17:=(s15.trans s6).trans s7;refine qE (λ_=>q H7 s17) (λ_=>ixL (s17.seq hS) (qK 'd' 'd') (e1 _ _ _ _ _ _ rfl s17 ht hx hG b6 (Jz _) λH8 s8=>ixL ((s17.trans s8).seq hS) (qK 'd' 'd') (e1 _ _ _ _ _ _ rfl (s17.trans s8) hu hy hG2 b6 (Jz _) λH9 s9=>⟨rfl,by rw[JN rfl];exact q _ ((s17.trans s8).trans s9)⟩)))
def zha(K:Fg):Sp:=zeB K
theorem sc_1r:FnScope ["_law_account_here","_law_one","_law_other","_law_begins_here","_law_cell","_law_many_here","_law_k","_law_x","_law_size","_law_day_here","_law_cost","_law_ahead"] ["_law_account_here","_law_one","_law_other","_law_begins_here","_law_cell"] (zJ s_1r):=⟨rfl,rfl,rfl,by decide+kernel,rfl,by decide+kernel,by decide+kernel⟩
theorem ok_1r(T:Txt w K mg t):FnOk P w K mg base (CXE P w) 12 t.a_1r t.d_1r ["_law_account_here","_law_one","_law_other","_law_begins_here","_law_cell"] (zha K):=by
 refine T.fn_1r.okX sc_1r (λvs H Q E h=> ?_) (λcdv A outer s H vs Q E L hr h=> ?_)
 ·refine opq λ_ kq=> ?_;obtain⟨pa,l1,l2,lb,la,f,dy,c,zs,ts,us,G,hd,rfl,hz,ht,hx,hG,hu,hy,hG2,hS,q⟩:=h;apply kq;rfl
 refine opq λ_ kq=> ?_;obtain⟨pa,l1,l2,lb,la,f,dy,c,zs,ts,us,G,hd,rfl,hz,ht,hx,hG,hu,hy,hG2,hS,q⟩:=h;apply kq;have nd:=sc_1r.nd;refine⟨_,(zi (zu (i:=5) nd rfl (Or.inl rfl) (zr L.toLv (ok_1p T) (hr.mono 'd') (by rfl) T.mg_1p T.fn_1p.kp T.b_1p .nil (zc (pv 0) ze))) (zi (xy (by passes_own) rfl (wz (by rfl) T.no_range (zc (zq zG (zY (zc zd (zc zd ze zw) zw)) (vw ug (by rfl) T.no_int vQ (zc (qT yf (pv 5) zd (zx _)) ze)) (λ_ _=>rfl)) ze)) (zD (i:=6) nd rfl (Or.inl rfl)) (zi (zu (i:=7) nd rfl (Or.inl rfl) (zr L.toLv (ok_14 T) (hr.mono 'd') (by rfl) T.mg_14 T.fn_14.kp T.b_14 .nil (zc (pv 4) (zc (zg zK zd (pv 6)) ze zO) zh))) (zi (zu (i:=8) nd rfl (Or.inl rfl) (zg yc (zq zG (pv 3) (zg zK (zg zH (pv 7) (pv 5)) zd) (λ_ _=>rfl)) (zq zG (pv 3) (zg zH (pv 7) (pv 5)) (λ_ _=>rfl)))) (zi (zu (i:=9) nd rfl (Or.inl rfl) (zg zK (zq zG (pv 3) (zg zH (pv 7) (pv 5)) (λ_ _=>rfl)) (zg zH (zg zP (pv 7) zd) (pv 8)))) (zi (zL (zC (wT hr) (zr L.toLv (ok_0j T) (hr.mono 'd') (by rfl) T.mg_0j T.fn_0j.kp T.b_0j .nil (zc (pv 0) (zc (pv 1) (zc (pv 9) ze zh) zh) zh)) (zr L.toLv (ok_0j T) (hr.mono 'd') (by rfl) T.mg_0j T.fn_0j.kp T.b_0j .nil (zc (pv 0) (zc (pv 2) (zc (pv 9) ze zh) zh) zh)) (zx _)) (zp (zy xQ)) zN) (zi (zu (i:=10) nd rfl (Or.inl rfl) (zr L.toLv (ok_0n T) (hr.mono 'd') (by rfl) T.mg_0n T.fn_0n.kp T.b_0n .nil (zc (pv 0) (zc (pv 1) (zc (pv 9) ze zh) zh) zh))) (zi (zu (i:=11) nd rfl (Or.inl rfl) (zr L.toLv (ok_0s T) (hr.mono 'd') (by rfl) T.mg_0s T.fn_0s.kp T.b_0s .nil (zc (pv 0) (zc (pv 1) (zc (pv 9) ze zh) zh) zh))) (zi (zL (xX (zC wB (pv 10) (zr L.toLv (ok_0n T) (hr.mono 'd') (by rfl) T.mg_0n T.fn_0n.kp T.b_0n .nil (zc (pv 0) (zc (pv 2) (zc (pv 9) ze zh) zh) zh)) (zx _)) (wk (zC wB (pv 11) (zr L.toLv (ok_0s T) (hr.mono 'd') (by rfl) T.mg_0s T.fn_0s.kp T.b_0s .nil (zc (pv 0) (zc (pv 2) (zc (pv 9) ze zh) zh) zh)) (zx _)))).pt (zp (zy xQ)) zN) (zp (zL (zC wB (zg yc (zr L.toLv (ok_0s T) (hr.mono 'd') (by rfl) T.mg_0s T.fn_0s.kp T.b_0s .nil (zc (pv 0) (zc (pv 1) (zc (zg zK (pv 9) zd) ze zO) zh) zh)) (pv 11)) (pv 10) (zx _)) (zp (zy xQ)) zN)))))))))) (zp (zy xQ)))),?_⟩;obtain⟨f0,f1,hc⟩:=hz.1.cyc;have b0:Cal.beg f dy c 0=f:=Cal.beg_zero f0 f1;open_k0;refine⟨pa,la,f,dy,c,rfl,hz.1,λm H1 s1 hm=> ?_⟩
 ((try dsimp only);refine xM λR hR=> ?_;w_why)
 intro p2 H2 _ s2 e2;obtain⟨n,en,n8⟩: ∃n:Nat,atI [V.int 2,V.int 8] (if (m:Int)=12 then 1 else 0)=some (.int n)/\n<=8:=by
  by_cases z:(m:Int)=12
  ·rw[Jg z];exact⟨8,rfl,'d'⟩
  ·rw[Jf z];exact⟨2,rfl,'d'⟩
 refine ixL (SqL.of e2) en ⟨_,rfl,'o','o',hR _ _ ?_⟩;clear hR;rw[JF];have s02:=s1.trans s2;obtain⟨F,hF⟩: ∃F,F=dC f dy c zs G:=⟨_,rfl⟩
 obtain⟨Pv,hPv⟩: ∃Pv:Nat->St->Hp->Prop,Pv=λi σ1 H1=>zj H H1/\ ∃x6 x7 x8 x9 x10 x11,σ1= [some (.ref pa),some (.ref l1),some (.ref l2),some (.ref lb),some (.int hd),some (.int m),x6,x7,x8,x9,x10,x11]:=⟨_,rfl⟩
 refine vq (n:=n) Pv (by rw[hPv];exact⟨s02,_,_,_,_,_,_,rfl⟩) (λi σ1 H5 hi h=> ?_) (λσ1 H5 h=> ?_)
 ·rw[hPv] at h;refine opq λ_ kq=> ?_;obtain⟨s5,x6,x7,x8,x9,x10,x11,rfl⟩:=h;apply kq;open_k0;refine⟨_,_,rfl,'o','o',?_⟩;generalize xG hd (200+(0+(i:Int)))=x;obtain⟨k,hk⟩: ∃k:Int,k=x % m:=⟨_,rfl⟩
  have k0:=JM x (show (m:Int)≠0 by omega);have k1:=JK x (show (0:Int)<m by omega);rw[<-hk] at k0 k1;have bk:=Cal.beg_lt (k:=k) (j:=k+1) f0 f1 hc k0 'o' 'o';have bf:=Cal.beg_le (k:=0) (j:=k) f0 f1 hc 'd' 'o' 'o';have be:=Cal.beg_le (k:=k+1) (j:=60) f0 f1 hc 'o' 'o' 'd';rw[b0] at bf;have hb:=s5.seq hS;refine⟨_,rfl,'o',?_⟩;rw[<-hk];refine ixL hb (qK 'o' 'o') ⟨_,rfl,'o',?_⟩;rw[<-hk];refine ixL hb (qK 'o' 'o') ⟨_,rfl,_,rfl,_,rfl,'o',?_⟩;rw[<-hk];refine ixL hb (qK 'o' 'o') ⟨_,rfl,'o',_,rfl,?_⟩;have r0:=JM (x / 12) (show Cal.beg f dy c (k+1) - Cal.beg f dy c k≠0 by omega);have r1:=JK (x / 12) (show 0<Cal.beg f dy c (k+1) - Cal.beg f dy c k by omega);generalize x / 12 % (Cal.beg f dy c (k+1) - Cal.beg f dy c k)=y at r0 r1 ⊢;obtain⟨d,hd'⟩: ∃d,d=Cal.beg f dy c k+y:=⟨_,rfl⟩
  rw[<-hd'];have d0:f<=d:=by omega
  have d1:d<Cal.beg f dy c 60:=by omega
  clear hd' r0 r1 hk bk bf be k0 k1;refine⟨pa,l1,la,f,dy,c,d,ts,rfl,(hz.same s5).1,ht.same s5,λ_ _ p ts' o0 o1 o2 H3 s3 om so ep=> ?_,λz=>by omega,λz=>by omega⟩;have s13:=s5.trans s3;have sd:StD (G d):=by rw[<-hG ts' om _ _ _ _ so];exact st_std (λt h=>(ht.2.2.1 t ((om t).mp h)).2.2.1) so
  rw[hG ts' om _ _ _ _ so] at ep;refine⟨pa,l2,la,f,dy,c,d,us,rfl,(hz.same s13).1,hu.same s13,λ_ _ p2 us' v0 v1 v2 H4 s4 om2 so2 ep2=> ?_,λz=>by omega,λz=>by omega⟩;rw[hG2 us' om2 _ _ _ _ so2] at ep2;refine neD (n:=0) (sd.dp (s4 _ _ ep)) (sd.dp ep2) rfl 'd' ⟨_,rfl,zW 'd' ?_⟩;have s14:=s13.trans s4;refine⟨pa,l1,la,f,dy,c,d,zs,ts,rfl,hz.same s14,ht.same s14,hx,λk k0' k1' a1 a2 ts2 u0 u1 u2 H6 s6 om3 so3=> ?_,λz=>by omega,λz=>by omega⟩;rw[hG ts2 om3 _ _ _ _ so3,<-kJ f0 f1 hc k0' k1' a1 a2];have s16:=s14.trans s6;refine⟨pa,l1,la,f,dy,c,d,zs,ts,G,rfl,hz.same s16,ht.same s16,hx,hG,d0,'o',λH7 s7=> ?_⟩;have s17:=s16.trans s7;refine⟨pa,l2,la,f,dy,c,d,zs,us,rfl,hz.same s17,hu.same s17,hy,λk2 k0'' k1'' a1' a2' ts2 w0 w1 w2 H8 s8 om4 so4=> ?_,λz=>by omega,λz=>by omega⟩;rw[hG2 ts2 om4 _ _ _ _ so4,<-kJ f0 f1 hc k0'' k1'' a1' a2'];have s18:=s17.trans s8;refine⟨rfl,zW (λz=>z rfl) ⟨pa,l2,la,f,dy,c,d,zs,us,G,rfl,hz.same s18,hu.same s18,hy,hG2,d0,'o',λH9 s9=>⟨rfl,zW (λz=>z rfl) ?_⟩⟩⟩;have s19:=s18.trans s9;refine⟨pa,l1,la,f,dy,c,d+1,zs,ts,G,rfl,hz.same s19,ht.same s19,hx,hG,'o','o',λHA sA=>⟨_,rfl,?_⟩⟩;have add:=Sb.add (F:=dC f dy c zs G) (a:=f) (b:=d) (c:=d+1) d0 'o';rw[Sb.one] at add;rw[<-add];refine⟨_,rfl,rfl,zW (λz=>z (congrArg V.int 'o')) ?_⟩;rw[hPv];exact⟨s19.trans sA,_,_,_,_,_,_,rfl⟩
 ·rw[hPv] at h;refine opq λ_ kq=> ?_;obtain⟨s5,x6,x7,x8,x9,x10,x11,rfl⟩:=h;apply kq;open_k0;exact q H5 s5
theorem w6{zs:List En}(h:qS nms f e zs):xD (chs zs):=λi k hi=>by
 unfold chs at hi;rw[Jh] at hi;obtain⟨z,hz,ez⟩:=Jk.mp hi
 have:=(h i z hz).2.2.2;rw[ez,vW] at this;exact this
theorem zl0{p:Addr}(h:Acc K H p f dy cc zs)(s:qF H H'):Acc K H' p f dy cc zs:=by
 obtain⟨l,⟨pc,h1,h2,h3,h4⟩,h5,h6,h7⟩:=h;exact⟨l,⟨pc,h1,h2,⟨s.sqT h3.1,h3.2⟩,s.tup h4⟩,s.seq h5,λz hz=>(let ⟨q,e,g⟩:=h6 z hz;⟨q,e,s.sqT g⟩),h7⟩
theorem zkU{p:Addr}(h:xE K H p l f dy cc zs)(s:qF H H'):xE K H' p l f dy cc zs:=by
 obtain⟨⟨pc,h1,h2,h3,h4⟩,h5,h6,h7⟩:=h;exact⟨⟨pc,h1,h2,⟨s.sqT h3.1,h3.2⟩,s.tup h4⟩,s.lst h5,λz hz=>(let ⟨q,e,g⟩:=h6 z hz;⟨q,e,s.sqT g⟩),h7⟩
theorem zj4{ys:List En}(hE:yX K H ys)(l:ys.length<=40)(yO:qS (zs.map λz=>z.2.1) f e ys):EnX zs f e K H ys:=by
 refine⟨hE,l,yO.pair,w6 yO,EnB.of yO,λz hz' tm=> ?_⟩;obtain⟨i,hi⟩:=List.mem_iff_getElem?.mp hz';have ci:=(yO i z hi).2.2.2;exact⟨λd nm h'=>by rw[h'] at ci;exact ci.2.2,λd n h'=>by rw[h'] at ci;exact ci.2.2⟩
theorem zj5{rs rs':List Rt}{day:Int}{kd:Nat}{o o':Option Rt}(d:D)(R:Rt->Rt->Prop)(h1: ∀t∈rs,t.1=kd-> ∃u∈rs',R t u)(h2: ∀u∈rs',u.1=kd-> ∃t∈rs,R t u)(hR: ∀t u,R t u->t.1=u.1/\t.2.1=u.2.1/\t.2.2.2=u.2.2.2)
  (ord: ∀t u t' u',t∈rs->t'∈rs->u∈rs'->u'∈rs'->t.1=kd->t'.1=kd->R t u->R t' u'->t.2.2.1<=t'.2.2.1->u.2.2.1<=u'.2.2.1) (inj: ∀u∈rs',∀v∈rs',u.2.2.1=v.2.2.1->u=v) (h:Bst rs day kd o) (h':Bst rs' day kd o'):stV o d=stV o' d:=by
 match o,o',h,h' with
 |none,none,_,_=>rfl
 |none,some u,h,h'=>
  obtain⟨t,ht,r⟩:=h2 u h'.1 h'.2.1;obtain⟨r1,r2,r3⟩:=hR t u r
  have:=h t ht (by rw[r1];exact h'.2.1)
  have:=h'.2.2.1;omega
 |some t,none,h,h'=>
  obtain⟨u,hu,r⟩:=h1 t h.1 h.2.1;obtain⟨r1,r2,r3⟩:=hR t u r
  have:=h' u hu (by rw[<-r1];exact h.2.1)
  have:=h.2.2.1;omega
 |some t,some u,h,h'=>
  obtain⟨u1,hu1,ru⟩:=h1 t h.1 h.2.1;obtain⟨t1,ht1,rt⟩:=h2 u h'.1 h'.2.1;obtain⟨a1,a2,a3⟩:=hR t u1 ru;obtain⟨b1,b2,b3⟩:=hR t1 u rt;have c1:=h.2.2.2 t1 ht1 (by rw[b1];exact h'.2.1) (by rw[b2];exact h'.2.2.1);have c2:=ord t1 u t u1 ht1 h.1 h'.1 hu1 (by rw[b1];exact h'.2.1) h.2.1 rt ru c1;have c3:=h'.2.2.2 u1 hu1 (by rw[<-a1];exact h.2.1) (by rw[<-a2];exact h.2.2.1);have e:=inj u1 hu1 u h'.1 'o';show t.2.2.2=u.2.2.2;rw[a3,e]
theorem zkV{β:Type}{g:α->β}{l:List α}(h:(l.map g).Nodup){x y:α}(hx:x∈l)(hy:y∈l)(e:g x=g y):x=y:=by
 obtain⟨i,hi,rfl⟩:=List.mem_iff_getElem.mp hx;obtain⟨j,hj,rfl⟩:=List.mem_iff_getElem.mp hy;have p:=List.pairwise_iff_getElem.mp (List.pairwise_map.mp h);rcases Nat.lt_trichotomy i j with z|z|z
 ·exact absurd e (p i j hi hj z)
 ·subst z;rfl
 ·exact absurd e.symm (p j i hj hi z)
theorem zj6{a b:Ch}(ha:zV a=true)(hb:zV b=true)(h:chK a=chK b):qG a=qG b:=by
 cases a<;>cases b<;>first|rfl|(simp [chK] at h;done)|(simp [zV] at ha;done)|(simp [zV] at hb;done)
theorem kP{a b:Ch}(h:chW a=chW b)(ha:zV a=true)(hb:zV b=true):qG a=qG b:=by
 have wa:=λw=>uJ w;cases a with
 |plan d nm=>cases b with
  |plan=>rfl
  |seats=>cases h
  |word w d=>exact absurd h.symm (wa w).2.1
  |undo=>cases hb
  |grant=>cases hb
  |back=>cases hb
 |seats d n=>cases b with
  |plan=>cases h
  |seats=>rfl
  |word w d=>exact absurd h.symm (wa w).2.2
  |undo=>cases hb
  |grant=>cases hb
  |back=>cases hb
 |word w d=>cases b with
  |plan=>exact absurd h (wa w).2.1
  |seats=>exact absurd h (wa w).2.2
  |word=>rfl
  |undo=>cases hb
  |grant=>cases hb
  |back=>cases hb
 |undo=>cases ha
 |grant=>cases ha
 |back=>cases ha
def Sng(cs:List Ch):Prop:=(∀c∈cs,zV c=true)/\cs.Pairwise λx y=> ¬(qG x=qG y/\zE x=zE y)
theorem Sng.perm{ds:List Ch}(h:Sng cs)(p:ds.Perm cs):Sng ds:=⟨λc hc=>h.1 c (p.mem_iff.mp hc),(p.pairwise_iff fun {x y} z w=>z ⟨w.1.symm,w.2.symm⟩).mpr h.2⟩
theorem Sng.nodup(h:Sng cs):cs.Nodup:=h.2.imp fun {x y} z e=>z (by rw[e];exact⟨rfl,rfl⟩)
theorem Sng.one(h:Sng cs){x y:Ch}(hx:x∈cs)(hy:y∈cs)(e1:qG x=qG y)(e2:zE x=zE y):x=y:=by
 obtain⟨i,hi,rfl⟩:=List.mem_iff_getElem.mp hx;obtain⟨j,hj,rfl⟩:=List.mem_iff_getElem.mp hy;have p:=List.pairwise_iff_getElem.mp h.2;rcases Nat.lt_trichotomy i j with z|z|z
 ·exact absurd ⟨e1,e2⟩ (p i j hi hj z)
 ·subst z;rfl
 ·exact absurd ⟨e1.symm,e2.symm⟩ (p j i hj hi z)
theorem zj7{l1 l2:Addr}{us:List Tm}(dy:Bool)(c:Int)(f0:0<=f)(e1:e<4000000)(ht:xc K H l1 f e ts)(hu:xc K H l2 f e us)(sg:Sng (ts.map λt=>t.2.2.2))(pm:(us.map λt=>t.2.2.2).Perm (ts.map λt=>t.2.2.2)): ∃G,vo f dy c ts G/\vo f dy c us G:=by
 obtain⟨G,hG⟩:=zlT (zjW (dy:=dy) (c:=c) f0 e1 ht.2.2.1 ht.2.2.2);refine⟨G,hG,λus' om d o0 o1 o2 so=> ?_⟩;have su:=sg.perm pm;obtain⟨q0,b0⟩:=jy d 0 (ts.map (rtT f dy c));obtain⟨q1,b1⟩:=jy d 1 (ts.map (rtT f dy c));obtain⟨q2,b2⟩:=jy d 2 (ts.map (rtT f dy c));rw[<-hG ts (λ_=>Iff.rfl) d q0 q1 q2 ⟨b0,b1,b2⟩];have inj:=zjW (dy:=dy) (c:=c) f0 e1 hu.2.2.1 hu.2.2.2;have one: ∀(kd:Nat) (dd:D) (q o:Option Rt),Bst (ts.map (rtT f dy c)) d kd q->Bst (us'.map (rtT f dy c)) d kd o->stV q dd=stV o dd:=λkd dd q o hq ho=>by
  refine zj5 dd (λt u=> ∃x∈ts,∃y∈us,x.2.2.2=y.2.2.2/\t=rtT f dy c x/\u=rtT f dy c y) (λt h _=> ?_) (λu h _=> ?_) (λt u h=> ?_) (λt u t' u' _ _ _ _ hk hk' h h' le=> ?_) (λu h v h' e=> ?_) hq ho
  ·obtain⟨x,hx,rfl⟩:=Jw.mp h;obtain⟨y,hy,ey⟩:=Jw.mp (pm.mem_iff.mpr (Jw.mpr ⟨x,hx,rfl⟩));exact⟨_,Jw.mpr ⟨y,(om y).mpr hy,rfl⟩,x,hx,y,hy,ey.symm,rfl,rfl⟩
  ·obtain⟨y,hy,rfl⟩:=Jw.mp h;have hy:=(om y).mp hy;obtain⟨x,hx,ex⟩:=Jw.mp (pm.mem_iff.mp (Jw.mpr ⟨y,hy,rfl⟩));exact⟨_,Jw.mpr ⟨x,hx,rfl⟩,x,hx,y,hy,ex,rfl,rfl⟩
  ·obtain⟨x,_,y,_,e,rfl,rfl⟩:=h;unfold rtT rtF;rw[e];exact⟨rfl,rfl,rfl⟩
  ·obtain⟨x,hx,y,hy,e,rfl,rfl⟩:=h;obtain⟨x',hx',y',hy',e',rfl,rfl⟩:=h';obtain⟨_,nx,_,bx0,bx1,_⟩:=ht.2.2.1 x hx;obtain⟨_,nx',_,bx0',bx1',_⟩:=ht.2.2.1 x' hx';obtain⟨_,ny,_⟩:=hu.2.2.1 y hy;obtain⟨_,ny',_⟩:=hu.2.2.1 y' hy';unfold rtT at le ⊢;rw[<-e,<-e'];refine zlL nx nx' ny ny' ⟨'o','o'⟩ ⟨'o','o'⟩ (λde _=> ?_) le;have mx:x.2.2.2∈ts.map (λt=>t.2.2.2):=Jw.mpr ⟨x,hx,rfl⟩;have mx':x'.2.2.2∈ts.map (λt=>t.2.2.2):=Jw.mpr ⟨x',hx',rfl⟩;have xx:=sg.one mx mx' (zj6 (sg.1 _ mx) (sg.1 _ mx') (hk.trans hk'.symm)) de;have yy:y=y':=zkV su.nodup hy hy' (by rw[<-e,<-e'];exact xx);rw[yy];exact Jz _
  ·obtain⟨x,hx,rfl⟩:=Jw.mp h;obtain⟨y,hy,rfl⟩:=Jw.mp h';exact inj _ (Jw.mpr ⟨x,(om x).mp hx,rfl⟩) _ (Jw.mpr ⟨y,(om y).mp hy,rfl⟩) e
 unfold stT;rw[one 0 _ _ _ b0 so.1,one 1 _ _ _ b1 so.2.1,one 2 _ _ _ b2 so.2.2]
theorem ziT{zs:List En}(h: ∀z∈zs,z.2.2.1<=mo):qV zs mo=zX (chs zs):=by
 unfold qV mOf;rw[List.filter_eq_self.mpr (λz hz=>by unfold enL;exact JN (h z hz)),JC]
theorem zl1(zs:List En):(zX (chs zs)).map (λk=>(zs.getD k.toNat (.non,0,0, .back)).2.2.2)=stC (chs zs):=by
 unfold stC;refine List.map_congr_left λk hk=> ?_
 have:=(wL (chs zs)).2 k hk;rw[xT] at this;unfold chs;rw[vm (λz:En=>z.2.2.2) (.non,0,0, .back) _ 'o']
theorem zhH(uo:xD (chs es))(it:uH (es.map ce) so):((so.filter λr=> !qD r.2.2.2).map λr=>r.2.2.2).Perm (stC (chs es))/\ ∀r∈so,qD r.2.2.2=false->zV r.2.2.2=true/\r.1=zE r.2.2.2:=by
 have p1:=it.1.trans (kC (es.map ce));unfold usR at p1;rw[kK,Ja,<-xT] at p1;have tm: ∀r∈(List.range (chs es).length).filterMap (xO (chs es) (z7 (chs es))),zV r.2.2.2=true/\r.1=zE r.2.2.2/\(chs es).getD r.2.2.1.toNat .back=r.2.2.2:=λr hr=>by
  obtain⟨i,_,hi⟩:=List.mem_filterMap.mp hr;obtain⟨a1,a2,a3,a4,a5,a6⟩:=ua hi;refine⟨a5,a3,?_⟩;rw[a2,JF,Jo,a4];rfl
 have ot: ∀r∈(List.range (chs es).length).filterMap (xm (es.map ce)),qD r.2.2.2=true:=λr hr=>by
  obtain⟨i,_,hi⟩:=List.mem_filterMap.mp hr;exact(uG hi).2.2.2
 refine⟨?_,λr hr ho=> ?_⟩
 ·have p2:=(p1.filter λr=> !qD r.2.2.2).map λr:Row=>r.2.2.2;have fa:((List.range (chs es).length).filterMap (xO (chs es) (z7 (chs es)))).filter (λr=> !qD r.2.2.2)=(List.range (chs es).length).filterMap (xO (chs es) (z7 (chs es))):=List.filter_eq_self.mpr λr hr=>by
   have:=(tm r hr).1;cases h:qD r.2.2.2 with
   |false=>rfl
   |true=>rw[kB _ h] at this;cases this
  have fb:((List.range (chs es).length).filterMap (xm (es.map ce))).filter (λr=> !qD r.2.2.2)= []:=List.filter_eq_nil_iff.mpr λr hr=>by rw[ot r hr];decide
  rw[JS,fa,fb,Jt] at p2;rw[show stC (chs es)=_ from by unfold stC;rw[zfw uo,List.map_map]];rw[show ((List.range (chs es).length).filterMap (xO (chs es) (z7 (chs es)))).map ((λk=>(chs es).getD k.toNat .back) ∘ λr:Row=>r.2.2.1)=((List.range (chs es).length).filterMap (xO (chs es) (z7 (chs es)))).map (λr=>r.2.2.2) from List.map_congr_left λr hr=>(tm r hr).2.2];exact p2
 ·rcases Jr.mp (p1.mem_iff.mp hr) with h|h
  ·exact⟨(tm r h).1,(tm r h).2.1⟩
  ·rw[ot r h] at ho;cases ho
theorem zii: ∀(ds cs:List Ch),(∀c∈ds,zV c=true)->stC (cs++ds)=stC cs++ds
 | [],cs,_=>by rw[Jt,Jt]
 |d::ds,cs,h=>by
  have:=zii ds (cs++ [d]) λc hc=>h c (.tail _ hc);rw[JL,List.singleton_append,kM (h d (.head _)),JL,List.singleton_append] at this;exact this
theorem zl2(ns:List Int): ∃ms:List Int,xk (ns.map V.int) (some 4) (some 16)=ms.map V.int/\ms.length<=12:=by
 obtain⟨ms,e,_⟩:=ke ns (some 4) (some 16);refine⟨ms,e,?_⟩;have h:=congrArg List.length e;rw[Ja] at h;unfold xk at h;rw[JB,show (some (4:Int))=some ((4:Nat):Int) from rfl,show (some (16:Int))=some ((16:Nat):Int) from rfl,HT.sIx_nat,HT.sIx_nat] at h;omega
theorem zl3{zs:List En}(hp:zs.Pairwise (λa b=>a.2.2.1<=b.2.2.1))(hb: ∀z∈zs,f<=z.2.2.1/\z.2.2.1<e/\ ∀S,wg nms f e S z.2.2.2):qS nms f e zs:=λi z hz=>by
 obtain⟨h1,h2,h3⟩:=hb z (Ji hz);refine⟨h1,h2,λy hy=> ?_,h3 _⟩;obtain⟨j,hj,rfl⟩:=List.mem_iff_getElem.mp hy;have il:=(Jc.mp hz).1;have jl:j<i:=by rw[JB] at hj;omega
 rw[List.getElem_take]
 have:=List.pairwise_iff_getElem.mp hp j i 'o' il jl;rw[(Jc.mp hz).2] at this;exact this
theorem Lat.sS{le:Addr}(L:Lat K H le nms f e en es)(s:qF H H'):Lat K H' le nms f e en es:=⟨s.lst L.li,jD L.at' s,L.ok,L.lo,L.hi,L.day⟩
structure RwOk (cs:List Ch) (zs:List En):Prop where
 tm: ∀z∈zs,zV z.2.2.2=true/\z.2.2.1=zE z.2.2.2
 pm:(zs.map λz=>z.2.2.2).Perm cs
theorem RwOk.pair{zs:List En}(h:RwOk cs zs)(sg:Sng cs):zs.Pairwise (λx y=> ¬(x.2.2.1=y.2.2.1/\chW x.2.2.2=chW y.2.2.2)):=by
 have p:=(sg.perm h.pm).2;rw[List.pairwise_map] at p;exact p.imp_of_mem fun {x y} hx hy n z=>n ⟨kP z.2 (h.tm x hx).1 (h.tm y hy).1,by rw[<-(h.tm x hx).2,<-(h.tm y hy).2];exact z.1⟩
theorem RwOk.perm{zs ws:List En}(h:RwOk cs zs)(p:ws.Perm zs):RwOk cs ws:=⟨λz hz=>h.tm z (p.mem_iff.mp hz),(p.map _).trans h.pm⟩
theorem RwOk.one{zs ws:List En}(h:RwOk cs zs)(g:RwOk cs ws)(hz:zs.Pairwise λx y=>rkW x<rkW y)(hw:ws.Pairwise λx y=>rkW x<rkW y):zs.map enD=ws.map enD:=by
 have rk: ∀{us:List En},RwOk cs us->us.Pairwise (λx y=>rkW x<rkW y)->(us.map λz=>z.2.2.2).Pairwise (λa b=>zE a*8+So.wr (chW a)<zE b*8+So.wr (chW b)):=fun {us} h p=>by
  rw[List.pairwise_map];exact p.imp_of_mem fun {x y} hx hy l=>by
   unfold rkW at l;rw[(h.tm x hx).2,(h.tm y hy).2] at l;exact l
 have tr: ∀{us:List En},RwOk cs us->us.map enD=(us.map λz=>z.2.2.2).map (λc=> .tup [.int (zE c), .tup (chD c)]):=fun {us} h=>by
  rw[List.map_map];exact List.map_congr_left λz hz=>by
   show D.tup [.int z.2.2.1, .tup (chD z.2.2.2)]=_;rw[(h.tm z hz).2];rfl
 rw[tr h,tr g,ky (λa b h g=>by omega) (h.pm.trans g.pm.symm) (rk h hz) (rk g hw)]
theorem zij{rs:List En}(uo:xD (chs es))(it:uH (es.map ce) so)(rce:rs.map ce=so.map rc)(pm:(stC (chs es)).Perm cs):RwOk cs (rs.filter λz=> !qD z.2.2.2):=by
 obtain⟨t1,t2⟩:=zhH uo it;refine⟨λz hz=> ?_,?_⟩
 ·obtain⟨h1,h2⟩:=List.mem_filter.mp hz
  have:ce z∈so.map rc:=by rw[<-rce];exact Jw.mpr ⟨z,h1,rfl⟩
  obtain⟨r,hr,er⟩:=Jw.mp this;have e1:r.1=z.2.2.1:=by have h:=congrArg (λp:Int×Ch=>p.1) er;exact h
  have e2:r.2.2.2=z.2.2.2:=by have h:=congrArg (λp:Int×Ch=>p.2) er;exact h
  have:=t2 r hr (by rw[e2];simpa using h2);rw[e1,e2] at this;exact this
 ·have h:rs.map (λz=>z.2.2.2)=so.map (λr=>r.2.2.2):=by
   have:=congrArg (List.map (·.2)) rce;rw[List.map_map,List.map_map] at this;exact this
  have g:=congrArg (List.filter λc=> !qD c) h;rw[List.filter_map,List.filter_map] at g;exact(show _=_ from g) ▸ (t1.trans pm)
theorem zj8{rs:List En}(tm: ∀c∈chs es,zV c=true)(it:uH (es.map ce) so)(rce:rs.map ce=so.map rc):(rs.filter λz=> !qD z.2.2.2)=rs:=List.filter_eq_self.mpr λz hz=>by
 have:ce z∈so.map rc:=by rw[<-rce];exact Jw.mpr ⟨z,hz,rfl⟩
 obtain⟨r,hr,er⟩:=Jw.mp this;have e2:r.2.2.2=z.2.2.2:=by have h:=congrArg (λp:Int×Ch=>p.2) er;exact h
 have hr:=it.1.mem_iff.mp hr;unfold uF jx at hr;obtain⟨i,_,hi⟩:=List.mem_filterMap.mp hr;have hc:r.2.2.2∈chs es:=by
  rw[<-kK];rcases (zkG hi).2 with h|h
  ·exact Jw.mpr ⟨_,Ji h.2.1,rfl⟩
  ·exact Ji h.2.2.2.1
 have ht:=tm _ hc;rw[<-e2];cases h:qD r.2.2.2 with
 |false=>rfl
 |true=>rw[kB _ h] at ht;cases ht
theorem zj9(h:xc K H l f e ts)(s:qF H H'):xc K H' l f e ts:=⟨s.lst h.1,h.2.1,λt ht=>let ⟨⟨a,b⟩,r⟩:=h.2.2.1 t ht;⟨⟨s.tup a,s.sqT b⟩,r⟩,h.2.2.2⟩
def zk7(K:Fg)(Ts:List Addr):Sp:=λvs H Q _=> ∃(a:Addr) (ns:List Int),vs= [.ref a]/\SqL K H a (ns.map V.int)/\ns.length<=63/\Ts.Nodup/\(∀T∈Ts,H T=some (.tbl #[]))/\ ∀H',Q (.bl true) H'
theorem sc_1s:FnScope ["_law_script","_law_account_here","_law_begins_here","_law_names","_law_head","_law_terms_here","_law_late_here","_law_entries","_law_one","_law_other","_law_timed"] ["_law_script"] (zJ s_1s):=⟨rfl,rfl,rfl,by decide+kernel,rfl,by decide+kernel,by decide+kernel⟩
theorem ok_1s(T:Txt w K mg t)(B:BM mg base):FnOk P w K mg base (CXE P w) 13 t.a_1s t.d_1s ["_law_script"] (zk7 K [t.p_12,t.p_1s]):=by
 refine T.fn_1s.okXC T.cc_1s sc_1s (λvs H Q E h=> ?_) (λA outer s H vs Q E L hr h=> ?_)
 ·refine opq λ_ kq=> ?_;obtain⟨a,ns,rfl,hS,h63,hNd,hTs,q⟩:=h;apply kq;rfl
 refine opq λ_ kq=> ?_;obtain⟨a,ns,rfl,hS,h63,hNd,hTs,q⟩:=h;apply kq;have nd:=sc_1s.nd;refine⟨_,(zi (zu (i:=1) nd rfl (Or.inl rfl) (zr L.toLv (ok_1g T) (hr.mono 'd') (by rfl) T.mg_1g T.fn_1g.kp T.b_1g .nil (zc (pv 0) ze))) (zi (zu (i:=2) nd rfl (Or.inl rfl) (zr L.toLv (ok_19 T) (hr.mono 'd') (by rfl) T.mg_19 T.fn_19.kp T.b_19 .nil (zc (zq zU (pv 1) zd (λ_ _=>rfl)) (zc (zq zU (pv 1) zd (λ_ _=>rfl)) (zc zd ze zw) z6) z6))) (zi (vA (i:=3) nd rfl rfl (n:=1) (N:= ["_law_plan"]) (js:= []) (by rfl) rfl rfl (qO (zq zU (pv 1) zd (λ_ _=>rfl))) (λa=>(zD (i:=0) (show List.Nodup (["_law_plan"]:List Str) from by decide+kernel) rfl (Or.inl rfl))) (λa=>xh) (λa=>(zq zU (pv 0) zd (λ_ _=>rfl)))) (zi (zu (i:=4) nd rfl (Or.inl rfl) (zr L.toLv (ok_13 T) (hr.mono 'd') (by rfl) T.mg_13 T.fn_13.kp T.b_13 .nil (zc (pv 0) (zc zd ze zw) zh))) (zi (zu (i:=5) nd rfl (Or.inl rfl) (zr L.toLv (ok_1l T) (hr.mono 'd') (by rfl) T.mg_1l T.fn_1l.kp T.b_1l .nil (zc (wQ wU (pv 0) (xI zd) (xI zd)) (zc (zg zP (pv 4) zd) (zc (pv 2) (zc (pv 3) ze zh) zh) zO) z6))) (zi (zu (i:=6) nd rfl (Or.inl rfl) (zr L.toLv (ok_1n T) (hr.mono 'd') (by rfl) T.mg_1n T.fn_1n.kp T.b_1n .nil (zc (pv 5) (zc (zg zK (zg zP (pv 4) zd) (zZ (je (by rfl)) (by rfl) T.no_sum jd (zc (wQ wU (pv 0) (xI zd) (xI zd)) ze))) (zc (pv 2) (zc (pv 3) ze zh) zh) zO) zh))) (zi (xz (zL (zC yf (zg zH (pv 4) zd) zd (zx _)) (zi (zu (i:=5) nd rfl (Or.inl rfl) (zr L.toLv (ok_1m T) (hr.mono 'd') (by rfl) T.mg_1m T.fn_1m.kp T.b_1m .nil (zc (wQ wU (pv 0) (xI zd) (xI zd)) (zc (pv 2) (zc (pv 3) ze zh) zh) z6))) (zp (zu (i:=6) nd rfl (Or.inl rfl) (zr L.toLv (ok_1o T) (hr.mono 'd') (by rfl) T.mg_1o T.fn_1o.kp T.b_1o .nil (zc (pv 5) (zc (zr L.toLv (ok_13 T) (hr.mono 'd') (by rfl) T.mg_13 T.fn_13.kp T.b_13 .nil (zc (pv 0) (zc zd ze zw) zh)) (zc (wQ wU (pv 0) (xI zd) (xI zd)) (zc (pv 2) (zc (pv 3) ze zh) zh) z6) qv) zh))))) zN)) (zi (xz (vA (i:=7) nd rfl rfl (n:=1) (N:= ["_law_change_here"]) (js:= []) (by rfl) rfl rfl (qO (zgW (k:=0) (x:="_law_change_here") (N:= ["_law_change_here"]) (hr.mono 'd') (by rfl) T.no_sorted (zc (pv 5) ze) rfl B (λ_ X=>T.tb_1s.hd X) ⟨rfl,rfl,rfl,by decide+kernel,rfl,by decide+kernel,by decide+kernel⟩ (λ_ _ _ _=>rfl) (λ_ _ _ _ _ _=>(zq (zhS (K:=K) rfl) (pv 0) zd (λ_ _=>rfl))))) (λa=>(zD (i:=0) (show List.Nodup (["_law_change_here"]:List Str) from by decide+kernel) rfl (Or.inl rfl))) (λa=>xh) (λa=>(zR (zc (zq zi2 (pv 0) zd (λ_ _=>rfl)) (zc (pv 0) ze zh) z6))))) (zi (zL (xX (zC wD (zZ qI (by rfl) T.no_len qJ (zc (pv 6) ze)) zd (zx _)) (xX (zC zhP (zr L.toLv (ok_10 T) (hr.mono 'd') (by rfl) T.mg_10 T.fn_10.kp T.b_10 .nil (zc (pv 1) (zc (pv 7) ze zh) zh)) uM (zx _)) (wk (zC zhP (zr L.toLv (ok_10 T) (hr.mono 'd') (by rfl) T.mg_10 T.fn_10.kp T.b_10 .nil (zc (pv 1) (zc (pv 6) ze zh) zh)) uM (zx _))))).pt (zp (zy (qT wD (zZ qI (by rfl) T.no_len qJ (zc (pv 6) ze)) zd (zx _)))) zN) (zi (zu (i:=8) nd rfl (Or.inl rfl) (zr L.toLv (ok_11 T) (hr.mono 'd') (by rfl) T.mg_11 T.fn_11.kp T.b_11 .nil (zc (pv 7) (zc (zg yc (zq zG (pv 2) zd (λ_ _=>rfl)) zd) ze zO) zh))) (zi (zu (i:=9) nd rfl (Or.inl rfl) (zr L.toLv (ok_11 T) (hr.mono 'd') (by rfl) T.mg_11 T.fn_11.kp T.b_11 .nil (zc (pv 6) (zc (zg yc (zq zG (pv 2) zd (λ_ _=>rfl)) zd) ze zO) zh))) (zi (xz (zL (zC (wT hr) (zZ zev (by rfl) T.no_sorted uv (zc (xA (n:=2) (N:= ["_law_number","_law_change_here"]) (js:= []) (by rfl) rfl rfl (qO (pv 8)) (λa=>(qN (n:=2) rfl (zT (zD (i:=0) (show List.Nodup (["_law_number","_law_change_here"]:List Str) from by decide+kernel) rfl (Or.inl rfl)) (zT (zD (i:=1) (show List.Nodup (["_law_number","_law_change_here"]:List Str) from by decide+kernel) rfl (Or.inl rfl)) qM)))) (λa=>xh) (λa=>(pv 1))) ze)) (zZ zev (by rfl) T.no_sorted uv (zc (xA (n:=2) (N:= ["_law_number","_law_change_here"]) (js:= []) (by rfl) rfl rfl (qO (pv 9)) (λa=>(qN (n:=2) rfl (zT (zD (i:=0) (show List.Nodup (["_law_number","_law_change_here"]:List Str) from by decide+kernel) rfl (Or.inl rfl)) (zT (zD (i:=1) (show List.Nodup (["_law_number","_law_change_here"]:List Str) from by decide+kernel) rfl (Or.inl rfl)) qM)))) (λa=>xh) (λa=>(pv 1))) ze)) (zx _)) (zp (zy xQ)) zN)) (zi (vA (i:=10) nd rfl rfl (n:=1) (N:= ["_law_entry"]) (js:= []) (by rfl) rfl rfl (qO (zr L.toLv (ok_12 T B) (hr.mono 'd') (by rfl) T.mg_12 T.fn_12.kp T.b_12 .nil (zc (pv 6) ze))) (λa=>(zD (i:=0) (show List.Nodup (["_law_entry"]:List Str) from by decide+kernel) rfl (Or.inl rfl))) (λa=>(jb (zC jN (zq zU (zq zi2 (pv 0) zd (λ_ _=>rfl)) zd (λ_ _=>rfl)) (zR (zc (zQ st_13) (zc (zQ st_15) ze zw) zw)) rfl))) (λa=>(pv 0))) (zi (zL (zC (wT hr) (zZ (zew hr) (by rfl) T.no_sorted uv (zc (pv 10) ze)) (zZ (zew hr) (by rfl) T.no_sorted uv (zc (zr L.toLv (ok_12 T B) (hr.mono 'd') (by rfl) T.mg_12 T.fn_12.kp T.b_12 .nil (zc (pv 7) ze)) ze)) (zx _)) (zp (zy xQ)) zN) (zi (zL (uQ (vp (zr L.toLv (ok_1q T) (hr.mono 'd') (by rfl) T.mg_1q T.fn_1q.kp T.b_1q .nil (zc (pv 1) (zc (pv 8) (zc (pv 9) (zc (pv 2) (zc (pv 4) ze zh) zh) zh) zh) zh)))) (zp (zy xQ)) zN) (zp (zy (zr L.toLv (ok_1r T) (hr.mono 'd') (by rfl) T.mg_1r T.fn_1r.kp T.b_1r .nil (zc (pv 1) (zc (pv 8) (zc (pv 9) (zc (pv 2) (zc (pv 4) ze zh) zh) zh) zh) zh))))))))))))))))))),?_⟩;have tne:t.p_12≠t.p_1s:=λz=>(List.pairwise_cons.mp hNd).1 _ Jq z;have hT1:=hTs t.p_12 Jq;have hT2:=hTs t.p_1s (Jl _ Jq);open_k0;refine⟨a,ns,rfl,hS,h63,λp l ps f pc dy cc H1 s1 po pl f0 f1 hc el ep=> ?_⟩;refine ixT (SqT.of ep) (v:= .int f) rfl (ixT (SqT.of ep) (v:= .ref pc) rfl ?_);refine⟨f,pc,dy,cc,60,rfl,'d',f0,f1,hc,λlb H2 s2 e2=> ?_⟩;have ep2:=s2 _ _ ep;have el2:=s2 _ _ el;have pl2:=pl.same s2;have po':=po;refine opq λ_ kq=> ?_;obtain⟨o1,o2,o3,o4⟩:=po';apply kq;rw[Ja] at o1 o2;simp only[xq,xw,yZ,qA,y8,yY,qz,yV,yR,qx,yT,yU,qy,qw,tDc,y9,qt,qu,qr,yN,yP,qm,yd,qo,qp,qq,ym,List.replicate,Option.join_some,Option.join_none,ya,ql,yK,yJ,tSl,qd,yI,qe,slT,yp,Int.reduceLT,Int.reduceLE,Int.reduceToNat,Int.reduceNeg,Int.reduceAdd,Int.reduceSub,Int.reduceMul,forall_const,yC,yB,yF,yE,qa,yD,yk,yh,yj,yo,yn,tC,tOp,rI,rI0,tUn,rU,yH,tB,yt,tOr,yu,yv,yw,yx,tIf,yr,yq,yL,qk,tCB,yM,rEq,rNe,qf,qg,qh,qi,qj,qc,yG,ipI,L2.start,JA,JQ,Jp,List.length_nil,List.cons_append,List.nil_append,Jt,List.replicate_succ,List.replicate_zero,Nat.reduceAdd,Nat.reduceSub,List.getElem?_cons_zero,List.getElem?_cons_succ,List.set_cons_zero,List.set_cons_succ,Option.some.injEq,V.int.injEq,V.bl.injEq,V.ref.injEq,V.str.injEq,exists_eq_left',exists_eq_left,exists_eq',exists_and_left,List.cons.injEq,and_true,true_and,and_self,and_assoc,decide_eq_true_eq,if_true,if_false,Bool.true_eq_false,Js,Bool.not_eq_true',Bool.not_true,Bool.not_false,decide_eq_false_iff_not,ite_true,ite_false,reduceCtorEq,false_and,exists_false,false_or,or_false,and_false];refine ixT (SqT.of ep2) (yi _ _) ?_;refine⟨l,rfl,⟨_,SqL.of el2⟩,λln hln an=> ?_⟩;refine xl (λj xs _=>xs=(ps.take j).map λz=>V.str (SL z.2.1)) (xr (SqL.of el2)) hln (by rw[Ja];exact yQ 'o') (λ_ _=>rfl) (λj x xs H8 K1 K0 hx sm pv hl k1 k0=> ?_) (λxs H3 s3 pv _ w3=> ?_)
 ·obtain⟨u,hu,rfl⟩: ∃u,ps[j]? =some u/\x=u.1:=by
   rw[Jh] at hx;obtain⟨u,e,rfl⟩:=Jk.mp hx;exact⟨u,e,rfl⟩
  obtain⟨p,eu,hq⟩:=pl2 u (Ji hu);rw[eu];lge_open0
  refine ixT (sm.sqT hq) (v:= .str (SL u.2.1)) rfl (k1 _ _ (zj.refl _) λH5 _=> ?_);rw[pv,JH,hu,Jd];rfl
 rw[Ja,JC] at pv;subst pv;have hN:SqL K H3 ln ((xa ps).map λn=>V.str (SL n)):=SqL.of (by rw[w3,xa,List.map_map];rfl);have n1:1<=(xa ps).length:=by unfold xa;rw[Ja];exact o1
 have s03:=(s1.trans s2).trans s3;have hb:=SqL.of (K:=K) (s3 _ _ e2);have hz:xE K H3 p l f dy cc ps:=⟨⟨pc,f0,f1,(hc.same s2).same s3,s3 _ _ ep2⟩,s3 _ _ el2,pl2.same s3,o1,o2,λz hz=>by
  refine opq λ_ kq=> ?_;obtain⟨_,a1,a2,a3,a4⟩:=o3 z.2 (Jw.mpr ⟨z,hz,rfl⟩);apply kq;exact⟨⟨a1,a2⟩,a3,a4⟩⟩
 have hS3:=s03.seq hS;have hT13:=s03 _ _ hT1;have hT23:=s03 _ _ hT2;have hcy:=hc.2;clear hS hT1 hT2 hTs hNd s1 s2 s3 s03 el ep pl hc e2 ep2 el2 pl2 w3 hln an;refine⟨a,ns,3,rfl,hS3,h63,'d',?_⟩;generalize cellOf ns 3=hd;refine⟨a,_,rfl,hS3,λr4 H4 _ s4 e4=>⟨_,rfl,?_⟩⟩;obtain⟨ms,em,m12⟩:=zl2 ns;rw[em] at e4;refine⟨r4,ms,_,lb,f,dy,cc,ln,xa ps,rfl,e4,m12,s4.seq hb,f0,f1,hcy,s4.seq hN,n1,λlt zs H5 s5 fr tT z12 e5=>⟨_,rfl,a,_,rfl,(s4.trans s5).seq hS3,λr6 H6 _ s6 e6=> ?_⟩⟩;obtain⟨ms2,em2,_⟩:=ke ns (some 16) (some 63);rw[em2] at e6;have s36:=(s4.trans s5).trans s6;refine⟨r6,rfl,ms2,SqL.of e6,lt,lb,ln,zs,_,f,dy,cc,xa ps,rfl,s6 _ _ e5,tT.same s6,z12,s36.seq hb,f0,f1,hcy,s36.seq hN,n1,λle es en H7 s7 fe L7 pm7 l48=> ?_⟩;obtain⟨R,hR⟩: ∃R:St->Hp->Prop,R=λσ' H'=> ∃lt zs le es en,zj H3 H'/\H' lt=some (.lst (zs.map λz=>V.ref z.1))/\xV K H' (xa ps) f (Cal.beg f dy cc 60) zs/\zs.length<=12/\Lat K H' le (xa ps) f (Cal.beg f dy cc 60) en es/\(stC (chs es)).Perm (zs.map (·.2))/\es.length<=48/\σ'= [some (.ref a),some (.ref p),some (.ref lb),some (.ref ln),some (.int hd),some (.ref lt),some (.ref le),none,none,none,none]:=⟨_,rfl⟩
 refine⟨R,?_,λσ8 H8 h8=> ?_⟩
 ·open_k0;have s37:=s36.trans s7;refine qE (λ_=> ?_) (λ_=>by rw[hR];exact⟨lt,zs,le,es,en,s37,(s6.trans s7) _ _ e5,(tT.same s6).same s7,z12,L7,pm7,l48,rfl⟩);refine⟨a,_,rfl,s37.seq hS3,λr8 H8 _ s8 e8=> ?_⟩;rw[em] at e8;have s38:=s37.trans s8;refine⟨r8,ms,lb,f,dy,cc,ln,xa ps,rfl,e8,m12,s38.seq hb,f0,f1,hcy,s38.seq hN,n1,λlt zs H9 s9 fr tT z12 e9=> ?_⟩;have s39:=s38.trans s9;refine⟨a,ns,16,rfl,s39.seq hS3,h63,'d',a,_,rfl,s39.seq hS3,λr10 H10 _ s10 e10=> ?_⟩;obtain⟨ms3,em3,m3⟩:=ke ns (some 17) (some 29);rw[em3] at e10;have s310:=s39.trans s10;refine⟨lt,r10,lb,ln,zs,_,ms3,f,dy,cc,xa ps,rfl,s10 _ _ e9,tT.same s10,z12,e10,'o',s310.seq hb,f0,f1,hcy,s310.seq hN,n1,λle es en H11 s11 fe L11 pm11 l48=> ?_⟩;rw[hR];exact⟨lt,zs,le,es,en,s310.trans s11,(s10.trans s11) _ _ e9,(tT.same s10).same s11,z12,L11,pm11,l48,rfl⟩
 rw[hR] at h8;clear hR L7 pm7 l48 s7 e6 e5 e4 tT z12 s36 s5 s6 s4 em em2 m12 fe fr;refine opq λ_ kq=> ?_;obtain⟨lt,zs,le,es,en,s8,e8,tT,z12,L8,pm8,l48,rfl⟩:=h8;apply kq;open_k0;obtain⟨cs,hcs⟩: ∃cs,cs=zs.map (·.2):=⟨_,rfl⟩
 have sg:Sng cs:=by
  rw[hcs];refine⟨λc hc=> ?_,?_⟩
  ·obtain⟨z,hz,rfl⟩:=Jw.mp hc;exact(tT.1 z hz).2.2.1
  ·rw[List.pairwise_map];exact tT.2
 rw[<-hcs] at pm8;obtain⟨R,hR⟩: ∃R:St->Hp->Prop,R=λσ' H'=> ∃l1 es1 x5,qF H3 H'/\H' t.p_12=some (.tbl #[])/\Lat K H' le (xa ps) f (Cal.beg f dy cc 60) en es/\H' l1=some (.lst (es1.map (·.1)))/\yX K H' es1/\qS (xa ps) f (Cal.beg f dy cc 60) es1/\es1.length<=12/\(chs es1).Perm cs/\(∀z∈es1,z.2.2.1=zE z.2.2.2)/\σ'= [some (.ref a),some (.ref p),some (.ref lb),some (.ref ln),some (.int hd),x5,some (.ref le),some (.ref l1),none,none,none]:=⟨_,rfl⟩
 refine⟨R,?_,λσ9 H9 h9=> ?_⟩
 ·simp only[xq,xw,yZ,qA,y8,yY,qz,yV,yR,qx,yT,yU,qy,qw,tDc,y9,qt,qu,qr,yN,yP,qm,yd,qo,qp,qq,ym,List.replicate,Option.join_some,Option.join_none,ya,ql,yK,yJ,tSl,qd,yI,qe,slT,yp,Int.reduceLT,Int.reduceLE,Int.reduceToNat,Int.reduceNeg,Int.reduceAdd,Int.reduceSub,Int.reduceMul,forall_const,yC,yB,yF,yE,qa,yD,yk,yh,yj,yo,yn,tC,tOp,rI,rI0,tUn,rU,yH,tB,yt,tOr,yu,yv,yw,yx,tIf,yr,yq,yL,qk,tCB,yM,rEq,rNe,qf,qg,qh,qi,qj,qc,yG,ipI,L2.start,JA,JQ,Jp,List.length_nil,List.cons_append,List.nil_append,Jt,List.replicate_succ,List.replicate_zero,Nat.reduceAdd,Nat.reduceSub,List.getElem?_cons_zero,List.getElem?_cons_succ,List.set_cons_zero,List.set_cons_succ,Option.some.injEq,V.int.injEq,V.bl.injEq,V.ref.injEq,V.str.injEq,exists_eq_left',exists_eq_left,exists_eq',exists_and_left,List.cons.injEq,and_true,true_and,and_self,and_assoc,decide_eq_true_eq,if_true,if_false,Bool.true_eq_false,Js,Bool.not_eq_true',Bool.not_true,Bool.not_false,decide_eq_false_iff_not,ite_true,ite_false,reduceCtorEq,false_and,exists_false,false_or,or_false,and_false,Nat.reduceLeDiff];refine⟨⟨#[],s8 _ _ hT23,trivial, .inl rfl⟩,λHA gA tA=> ?_⟩;have sA:qF H8 HA:=zie gA (s8 _ _ hT23);have t1:HA t.p_12=some (.tbl #[]):=gA _ _ tne (s8 _ _ hT13);have zl: ∀{α:Type} (g:Cz->α),(zs.map g).length=zs.length:=λg=>Ja ..;refine⟨zs.map λz=>V.ref z.1,sA.lst e8,zs.map λz=>zE z.2,by rw[zl,zl],by rw[zl];omega,λi v z hv hz'=> ?_,λix hix r7 HB _ sB eB=>⟨r7,rfl,⟨_,SqL.of eB⟩,λlc hlc aa=> ?_⟩⟩
  ·rw[Jh] at hv hz';obtain⟨w,hw,rfl⟩:=Jk.mp hv;rw[hw] at hz';cases hz';refine opq λ_ kq=> ?_;obtain⟨hq,_,tm,_⟩:=tT.1 w (Ji hw);obtain⟨r0,er,_⟩:=vk tm;apply kq;rw[er] at hq;exact ixT (sA.sqT hq) (qB _ _ _) ⟨rfl,rfl⟩
  have ixp:=hix.1;rw[zl] at ixp;obtain⟨p1,p2⟩:=kE (λz:Cz=>V.ref z.1) (λi=>(zs.map λz=>V.ref z.1).getD i .non) (0, .back) (λi hi=>vm (λz:Cz=>V.ref z.1) (0, .back) _ hi) ixp;rw[p1] at eB;have wo:(ix.map λi=>zs.getD i (0, .back)).Pairwise (λx y=>zE x.2<=zE y.2):=by
   rw[List.pairwise_map];refine hix.2.imp_of_mem fun {i j} hi hj h=> ?_;rw[vm (λz:Cz=>zE z.2) (0, .back) _ (List.mem_range.mp (ixp.mem_iff.mp hi)),vm (λz:Cz=>zE z.2) (0, .back) _ (List.mem_range.mp (ixp.mem_iff.mp hj))] at h;omega
  clear p1 ixp hix;generalize (ix.map λi=>zs.getD i (0, .back))=ws at eB p2 wo;have wl:=p2.length_eq;have tW: ∀w∈ws,SqT K HB w.1 ((chD w.2).map sv)/\zV w.2=true/\f<=zE w.2/\zE w.2<Cal.beg f dy cc 60/\ ∀S,wg (xa ps) f (Cal.beg f dy cc 60) S w.2:=λw hw=>by
   obtain⟨h1,h2,h3⟩:=tT.1 w (p2.mem_iff.mp hw);exact⟨sB.sqT (sA.sqT h1),h3.1,h2.1,h2.2,kN h3 h2.1 h2.2⟩
  refine xl (λj xs Hx=> ∃es1:List En,xs=es1.map (·.1)/\es1.map (λz=>(z.2.1,z.2.2.2))=ws.take j/\yX K Hx es1/\ ∀z∈es1,z.2.2.1=zE z.2.2.2) (xr (SqL.of eB)) hlc (by rw[Ja];exact yQ 'o') (λ_ _=>⟨[],rfl,rfl,(λz h=>nomatch h),(λz h=>nomatch h)⟩) (λj y xs HC K1 K0 hxx sm pv hl k1 k0=> ?_) (λxs HC sC pv _ wC=> ?_)
  ·refine opq λ_ kq=> ?_;obtain⟨es1,rfl,e1,e2,e3⟩:=pv;rw[Jh] at hxx;obtain⟨w,hw,rfl⟩:=Jk.mp hxx;obtain⟨hq,tm,_⟩:=tW w (Ji hw);have hq:=sm.sqT hq;have hq':=hq;obtain⟨r0,er,_⟩:=vk tm;apply kq;rw[er] at hq';lge_open0
   refine .inr (.inl (ixT hq' (qB _ _ _) ⟨qC 'd',λpt HD _ sD eD=>k1 _ _ sD λHE hE=>⟨es1++ [(.ref pt,w.1,zE w.2,w.2)],by rw[Jd];rfl,?_,λz hz=> ?_,λz hz=> ?_⟩⟩))
   ·rw[Jd,e1,JH,hw];rfl
   ·have ll:=sD _ _ hl;rcases Jr.mp hz with hz|hz
    ·exact(e2.same sD).off ll hE z hz
    ·rw[Jm.mp hz];exact⟨pt,rfl,SqT.of (hE _ _ (λz=>by rw[z,ll] at eD;cases eD) eD),wV (sD.sqT hq) ll hE⟩
   ·rcases Jr.mp hz with hz|hz
    ·exact e3 z hz
    ·rw[Jm.mp hz]
  rw[Ja,JC] at pv;refine opq λ_ kq=> ?_;obtain⟨es1,rfl,e1,e2,e3⟩:=pv;apply kq;have sBC:=sB.trans sC;have s8C:=sA.trans (wN sBC);have ew: ∀z∈es1,(z.2.1,z.2.2.2)∈ws:=λz hz=>by rw[<-e1];exact Jw.mpr ⟨z,hz,rfl⟩
  have ech:chs es1=ws.map (·.2):=by rw[<-e1,List.map_map];rfl
  rw[hR];refine⟨lc,es1,_,(wN s8).trans s8C,sBC _ _ t1,L8.sS s8C,wC,e2,zl3 ?_ λz hz=> ?_,?_,?_,e3,rfl⟩
  ·have:=wo;rw[<-e1,List.pairwise_map] at this;exact this.imp_of_mem fun {x y} hx hy h=>by rw[e3 x hx,e3 y hy];exact h
  ·refine opq λ_ kq=> ?_;obtain⟨_,_,h3,h4,h5⟩:=tW _ (ew z hz);apply kq;rw[e3 z hz];exact⟨h3,h4,h5⟩
  ·have:=congrArg List.length e1;rw[Ja] at this;omega
  ·rw[ech,hcs];exact p2.map (·.2)
 rw[hR] at h9;clear hR tT e8 z12 s8 L8;refine opq λ_ kq=> ?_;obtain⟨l1,es1,x5,s9,t9,L9,e9,eE9,eO,e12,pm1,edy,rfl⟩:=h9;apply kq;have acc9:Acc K H9 p f dy cc ps:=zl0 ⟨l,hz.1,SqL.of hz.2.1,hz.2.2.1,o1,o2⟩ s9;have hb9:=s9.seq hb;open_k0;refine⟨_, .inl (SqL.of L9.li),?_⟩;rw[Ja];by_cases l40:40<es.length
 ·exact qZ 'o' ⟨_, .inl (SqL.of L9.li),by rw[Ja,JN 'o'];exact q _⟩
 refine zW 'o' ⟨p,l1,f,dy,cc,ps,es1,rfl,acc9,SqL.of e9,eE9,'o',eO,λHA sA=> ?_⟩;show if¬V.non=V.non then _ else _
 rw[Jf (λz=>z rfl)];have L9A:=L9.same sA;refine⟨p,le,f,dy,cc,ps,es,rfl,acc9.same sA,SqL.of L9A.li,L9A.at','o',L9A.ok,λHB sB=> ?_⟩;show if¬V.non=V.non then _ else _
 rw[Jf (λz=>z rfl)];have s9B:=sA.trans sB;refine ixL (s9B.seq hb9) (qK 'd' 'd') ⟨_,rfl,l1,es1,_,rfl,SqL.of (s9B _ _ e9),eE9.same s9B,'o',eO.pair,w6 eO,λr1 as1 HC _ sC eC told1=> ?_⟩;have s9C:=s9B.trans sC;refine ixL (s9C.seq hb9) (qK 'd' 'd') ⟨_,rfl,le,es,_,rfl,SqL.of (L9.same s9C).li,(L9.same s9C).at','o',L9.ok.pair,w6 L9.ok,λr2 as2 HD _ sD eD told2=> ?_⟩;have s9D:=s9C.trans sD;have L9D:=L9.same s9D;refine opq λ_ kq=> ?_;obtain⟨ts,hts,tm1,tz1⟩:=zg5 eO.pair (w6 eO) 'o' (eE9.same s9D) (EnB.of eO) (sD _ _ eC) (told1.same sD);obtain⟨us,hus,tm2,tz2⟩:=zg5 L9.ok.pair (w6 L9.ok) 'o' L9D.at' (EnB.of L9.ok) eD told2;apply kq;have b6:=Cal.beg_range (k:=60) f0 f1 hcy 'd' 'd';have kk: ∀{zs:List En} {ts:List Tm},qS (xa ps) f (Cal.beg f dy cc 60) zs->ts.map (λt=>(t.2.2.1,t.2.2.2))=(qV zs (Cal.beg f dy cc 60 - 1)).map (λk=>(k,(zs.getD k.toNat (.non,0,0, .back)).2.2.2))->ts.map (λt=>t.2.2.2)=stC (chs zs):=fun {zs ts} ok h=>by
  rw[ziT (λz hz=>by
   obtain⟨i,hi⟩:=List.mem_iff_getElem?.mp hz
   have:=(ok i z hi).2.1;omega)] at h
  have:=congrArg (List.map (·.2)) h;rw[List.map_map,List.map_map] at this;exact this.trans (zl1 zs)
 have k1:=kk eO tm1;have k2:=kk L9.ok tm2;have st1:=zii (chs es1) [] λc hc=>sg.1 c (pm1.mem_iff.mp hc);rw[List.nil_append] at st1;have pt:(ts.map λt=>t.2.2.2).Perm cs:=by rw[k1,st1];exact pm1
 have pu:(us.map λt=>t.2.2.2).Perm cs:=by rw[k2];exact pm8
 obtain⟨G,hG1,hG2⟩:=zj7 dy cc f0 'o' hts hus (sg.perm pt) (pu.trans pt.symm);have hx1:=(zj4 (eE9.same s9D) 'o' eO).tmx (λt h=>(hts.2.2.1 t h).2.2.1) tz1;have hx2:=(zj4 L9D.at' 'o' L9.ok).tmx (λt h=>(hus.2.2.1 t h).2.2.1) tz2;clear tm1 tm2 tz1 tz2 told1 told2 k1 k2 kk;obtain⟨R,hR⟩: ∃R:St->Hp->Prop,R=λσ' H'=>zj HD H'/\σ'= [some (.ref a),some (.ref p),some (.ref lb),some (.ref ln),some (.int hd),x5,some (.ref le),some (.ref l1),some (.ref r1),some (.ref r2),none]:=⟨_,rfl⟩
 refine⟨R,?_,λσE HE hE=> ?_⟩
 ·simp only[xq,xw,yZ,qA,y8,yY,qz,yV,yR,qx,yT,yU,qy,qw,tDc,y9,qt,qu,qr,yN,yP,qm,yd,qo,qp,qq,ym,List.replicate,Option.join_some,Option.join_none,ya,ql,yK,yJ,tSl,qd,yI,qe,slT,yp,Int.reduceLT,Int.reduceLE,Int.reduceToNat,Int.reduceNeg,Int.reduceAdd,Int.reduceSub,Int.reduceMul,forall_const,yC,yB,yF,yE,qa,yD,yk,yh,yj,yo,yn,tC,tOp,rI,rI0,tUn,rU,yH,tB,yt,tOr,yu,yv,yw,yx,tIf,yr,yq,yL,qk,tCB,yM,rEq,rNe,qf,qg,qh,qi,qj,qc,yG,ipI,L2.start,JA,JQ,Jp,List.length_nil,List.cons_append,List.nil_append,Jt,List.replicate_succ,List.replicate_zero,Nat.reduceAdd,Nat.reduceSub,List.getElem?_cons_zero,List.getElem?_cons_succ,List.set_cons_zero,List.set_cons_succ,Option.some.injEq,V.int.injEq,V.bl.injEq,V.ref.injEq,V.str.injEq,exists_eq_left',exists_eq_left,exists_eq',exists_and_left,List.cons.injEq,and_true,true_and,and_self,and_assoc,decide_eq_true_eq,if_true,if_false,Bool.true_eq_false,Js,Bool.not_eq_true',Bool.not_true,Bool.not_false,decide_eq_false_iff_not,ite_true,ite_false,reduceCtorEq,false_and,exists_false,false_or,or_false,and_false,Nat.reduceLeDiff];refine⟨⟨_,SqL.of hts.1⟩,λlc hlc aa=> ?_⟩;refine xl (λj xs _=>xs=(ts.take j).map λt=>V.ref t.2.1) (xr (SqL.of hts.1)) hlc (by rw[Ja];exact yQ (by have:=hts.2.1;omega)) (λ_ _=>rfl) (λj y xs H8 K1 K0 hxx sm pv hl k1 k0=> ?_) (λxs HF sF pv _ wF=> ?_)
  ·rw[Jh] at hxx;obtain⟨w,hw,rfl⟩:=Jk.mp hxx;have ta:=(hts.2.2.1 w (Ji hw)).1.1;lge_open0
   refine⟨w.1,_,rfl,SqT.of (sm _ _ ta),rfl,?_⟩;try open_k0
   refine k1 _ _ (zj.refl _) λH5 _=> ?_;rw[pv,JH,hw,Jd];rfl
  rw[Ja,JC] at pv;subst pv;refine⟨lc,rfl,ts.map (λt=>(t.2.1,t.2.2.2)),by rw[wF,List.map_map];rfl,by rw[Ja];exact hts.2.1,λz hz=> ?_,?_,λws1 wp1 wo1 p1 HG _ sG eG=> ?_⟩
  ·refine opq λ_ kq=> ?_;obtain⟨w,hw,rfl⟩:=Jw.mp hz;obtain⟨⟨_,a2⟩,_,b1,b2,b3,_⟩:=hts.2.2.1 w hw;apply kq;exact⟨b1,by show 0<=zE w.2.2.2;omega,by show zE w.2.2.2<4000000;omega,sF.sqT a2⟩
  ·have pw:=(sg.perm pt).2;rw[List.pairwise_map] at pw ⊢;exact pw.imp_of_mem fun {x y} hx hy n z=>n ⟨kP z.1 (hts.2.2.1 x hx).2.2.1 (hts.2.2.1 y hy).2.2.1,z.2⟩
  have sFG:=sF.trans sG;have husG:=hus.same sFG;refine⟨⟨_,SqL.of husG.1⟩,λlc2 hlc aa=> ?_⟩;refine xl (λj xs _=>xs=(us.take j).map λt=>V.ref t.2.1) (xr (SqL.of husG.1)) hlc (by rw[Ja];exact yQ (by have:=husG.2.1;omega)) (λ_ _=>rfl) (λj y xs H8 K1 K0 hxx sm pv hl k1 k0=> ?_) (λxs HI sI pv _ wI=> ?_)
  ·rw[Jh] at hxx;obtain⟨w,hw,rfl⟩:=Jk.mp hxx;have ta:=(husG.2.2.1 w (Ji hw)).1.1;lge_open0
   refine⟨w.1,_,rfl,SqT.of (sm _ _ ta),rfl,?_⟩;try open_k0
   refine k1 _ _ (zj.refl _) λH5 _=> ?_;rw[pv,JH,hw,Jd];rfl
  rw[Ja,JC] at pv;subst pv;refine⟨lc2,rfl,us.map (λt=>(t.2.1,t.2.2.2)),by rw[wI,List.map_map];rfl,by rw[Ja];exact husG.2.1,λz hz=> ?_,?_,λws2 wp2 wo2 p2 HJ _ sJ eJ=> ?_⟩
  ·refine opq λ_ kq=> ?_;obtain⟨w,hw,rfl⟩:=Jw.mp hz;obtain⟨⟨_,a2⟩,_,b1,b2,b3,_⟩:=husG.2.2.1 w hw;apply kq;exact⟨b1,by show 0<=zE w.2.2.2;omega,by show zE w.2.2.2<4000000;omega,sI.sqT a2⟩
  ·have pw:=(sg.perm pu).2;rw[List.pairwise_map] at pw ⊢;exact pw.imp_of_mem fun {x y} hx hy n z=>n ⟨kP z.1 (husG.2.2.1 x hx).2.2.1 (husG.2.2.1 y hy).2.2.1,z.2⟩
  have we:ws1.map (·.2)=ws2.map (·.2):=by
   have q1:=wp1.map (·.2);have q2:=wp2.map (·.2);rw[List.map_map] at q1 q2;exact ky (lt:=λa b=>rkC a<rkC b) (λa b h g=>by omega) ((q1.trans pt).trans (q2.trans pu).symm) (by rw[List.pairwise_map];exact wo1) (by rw[List.pairwise_map];exact wo2)
  have sGJ:=sI.trans sJ;have d1: ∀w∈ws1,SqT K HJ w.1 ((chD w.2).map sv):=λw hw=>by
   obtain⟨x,hx,rfl⟩:=Jw.mp (wp1.mem_iff.mp hw);exact(sFG.trans sGJ).sqT (hts.2.2.1 x hx).1.2
  have d2: ∀w∈ws2,SqT K HJ w.1 ((chD w.2).map sv):=λw hw=>by
   obtain⟨x,hx,rfl⟩:=Jw.mp (wp2.mem_iff.mp hw);exact(sFG.trans sGJ).sqT (hus.2.2.1 x hx).1.2
  have dd:Dp K HJ 2 (.lst (ws1.map λz=> .tup (chD z.2))) (.ref p2):=by
   rw[show (ws1.map λz=>D.tup (chD z.2))=(ws1.map (·.2)).map (λc=>D.tup (chD c)) from by rw[List.map_map];rfl,we,List.map_map];exact wK (SqL.of eJ) (uL d2)
  refine neD (n:=1) (wK (SqL.of (sGJ _ _ eG)) (uL d1)) dd rfl 'd' ⟨_,rfl,zW 'd' ?_⟩;rw[hR];exact⟨sFG.trans sGJ,rfl⟩
 rw[hR] at hE;clear hR;obtain⟨sE,rfl⟩:=hE;open_k0;have s9E:=s9D.trans sE;have LE:=L9.same s9E;simp only[xq,xw,yZ,qA,y8,yY,qz,yV,yR,qx,yT,yU,qy,qw,tDc,y9,qt,qu,qr,yN,yP,qm,yd,qo,qp,qq,ym,List.replicate,Option.join_some,Option.join_none,ya,ql,yK,yJ,tSl,qd,yI,qe,slT,yp,Int.reduceLT,Int.reduceLE,Int.reduceToNat,Int.reduceNeg,Int.reduceAdd,Int.reduceSub,Int.reduceMul,forall_const,yC,yB,yF,yE,qa,yD,yk,yh,yj,yo,yn,tC,tOp,rI,rI0,tUn,rU,yH,tB,yt,tOr,yu,yv,yw,yx,tIf,yr,yq,yL,qk,tCB,yM,rEq,rNe,qf,qg,qh,qi,qj,qc,yG,ipI,L2.start,JA,JQ,Jp,List.length_nil,List.cons_append,List.nil_append,Jt,List.replicate_succ,List.replicate_zero,Nat.reduceAdd,Nat.reduceSub,List.getElem?_cons_zero,List.getElem?_cons_succ,List.set_cons_zero,List.set_cons_succ,Option.some.injEq,V.int.injEq,V.bl.injEq,V.ref.injEq,V.str.injEq,exists_eq_left',exists_eq_left,exists_eq',exists_and_left,List.cons.injEq,and_true,true_and,and_self,and_assoc,decide_eq_true_eq,if_true,if_false,Bool.true_eq_false,Js,Bool.not_eq_true',Bool.not_true,Bool.not_false,decide_eq_false_iff_not,ite_true,ite_false,reduceCtorEq,false_and,exists_false,false_or,or_false,and_false,Nat.reduceLeDiff];refine⟨le,es,rfl,SqL.of LE.li,LE.at','o',w6 L9.ok,⟨#[],s9E _ _ t9,trivial, .inl rfl⟩,λr3 rs so HF _ sF tF oF eF rE it rce=>⟨r3,rfl,⟨_,SqL.of eF⟩,λlc hlc aa=> ?_⟩⟩;have rl:rs.length<=40:=by
  have h1:=congrArg List.length rce;have h2:=it.1.length_eq;have h3:=ziF (es.map ce) (es.map ce).length;unfold uF at h2;rw[Ja] at h1 h2 h3;rw[Ja] at h1;omega
 have ro:=zij (w6 L9.ok) it rce pm8;refine xl (λj xs _=>xs=((rs.take j).filter λz=> !qD z.2.2.2).map (·.1)) (xr (SqL.of eF)) hlc (by rw[Ja];exact yQ 'o') (λ_ _=>rfl) (λj y xs H8 K1 K0 hxx sm pv hl k1 k0=> ?_) (λxs HG sG pv _ wG=> ?_)
 ·rw[Jh] at hxx;refine opq λ_ kq=> ?_;obtain⟨z,hz',rfl⟩:=Jk.mp hxx;obtain⟨pe,ee,q1,q2⟩:=(rE.same sm) z (Ji hz');obtain⟨r0,er⟩:=uy z.2.2.2;apply kq;rw[er] at q2;have nx:(rs.take (j+1)).filter (λz=> !qD z.2.2.2)=(rs.take j).filter (λz=> !qD z.2.2.2)++(if (!qD z.2.2.2)=true then [z] else []):=by
   rw[JH,hz',Option.toList_some,JS];congr 1;rw[JT];rfl
  lge_open0
  rw[ee];refine .inr (.inl (ixT q1 (qB _ _ _) (ixT q2 (yi _ _) ⟨qC 'd',λp4 H9' _ s9' e9'=> ?_⟩)));have e9'':H9' p4=some (.tup (([[103,114,97,110,116], [98,97,99,107]]:List (List Nat)).map λw=>V.str (SL w))):=e9';refine⟨p4,_,rfl, .inr (SqT.of e9''),rfl,rfl,?_⟩;rw[Jg rfl,vC,zh5];refine⟨_,rfl,qE (λh=>k1 _ _ s9' λH5 _=> ?_) (λh=>k0 _ s9' ?_)⟩
  ·rw[pv,nx,Jg h,Jd,<-ee];rfl
  ·rw[pv,nx,Jf h,Jt]
 rw[Ja,JC] at pv;subst pv;have fl:(rs.filter λz=> !qD z.2.2.2).length<=40:=JE (List.length_filter_le _ _) rl;have fE:yX K HG (rs.filter λz=> !qD z.2.2.2):=λz hz=>(rE.same sG) z (List.mem_filter.mp hz).1;clear rce it;generalize (rs.filter λz=> !qD z.2.2.2)=fz at ro fl fE wG;refine⟨lc,rfl,fz,wG,'o',fE,λz hz=>(ro.tm z hz).1,ro.pair sg,λws1 wp1 wo1 p1 HI _ sI eI=> ?_⟩;have sFI:=sG.trans sI;have sEI:qF HE HI:=sF.trans (wN sFI);have s9I:qF H9 HI:=(wN s9E).trans sEI;refine⟨l1,es1,rfl,SqL.of (s9I.lst e9),jD eE9 s9I,'o',w6 eO,Tab.same tF sFI,λr4 rs2 so2 HJ _ sJ tJ oJ eJ rE2 it2 rce2=> ?_⟩;have ro2:=zij (cs:=cs) (w6 eO) it2 rce2 (by rw[st1];exact pm1);rw[zj8 (λc hc=>sg.1 c (pm1.mem_iff.mp hc)) it2 rce2] at ro2;have rl2:rs2.length<=12:=by
  have:=ro2.pm.length_eq;have h2:=pm1.length_eq;rw[Ja] at this;rw[xT] at h2;omega
 refine⟨r4,rfl,rs2,eJ,'o',rE2,λz hz=>(ro2.tm z hz).1,ro2.pair sg,λws2 wp2 wo2 p2 HK _ sK eK=> ?_⟩;have w1:yX K HK ws1:=λz hz=>(jD ((fE.same sI)) (sJ.trans (wN sK))) z (wp1.mem_iff.mp hz);have w2:yX K HK ws2:=λz hz=>(rE2.same sK) z (wp2.mem_iff.mp hz);have dd:Dp K HK 3 (.lst (ws1.map enD)) (.ref p2):=by
  rw[(ro.perm wp1).one (ro2.perm wp2) wo1 wo2];exact wK (SqL.of eK) w2.all2
 refine neD (n:=2) (wK (SqL.of (sK _ _ (sJ.lst eI))) w1.all2) dd rfl 'd' ⟨_,rfl,zW 'd' ?_⟩;have sEK:qF HE HK:=(sEI.trans sJ).trans (wN sK);have sDK:qF HD HK:=(wN sE).trans sEK;have s3K:qF H3 HK:=s9.trans ((wN s9D).trans sDK);have hzK:=zkU hz s3K;have htsK:xc K HK r1 f (Cal.beg f dy cc 60) ts:=zj9 hts sDK;have husK:xc K HK r2 f (Cal.beg f dy cc 60) us:=zj9 hus sDK;have hbK:=s3K.seq hb;refine⟨p,r1,r2,lb,l,f,dy,cc,ps,ts,us,G,hd,rfl,hzK,htsK,hx1,hG1,husK,hx2,hG2,hbK,λHL sL=>⟨_,rfl,zW 'd' ?_⟩⟩;exact⟨p,r1,r2,lb,l,f,dy,cc,ps,ts,us,G,hd,rfl,hzK.same sL,htsK.same sL,hx1,hG1,husK.same sL,hx2,hG2,sL.seq hbK,λHM _=>q HM⟩
end
theorem qW{P:List α->Prop}(h: ∀a0,P [a0])(us:List α)(l:us.length=1):P us:=match us,l with| [a0],_=>h a0
theorem xf{P:List α->Prop}(h: ∀a0 a1,P [a0,a1])(us:List α)(l:us.length=2):P us:=match us,l with| [a0,a1],_=>h a0 a1
theorem xH{P:List α->Prop}(h: ∀a0 a1 a2,P [a0,a1,a2])(us:List α)(l:us.length=3):P us:=match us,l with| [a0,a1,a2],_=>h a0 a1 a2
theorem vJ{P:List α->Prop}(h: ∀a0 a1 a2 a3,P [a0,a1,a2,a3])(us:List α)(l:us.length=4):P us:=match us,l with| [a0,a1,a2,a3],_=>h a0 a1 a2 a3
theorem kQ{P:List α->Prop}(h: ∀a0 a1 a2 a3 a4,P [a0,a1,a2,a3,a4])(us:List α)(l:us.length=5):P us:=match us,l with| [a0,a1,a2,a3,a4],_=>h a0 a1 a2 a3 a4
abbrev fnS(x q:Str)(s:Stmt)(tV kV dc pm:Value)(an:Option Addr)(cd ct:Value):=PySem.W.fnOf x q (vP s) (vc s) (zJ s) tV kV dc pm an cd ct
open PySem.W in
theorem txt_mk{w:World}{h:Heap}(X:K.In h)(G:h.Ns mainGlobals mg)
  (ha0:nsIn K mainGlobals "has_leap_day"=some (some (.ref f0)))
  (hl0:K.lookup f0=some ⟨oc0,od0, .func (fnS "has_leap_day" "has_leap_day" s_00 .none kV0 dc0 pm0 an0 cd0 ct0),sl0⟩)
  (hc0:codeIn K cd0 "has_leap_day"=true)
  (hk0:keepIn K (.ref f0)=true)
  (ha1:nsIn K mainGlobals "days_in"=some (some (.ref f1)))
  (hl1:K.lookup f1=some ⟨oc1,od1, .func (fnS "days_in" "days_in" s_01 .none kV1 dc1 pm1 an1 cd1 ct1),sl1⟩)
  (hc1:codeIn K cd1 "days_in"=true)
  (hk1:keepIn K (.ref f1)=true)
  (ha2:nsIn K mainGlobals "days_ahead_of_year"=some (some (.ref f2)))
  (hl2:K.lookup f2=some ⟨oc2,od2, .func (fnS "days_ahead_of_year" "days_ahead_of_year" s_02 .none kV2 dc2 pm2 an2 cd2 ct2),sl2⟩)
  (hc2:codeIn K cd2 "days_ahead_of_year"=true)
  (hk2:keepIn K (.ref f2)=true)
  (ha3:nsIn K mainGlobals "day_of"=some (some (.ref f3)))
  (hl3:K.lookup f3=some ⟨oc3,od3, .func (fnS "day_of" "day_of" s_03 .none kV3 dc3 pm3 an3 cd3 ct3),sl3⟩)
  (hc3:codeIn K cd3 "day_of"=true)
  (hk3:keepIn K (.ref f3)=true)
  (ha4:nsIn K mainGlobals "year_of"=some (some (.ref f4)))
  (hl4:K.lookup f4=some ⟨oc4,od4, .func (fnS "year_of" "year_of" s_04 .none kV4 dc4 pm4 an4 cd4 ct4),sl4⟩)
  (hc4:codeIn K cd4 "year_of"=true)
  (hk4:keepIn K (.ref f4)=true)
  (ha5:nsIn K mainGlobals "date_of"=some (some (.ref f5)))
  (hl5:K.lookup f5=some ⟨oc5,od5, .func (fnS "date_of" "date_of" s_05 .none kV5 dc5 pm5 an5 cd5 ct5),sl5⟩)
  (hc5:codeIn K cd5 "date_of"=true)
  (hk5:keepIn K (.ref f5)=true)
  (ha6:nsIn K mainGlobals "months_on"=some (some (.ref f6)))
  (hl6:K.lookup f6=some ⟨oc6,od6, .func (fnS "months_on" "months_on" s_06 .none kV6 dc6 pm6 an6 cd6 ct6),sl6⟩)
  (hc6:codeIn K cd6 "months_on"=true)
  (hk6:keepIn K (.ref f6)=true)
  (ha7:nsIn K mainGlobals "begin_of"=some (some (.ref f7)))
  (hl7:K.lookup f7=some ⟨oc7,od7, .func (fnS "begin_of" "begin_of" s_07 .none kV7 dc7 pm7 an7 cd7 ct7),sl7⟩)
  (hc7:codeIn K cd7 "begin_of"=true)
  (hk7:keepIn K (.ref f7)=true)
  (ha8:nsIn K mainGlobals "span_on"=some (some (.ref f8)))
  (hl8:K.lookup f8=some ⟨oc8,od8, .func (fnS "span_on" "span_on" s_08 .none kV8 dc8 pm8 an8 cd8 ct8),sl8⟩)
  (hc8:codeIn K cd8 "span_on"=true)
  (hk8:keepIn K (.ref f8)=true)
  (ha9:nsIn K mainGlobals "is_whole"=some (some (.ref f9)))
  (hl9:K.lookup f9=some ⟨oc9,od9, .func (fnS "is_whole" "is_whole" s_09 .none kV9 dc9 pm9 an9 cd9 ct9),sl9⟩)
  (hc9:codeIn K cd9 "is_whole"=true)
  (hk9:keepIn K (.ref f9)=true)
  (ha10:nsIn K mainGlobals "is_whole_between"=some (some (.ref f10)))
  (hl10:K.lookup f10=some ⟨oc10,od10, .func (fnS "is_whole_between" "is_whole_between" s_0a .none kV10 dc10 pm10 an10 cd10 ct10),sl10⟩)
  (hc10:codeIn K cd10 "is_whole_between"=true)
  (hk10:keepIn K (.ref f10)=true)
  (ha11:nsIn K mainGlobals "end_of_account"=some (some (.ref f11)))
  (hl11:K.lookup f11=some ⟨oc11,od11, .func (fnS "end_of_account" "end_of_account" s_0b .none kV11 dc11 pm11 an11 cd11 ct11),sl11⟩)
  (hc11:codeIn K cd11 "end_of_account"=true)
  (hk11:keepIn K (.ref f11)=true)
  (ha12:nsIn K mainGlobals "is_day_of"=some (some (.ref f12)))
  (hl12:K.lookup f12=some ⟨oc12,od12, .func (fnS "is_day_of" "is_day_of" s_0c .none kV12 dc12 pm12 an12 cd12 ct12),sl12⟩)
  (hc12:codeIn K cd12 "is_day_of"=true)
  (hk12:keepIn K (.ref f12)=true)
  (ha13:nsIn K mainGlobals "span_days"=some (some (.ref f13)))
  (hl13:K.lookup f13=some ⟨oc13,od13, .func (fnS "span_days" "span_days" s_0d .none kV13 dc13 pm13 an13 cd13 ct13),sl13⟩)
  (hc13:codeIn K cd13 "span_days"=true)
  (hk13:keepIn K (.ref f13)=true)
  (ha14:nsIn K mainGlobals "span_with"=some (some (.ref f14)))
  (hl14:K.lookup f14=some ⟨oc14,od14, .func (fnS "span_with" "span_with" s_0e .none kV14 dc14 pm14 an14 cd14 ct14),sl14⟩)
  (hc14:codeIn K cd14 "span_with"=true)
  (hk14:keepIn K (.ref f14)=true)
  (ha15:nsIn K mainGlobals "share"=some (some (.ref f15)))
  (hl15:K.lookup f15=some ⟨oc15,od15, .func (fnS "share" "share" s_0f .none kV15 dc15 pm15 an15 cd15 ct15),sl15⟩)
  (hc15:codeIn K cd15 "share"=true)
  (hk15:keepIn K (.ref f15)=true)
  (ha16:nsIn K mainGlobals "counts_from"=some (some (.ref f16)))
  (hl16:K.lookup f16=some ⟨oc16,od16, .func (fnS "counts_from" "counts_from" s_0g .none kV16 dc16 pm16 an16 cd16 ct16),sl16⟩)
  (hc16:codeIn K cd16 "counts_from"=true)
  (hk16:keepIn K (.ref f16)=true)
  (ha17:nsIn K mainGlobals "in_order"=some (some (.ref f17)))
  (hl17:K.lookup f17=some ⟨oc17,od17, .func (fnS "in_order" "in_order" s_0h .none kV17 dc17 pm17 an17 cd17 ct17),sl17⟩)
  (hc17:codeIn K cd17 "in_order"=true)
  (hk17:keepIn K (.ref f17)=true)
  (ha18:nsIn K mainGlobals "state_by"=some (some (.ref f18)))
  (hl18:K.lookup f18=some ⟨oc18,od18, .func (fnS "state_by" "state_by" s_0i .none kV18 dc18 pm18 an18 cd18 ct18),sl18⟩)
  (hc18:codeIn K cd18 "state_by"=true)
  (hk18:keepIn K (.ref f18)=true)
  (ha19:nsIn K mainGlobals "state_on"=some (some (.ref f19)))
  (hl19:K.lookup f19=some ⟨oc19,od19, .func (fnS "state_on" "state_on" s_0j .none kV19 dc19 pm19 an19 cd19 ct19),sl19⟩)
  (hc19:codeIn K cd19 "state_on"=true)
  (hk19:keepIn K (.ref f19)=true)
  (ha20:nsIn K mainGlobals "stretches_by"=some (some (.ref f20)))
  (hl20:K.lookup f20=some ⟨oc20,od20, .func (fnS "stretches_by" "stretches_by" s_0k .none kV20 dc20 pm20 an20 cd20 ct20),sl20⟩)
  (hc20:codeIn K cd20 "stretches_by"=true)
  (hk20:keepIn K (.ref f20)=true)
  (ha21:nsIn K mainGlobals "price_and_count"=some (some (.ref f21)))
  (hl21:K.lookup f21=some ⟨oc21,od21, .func (fnS "price_and_count" "price_and_count" s_0l .none kV21 dc21 pm21 an21 cd21 ct21),sl21⟩)
  (hc21:codeIn K cd21 "price_and_count"=true)
  (hk21:keepIn K (.ref f21)=true)
  (ha22:nsIn K mainGlobals "stretch_cost"=some (some (.ref f22)))
  (hl22:K.lookup f22=some ⟨oc22,od22, .func (fnS "stretch_cost" "stretch_cost" s_0m .none kV22 dc22 pm22 an22 cd22 ct22),sl22⟩)
  (hc22:codeIn K cd22 "stretch_cost"=true)
  (hk22:keepIn K (.ref f22)=true)
  (ha23:nsIn K mainGlobals "day_cost"=some (some (.ref f23)))
  (hl23:K.lookup f23=some ⟨oc23,od23, .func (fnS "day_cost" "day_cost" s_0n .none kV23 dc23 pm23 an23 cd23 ct23),sl23⟩)
  (hc23:codeIn K cd23 "day_cost"=true)
  (hk23:keepIn K (.ref f23)=true)
  (ha24:nsIn K mainGlobals "lines_ahead"=some (some (.ref f24)))
  (hl24:K.lookup f24=some ⟨oc24,od24, .func (fnS "lines_ahead" "lines_ahead" s_0o .none kV24 dc24 pm24 an24 cd24 ct24),sl24⟩)
  (hc24:codeIn K cd24 "lines_ahead"=true)
  (hk24:keepIn K (.ref f24)=true)
  (ha25:nsIn K mainGlobals "cost_of"=some (some (.ref f25)))
  (hl25:K.lookup f25=some ⟨oc25,od25, .func (fnS "cost_of" "cost_of" s_0p .none kV25 dc25 pm25 an25 cd25 ct25),sl25⟩)
  (hc25:codeIn K cd25 "cost_of"=true)
  (hk25:keepIn K (.ref f25)=true)
  (ha26:nsIn K mainGlobals "span_lines"=some (some (.ref f26)))
  (hl26:K.lookup f26=some ⟨oc26,od26, .func (fnS "span_lines" "span_lines" s_0q .none kV26 dc26 pm26 an26 cd26 ct26),sl26⟩)
  (hc26:codeIn K cd26 "span_lines"=true)
  (hk26:keepIn K (.ref f26)=true)
  (ha27:nsIn K mainGlobals "span_cost"=some (some (.ref f27)))
  (hl27:K.lookup f27=some ⟨oc27,od27, .func (fnS "span_cost" "span_cost" s_0r .none kV27 dc27 pm27 an27 cd27 ct27),sl27⟩)
  (hc27:codeIn K cd27 "span_cost"=true)
  (hk27:keepIn K (.ref f27)=true)
  (ha28:nsIn K mainGlobals "earned"=some (some (.ref f28)))
  (hl28:K.lookup f28=some ⟨oc28,od28, .func (fnS "earned" "earned" s_0s .none kV28 dc28 pm28 an28 cd28 ct28),sl28⟩)
  (hc28:codeIn K cd28 "earned"=true)
  (hk28:keepIn K (.ref f28)=true)
  (ha29:nsIn K mainGlobals "is_term"=some (some (.ref f29)))
  (hl29:K.lookup f29=some ⟨oc29,od29, .func (fnS "is_term" "is_term" s_0t .none kV29 dc29 pm29 an29 cd29 ct29),sl29⟩)
  (hc29:codeIn K cd29 "is_term"=true)
  (hk29:keepIn K (.ref f29)=true)
  (ha30:nsIn K mainGlobals "names_of"=some (some (.ref f30)))
  (hl30:K.lookup f30=some ⟨oc30,od30, .func (fnS "names_of" "names_of" s_0u .none kV30 dc30 pm30 an30 cd30 ct30),sl30⟩)
  (hc30:codeIn K cd30 "names_of"=true)
  (hk30:keepIn K (.ref f30)=true)
  (ha31:nsIn K mainGlobals "fits_term"=some (some (.ref f31)))
  (hl31:K.lookup f31=some ⟨oc31,od31, .func (fnS "fits_term" "fits_term" s_0v .none kV31 dc31 pm31 an31 cd31 ct31),sl31⟩)
  (hc31:codeIn K cd31 "fits_term"=true)
  (hk31:keepIn K (.ref f31)=true)
  (ha32:nsIn K mainGlobals "fits_grant"=some (some (.ref f32)))
  (hl32:K.lookup f32=some ⟨oc32,od32, .func (fnS "fits_grant" "fits_grant" s_0w .none kV32 dc32 pm32 an32 cd32 ct32),sl32⟩)
  (hc32:codeIn K cd32 "fits_grant"=true)
  (hk32:keepIn K (.ref f32)=true)
  (ha33:nsIn K mainGlobals "fits_undo"=some (some (.ref f33)))
  (hl33:K.lookup f33=some ⟨oc33,od33, .func (fnS "fits_undo" "fits_undo" s_0x .none kV33 dc33 pm33 an33 cd33 ct33),sl33⟩)
  (hc33:codeIn K cd33 "fits_undo"=true)
  (hk33:keepIn K (.ref f33)=true)
  (ha34:nsIn K mainGlobals "fits"=some (some (.ref f34)))
  (hl34:K.lookup f34=some ⟨oc34,od34, .func (fnS "fits" "fits" s_0y .none kV34 dc34 pm34 an34 cd34 ct34),sl34⟩)
  (hc34:codeIn K cd34 "fits"=true)
  (hk34:keepIn K (.ref f34)=true)
  (ha35:nsIn K mainGlobals "standing_terms"=some (some (.ref f35)))
  (hl35:K.lookup f35=some ⟨oc35,od35, .func (fnS "standing_terms" "standing_terms" s_0z .none kV35 dc35 pm35 an35 cd35 ct35),sl35⟩)
  (hc35:codeIn K cd35 "standing_terms"=true)
  (hk35:keepIn K (.ref f35)=true)
  (ha36:nsIn K mainGlobals "check_entries"=some (some (.ref f36)))
  (hl36:K.lookup f36=some ⟨oc36,od36, .func (fnS "check_entries" "check_entries" s_10 .none kV36 dc36 pm36 an36 cd36 ct36),sl36⟩)
  (hc36:codeIn K cd36 "check_entries"=true)
  (hk36:keepIn K (.ref f36)=true)
  (ha37:nsIn K mainGlobals "terms_at"=some (some (.ref f37)))
  (hl37:K.lookup f37=some ⟨oc37,od37, .func (fnS "terms_at" "terms_at" s_11 .none kV37 dc37 pm37 an37 cd37 ct37),sl37⟩)
  (hc37:codeIn K cd37 "terms_at"=true)
  (hk37:keepIn K (.ref f37)=true)
  (ha38:nsIn K mainGlobals "in_time"=some (some (.ref f38)))
  (hl38:K.lookup f38=some ⟨oc38,od38, .func (fnS "in_time" "in_time" s_12 .none kV38 dc38 pm38 an38 cd38 ct38),sl38⟩)
  (hc38:codeIn K cd38 "in_time"=true)
  (hk38:keepIn K (.ref f38)=true)
  (qc38:cd38= .ref cK38)
  (ql38:K.lookup cK38=some ⟨.type "code",oK38, .fields vK38,sK38⟩)
  (qa38:vK38[11]? =some (.ref pK38))
  (qb38:vK38.getD 11 .none= .ref pK38)
  (qd38:vK38.getD 18 .none= .str fK38 uK38)
  (qe38:vK38.getD 7 .none= .int lK38 gK38)
  (qf38:vK38.getD 9 .none= .bool bK38)
  (qg38:vK38.getD 10 .none= .int xK38 tK38)
  (qh38:cK38≠pK38)
  (qi38:K.lookup pK38=none)
  (ha39:nsIn K mainGlobals "_law_cell_at"=some (some (.ref f39)))
  (hl39:K.lookup f39=some ⟨oc39,od39, .func (fnS "_law_cell_at" "_law_cell_at" s_13 .none kV39 dc39 pm39 an39 cd39 ct39),sl39⟩)
  (hc39:codeIn K cd39 "_law_cell_at"=true)
  (hk39:keepIn K (.ref f39)=true)
  (ha40:nsIn K mainGlobals "_law_mixed"=some (some (.ref f40)))
  (hl40:K.lookup f40=some ⟨oc40,od40, .func (fnS "_law_mixed" "_law_mixed" s_14 .none kV40 dc40 pm40 an40 cd40 ct40),sl40⟩)
  (hc40:codeIn K cd40 "_law_mixed"=true)
  (hk40:keepIn K (.ref f40)=true)
  (ha41:nsIn K mainGlobals "_law_starts"=some (some (.ref f41)))
  (hl41:K.lookup f41=some ⟨oc41,od41, .func (fnS "_law_starts" "_law_starts" s_15 .none kV41 dc41 pm41 an41 cd41 ct41),sl41⟩)
  (hc41:codeIn K cd41 "_law_starts"=true)
  (hk41:keepIn K (.ref f41)=true)
  (ha42:nsIn K mainGlobals "_law_length"=some (some (.ref f42)))
  (hl42:K.lookup f42=some ⟨oc42,od42, .func (fnS "_law_length" "_law_length" s_16 .none kV42 dc42 pm42 an42 cd42 ct42),sl42⟩)
  (hc42:codeIn K cd42 "_law_length"=true)
  (hk42:keepIn K (.ref f42)=true)
  (ha43:nsIn K mainGlobals "_law_day"=some (some (.ref f43)))
  (hl43:K.lookup f43=some ⟨oc43,od43, .func (fnS "_law_day" "_law_day" s_17 .none kV43 dc43 pm43 an43 cd43 ct43),sl43⟩)
  (hc43:codeIn K cd43 "_law_day"=true)
  (hk43:keepIn K (.ref f43)=true)
  (ha44:nsIn K mainGlobals "_law_months_on"=some (some (.ref f44)))
  (hl44:K.lookup f44=some ⟨oc44,od44, .func (fnS "_law_months_on" "_law_months_on" s_18 .none kV44 dc44 pm44 an44 cd44 ct44),sl44⟩)
  (hc44:codeIn K cd44 "_law_months_on"=true)
  (hk44:keepIn K (.ref f44)=true)
  (ha45:nsIn K mainGlobals "_law_begins"=some (some (.ref f45)))
  (hl45:K.lookup f45=some ⟨oc45,od45, .func (fnS "_law_begins" "_law_begins" s_19 .none kV45 dc45 pm45 an45 cd45 ct45),sl45⟩)
  (hc45:codeIn K cd45 "_law_begins"=true)
  (hk45:keepIn K (.ref f45)=true)
  (ha46:nsIn K mainGlobals "_law_first"=some (some (.ref f46)))
  (hl46:K.lookup f46=some ⟨oc46,od46, .func (fnS "_law_first" "_law_first" s_1a .none kV46 dc46 pm46 an46 cd46 ct46),sl46⟩)
  (hc46:codeIn K cd46 "_law_first"=true)
  (hk46:keepIn K (.ref f46)=true)
  (ha47:nsIn K mainGlobals "_law_cycle"=some (some (.ref f47)))
  (hl47:K.lookup f47=some ⟨oc47,od47, .func (fnS "_law_cycle" "_law_cycle" s_1b .none kV47 dc47 pm47 an47 cd47 ct47),sl47⟩)
  (hc47:codeIn K cd47 "_law_cycle"=true)
  (hk47:keepIn K (.ref f47)=true)
  (ha48:nsIn K mainGlobals "_law_words"=some (some (.ref f48)))
  (hl48:K.lookup f48=some ⟨oc48,od48, .func (fnS "_law_words" "_law_words" s_1c .none kV48 dc48 pm48 an48 cd48 ct48),sl48⟩)
  (hc48:codeIn K cd48 "_law_words"=true)
  (hk48:keepIn K (.ref f48)=true)
  (ha49:nsIn K mainGlobals "_law_plans"=some (some (.ref f49)))
  (hl49:K.lookup f49=some ⟨oc49,od49, .func (fnS "_law_plans" "_law_plans" s_1d .none kV49 dc49 pm49 an49 cd49 ct49),sl49⟩)
  (hc49:codeIn K cd49 "_law_plans"=true)
  (hk49:keepIn K (.ref f49)=true)
  (ha50:nsIn K mainGlobals "_law_digits"=some (some (.ref f50)))
  (hl50:K.lookup f50=some ⟨oc50,od50, .func (fnS "_law_digits" "_law_digits" s_1e .none kV50 dc50 pm50 an50 cd50 ct50),sl50⟩)
  (hc50:codeIn K cd50 "_law_digits"=true)
  (hk50:keepIn K (.ref f50)=true)
  (ha51:nsIn K mainGlobals "_law_any_plans"=some (some (.ref f51)))
  (hl51:K.lookup f51=some ⟨oc51,od51, .func (fnS "_law_any_plans" "_law_any_plans" s_1f .none kV51 dc51 pm51 an51 cd51 ct51),sl51⟩)
  (hc51:codeIn K cd51 "_law_any_plans"=true)
  (hk51:keepIn K (.ref f51)=true)
  (ha52:nsIn K mainGlobals "_law_account"=some (some (.ref f52)))
  (hl52:K.lookup f52=some ⟨oc52,od52, .func (fnS "_law_account" "_law_account" s_1g .none kV52 dc52 pm52 an52 cd52 ct52),sl52⟩)
  (hc52:codeIn K cd52 "_law_account"=true)
  (hk52:keepIn K (.ref f52)=true)
  (ha53:nsIn K mainGlobals "_law_from"=some (some (.ref f53)))
  (hl53:K.lookup f53=some ⟨oc53,od53, .func (fnS "_law_from" "_law_from" s_1h .none kV53 dc53 pm53 an53 cd53 ct53),sl53⟩)
  (hc53:codeIn K cd53 "_law_from"=true)
  (hk53:keepIn K (.ref f53)=true)
  (ha54:nsIn K mainGlobals "_law_change"=some (some (.ref f54)))
  (hl54:K.lookup f54=some ⟨oc54,od54, .func (fnS "_law_change" "_law_change" s_1i .none kV54 dc54 pm54 an54 cd54 ct54),sl54⟩)
  (hc54:codeIn K cd54 "_law_change"=true)
  (hk54:keepIn K (.ref f54)=true)
  (ha55:nsIn K mainGlobals "_law_any_change"=some (some (.ref f55)))
  (hl55:K.lookup f55=some ⟨oc55,od55, .func (fnS "_law_any_change" "_law_any_change" s_1j .none kV55 dc55 pm55 an55 cd55 ct55),sl55⟩)
  (hc55:codeIn K cd55 "_law_any_change"=true)
  (hk55:keepIn K (.ref f55)=true)
  (ha56:nsIn K mainGlobals "_law_sort"=some (some (.ref f56)))
  (hl56:K.lookup f56=some ⟨oc56,od56, .func (fnS "_law_sort" "_law_sort" s_1k .none kV56 dc56 pm56 an56 cd56 ct56),sl56⟩)
  (hc56:codeIn K cd56 "_law_sort"=true)
  (hk56:keepIn K (.ref f56)=true)
  (ha57:nsIn K mainGlobals "_law_terms"=some (some (.ref f57)))
  (hl57:K.lookup f57=some ⟨oc57,od57, .func (fnS "_law_terms" "_law_terms" s_1l .none kV57 dc57 pm57 an57 cd57 ct57),sl57⟩)
  (hc57:codeIn K cd57 "_law_terms"=true)
  (hk57:keepIn K (.ref f57)=true)
  (ha58:nsIn K mainGlobals "_law_any_terms"=some (some (.ref f58)))
  (hl58:K.lookup f58=some ⟨oc58,od58, .func (fnS "_law_any_terms" "_law_any_terms" s_1m .none kV58 dc58 pm58 an58 cd58 ct58),sl58⟩)
  (hc58:codeIn K cd58 "_law_any_terms"=true)
  (hk58:keepIn K (.ref f58)=true)
  (ha59:nsIn K mainGlobals "_law_late"=some (some (.ref f59)))
  (hl59:K.lookup f59=some ⟨oc59,od59, .func (fnS "_law_late" "_law_late" s_1n .none kV59 dc59 pm59 an59 cd59 ct59),sl59⟩)
  (hc59:codeIn K cd59 "_law_late"=true)
  (hk59:keepIn K (.ref f59)=true)
  (ha60:nsIn K mainGlobals "_law_any_late"=some (some (.ref f60)))
  (hl60:K.lookup f60=some ⟨oc60,od60, .func (fnS "_law_any_late" "_law_any_late" s_1o .none kV60 dc60 pm60 an60 cd60 ct60),sl60⟩)
  (hc60:codeIn K cd60 "_law_any_late"=true)
  (hk60:keepIn K (.ref f60)=true)
  (ha61:nsIn K mainGlobals "_law_many"=some (some (.ref f61)))
  (hl61:K.lookup f61=some ⟨oc61,od61, .func (fnS "_law_many" "_law_many" s_1p .none kV61 dc61 pm61 an61 cd61 ct61),sl61⟩)
  (hc61:codeIn K cd61 "_law_many"=true)
  (hk61:keepIn K (.ref f61)=true)
  (ha62:nsIn K mainGlobals "_law_spans_alike"=some (some (.ref f62)))
  (hl62:K.lookup f62=some ⟨oc62,od62, .func (fnS "_law_spans_alike" "_law_spans_alike" s_1q .none kV62 dc62 pm62 an62 cd62 ct62),sl62⟩)
  (hc62:codeIn K cd62 "_law_spans_alike"=true)
  (hk62:keepIn K (.ref f62)=true)
  (ha63:nsIn K mainGlobals "_law_days_alike"=some (some (.ref f63)))
  (hl63:K.lookup f63=some ⟨oc63,od63, .func (fnS "_law_days_alike" "_law_days_alike" s_1r .none kV63 dc63 pm63 an63 cd63 ct63),sl63⟩)
  (hc63:codeIn K cd63 "_law_days_alike"=true)
  (hk63:keepIn K (.ref f63)=true)
  (ha64:nsIn K mainGlobals "law"=some (some (.ref f64)))
  (hl64:K.lookup f64=some ⟨oc64,od64, .func (fnS "law" "law" s_1s .none kV64 dc64 pm64 an64 cd64 ct64),sl64⟩)
  (hc64:codeIn K cd64 "law"=true)
  (hk64:keepIn K (.ref f64)=true)
  (qc64:cd64= .ref cK64)
  (ql64:K.lookup cK64=some ⟨.type "code",oK64, .fields vK64,sK64⟩)
  (qa64:vK64[11]? =some (.ref pK64))
  (qb64:vK64.getD 11 .none= .ref pK64)
  (qd64:vK64.getD 18 .none= .str fK64 uK64)
  (qe64:vK64.getD 7 .none= .int lK64 gK64)
  (qf64:vK64.getD 9 .none= .bool bK64)
  (qg64:vK64.getD 10 .none= .int xK64 tK64)
  (qh64:cK64≠pK64)
  (qi64:K.lookup pK64=none)
  (g_Z0c:nsIn K mainGlobals "SpanError"=some (some (.ref C_Z0c)))
  (gc_Z0c:clsIn K C_Z0c=some cd_Z0c)
  (gt_Z0c:typeIn K (.ref C_Z0c)=some (.type "type"))
  (gm_Z0c:mroIn K C_Z0c (.ref C_Z0c)=some true)
  (g_Z07:nsIn K mainGlobals "NoDate"=some (some (.ref C_Z07)))
  (gc_Z07:clsIn K C_Z07=some cd_Z07)
  (gt_Z07:typeIn K (.ref C_Z07)=some (.type "type"))
  (gm_Z07:mroIn K C_Z07 (.ref C_Z07)=some true)
  (g_Z09:nsIn K mainGlobals "NoSpan"=some (some (.ref C_Z09)))
  (gc_Z09:clsIn K C_Z09=some cd_Z09)
  (gt_Z09:typeIn K (.ref C_Z09)=some (.type "type"))
  (gm_Z09:mroIn K C_Z09 (.ref C_Z09)=some true)
  (g_Z0e:nsIn K mainGlobals "TooLong"=some (some (.ref C_Z0e)))
  (gc_Z0e:clsIn K C_Z0e=some cd_Z0e)
  (gt_Z0e:typeIn K (.ref C_Z0e)=some (.type "type"))
  (gm_Z0e:mroIn K C_Z0e (.ref C_Z0e)=some true)
  (g_Z08:nsIn K mainGlobals "NoEntry"=some (some (.ref C_Z08)))
  (gc_Z08:clsIn K C_Z08=some cd_Z08)
  (gt_Z08:typeIn K (.ref C_Z08)=some (.type "type"))
  (gm_Z08:mroIn K C_Z08 (.ref C_Z08)=some true)
  (gx_Z07:excIn K C_Z07 [.type "ValueError", .type "Exception", .type "BaseException", .type "object"] "ValueError.__new__"=true)
  (gx_Z09:excIn K C_Z09 [.type "ValueError", .type "Exception", .type "BaseException", .type "object"] "ValueError.__new__"=true)
  (gx_Z0e:excIn K C_Z0e [.type "ValueError", .type "Exception", .type "BaseException", .type "object"] "ValueError.__new__"=true)
  (k_Z03:nsIn K mainGlobals "LAST_YEAR"=some (some (.int 9999 tk_Z03)))
  (k_Z02:nsIn K mainGlobals "LAST_DAY"=some (some (.int 3652058 tk_Z02)))
  (k_Z04:nsIn K mainGlobals "MONTH_DAYS"=some (some (.ref A_Z04)))
  (kl_Z04:K.lookup A_Z04=some ⟨.type "tuple",od_Z04, .seq its_Z04 n_Z04,sl_Z04⟩)
  (kz_Z04:its_Z04.size<=sizeLine)
  (kv_Z04:zB [.int 31, .int 28, .int 31, .int 30, .int 31, .int 30, .int 31, .int 31, .int 30, .int 31, .int 30, .int 31] its_Z04.toList)
  (k_Z0a:nsIn K mainGlobals "ROUND_DAYS"=some (some (.int 146097 tk_Z0a)))
  (k_Z01:nsIn K mainGlobals "HUNDRED_YEARS_DAYS"=some (some (.int 36524 tk_Z01)))
  (k_Z00:nsIn K mainGlobals "FOUR_YEARS_DAYS"=some (some (.int 1461 tk_Z00)))
  (k_Z0g:nsIn K mainGlobals "YEAR_DAYS"=some (some (.int 365 tk_Z0g)))
  (k_Z0b:nsIn K mainGlobals "SPANS"=some (some (.int 60 tk_Z0b)))
  (k_Z0f:nsIn K mainGlobals "WORDS"=some (some (.ref A_Z0f)))
  (kl_Z0f:K.lookup A_Z0f=some ⟨.type "dict",none, .dict es_Z0f n_Z0f, #[]⟩)
  (kv_Z0f:jv w es_Z0f.toList [(SL [104,111,108,100], .str (SL [104,101,108,100])),(SL [103,111], .str (SL [111,110])),(SL [115,116,111,112], .str (SL [111,102,102])),(SL [108,97,115,116], .str (SL [111,102,102]))])
  (k_Z05:nsIn K mainGlobals "MOST_ENTRIES"=some (some (.int 40 tk_Z05)))
  (k_Z06:nsIn K mainGlobals "MOST_SEATS"=some (some (.int 1000000 tk_Z06)))
  (k_Z0d:nsIn K mainGlobals "TERMS"=some (some (.ref A_Z0d)))
  (kl_Z0d:K.lookup A_Z0d=some ⟨.type "tuple",od_Z0d, .seq its_Z0d n_Z0d,sl_Z0d⟩)
  (kz_Z0d:its_Z0d.size<=sizeLine)
  (kv_Z0d:zB [.str (SL [112,108,97,110]), .str (SL [115,101,97,116,115]), .str (SL [104,111,108,100]), .str (SL [103,111]), .str (SL [115,116,111,112]), .str (SL [108,97,115,116])] its_Z0d.toList)
  (qn: [pK38,pK64].Nodup)
  (z_range:nsIn K mainGlobals "range"=some none)
  (z_divmod:nsIn K mainGlobals "divmod"=some none)
  (z_min:nsIn K mainGlobals "min"=some none)
  (z_isinstance:nsIn K mainGlobals "isinstance"=some none)
  (z_int:nsIn K mainGlobals "int"=some none)
  (z_bool:nsIn K mainGlobals "bool"=some none)
  (z_sorted:nsIn K mainGlobals "sorted"=some none)
  (z_sum:nsIn K mainGlobals "sum"=some none)
  (z_len:nsIn K mainGlobals "len"=some none)
  (z_enumerate:nsIn K mainGlobals "enumerate"=some none)
  (z_list:nsIn K mainGlobals "list"=some none)
  (z_max:nsIn K mainGlobals "max"=some none)
  : ∃t,Txt w K mg t:=
 ⟨{a_00:=f0,d_00:=fnS "has_leap_day" "has_leap_day" s_00 .none kV0 dc0 pm0 an0 cd0 ct0,
   a_01:=f1,d_01:=fnS "days_in" "days_in" s_01 .none kV1 dc1 pm1 an1 cd1 ct1,
   a_02:=f2,d_02:=fnS "days_ahead_of_year" "days_ahead_of_year" s_02 .none kV2 dc2 pm2 an2 cd2 ct2,
   a_03:=f3,d_03:=fnS "day_of" "day_of" s_03 .none kV3 dc3 pm3 an3 cd3 ct3,
   a_04:=f4,d_04:=fnS "year_of" "year_of" s_04 .none kV4 dc4 pm4 an4 cd4 ct4,
   a_05:=f5,d_05:=fnS "date_of" "date_of" s_05 .none kV5 dc5 pm5 an5 cd5 ct5,
   a_06:=f6,d_06:=fnS "months_on" "months_on" s_06 .none kV6 dc6 pm6 an6 cd6 ct6,
   a_07:=f7,d_07:=fnS "begin_of" "begin_of" s_07 .none kV7 dc7 pm7 an7 cd7 ct7,
   a_08:=f8,d_08:=fnS "span_on" "span_on" s_08 .none kV8 dc8 pm8 an8 cd8 ct8,
   a_09:=f9,d_09:=fnS "is_whole" "is_whole" s_09 .none kV9 dc9 pm9 an9 cd9 ct9,
   a_0a:=f10,d_0a:=fnS "is_whole_between" "is_whole_between" s_0a .none kV10 dc10 pm10 an10 cd10 ct10,
   a_0b:=f11,d_0b:=fnS "end_of_account" "end_of_account" s_0b .none kV11 dc11 pm11 an11 cd11 ct11,
   a_0c:=f12,d_0c:=fnS "is_day_of" "is_day_of" s_0c .none kV12 dc12 pm12 an12 cd12 ct12,
   a_0d:=f13,d_0d:=fnS "span_days" "span_days" s_0d .none kV13 dc13 pm13 an13 cd13 ct13,
   a_0e:=f14,d_0e:=fnS "span_with" "span_with" s_0e .none kV14 dc14 pm14 an14 cd14 ct14,
   a_0f:=f15,d_0f:=fnS "share" "share" s_0f .none kV15 dc15 pm15 an15 cd15 ct15,
   a_0g:=f16,d_0g:=fnS "counts_from" "counts_from" s_0g .none kV16 dc16 pm16 an16 cd16 ct16,
   a_0h:=f17,d_0h:=fnS "in_order" "in_order" s_0h .none kV17 dc17 pm17 an17 cd17 ct17,
   a_0i:=f18,d_0i:=fnS "state_by" "state_by" s_0i .none kV18 dc18 pm18 an18 cd18 ct18,
   a_0j:=f19,d_0j:=fnS "state_on" "state_on" s_0j .none kV19 dc19 pm19 an19 cd19 ct19,
   a_0k:=f20,d_0k:=fnS "stretches_by" "stretches_by" s_0k .none kV20 dc20 pm20 an20 cd20 ct20,
   a_0l:=f21,d_0l:=fnS "price_and_count" "price_and_count" s_0l .none kV21 dc21 pm21 an21 cd21 ct21,
   a_0m:=f22,d_0m:=fnS "stretch_cost" "stretch_cost" s_0m .none kV22 dc22 pm22 an22 cd22 ct22,
   a_0n:=f23,d_0n:=fnS "day_cost" "day_cost" s_0n .none kV23 dc23 pm23 an23 cd23 ct23,
   a_0o:=f24,d_0o:=fnS "lines_ahead" "lines_ahead" s_0o .none kV24 dc24 pm24 an24 cd24 ct24,
   a_0p:=f25,d_0p:=fnS "cost_of" "cost_of" s_0p .none kV25 dc25 pm25 an25 cd25 ct25,
   a_0q:=f26,d_0q:=fnS "span_lines" "span_lines" s_0q .none kV26 dc26 pm26 an26 cd26 ct26,
   a_0r:=f27,d_0r:=fnS "span_cost" "span_cost" s_0r .none kV27 dc27 pm27 an27 cd27 ct27,
   a_0s:=f28,d_0s:=fnS "earned" "earned" s_0s .none kV28 dc28 pm28 an28 cd28 ct28,
   a_0t:=f29,d_0t:=fnS "is_term" "is_term" s_0t .none kV29 dc29 pm29 an29 cd29 ct29,
   a_0u:=f30,d_0u:=fnS "names_of" "names_of" s_0u .none kV30 dc30 pm30 an30 cd30 ct30,
   a_0v:=f31,d_0v:=fnS "fits_term" "fits_term" s_0v .none kV31 dc31 pm31 an31 cd31 ct31,
   a_0w:=f32,d_0w:=fnS "fits_grant" "fits_grant" s_0w .none kV32 dc32 pm32 an32 cd32 ct32,
   a_0x:=f33,d_0x:=fnS "fits_undo" "fits_undo" s_0x .none kV33 dc33 pm33 an33 cd33 ct33,
   a_0y:=f34,d_0y:=fnS "fits" "fits" s_0y .none kV34 dc34 pm34 an34 cd34 ct34,
   a_0z:=f35,d_0z:=fnS "standing_terms" "standing_terms" s_0z .none kV35 dc35 pm35 an35 cd35 ct35,
   a_10:=f36,d_10:=fnS "check_entries" "check_entries" s_10 .none kV36 dc36 pm36 an36 cd36 ct36,
   a_11:=f37,d_11:=fnS "terms_at" "terms_at" s_11 .none kV37 dc37 pm37 an37 cd37 ct37,
   a_12:=f38,d_12:=fnS "in_time" "in_time" s_12 .none kV38 dc38 pm38 an38 cd38 ct38,
   k_12:=cK38,p_12:=pK38,
   a_13:=f39,d_13:=fnS "_law_cell_at" "_law_cell_at" s_13 .none kV39 dc39 pm39 an39 cd39 ct39,
   a_14:=f40,d_14:=fnS "_law_mixed" "_law_mixed" s_14 .none kV40 dc40 pm40 an40 cd40 ct40,
   a_15:=f41,d_15:=fnS "_law_starts" "_law_starts" s_15 .none kV41 dc41 pm41 an41 cd41 ct41,
   a_16:=f42,d_16:=fnS "_law_length" "_law_length" s_16 .none kV42 dc42 pm42 an42 cd42 ct42,
   a_17:=f43,d_17:=fnS "_law_day" "_law_day" s_17 .none kV43 dc43 pm43 an43 cd43 ct43,
   a_18:=f44,d_18:=fnS "_law_months_on" "_law_months_on" s_18 .none kV44 dc44 pm44 an44 cd44 ct44,
   a_19:=f45,d_19:=fnS "_law_begins" "_law_begins" s_19 .none kV45 dc45 pm45 an45 cd45 ct45,
   a_1a:=f46,d_1a:=fnS "_law_first" "_law_first" s_1a .none kV46 dc46 pm46 an46 cd46 ct46,
   a_1b:=f47,d_1b:=fnS "_law_cycle" "_law_cycle" s_1b .none kV47 dc47 pm47 an47 cd47 ct47,
   a_1c:=f48,d_1c:=fnS "_law_words" "_law_words" s_1c .none kV48 dc48 pm48 an48 cd48 ct48,
   a_1d:=f49,d_1d:=fnS "_law_plans" "_law_plans" s_1d .none kV49 dc49 pm49 an49 cd49 ct49,
   a_1e:=f50,d_1e:=fnS "_law_digits" "_law_digits" s_1e .none kV50 dc50 pm50 an50 cd50 ct50,
   a_1f:=f51,d_1f:=fnS "_law_any_plans" "_law_any_plans" s_1f .none kV51 dc51 pm51 an51 cd51 ct51,
   a_1g:=f52,d_1g:=fnS "_law_account" "_law_account" s_1g .none kV52 dc52 pm52 an52 cd52 ct52,
   a_1h:=f53,d_1h:=fnS "_law_from" "_law_from" s_1h .none kV53 dc53 pm53 an53 cd53 ct53,
   a_1i:=f54,d_1i:=fnS "_law_change" "_law_change" s_1i .none kV54 dc54 pm54 an54 cd54 ct54,
   a_1j:=f55,d_1j:=fnS "_law_any_change" "_law_any_change" s_1j .none kV55 dc55 pm55 an55 cd55 ct55,
   a_1k:=f56,d_1k:=fnS "_law_sort" "_law_sort" s_1k .none kV56 dc56 pm56 an56 cd56 ct56,
   a_1l:=f57,d_1l:=fnS "_law_terms" "_law_terms" s_1l .none kV57 dc57 pm57 an57 cd57 ct57,
   a_1m:=f58,d_1m:=fnS "_law_any_terms" "_law_any_terms" s_1m .none kV58 dc58 pm58 an58 cd58 ct58,
   a_1n:=f59,d_1n:=fnS "_law_late" "_law_late" s_1n .none kV59 dc59 pm59 an59 cd59 ct59,
   a_1o:=f60,d_1o:=fnS "_law_any_late" "_law_any_late" s_1o .none kV60 dc60 pm60 an60 cd60 ct60,
   a_1p:=f61,d_1p:=fnS "_law_many" "_law_many" s_1p .none kV61 dc61 pm61 an61 cd61 ct61,
   a_1q:=f62,d_1q:=fnS "_law_spans_alike" "_law_spans_alike" s_1q .none kV62 dc62 pm62 an62 cd62 ct62,
   a_1r:=f63,d_1r:=fnS "_law_days_alike" "_law_days_alike" s_1r .none kV63 dc63 pm63 an63 cd63 ct63,
   a_1s:=f64,d_1s:=fnS "law" "law" s_1s .none kV64 dc64 pm64 an64 cd64 ct64,
   k_1s:=cK64,p_1s:=pK64,
   c_Z0c:=C_Z0c,
   c_Z07:=C_Z07,
   c_Z09:=C_Z09,
   c_Z0e:=C_Z0e,
   c_Z08:=C_Z08},
  {mg_00:=mg_of X G ha0,
   fn_00:=zt (st:=s_00) hl0 hc0 hk0,
   b_00:=(zt (st:=s_00) hl0 hc0 hk0).binds λ_ _ _ _ _ _=>qW λ_=>rfl,
   mg_01:=mg_of X G ha1,
   fn_01:=zt (st:=s_01) hl1 hc1 hk1,
   b_01:=(zt (st:=s_01) hl1 hc1 hk1).binds λ_ _ _ _ _ _=>xf λ_ _=>rfl,
   mg_02:=mg_of X G ha2,
   fn_02:=zt (st:=s_02) hl2 hc2 hk2,
   b_02:=(zt (st:=s_02) hl2 hc2 hk2).binds λ_ _ _ _ _ _=>qW λ_=>rfl,
   mg_03:=mg_of X G ha3,
   fn_03:=zt (st:=s_03) hl3 hc3 hk3,
   b_03:=(zt (st:=s_03) hl3 hc3 hk3).binds λ_ _ _ _ _ _=>xH λ_ _ _=>rfl,
   mg_04:=mg_of X G ha4,
   fn_04:=zt (st:=s_04) hl4 hc4 hk4,
   b_04:=(zt (st:=s_04) hl4 hc4 hk4).binds λ_ _ _ _ _ _=>qW λ_=>rfl,
   mg_05:=mg_of X G ha5,
   fn_05:=zt (st:=s_05) hl5 hc5 hk5,
   b_05:=(zt (st:=s_05) hl5 hc5 hk5).binds λ_ _ _ _ _ _=>qW λ_=>rfl,
   mg_06:=mg_of X G ha6,
   fn_06:=zt (st:=s_06) hl6 hc6 hk6,
   b_06:=(zt (st:=s_06) hl6 hc6 hk6).binds λ_ _ _ _ _ _=>xf λ_ _=>rfl,
   mg_07:=mg_of X G ha7,
   fn_07:=zt (st:=s_07) hl7 hc7 hk7,
   b_07:=(zt (st:=s_07) hl7 hc7 hk7).binds λ_ _ _ _ _ _=>xH λ_ _ _=>rfl,
   mg_08:=mg_of X G ha8,
   fn_08:=zt (st:=s_08) hl8 hc8 hk8,
   b_08:=(zt (st:=s_08) hl8 hc8 hk8).binds λ_ _ _ _ _ _=>xH λ_ _ _=>rfl,
   mg_09:=mg_of X G ha9,
   fn_09:=zt (st:=s_09) hl9 hc9 hk9,
   b_09:=(zt (st:=s_09) hl9 hc9 hk9).binds λ_ _ _ _ _ _=>qW λ_=>rfl,
   mg_0a:=mg_of X G ha10,
   fn_0a:=zt (st:=s_0a) hl10 hc10 hk10,
   b_0a:=(zt (st:=s_0a) hl10 hc10 hk10).binds λ_ _ _ _ _ _=>xH λ_ _ _=>rfl,
   mg_0b:=mg_of X G ha11,
   fn_0b:=zt (st:=s_0b) hl11 hc11 hk11,
   b_0b:=(zt (st:=s_0b) hl11 hc11 hk11).binds λ_ _ _ _ _ _=>qW λ_=>rfl,
   mg_0c:=mg_of X G ha12,
   fn_0c:=zt (st:=s_0c) hl12 hc12 hk12,
   b_0c:=(zt (st:=s_0c) hl12 hc12 hk12).binds λ_ _ _ _ _ _=>xf λ_ _=>rfl,
   mg_0d:=mg_of X G ha13,
   fn_0d:=zt (st:=s_0d) hl13 hc13 hk13,
   b_0d:=(zt (st:=s_0d) hl13 hc13 hk13).binds λ_ _ _ _ _ _=>xf λ_ _=>rfl,
   mg_0e:=mg_of X G ha14,
   fn_0e:=zt (st:=s_0e) hl14 hc14 hk14,
   b_0e:=(zt (st:=s_0e) hl14 hc14 hk14).binds λ_ _ _ _ _ _=>xf λ_ _=>rfl,
   mg_0f:=mg_of X G ha15,
   fn_0f:=zt (st:=s_0f) hl15 hc15 hk15,
   b_0f:=(zt (st:=s_0f) hl15 hc15 hk15).binds λ_ _ _ _ _ _=>vJ λ_ _ _ _=>rfl,
   mg_0g:=mg_of X G ha16,
   fn_0g:=zt (st:=s_0g) hl16 hc16 hk16,
   b_0g:=(zt (st:=s_0g) hl16 hc16 hk16).binds λ_ _ _ _ _ _=>xf λ_ _=>rfl,
   mg_0h:=mg_of X G ha17,
   fn_0h:=zt (st:=s_0h) hl17 hc17 hk17,
   b_0h:=(zt (st:=s_0h) hl17 hc17 hk17).binds λ_ _ _ _ _ _=>xf λ_ _=>rfl,
   mg_0i:=mg_of X G ha18,
   fn_0i:=zt (st:=s_0i) hl18 hc18 hk18,
   b_0i:=(zt (st:=s_0i) hl18 hc18 hk18).binds λ_ _ _ _ _ _=>xf λ_ _=>rfl,
   mg_0j:=mg_of X G ha19,
   fn_0j:=zt (st:=s_0j) hl19 hc19 hk19,
   b_0j:=(zt (st:=s_0j) hl19 hc19 hk19).binds λ_ _ _ _ _ _=>xH λ_ _ _=>rfl,
   mg_0k:=mg_of X G ha20,
   fn_0k:=zt (st:=s_0k) hl20 hc20 hk20,
   b_0k:=(zt (st:=s_0k) hl20 hc20 hk20).binds λ_ _ _ _ _ _=>xH λ_ _ _=>rfl,
   mg_0l:=mg_of X G ha21,
   fn_0l:=zt (st:=s_0l) hl21 hc21 hk21,
   b_0l:=(zt (st:=s_0l) hl21 hc21 hk21).binds λ_ _ _ _ _ _=>xf λ_ _=>rfl,
   mg_0m:=mg_of X G ha22,
   fn_0m:=zt (st:=s_0m) hl22 hc22 hk22,
   b_0m:=(zt (st:=s_0m) hl22 hc22 hk22).binds λ_ _ _ _ _ _=>xH λ_ _ _=>rfl,
   mg_0n:=mg_of X G ha23,
   fn_0n:=zt (st:=s_0n) hl23 hc23 hk23,
   b_0n:=(zt (st:=s_0n) hl23 hc23 hk23).binds λ_ _ _ _ _ _=>xH λ_ _ _=>rfl,
   mg_0o:=mg_of X G ha24,
   fn_0o:=zt (st:=s_0o) hl24 hc24 hk24,
   b_0o:=(zt (st:=s_0o) hl24 hc24 hk24).binds λ_ _ _ _ _ _=>vJ λ_ _ _ _=>rfl,
   mg_0p:=mg_of X G ha25,
   fn_0p:=zt (st:=s_0p) hl25 hc25 hk25,
   b_0p:=(zt (st:=s_0p) hl25 hc25 hk25).binds λ_ _ _ _ _ _=>qW λ_=>rfl,
   mg_0q:=mg_of X G ha26,
   fn_0q:=zt (st:=s_0q) hl26 hc26 hk26,
   b_0q:=(zt (st:=s_0q) hl26 hc26 hk26).binds λ_ _ _ _ _ _=>xH λ_ _ _=>rfl,
   mg_0r:=mg_of X G ha27,
   fn_0r:=zt (st:=s_0r) hl27 hc27 hk27,
   b_0r:=(zt (st:=s_0r) hl27 hc27 hk27).binds λ_ _ _ _ _ _=>xH λ_ _ _=>rfl,
   mg_0s:=mg_of X G ha28,
   fn_0s:=zt (st:=s_0s) hl28 hc28 hk28,
   b_0s:=(zt (st:=s_0s) hl28 hc28 hk28).binds λ_ _ _ _ _ _=>xH λ_ _ _=>rfl,
   mg_0t:=mg_of X G ha29,
   fn_0t:=zt (st:=s_0t) hl29 hc29 hk29,
   b_0t:=(zt (st:=s_0t) hl29 hc29 hk29).binds λ_ _ _ _ _ _=>qW λ_=>rfl,
   mg_0u:=mg_of X G ha30,
   fn_0u:=zt (st:=s_0u) hl30 hc30 hk30,
   b_0u:=(zt (st:=s_0u) hl30 hc30 hk30).binds λ_ _ _ _ _ _=>qW λ_=>rfl,
   mg_0v:=mg_of X G ha31,
   fn_0v:=zt (st:=s_0v) hl31 hc31 hk31,
   b_0v:=(zt (st:=s_0v) hl31 hc31 hk31).binds λ_ _ _ _ _ _=>xf λ_ _=>rfl,
   mg_0w:=mg_of X G ha32,
   fn_0w:=zt (st:=s_0w) hl32 hc32 hk32,
   b_0w:=(zt (st:=s_0w) hl32 hc32 hk32).binds λ_ _ _ _ _ _=>qW λ_=>rfl,
   mg_0x:=mg_of X G ha33,
   fn_0x:=zt (st:=s_0x) hl33 hc33 hk33,
   b_0x:=(zt (st:=s_0x) hl33 hc33 hk33).binds λ_ _ _ _ _ _=>xf λ_ _=>rfl,
   mg_0y:=mg_of X G ha34,
   fn_0y:=zt (st:=s_0y) hl34 hc34 hk34,
   b_0y:=(zt (st:=s_0y) hl34 hc34 hk34).binds λ_ _ _ _ _ _=>xH λ_ _ _=>rfl,
   mg_0z:=mg_of X G ha35,
   fn_0z:=zt (st:=s_0z) hl35 hc35 hk35,
   b_0z:=(zt (st:=s_0z) hl35 hc35 hk35).binds λ_ _ _ _ _ _=>qW λ_=>rfl,
   mg_10:=mg_of X G ha36,
   fn_10:=zt (st:=s_10) hl36 hc36 hk36,
   b_10:=(zt (st:=s_10) hl36 hc36 hk36).binds λ_ _ _ _ _ _=>xf λ_ _=>rfl,
   mg_11:=mg_of X G ha37,
   fn_11:=zt (st:=s_11) hl37 hc37 hk37,
   b_11:=(zt (st:=s_11) hl37 hc37 hk37).binds λ_ _ _ _ _ _=>xf λ_ _=>rfl,
   mg_12:=mg_of X G ha38,
   cc_12:=qc38,
   tb_12:=⟨⟨_,_,_,_,_,mg_of X G ha38,hl38,qc38⟩,⟨_,_,_,_,_,_,_,_,_,_,ql38,qa38,qb38,qd38,qe38,qf38,qg38⟩,qh38,qi38⟩,
   fn_12:=zt (st:=s_12) hl38 hc38 hk38,
   b_12:=(zt (st:=s_12) hl38 hc38 hk38).binds λ_ _ _ _ _ _=>qW λ_=>rfl,
   mg_13:=mg_of X G ha39,
   fn_13:=zt (st:=s_13) hl39 hc39 hk39,
   b_13:=(zt (st:=s_13) hl39 hc39 hk39).binds λ_ _ _ _ _ _=>xf λ_ _=>rfl,
   mg_14:=mg_of X G ha40,
   fn_14:=zt (st:=s_14) hl40 hc40 hk40,
   b_14:=(zt (st:=s_14) hl40 hc40 hk40).binds λ_ _ _ _ _ _=>xf λ_ _=>rfl,
   mg_15:=mg_of X G ha41,
   fn_15:=zt (st:=s_15) hl41 hc41 hk41,
   b_15:=(zt (st:=s_15) hl41 hc41 hk41).binds λ_ _ _ _ _ _=>qW λ_=>rfl,
   mg_16:=mg_of X G ha42,
   fn_16:=zt (st:=s_16) hl42 hc42 hk42,
   b_16:=(zt (st:=s_16) hl42 hc42 hk42).binds λ_ _ _ _ _ _=>xf λ_ _=>rfl,
   mg_17:=mg_of X G ha43,
   fn_17:=zt (st:=s_17) hl43 hc43 hk43,
   b_17:=(zt (st:=s_17) hl43 hc43 hk43).binds λ_ _ _ _ _ _=>xH λ_ _ _=>rfl,
   mg_18:=mg_of X G ha44,
   fn_18:=zt (st:=s_18) hl44 hc44 hk44,
   b_18:=(zt (st:=s_18) hl44 hc44 hk44).binds λ_ _ _ _ _ _=>xf λ_ _=>rfl,
   mg_19:=mg_of X G ha45,
   fn_19:=zt (st:=s_19) hl45 hc45 hk45,
   b_19:=(zt (st:=s_19) hl45 hc45 hk45).binds λ_ _ _ _ _ _=>xH λ_ _ _=>rfl,
   mg_1a:=mg_of X G ha46,
   fn_1a:=zt (st:=s_1a) hl46 hc46 hk46,
   b_1a:=(zt (st:=s_1a) hl46 hc46 hk46).binds λ_ _ _ _ _ _=>qW λ_=>rfl,
   mg_1b:=mg_of X G ha47,
   fn_1b:=zt (st:=s_1b) hl47 hc47 hk47,
   b_1b:=(zt (st:=s_1b) hl47 hc47 hk47).binds λ_ _ _ _ _ _=>qW λ_=>rfl,
   mg_1c:=mg_of X G ha48,
   fn_1c:=zt (st:=s_1c) hl48 hc48 hk48,
   b_1c:=(zt (st:=s_1c) hl48 hc48 hk48).binds λ_ _ _ _ _ _=>xf λ_ _=>rfl,
   mg_1d:=mg_of X G ha49,
   fn_1d:=zt (st:=s_1d) hl49 hc49 hk49,
   b_1d:=(zt (st:=s_1d) hl49 hc49 hk49).binds λ_ _ _ _ _ _=>qW λ_=>rfl,
   mg_1e:=mg_of X G ha50,
   fn_1e:=zt (st:=s_1e) hl50 hc50 hk50,
   b_1e:=(zt (st:=s_1e) hl50 hc50 hk50).binds λ_ _ _ _ _ _=>xf λ_ _=>rfl,
   mg_1f:=mg_of X G ha51,
   fn_1f:=zt (st:=s_1f) hl51 hc51 hk51,
   b_1f:=(zt (st:=s_1f) hl51 hc51 hk51).binds λ_ _ _ _ _ _=>qW λ_=>rfl,
   mg_1g:=mg_of X G ha52,
   fn_1g:=zt (st:=s_1g) hl52 hc52 hk52,
   b_1g:=(zt (st:=s_1g) hl52 hc52 hk52).binds λ_ _ _ _ _ _=>qW λ_=>rfl,
   mg_1h:=mg_of X G ha53,
   fn_1h:=zt (st:=s_1h) hl53 hc53 hk53,
   b_1h:=(zt (st:=s_1h) hl53 hc53 hk53).binds λ_ _ _ _ _ _=>vJ λ_ _ _ _=>rfl,
   mg_1i:=mg_of X G ha54,
   fn_1i:=zt (st:=s_1i) hl54 hc54 hk54,
   b_1i:=(zt (st:=s_1i) hl54 hc54 hk54).binds λ_ _ _ _ _ _=>vJ λ_ _ _ _=>rfl,
   mg_1j:=mg_of X G ha55,
   fn_1j:=zt (st:=s_1j) hl55 hc55 hk55,
   b_1j:=(zt (st:=s_1j) hl55 hc55 hk55).binds λ_ _ _ _ _ _=>vJ λ_ _ _ _=>rfl,
   mg_1k:=mg_of X G ha56,
   fn_1k:=zt (st:=s_1k) hl56 hc56 hk56,
   b_1k:=(zt (st:=s_1k) hl56 hc56 hk56).binds λ_ _ _ _ _ _=>qW λ_=>rfl,
   mg_1l:=mg_of X G ha57,
   fn_1l:=zt (st:=s_1l) hl57 hc57 hk57,
   b_1l:=(zt (st:=s_1l) hl57 hc57 hk57).binds λ_ _ _ _ _ _=>vJ λ_ _ _ _=>rfl,
   mg_1m:=mg_of X G ha58,
   fn_1m:=zt (st:=s_1m) hl58 hc58 hk58,
   b_1m:=(zt (st:=s_1m) hl58 hc58 hk58).binds λ_ _ _ _ _ _=>xH λ_ _ _=>rfl,
   mg_1n:=mg_of X G ha59,
   fn_1n:=zt (st:=s_1n) hl59 hc59 hk59,
   b_1n:=(zt (st:=s_1n) hl59 hc59 hk59).binds λ_ _ _ _ _ _=>vJ λ_ _ _ _=>rfl,
   mg_1o:=mg_of X G ha60,
   fn_1o:=zt (st:=s_1o) hl60 hc60 hk60,
   b_1o:=(zt (st:=s_1o) hl60 hc60 hk60).binds λ_ _ _ _ _ _=>kQ λ_ _ _ _ _=>rfl,
   mg_1p:=mg_of X G ha61,
   fn_1p:=zt (st:=s_1p) hl61 hc61 hk61,
   b_1p:=(zt (st:=s_1p) hl61 hc61 hk61).binds λ_ _ _ _ _ _=>qW λ_=>rfl,
   mg_1q:=mg_of X G ha62,
   fn_1q:=zt (st:=s_1q) hl62 hc62 hk62,
   b_1q:=(zt (st:=s_1q) hl62 hc62 hk62).binds λ_ _ _ _ _ _=>kQ λ_ _ _ _ _=>rfl,
   mg_1r:=mg_of X G ha63,
   fn_1r:=zt (st:=s_1r) hl63 hc63 hk63,
   b_1r:=(zt (st:=s_1r) hl63 hc63 hk63).binds λ_ _ _ _ _ _=>kQ λ_ _ _ _ _=>rfl,
   mg_1s:=mg_of X G ha64,
   cc_1s:=qc64,
   tb_1s:=⟨⟨_,_,_,_,_,mg_of X G ha64,hl64,qc64⟩,⟨_,_,_,_,_,_,_,_,_,_,ql64,qa64,qb64,qd64,qe64,qf64,qg64⟩,qh64,qi64⟩,
   fn_1s:=zt (st:=s_1s) hl64 hc64 hk64,
   b_1s:=(zt (st:=s_1s) hl64 hc64 hk64).binds λ_ _ _ _ _ _=>qW λ_=>rfl,
   mg_Z0c:=mg_of X G g_Z0c,
   cl_Z0c:=⟨by rw[gc_Z0c];rfl,gt_Z0c,gm_Z0c⟩,
   mg_Z07:=mg_of X G g_Z07,
   cl_Z07:=⟨by rw[gc_Z07];rfl,gt_Z07,gm_Z07⟩,
   mg_Z09:=mg_of X G g_Z09,
   cl_Z09:=⟨by rw[gc_Z09];rfl,gt_Z09,gm_Z09⟩,
   mg_Z0e:=mg_of X G g_Z0e,
   cl_Z0e:=⟨by rw[gc_Z0e];rfl,gt_Z0e,gm_Z0e⟩,
   mg_Z08:=mg_of X G g_Z08,
   cl_Z08:=⟨by rw[gc_Z08];rfl,gt_Z08,gm_Z08⟩,
   ex_Z07:=⟨_,_,_,PySem.F.excBase_ValueError,gx_Z07⟩,
   ex_Z09:=⟨_,_,_,PySem.F.excBase_ValueError,gx_Z09⟩,
   ex_Z0e:=⟨_,_,_,PySem.F.excBase_ValueError,gx_Z0e⟩,
   k_Z03:=⟨_,mg_of X G k_Z03,⟨_,rfl⟩⟩,
   k_Z02:=⟨_,mg_of X G k_Z02,⟨_,rfl⟩⟩,
   k_Z04:=⟨A_Z04,mg_of X G k_Z04,λH=> .inr ⟨_,its_Z04,n_Z04,kl_Z04,rfl,rfl,kz_Z04,kv_Z04⟩⟩,
   k_Z0a:=⟨_,mg_of X G k_Z0a,⟨_,rfl⟩⟩,
   k_Z01:=⟨_,mg_of X G k_Z01,⟨_,rfl⟩⟩,
   k_Z00:=⟨_,mg_of X G k_Z00,⟨_,rfl⟩⟩,
   k_Z0g:=⟨_,mg_of X G k_Z0g,⟨_,rfl⟩⟩,
   k_Z0b:=⟨_,mg_of X G k_Z0b,⟨_,rfl⟩⟩,
   k_Z0f:=⟨A_Z0f,es_Z0f,n_Z0f,mg_of X G k_Z0f,kl_Z0f,kv_Z0f,'d'⟩,
   k_Z05:=⟨_,mg_of X G k_Z05,⟨_,rfl⟩⟩,
   k_Z06:=⟨_,mg_of X G k_Z06,⟨_,rfl⟩⟩,
   k_Z0d:=⟨A_Z0d,mg_of X G k_Z0d,λH=> .inr ⟨_,its_Z0d,n_Z0d,kl_Z0d,rfl,rfl,kz_Z0d,kv_Z0d⟩⟩,
   ndp:=qn,
   no_range:=mg_none_of X G z_range,
   no_divmod:=mg_none_of X G z_divmod,
   no_min:=mg_none_of X G z_min,
   no_isinstance:=mg_none_of X G z_isinstance,
   no_int:=mg_none_of X G z_int,
   no_bool:=mg_none_of X G z_bool,
   no_sorted:=mg_none_of X G z_sorted,
   no_sum:=mg_none_of X G z_sum,
   no_len:=mg_none_of X G z_len,
   no_enumerate:=mg_none_of X G z_enumerate,
   no_list:=mg_none_of X G z_list,
   no_max:=mg_none_of X G z_max}⟩
theorem bind_law{t:Adr}(T:Txt w K mg t): ∀(s:Shared) (u:Value),BindsTo s t.d_1s ⟨[u], []⟩ [("_law_script",u)]:=by
 obtain⟨oc,od,kV,doc,pm,an,cdv,ct,osl,e,lk,hcd⟩:=T.fn_1s.ex;intro s u;rw[e];exact .of_eq rfl
def kR(K:Fg)(Ts:List Addr):Sp:=λvs H Q _=> ∃(a:Addr) (ns:List Int),vs= [.ref a]/\SqL K H a (ns.map V.int)/\ns.length<=63/\(∀T∈Ts,H T=some (.tbl #[]))/\ ∀H',Q (.bl true) H'
theorem walk{l:PySem.W.OpenLaw}{q:Program}{loose:List Str}{XP:(Str->Option Value)->Heap->Prop}{YP:World->Heap->Prop}{d:DefRec}{K:Params->Fg}(hn:l.most=some 63)(hdf:d.params.defaults= [])
  (hY: ∀(w:World) (h:Heap),YP w h->(K w.params).In h) (hy: ∀y∈(["in_time","law"]:List Str),∃e∈PyProof.Rows.recsOf q,e.name=y)
  (F: ∀(w:World) (mg:Str->Option Value) (fa:Addr) (h:Heap),(K w.params).In h->h.Ns mainGlobals mg->mg d.name=some (.ref fa)->
   ∃(fd:FuncData) (Ts:List Addr),(∀T∈Ts,∃y∈(["in_time","law"]:List Str),∃c,TabK (K w.params) mg y c T)/\(∀(s:Shared) (u:Value),BindsTo s fd ⟨[u], []⟩ [("_law_script",u)])/\ ∀base:Heap,(K w.params).In base->base.Ns mainGlobals mg->BM mg base->FnOk l.prog w (K w.params) mg base (CXE l.prog w) 16 fa fd ["_law_script"] (kR (K w.params) Ts)):
  PySem.W.WalkO q loose XP YP l.row.toRowW d [] (λf vs=>PySem.call f vs):=
 L2.walk_ofTs (n:=63) (k:=16) (x:="_law_script") (ys:= ["in_time","law"]) (CX:=λw=>CXE l.prog w) (sp:=λK Ts=>kR K Ts) hn 'd' hdf ⟨rfl,'d','d'⟩ hY hy F (λ_ _ _ a ns hl hO hS=>⟨a,ns,rfl,hS,hl,hO.1,λ_=>rfl⟩) λ_ _ _ _ _ ⟨_,_,_,_,_,z⟩=>z
theorem lawN{P:Program}{base:Heap}{t:Adr}{k:Nat}{Ts:List Addr}(nd:Ts.Nodup)(F:FnOk P w K mg base (CXE P w) k t.a_1s t.d_1s ["_law_script"] (zk7 K Ts)):FnOk P w K mg base (CXE P w) k t.a_1s t.d_1s ["_law_script"] (kR K Ts):=
 F.imp λ_ _ _ _ ⟨a,ns,e,hS,hl,hT,q⟩=>⟨a,ns,e,hS,hl,nd,hT,q⟩
end K91
namespace PySem.W.Fast
theorem tw17827286854331660015:True:=⟨⟩
theorem tw2396501253179828716:True:=⟨⟩
theorem tw5431302923133465818:True:=⟨⟩
theorem tw15395223992068847864:True:=⟨⟩
theorem tw8921408063858529425:True:=⟨⟩
theorem tw1825449071930329767:True:=⟨⟩
theorem tw3128559080647983491:True:=⟨⟩
theorem tw7125467391009746085:True:=⟨⟩
theorem tw18353624493903467039:True:=⟨⟩
theorem tw6164084027454845039:True:=⟨⟩
theorem tw10459349323181320858:True:=⟨⟩
theorem tw13639163173570521559:True:=⟨⟩
theorem tw2672381389521700702:True:=⟨⟩
theorem tw13986506150811675632:True:=⟨⟩
theorem tw4426898802607441280:True:=⟨⟩
theorem tw12141943233525229919:True:=⟨⟩
theorem tw13839696316423576298:True:=⟨⟩
theorem tw5505513457603845465:True:=⟨⟩
theorem tw7524359039412017932:True:=⟨⟩
theorem tw7817971989331457729:True:=⟨⟩
theorem tw5215216439815723254:True:=⟨⟩
theorem tw15132713351824069549:True:=⟨⟩
theorem tw5084916788792275626:True:=⟨⟩
theorem tw3418760183601934408:True:=⟨⟩
theorem tw12208211091733649013:True:=⟨⟩
theorem tw13187916096360060020:True:=⟨⟩
theorem tw4750591298967793107:True:=⟨⟩
theorem tw5784302148496772772:True:=⟨⟩
theorem tw12669804736513159570:True:=⟨⟩
theorem tw12023060676935746430:True:=⟨⟩
theorem tw2425646616352843385:True:=⟨⟩
theorem tw11639174422778816301:True:=⟨⟩
theorem tw8331958965645273557:True:=⟨⟩
theorem tw1206317268662652631:True:=⟨⟩
theorem tw16171419949485394187:True:=⟨⟩
theorem tw18064896085611528653:True:=⟨⟩
theorem tw15583969908786891420:True:=⟨⟩
theorem tw9509011254009386091:True:=⟨⟩
theorem tw5393152134260756905:True:=⟨⟩
theorem tw4518019341411004309:True:=⟨⟩
theorem tw1853019177332826855:True:=⟨⟩
theorem tw3271143233518617866:True:=⟨⟩
theorem tw6542865750314318169:True:=⟨⟩
theorem tw1282599322955576332:True:=⟨⟩
theorem tw12696982710569092328:True:=⟨⟩
theorem tw7325341431712869554:True:=⟨⟩
theorem tw5110213292176745022:True:=⟨⟩
theorem tw5971022494414907164:True:=⟨⟩
theorem tw12875464393438776685:True:=⟨⟩
theorem tw10707842606931991344:True:=⟨⟩
theorem tw6810200848062578872:True:=⟨⟩
theorem tw7731615639540728875:True:=⟨⟩
theorem tw1387383034551078639:True:=⟨⟩
theorem tw13253815855441719909:True:=⟨⟩
theorem tw11525735182297779635:True:=⟨⟩
theorem tw214496388652791735:True:=⟨⟩
theorem tw11979595386445588379:True:=⟨⟩
theorem tw7308164716304493623:True:=⟨⟩
theorem tw16358409303819528905:True:=⟨⟩
theorem tw13234562788424405068:True:=⟨⟩
theorem tw3728927185425521175:True:=⟨⟩
theorem tw12674191725577965652:True:=⟨⟩
theorem tw5823467485620657831:True:=⟨⟩
theorem tw10391759158652978689:True:=⟨⟩
theorem tw14717095777801770753:True:=⟨⟩
theorem tw17393382659034402816:True:=⟨⟩
theorem tw10397256465298852373:True:=⟨⟩
theorem tw3134014961748325808:True:=⟨⟩
theorem tw7446752988470149249:True:=⟨⟩
theorem tw16368118702234243923:True:=⟨⟩
theorem tw15936343052550347573:True:=⟨⟩
theorem tw17710689190604471902:True:=⟨⟩
theorem tw8760277988897501098:True:=⟨⟩
theorem tw17815557502496110758:True:=⟨⟩
theorem tw6044422279733168137:True:=⟨⟩
theorem tw1459687296242851665:True:=⟨⟩
theorem tw8683421012903370302:True:=⟨⟩
theorem tw301947050597128782:True:=⟨⟩
theorem tw12527363539411358908:True:=⟨⟩
theorem tw7703651668948769901:True:=⟨⟩
theorem tw17678828984886487513:True:=⟨⟩
theorem tw129856245361061909:True:=⟨⟩
theorem tw6330975064380992365:True:=⟨⟩
theorem tw13476322192386507741:True:=⟨⟩
theorem tw7081462975390471950:True:=⟨⟩
theorem tw12651315484046171431:True:=⟨⟩
theorem tw7398738495458177799:True:=⟨⟩
theorem tw2439541235736649311:True:=⟨⟩
theorem tw4885837026195679657:True:=⟨⟩
theorem tw15128576636747393355:True:=⟨⟩
theorem tw2278428322640823802:True:=⟨⟩
theorem tw5788958167153528460:True:=⟨⟩
theorem tw5554279253994795409:True:=⟨⟩
theorem tw10442143859237786666:True:=⟨⟩
theorem tw16890814361478291970:True:=⟨⟩
theorem tw16153382012127434088:True:=⟨⟩
theorem tw1648350849480332386:True:=⟨⟩
theorem tw17484009849283953180:True:=⟨⟩
theorem tw12874602717882705020:True:=⟨⟩
theorem tw5059518872673179361:True:=⟨⟩
theorem tw17116175982521663577:True:=⟨⟩
theorem tw2860898376983557639:True:=⟨⟩
theorem tw5145506310604702081:True:=⟨⟩
theorem tw8753236283169822979:True:=⟨⟩
theorem tw11137043747796697723:True:=⟨⟩
theorem tw10239539489221515394:True:=⟨⟩
theorem tw17942434053862544881:True:=⟨⟩
theorem tw13372523476348287559:True:=⟨⟩
theorem tw11690354271031848:True:=⟨⟩
theorem tw1662941034480234120:True:=⟨⟩
theorem tw1605462286704271032:True:=⟨⟩
theorem tw15957504430395247047:True:=⟨⟩
theorem tw8405392833180063256:True:=⟨⟩
theorem tw17963577612491758619:True:=⟨⟩
theorem tw8662206736332834041:True:=⟨⟩
theorem tw8223491447555319159:True:=⟨⟩
theorem tw17731598167598925171:True:=⟨⟩
theorem tw14138062700067478590:True:=⟨⟩
theorem tw15129779175446091371:True:=⟨⟩
theorem tw15301084432870942080:True:=⟨⟩
theorem tw740282448906229630:True:=⟨⟩
theorem tw2355149541934280944:True:=⟨⟩
theorem tw3759083794458082248:True:=⟨⟩
theorem tw10575991514246264143:True:=⟨⟩
theorem tw18215151855918608815:True:=⟨⟩
theorem tw11695846486336861526:True:=⟨⟩
theorem tw9731076793785711262:True:=⟨⟩
theorem tw8077289625090665713:True:=⟨⟩
theorem tw1084315709995381119:True:=⟨⟩
theorem tw5151879199500017510:True:=⟨⟩
theorem tw6743563193923223772:True:=⟨⟩
theorem tw7476050060443365889:True:=⟨⟩
theorem tw4215372658759517516:True:=⟨⟩
theorem tw11681729968924830953:True:=⟨⟩
theorem tw15812582916509015550:True:=⟨⟩
theorem tw11777897055222639046:True:=⟨⟩
theorem tw9682678046921743737:True:=⟨⟩
theorem tw14708720683479614400:True:=⟨⟩
theorem tw18205028131910330771:True:=⟨⟩
theorem tw4080853880954800270:True:=⟨⟩
theorem tw10025014696677683663:True:=⟨⟩
theorem tw8635604493584246905:True:=⟨⟩
theorem tw12355872770196551755:True:=⟨⟩
theorem tw17016583754976717558:True:=⟨⟩
theorem tw15654001531317013472:True:=⟨⟩
theorem tw13806739764044989804:True:=⟨⟩
theorem tw15951364303888331809:True:=⟨⟩
theorem tw1880792267424505409:True:=⟨⟩
theorem tw14890496115322442928:True:=⟨⟩
theorem tw5493040570971255948:True:=⟨⟩
theorem tw2932856974583210377:True:=⟨⟩
theorem tw13295662317689967479:True:=⟨⟩
theorem tw12167701121738741750:True:=⟨⟩
theorem tw12902253698793747328:True:=⟨⟩
theorem tw2937806833991072225:True:=⟨⟩
theorem tw5947207198705518280:True:=⟨⟩
theorem tw5532697989397700788:True:=⟨⟩
theorem tw11758128021717960002:True:=⟨⟩
theorem tw13851093830059070126:True:=⟨⟩
theorem tw15937817547947698250:True:=⟨⟩
theorem tw12550117801741541673:True:=⟨⟩
theorem tw9010098346187234660:True:=⟨⟩
theorem tw6839835926599037939:True:=⟨⟩
theorem tw5709704425691018644:True:=⟨⟩
theorem tw16066785409922804799:True:=⟨⟩
theorem tw4111540114382161620:True:=⟨⟩
theorem tw2265874829761866305:True:=⟨⟩
theorem tw7636502869776517446:True:=⟨⟩
theorem tw9605193833115198320:True:=⟨⟩
theorem tw14279375086465454620:True:=⟨⟩
theorem tw10188734266879021186:True:=⟨⟩
theorem tw2226054428507778488:True:=⟨⟩
theorem tw10698100126795065905:True:=⟨⟩
theorem tw3375471069287485661:True:=⟨⟩
theorem tw5484793605444686465:True:=⟨⟩
theorem tw10121571828578280135:True:=⟨⟩
theorem tw3935769184444253188:True:=⟨⟩
theorem tw5990696259380396456:True:=⟨⟩
theorem tw14258892976823351276:True:=⟨⟩
theorem tw17717907449564701464:True:=⟨⟩
theorem tw4615668659262400415:True:=⟨⟩
theorem tw5932909203064805902:True:=⟨⟩
theorem tw12320388346354870263:True:=⟨⟩
theorem tw8490453917280500658:True:=⟨⟩
theorem tw9546245798697395772:True:=⟨⟩
theorem tw456707350719621913:True:=⟨⟩
theorem tw12656324344307734512:True:=⟨⟩
theorem tw5488545387985259077:True:=⟨⟩
theorem tw9655142537326241836:True:=⟨⟩
theorem tw12322991215552637312:True:=⟨⟩
theorem tw12411333814743349222:True:=⟨⟩
theorem tw18276462070561601189:True:=⟨⟩
theorem tw17883816948765143044:True:=⟨⟩
theorem tw17137410651782561034:True:=⟨⟩
theorem tw5911854431717972889:True:=⟨⟩
theorem tw7508603867288321132:True:=⟨⟩
theorem tw8880557202841471033:True:=⟨⟩
theorem tw4225839390594870645:True:=⟨⟩
theorem tw10143583419425477271:True:=⟨⟩
theorem tw7919437408485199621:True:=⟨⟩
theorem tw13565782037003050932:True:=⟨⟩
theorem tw6474785047511000258:True:=⟨⟩
theorem tw15572714920837748734:True:=⟨⟩
theorem tw10079019821543189666:True:=⟨⟩
theorem tw3727409592336773005:True:=⟨⟩
theorem tw4858092915154871943:True:=⟨⟩
theorem tw12609801914041537351:True:=⟨⟩
theorem tw16319706693210738725:True:=⟨⟩
theorem tw5017866233692050396:True:=⟨⟩
theorem tw10581211212348330885:True:=⟨⟩
theorem tw9281659519221611763:True:=⟨⟩
theorem tw7021069837432748288:True:=⟨⟩
theorem tw2675391355391750108:True:=⟨⟩
theorem tw13412052279431218906:True:=⟨⟩
theorem tw2802071749313749641:True:=⟨⟩
theorem tw9251603271492414790:True:=⟨⟩
theorem tw4514502957060132567:True:=⟨⟩
theorem tw17221544456890699553:True:=⟨⟩
theorem tw8609232159395409795:True:=⟨⟩
theorem tw14213669179140152419:True:=⟨⟩
theorem tw12248186625274419695:True:=⟨⟩
theorem tw3883122583396157952:True:=⟨⟩
theorem tw4978267856044109424:True:=⟨⟩
theorem tw16144493721843172148:True:=⟨⟩
theorem tw15657756014769681948:True:=⟨⟩
theorem tw10921702022111823574:True:=⟨⟩
theorem tw145190602982510594:True:=⟨⟩
theorem tw17062218808907324461:True:=⟨⟩
theorem tw6961259093200158313:True:=⟨⟩
theorem tw9022709368134630088:True:=⟨⟩
theorem tw16303388270314026438:True:=⟨⟩
theorem tw7502182699161522960:True:=⟨⟩
theorem tw899281597524614291:True:=⟨⟩
theorem tw15624862180783339062:True:=⟨⟩
theorem tw15452452043215575187:True:=⟨⟩
theorem tw10624165730092677242:True:=⟨⟩
theorem tw17525574696012441976:True:=⟨⟩
theorem tw9401338530838702729:True:=⟨⟩
theorem tw17745782017577983291:True:=⟨⟩
theorem tw1913777563234636264:True:=⟨⟩
theorem tw16822822344574926818:True:=⟨⟩
theorem tw7820054160410578861:True:=⟨⟩
theorem tw5039827028141279985:True:=⟨⟩
theorem tw663459967943939499:True:=⟨⟩
theorem tw2162161860061153850:True:=⟨⟩
theorem tw16644822258922841745:True:=⟨⟩
theorem tw7527211625301316624:True:=⟨⟩
theorem tw3091935161761207681:True:=⟨⟩
theorem tw5185774398067440636:True:=⟨⟩
theorem tw9796075054417816192:True:=⟨⟩
theorem tw15221330137528724000:True:=⟨⟩
theorem tw14136636154426485550:True:=⟨⟩
theorem tw3286748473427357128:True:=⟨⟩
theorem tw663604666434674647:True:=⟨⟩
theorem tw12604163813983061822:True:=⟨⟩
theorem tw9018834752133371534:True:=⟨⟩
theorem tw11038604802341436735:True:=⟨⟩
theorem tw226606901434119414:True:=⟨⟩
theorem tw7206857394853376621:True:=⟨⟩
theorem tw4944782494446020899:True:=⟨⟩
theorem tw5703244134453253262:True:=⟨⟩
theorem tw10758579075304693671:True:=⟨⟩
theorem tw10079542720327117721:True:=⟨⟩
theorem tw10647192537176981072:True:=⟨⟩
theorem tw3966624200985879691:True:=⟨⟩
theorem tw17793064008435294729:True:=⟨⟩
theorem tw18002823236900007457:True:=⟨⟩
theorem tw7154707385954101478:True:=⟨⟩
theorem tw3403372246810048554:True:=⟨⟩
theorem tw7217896700666096568:True:=⟨⟩
theorem tw14609339220339167396:True:=⟨⟩
theorem tw12669649618863342088:True:=⟨⟩
theorem tw15637825535430274301:True:=⟨⟩
theorem tw10619326667208571981:True:=⟨⟩
theorem tw1089786551729131360:True:=⟨⟩
theorem tw8890234252911715825:True:=⟨⟩
theorem tw773921308424470793:True:=⟨⟩
theorem tw11901127315907911097:True:=⟨⟩
theorem tw6178799357509575187:True:=⟨⟩
theorem tw4699702613330502234:True:=⟨⟩
theorem tw1749993095394822533:True:=⟨⟩
theorem tw11215192678589603402:True:=⟨⟩
theorem tw2453329972429746235:True:=⟨⟩
theorem tw8587746548832266759:True:=⟨⟩
theorem tw13117985496799979300:True:=⟨⟩
theorem tw6322050998546124496:True:=⟨⟩
theorem tw17069872545380306305:True:=⟨⟩
theorem tw8504337547118128687:True:=⟨⟩
theorem tw2523802492064115739:True:=⟨⟩
theorem tw15887714932411519315:True:=⟨⟩
theorem tw9788998968684538677:True:=⟨⟩
theorem tw9135521874210681434:True:=⟨⟩
theorem tw6189812671075197112:True:=⟨⟩
theorem tw16404812397490506311:True:=⟨⟩
theorem tw696463142161270928:True:=⟨⟩
theorem tw15291231263932348386:True:=⟨⟩
theorem tw1079700192230380835:True:=⟨⟩
theorem tw9852106996831514366:True:=⟨⟩
set_option maxRecDepth 100000 in
def tw8300804801106236359:PySem.Program:=PySem.Challenge.pw_paidspan_k91_whole_any_order_of_entering
set_option maxRecDepth 100000 in
theorem te8300804801106236359:PySem.Challenge.pw_paidspan_k91_whole_any_order_of_entering=tw8300804801106236359:=rfl
end PySem.W.Fast
open PySem PySem.W PyProof.Rows
set_option maxRecDepth 100000 in
set_option maxHeartbeats 0 in
theorem PySem.Challenge.cw_paidspan_k91_whole_any_order_of_entering_holds : PySem.Challenge.rw_paidspan_k91_whole_any_order_of_entering.Holds := by
 w_on;o_law;k_head;(case hw=>w_witness2)
 k_fill
 refine K91.walk (l:=PySem.Challenge.rw_paidspan_k91_whole_any_order_of_entering) rfl rfl (λw h Y=>PySem.W.km_in_of Y) ?hy ?F
 case hy=>
  intro y hy
  simp only[JD,List.not_mem_nil,or_false] at hy
  rcases hy with rfl|rfl<;>exact L2.recs_any (by kernel_rfl)
 case F=>
  intro w mg fa h KX G hmg
  have T: ∃t,K91.Txt w (L2.KOf KX) mg t:=by
   dsimp only[L2.KOf]
   refine' K91.txt_mk KX G ?ha0 ?hl0 ?hc0 ?hk0 ?ha1 ?hl1 ?hc1 ?hk1 ?ha2 ?hl2 ?hc2 ?hk2 ?ha3 ?hl3 ?hc3 ?hk3 ?ha4 ?hl4 ?hc4 ?hk4 ?ha5 ?hl5 ?hc5 ?hk5 ?ha6 ?hl6 ?hc6 ?hk6 ?ha7 ?hl7 ?hc7 ?hk7 ?ha8 ?hl8 ?hc8 ?hk8 ?ha9 ?hl9 ?hc9 ?hk9 ?ha10 ?hl10 ?hc10 ?hk10 ?ha11 ?hl11 ?hc11 ?hk11 ?ha12 ?hl12 ?hc12 ?hk12 ?ha13 ?hl13 ?hc13 ?hk13 ?ha14 ?hl14 ?hc14 ?hk14 ?ha15 ?hl15 ?hc15 ?hk15 ?ha16 ?hl16 ?hc16 ?hk16 ?ha17 ?hl17 ?hc17 ?hk17 ?ha18 ?hl18 ?hc18 ?hk18 ?ha19 ?hl19 ?hc19 ?hk19 ?ha20 ?hl20 ?hc20 ?hk20 ?ha21 ?hl21 ?hc21 ?hk21 ?ha22 ?hl22 ?hc22 ?hk22 ?ha23 ?hl23 ?hc23 ?hk23 ?ha24 ?hl24 ?hc24 ?hk24 ?ha25 ?hl25 ?hc25 ?hk25 ?ha26 ?hl26 ?hc26 ?hk26 ?ha27 ?hl27 ?hc27 ?hk27 ?ha28 ?hl28 ?hc28 ?hk28 ?ha29 ?hl29 ?hc29 ?hk29 ?ha30 ?hl30 ?hc30 ?hk30 ?ha31 ?hl31 ?hc31 ?hk31 ?ha32 ?hl32 ?hc32 ?hk32 ?ha33 ?hl33 ?hc33 ?hk33 ?ha34 ?hl34 ?hc34 ?hk34 ?ha35 ?hl35 ?hc35 ?hk35 ?ha36 ?hl36 ?hc36 ?hk36 ?ha37 ?hl37 ?hc37 ?hk37 ?ha38 ?hl38 ?hc38 ?hk38 ?qc38 ?ql38 ?qa38 ?qb38 ?qd38 ?qe38 ?qf38 ?qg38 ?qh38 ?qi38 ?ha39 ?hl39 ?hc39 ?hk39 ?ha40 ?hl40 ?hc40 ?hk40 ?ha41 ?hl41 ?hc41 ?hk41 ?ha42 ?hl42 ?hc42 ?hk42 ?ha43 ?hl43 ?hc43 ?hk43 ?ha44 ?hl44 ?hc44 ?hk44 ?ha45 ?hl45 ?hc45 ?hk45 ?ha46 ?hl46 ?hc46 ?hk46 ?ha47 ?hl47 ?hc47 ?hk47 ?ha48 ?hl48 ?hc48 ?hk48 ?ha49 ?hl49 ?hc49 ?hk49 ?ha50 ?hl50 ?hc50 ?hk50 ?ha51 ?hl51 ?hc51 ?hk51 ?ha52 ?hl52 ?hc52 ?hk52 ?ha53 ?hl53 ?hc53 ?hk53 ?ha54 ?hl54 ?hc54 ?hk54 ?ha55 ?hl55 ?hc55 ?hk55 ?ha56 ?hl56 ?hc56 ?hk56 ?ha57 ?hl57 ?hc57 ?hk57 ?ha58 ?hl58 ?hc58 ?hk58 ?ha59 ?hl59 ?hc59 ?hk59 ?ha60 ?hl60 ?hc60 ?hk60 ?ha61 ?hl61 ?hc61 ?hk61 ?ha62 ?hl62 ?hc62 ?hk62 ?ha63 ?hl63 ?hc63 ?hk63 ?ha64 ?hl64 ?hc64 ?hk64 ?qc64 ?ql64 ?qa64 ?qb64 ?qd64 ?qe64 ?qf64 ?qg64 ?qh64 ?qi64 ?g_Z0c ?gc_Z0c ?gt_Z0c ?gm_Z0c ?g_Z07 ?gc_Z07 ?gt_Z07 ?gm_Z07 ?g_Z09 ?gc_Z09 ?gt_Z09 ?gm_Z09 ?g_Z0e ?gc_Z0e ?gt_Z0e ?gm_Z0e ?g_Z08 ?gc_Z08 ?gt_Z08 ?gm_Z08 ?gx_Z07 ?gx_Z09 ?gx_Z0e ?k_Z03 ?k_Z02 ?k_Z04 ?kl_Z04 ?kz_Z04 ?kv_Z04 ?k_Z0a ?k_Z01 ?k_Z00 ?k_Z0g ?k_Z0b ?k_Z0f ?kl_Z0f ?kv_Z0f ?k_Z05 ?k_Z06 ?k_Z0d ?kl_Z0d ?kz_Z0d ?kv_Z0d ?qn ?z_range ?z_divmod ?z_min ?z_isinstance ?z_int ?z_bool ?z_sorted ?z_sum ?z_len ?z_enumerate ?z_list ?z_max
   (case g_Z0c|g_Z07|g_Z09|g_Z0e|g_Z08|ha0|hl0|hc0=>k_is)
   (case hk0|ha1|hl1|hc1|hk1|ha2|hl2|hc2=>k_is)
   (case hk2|ha3|hl3|hc3|hk3|ha4|hl4|hc4=>k_is)
   (case hk4|ha5|hl5|hc5|hk5|ha6|hl6|hc6=>k_is)
   (case hk6|ha7|hl7|hc7|hk7|ha8|hl8|hc8=>k_is)
   (case hk8|ha9|hl9|hc9|hk9|ha10|hl10|hc10=>k_is)
   (case hk10|ha11|hl11|hc11|hk11|ha12|hl12|hc12=>k_is)
   (case hk12|ha13|hl13|hc13|hk13|ha14|hl14|hc14=>k_is)
   (case hk14|ha15|hl15|hc15|hk15|ha16|hl16|hc16=>k_is)
   (case hk16|ha17|hl17|hc17|hk17|ha18|hl18|hc18=>k_is)
   (case hk18|ha19|hl19|hc19|hk19|ha20|hl20|hc20=>k_is)
   (case hk20|ha21|hl21|hc21|hk21|ha22|hl22|hc22=>k_is)
   (case hk22|ha23|hl23|hc23|hk23|ha24|hl24|hc24=>k_is)
   (case hk24|ha25|hl25|hc25|hk25|ha26|hl26|hc26=>k_is)
   (case hk26|ha27|hl27|hc27|hk27|ha28|hl28|hc28=>k_is)
   (case hk28|ha29|hl29|hc29|hk29|ha30|hl30|hc30=>k_is)
   (case hk30|ha31|hl31|hc31|hk31|ha32|hl32|hc32=>k_is)
   (case hk32|ha33|hl33|hc33|hk33|ha34|hl34|hc34=>k_is)
   (case hk34|ha35|hl35|hc35|hk35|ha36|hl36|hc36=>k_is)
   (case hk36|ha37|hl37|hc37|hk37|ha38|hl38|hc38=>k_is)
   (case hk38=>k_is)
   (case qc38=>rfl)
   (case ql38=>k_is)
   (case qa38=>rfl)
   (case qb38=>rfl)
   (case qd38=>rfl)
   (case qe38=>rfl)
   (case qf38=>rfl)
   (case qg38=>rfl)
   (case qh38=>decide)
   (case qi38=>kernel_rfl)
   (case ha39|hl39|hc39|hk39|ha40|hl40|hc40|hk40=>k_is)
   (case ha41|hl41|hc41|hk41|ha42|hl42|hc42|hk42=>k_is)
   (case ha43|hl43|hc43|hk43|ha44|hl44|hc44|hk44=>k_is)
   (case ha45|hl45|hc45|hk45|ha46|hl46|hc46|hk46=>k_is)
   (case ha47|hl47|hc47|hk47|ha48|hl48|hc48|hk48=>k_is)
   (case ha49|hl49|hc49|hk49|ha50|hl50|hc50|hk50=>k_is)
   (case ha51|hl51|hc51|hk51|ha52|hl52|hc52|hk52=>k_is)
   (case ha53|hl53|hc53|hk53|ha54|hl54|hc54|hk54=>k_is)
   (case ha55|hl55|hc55|hk55|ha56|hl56|hc56|hk56=>k_is)
   (case ha57|hl57|hc57|hk57|ha58|hl58|hc58|hk58=>k_is)
   (case ha59|hl59|hc59|hk59|ha60|hl60|hc60|hk60=>k_is)
   (case ha61|hl61|hc61|hk61|ha62|hl62|hc62|hk62=>k_is)
   (case ha63|hl63|hc63|hk63|ha64|hl64|hc64|hk64=>k_is)
   (case qc64=>rfl)
   (case ql64=>k_is)
   (case qa64=>rfl)
   (case qb64=>rfl)
   (case qd64=>rfl)
   (case qe64=>rfl)
   (case qf64=>rfl)
   (case qg64=>rfl)
   (case qh64=>decide)
   (case qi64=>kernel_rfl)
   (case gc_Z0c|gt_Z0c|gm_Z0c|gc_Z07|gt_Z07|gm_Z07|gc_Z09|gt_Z09=>k_is)
   (case gm_Z09|gc_Z0e|gt_Z0e|gm_Z0e|gc_Z08|gt_Z08|gm_Z08=>k_is)
   (case gx_Z07=>k_exc)
   (case gx_Z09=>k_exc)
   (case gx_Z0e=>k_exc)
   (case k_Z03|k_Z02|k_Z04|kl_Z04=>k_is)
   (case kz_Z04=>decide)
   (case kv_Z04=>exact(.cons ⟨_,rfl⟩ (.cons ⟨_,rfl⟩ (.cons ⟨_,rfl⟩ (.cons ⟨_,rfl⟩ (.cons ⟨_,rfl⟩ (.cons ⟨_,rfl⟩ (.cons ⟨_,rfl⟩ (.cons ⟨_,rfl⟩ (.cons ⟨_,rfl⟩ (.cons ⟨_,rfl⟩ (.cons ⟨_,rfl⟩ (.cons ⟨_,rfl⟩ .nil)))))))))))))
   (case k_Z0a|k_Z01|k_Z00|k_Z0g|k_Z0b|k_Z0f|kl_Z0f=>k_is)
   (case kv_Z0f=>exact⟨⟨_,rfl⟩,rfl,⟨_,rfl⟩,⟨⟨_,rfl⟩,rfl,⟨_,rfl⟩,⟨⟨_,rfl⟩,rfl,⟨_,rfl⟩,⟨⟨_,rfl⟩,rfl,⟨_,rfl⟩,trivial⟩⟩⟩⟩)
   (case k_Z05|k_Z06|k_Z0d|kl_Z0d=>k_is)
   (case kz_Z0d=>decide)
   (case kv_Z0d=>exact(.cons ⟨_,rfl⟩ (.cons ⟨_,rfl⟩ (.cons ⟨_,rfl⟩ (.cons ⟨_,rfl⟩ (.cons ⟨_,rfl⟩ (.cons ⟨_,rfl⟩ .nil)))))))
   (case qn=>decide)
   (case z_range|z_divmod|z_min|z_isinstance|z_int|z_bool|z_sorted|z_sum=>k_is)
   (case z_len|z_enumerate|z_list|z_max=>k_is)
  obtain⟨t,T⟩:=T
  have e0:=hmg.symm.trans T.mg_1s
  cases e0
  refine⟨_, [t.p_12,t.p_1s],?tk,?b,λbase _ _ B=>(K91.lawN T.ndp (K91.ok_1s T B)).mono 'd'⟩
  ·intro T' h'
   simp only[JD,List.not_mem_nil,or_false] at h'
   rcases h' with rfl|rfl
   ·exact⟨_,Jq,_,T.tb_12⟩
   ·exact⟨_,(Jl _ Jq),_,T.tb_1s⟩
  ·exact K91.bind_law T
