import PyProof.Rows.All
import Wide.All
import OpenK.AllK
import Wide.FinOn
import Lean
import PyProof.EqAt
import PyProof.EqKinds
import PyProof.TupleCall
import PySem.Challenge.RW_paidspan_k81_texts_of_no_account
abbrev Ja:=@List.length_map
abbrev Jb:=@List.getElem?_eq_getElem
abbrev Jc:=@List.getElem?_eq_some_iff
abbrev Jd:=@List.map_append
abbrev Je:=@Nat.le_refl
abbrev Jf:=@if_neg
abbrev Jg:=@if_pos
abbrev Jh:=@List.getElem?_map
abbrev Ji:=@List.mem_of_getElem?
abbrev Jj:=@List.length_append
abbrev Jk:=@Option.map_eq_some_iff
abbrev Jl:=@List.mem_cons_of_mem
abbrev Jm:=@List.mem_singleton
abbrev Jn:=@List.size_toArray
abbrev Jo:=@List.getD_eq_getElem?_getD
abbrev Jp:=@List.length_cons
abbrev Jq:=@List.mem_cons_self
abbrev Jr:=@List.mem_append
abbrev Js:=@Bool.false_eq_true
abbrev Jt:=@List.append_nil
abbrev Ju:=@Bool.false_ne_true
abbrev Jv:=@Nat.zero_le
abbrev Jw:=@List.mem_map
abbrev Jx:=@Nat.lt_of_lt_of_le
abbrev Jy:=@Int.le_refl
abbrev Jz:=@List.map_cons
abbrev JA:=@List.length_take
abbrev JB:=@List.take_length
abbrev JC:=@List.mem_cons
abbrev JD:=@Nat.le_trans
abbrev JE:=@Int.toNat_natCast
abbrev JF:=@Array.getElem?_toList
abbrev JG:=@List.take_add_one
abbrev JH:=@Nat.ne_of_lt
abbrev JI:=@Int.emod_lt_of_pos
abbrev JJ:=@List.append_assoc
abbrev JK:=@Int.emod_nonneg
abbrev JL:=@decide_eq_true
abbrev JM:=@decide_eq_false
abbrev JN:=@List.map_nil
abbrev JO:=@List.filter_append
abbrev JP:=@List.filter_cons
abbrev JQ:=@Option.some.inj
abbrev JR:=@PySem.wpAny_bind
abbrev JS:=@PySem.wpAny_pure
abbrev JT:=@PySem.Heap.get?_push_of_some
abbrev JU:=@PySem.Heap.lt_size
abbrev JV:=@PySem.Heap.get?_push_size
abbrev JW:=@PySem.Heap.get?_update_other
abbrev Fg:=PySem.W.Frag
set_option compiler.extract_closed false
local macro_rules | `('o') => `(by omega)
local macro_rules | `('d') => `(by decide)
local macro_rules | `(tactic| omega) => `(tactic| lia)
set_option Elab.async false
set_option linter.all false
set_option maxRecDepth 100000
namespace L2
open PySem PySem.Spec PyProof.Rows
variable{us:List Value}{x:Str}{u:Value}{H:Hp}{a b C:Addr}{o:HO}{P:Program}{w:World}{h base:Heap}{t' i j n:Nat}{ch fp:List Addr}{e c tg:Expr}{M:Model}{A:Around}{E:Value->Shared->Prop}{v:V}{Q:Unit->Shared->Prop}{X:Cx}{s:Shared}{pos:Pos}{pins:List (Addr×Obj)}{σ:St}{op:CmpOp}{K:Fg}{f:Value->Value->Sem Value}{te:TE}{g:TG}{body:List Stmt}{tb:TS}{r r':R2}{mg:Str->Option Value}{CX:CXT}{fd:FuncData}{ps:List Str}{outer:List Env}{kindOf:Str->Option NameKind}
abbrev Key:=Sum Int Str
def vy:Key->Value->Bool
 | .inl k,v=>Value.isInt k v
 | .inr x,v=>Value.isStrOf x v
def znl(w:World):Key->Int
 | .inl k=>hashInt k
 | .inr x=>hashStr w x
theorem wq: ∀{k:Key} {v:Value},vy k v=true->(∃i t,k=Sum.inl i/\v=Value.int i t)\/(∃x t,k=Sum.inr x/\v=Value.str x t)
 | .inl i,v,h=>by
  obtain⟨t,e⟩:=Value.isInt_shape (k:=i) (v:=v) h;exact .inl ⟨i,t,rfl,e⟩
 | .inr x,v,h=>by
  obtain⟨t,e⟩:=Value.isStrOf_shape (x:=x) (v:=v) h;exact .inr ⟨x,t,rfl,e⟩
theorem ziv(i:Int)(t:Tok):vy (.inl i) (.int i t)=true:=by simp [vy,Value.isInt]
theorem ziw(x:Str)(t:Tok):vy (.inr x) (.str x t)=true:=by simp [vy,Value.isStrOf]
theorem zlH(a b:Int):decide ((Sum.inl a:Key)=Sum.inl b)=(a==b):=by
 by_cases e:a=b
 ·subst e;simp
 ·have h: ¬(Sum.inl a:Key)=Sum.inl b:=λq=>e (Sum.inl.inj q);rw[JM h];exact(beq_eq_false_iff_ne.mpr e).symm
theorem zlI(a b:Str):decide ((Sum.inr a:Key)=Sum.inr b)=decide (a=b):=by
 by_cases e:a=b
 ·subst e;simp
 ·have h: ¬(Sum.inr a:Key)=Sum.inr b:=λq=>e (Sum.inr.inj q);rw[JM h,JM e]
theorem zlJ(a:Int)(b:Str):decide ((Sum.inl a:Key)=Sum.inr b)=false:=JM (λq=>nomatch q)
theorem zlK(a:Str)(b:Int):decide ((Sum.inr a:Key)=Sum.inl b)=false:=JM (λq=>nomatch q)
def xv(prog:Program)(w:World):PySem.KeyKind prog w Key where
 is:=vy
 hash:=znl w
 inj:=λv a b ha hb=>by
  rcases wq ha with⟨i,t,rfl,rfl⟩|⟨x,t,rfl,rfl⟩
  ·rcases wq hb with⟨j,u,rfl,e⟩|⟨y,u,rfl,e⟩
   ·injection e with e1 _;rw[e1]
   ·exact nomatch e
  ·rcases wq hb with⟨j,u,rfl,e⟩|⟨y,u,rfl,e⟩
   ·exact nomatch e
   ·injection e with e1 _;rw[e1]
 byValue:=λk v h=>by
  rcases wq h with⟨i,t,rfl,rfl⟩|⟨x,t,rfl,rfl⟩<;>rfl
 pyHash:=λhv h=>by
  rcases wq hv with⟨i,t,rfl,rfl⟩|⟨x,t,rfl,rfl⟩
  ·exact wpAny_pyHash_int h
  ·exact wpAny_pyHash_str h
 eqBool:=λhu hv h=>by
  rcases wq hu with⟨i,t,rfl,rfl⟩|⟨x,t,rfl,rfl⟩
  ·rcases wq hv with⟨j,u,rfl,rfl⟩|⟨y,u,rfl,rfl⟩
   ·rw[zlH] at h;exact wpAny_eqBool_int h
   ·rw[zlJ] at h;exact SeqAt.EqAt.int_str i t y u _ _ _ _ h
  ·rcases wq hv with⟨j,u,rfl,rfl⟩|⟨y,u,rfl,rfl⟩
   ·rw[zlK] at h;exact SeqAt.EqAt.str_int x t j u _ _ _ _ h
   ·rw[zlI] at h;exact wpAny_eqBool_str h
 «strs» :=λk x t v h=>by
  rcases wq h with⟨i,u,rfl,e⟩|⟨y,u,rfl,e⟩
  ·exact nomatch e
  ·injection e with e1 _
   subst e1
   cases v<;>rfl
theorem zg3(prog:Program)(w:World)(i:Int)(t:Tok):(xv prog w).is (.inl i) (.int i t)=true:=ziv i t
theorem zg4(prog:Program)(w:World)(x:Str)(t:Tok):(xv prog w).is (.inr x) (.str x t)=true:=ziw x t
inductive V where
 |non|bl (b:Bool)|int (i:Int)|str (x:Str)|byt (b:Array UInt8)|flt (b:UInt64)|ref (a:Addr)|ty (n:String)
 deriving DecidableEq
def zB:V->Value->Prop
 | .non,u=>u=Value.none
 | .bl b,u=>u=Value.bool b
 | .int i,u=> ∃t,u=Value.int i t
 | .str x,u=> ∃t,u=Value.str x t
 | .byt b,u=> ∃t,u=Value.bytes b t
 | .flt b,u=> ∃t,u=Value.float b t
 | .ref a,u=>u=Value.ref a
 | .ty n,u=>u=Value.type n
abbrev zE:List V->List Value->Prop:=Paired zB
theorem zE.length{xs:List V}{us:List Value}(r:zE xs us):xs.length=us.length:=Paired.length r
theorem zE.get: ∀{xs:List V} {us:List Value} {i:Nat} {x:V},zE xs us->xs[i]? =some x-> ∃u,us[i]? =some u/\zB x u
 |_,_,_,_, .nil,e=>by simp at e
 |_,_,0,_, .cons r _,e=>by simp at e;subst e;exact⟨_,rfl,r⟩
 |_,_,i+1,x, .cons _ t,e=>by
  obtain⟨u,h1,h2⟩:=zE.get (i:=i) (x:=x) t (by simpa using e);exact⟨u,by simpa using h1,h2⟩
theorem zE.set{x:V}{u:Value}(r:zB x u): ∀{xs:List V} {us:List Value} (i:Nat),zE xs us->zE (xs.set i x) (us.set i u)
 |_,_,_, .nil=> .nil
 |_,_,0, .cons _ t=> .cons r t
 |_,_,i+1, .cons q t=> .cons q (zE.set r i t)
theorem zE.append: ∀{xs ys:List V} {us ws:List Value},zE xs us->zE ys ws->zE (xs++ys) (us++ws)
 |_,_,_,_, .nil,s=>s
 |_,_,_,_, .cons r t,s=> .cons r (zE.append t s)
theorem zE.take: ∀{xs:List V} {us:List Value} (n:Nat),zE xs us->zE (xs.take n) (us.take n)
 |_,_,0,_=> .nil
 |_,_,_+1, .nil=> .nil
 |_,_,n+1, .cons r t=> .cons r (zE.take n t)
theorem zE.drop: ∀{xs:List V} {us:List Value} (n:Nat),zE xs us->zE (xs.drop n) (us.drop n)
 |_,_,0,r=>r
 |_,_,_+1, .nil=> .nil
 |_,_,n+1, .cons _ t=>zE.drop n t
theorem zE.none_of: ∀{xs:List V} {us:List Value} {i:Nat},zE xs us->xs[i]? =none->us[i]? =none:=fun {xs us i} r e=>by
 have h1:=r.length;have h2:xs.length<=i:=List.getElem?_eq_none_iff.mp e;exact List.getElem?_eq_none_iff.mpr 'o'
def xH:Option V->Option Value->Prop
 |some v,some u=>zB v u
 |none,none=>True
 |_,_=>False
def KV{κ:Type}:List (κ×V)->List (κ×Value)->Prop:=Paired λ(p:κ×V) (q:κ×Value)=>p.1=q.1/\zB p.2 q.2
def kV:Key->V
 | .inl i=> .int i
 | .inr x=> .str x
inductive HO where
 |lst (xs:List V)
 |tup (xs:List V)
 |dK (kvs:List (Key×V))|dT (kvs:List (List Key×V))
 |set (S:Int->Bool) (n:Nat)
 |ins (C dx:Addr) (fs:List (Str×V))
 |own (x:Addr)
 |xd (fs:List (Str×V))
 |met (f x:Addr)
 |rng (lo hi:Int)
 |frz (o:Obj) (u:HO)
 |tbl (ps:Array Value)
 |ext (φ:Heap->Prop)
abbrev Hp:=Addr->Option HO
def upd(H:Hp)(a:Addr)(o:HO):Hp:=λb=>if b=a then some o else H b
theorem zP:upd H a o a=some o:=by unfold upd;rw[Jg rfl]
theorem zT(h:b≠a):upd H a o b=H b:=by unfold upd;rw[Jf h]
theorem zmJ{u:HO}(h:H a=some o)(h':H b=some u)(d:o≠u):a≠b:=by
 intro e;subst e;rw[h] at h';exact d (JQ h')
theorem xw(h:H a=some o)(h':H b=none):a≠b:=by
 intro e;subst e;rw[h] at h';cases h'
section
variable (P:Program) (w:World)
def yZ(H:Hp)(h:Heap)(a:Addr):HO->Prop
 | .lst xs=>xs.length<=sizeLine/\ ∃(its:List Value) (n:Nat),zE xs its/\h.get? a=some {cls:= .type "list",data:= .seq its.toArray n}
 | .tup xs=>xs.length<=sizeLine/\ ∃its:List Value,zE xs its/\IsTup h a its.toArray
 | .dK kvs=>kvs.length<=sizeLine/\(a==sysModules)=false/\ ∃vs,KV kvs vs/\h.DictOf (xv P w) a vs
 | .dT kvs=>kvs.length<=sizeLine/\(a==sysModules)=false/\ ∃xs:List (List Key×Addr×Value),
   Paired (λ(p:List Key×V) (q:List Key×Addr×Value)=>p.1=q.1/\H q.2.1=some (.tup (p.1.map kV))/\zB p.2 q.2.2) kvs xs/\
   ∃o es ep,h.get? a=some o/\o.ExactDict/\o.data= .dict es ep/\es.toList=xs.map (entryOfKey (tupleKind (xv P w)))/\(xs.map (·.1)).Nodup
 | .set S n=>h.SetOf (intKind P w) a S n
 | .ins C dx fs=>H dx=some (.own a)/\fs.length<=1000/\dx≠a/\h.get? a=some (PySem.W.instObj C dx)/\
   ∃mA,h.Ns1 dx mA/\(∀f,xH (fs.lookup f) (mA f))/\PySem.Within mA (fs.map (·.1))
 | .own _=> ∃o,h.get? a=some o
 | .xd fs=> ∃mA,h.Ns1 a mA/\ ∀f,xH (fs.lookup f) (mA f)
 | .rng lo hi=> ∃t u v,h.get? a=some {cls:= .type "range",data:= .fields #[.int lo t, .int hi u, .int 1 v]}
 | .frz o u=>h.get? a=some o/\yZ H h a u
 | .tbl ps=>h.get? a=some {cls:= .none,data:= .fields ps}
 | .met f x=>h.get? a=some (PySem.W.methodObj (.ref f) (.ref x))
 | .ext φ=>φ h/\(∃o,h.get? a=some o)/\ ∀h1 h2:Heap,φ h1->(∀o,h1.get? a=some o->h2.get? a=some o)->φ h2
def HOk(H:Hp)(h:Heap):Prop:= ∀a o,H a=some o->yZ P w H h a o
end
section
variable {P:Program} {w:World} {H H':Hp} {h h':Heap} {a:Addr} {o:HO}
theorem yZ.lt(x:yZ P w H h a o):a<h.objs.size:=by
 cases o with
 |lst xs=>obtain⟨_,_,_,_,e⟩:=x;exact JU e
 |tup xs=>obtain⟨_,_,_,p⟩:=x;exact p.lt
 |dK kvs=>obtain⟨_,_,_,_,o,_,_,e,_⟩:=x;exact JU e
 |dT kvs=>obtain⟨_,_,_,_,o,_,_,e,_⟩:=x;exact JU e
 |set S n=>obtain⟨o,_,_,_,e,_⟩:=x;exact JU e
 |ins C dx fs=>obtain⟨_,_,_,e,_⟩:=x;exact JU e
 |own y=>obtain⟨_,e⟩:=x;exact JU e
 |xd fs=>obtain⟨_,⟨_,_,_,e,_⟩,_⟩:=x;exact JU e
 |rng lo hi=>obtain⟨_,_,_,e⟩:=x;exact JU e
 |frz ob u=>obtain⟨e,_⟩:=x;exact JU e
 |tbl ps=>exact JU (show h.get? a=some _ from x)
 |met f y=>exact JU (show h.get? a=some _ from x)
 |ext φ=>obtain⟨_,⟨_,e⟩,_⟩:=x;exact JU e
theorem Paired.mapP{α β:Type}{F G:α->β->Prop}: ∀{l₁:List α} {l₂:List β},Paired F l₁ l₂->(∀a b,F a b->G a b)->Paired G l₁ l₂
 |_,_, .nil,_=> .nil
 |_,_, .cons r t,f=> .cons (f _ _ r) (Paired.mapP t f)
theorem yZ.stay(x:yZ P w H h a o)(k: ∀b u,(b=a\/H b=some (.own a))->h.get? b=some u->h'.get? b=some u)
  (ho: ∀b,H b=some (.own a)->H' b=some (.own a)) (ht: ∀b xs,H b=some (.tup xs)->H' b=some (.tup xs)):yZ P w H' h' a o:=by
 induction o with
 |lst xs=>obtain⟨z,its,n,r,e⟩:=x;exact⟨z,its,n,r,k _ _ (.inl rfl) e⟩
 |tup xs=>obtain⟨z,its,r,ob,e,c⟩:=x;exact⟨z,its,r,ob,k _ _ (.inl rfl) e,c⟩
 |dK kvs=>obtain⟨z,y,vs,r,ob,es,ep,e,c⟩:=x;exact⟨z,y,vs,r,ob,es,ep,k _ _ (.inl rfl) e,c⟩
 |dT kvs=>
  obtain⟨z,y,xs,r,ob,es,ep,e,c⟩:=x;exact⟨z,y,xs,Paired.mapP r λp q z=>⟨z.1,ht _ _ z.2.1,z.2.2⟩,ob,es,ep,k _ _ (.inl rfl) e,c⟩
 |set S n=>obtain⟨ob,es,ep,t,e,c⟩:=x;exact⟨ob,es,ep,t,k _ _ (.inl rfl) e,c⟩
 |ins C dx fs=>
  obtain⟨d,z,ne,e,mA,⟨od,es,ep,e2,c⟩,r⟩:=x;exact⟨ho _ d,z,ne,k _ _ (.inl rfl) e,mA,⟨od,es,ep,k _ _ (.inr d) e2,c⟩,r⟩
 |own y=>obtain⟨ob,e⟩:=x;exact⟨ob,k _ _ (.inl rfl) e⟩
 |xd fs=>obtain⟨mA,⟨od,es,ep,e,c⟩,r⟩:=x;exact⟨mA,⟨od,es,ep,k _ _ (.inl rfl) e,c⟩,r⟩
 |rng lo hi=>obtain⟨t,u,v,e⟩:=x;exact⟨t,u,v,k _ _ (.inl rfl) e⟩
 |frz ob u ih=>obtain⟨e,q⟩:=x;exact⟨k _ _ (.inl rfl) e,ih q⟩
 |tbl ps=>
  have e:h.get? a=some {cls:= .none,data:= .fields ps}:=x;show h'.get? a=some {cls:= .none,data:= .fields ps};exact k a _ (.inl rfl) e
 |met f y=>
  have e:h.get? a=some (PySem.W.methodObj (.ref f) (.ref y)):=x;show h'.get? a=some (PySem.W.methodObj (.ref f) (.ref y));exact k a _ (.inl rfl) e
 |ext φ=>obtain⟨p,⟨o,e⟩,st⟩:=x;exact⟨st _ _ p λo q=>k _ _ (.inl rfl) q,⟨o,k _ _ (.inl rfl) e⟩,st⟩
theorem HOk.lt(x:HOk P w H h)(e:H a=some o):a<h.objs.size:=(x a o e).lt
theorem HOk.fresh(x:HOk P w H h)(e:h.objs.size<=a):H a=none:=by
 cases q:H a with
 |none=>rfl
 |some u=>exact absurd (Jx (x.lt q) e) (Nat.lt_irrefl _)
theorem HOk.kept(x:HOk P w H h)(k: ∀b u,h.get? b=some u->h'.get? b=some u):HOk P w H h':=λa o e=>
 (x a o e).stay (λb u _ q=>k b u q) (λ_ q=>q) λ_ _ q=>q
theorem HOk.laid(x:HOk P w H h)(k: ∀b u,h.get? b=some u->h'.get? b=some u)(hp:h.objs.size<=a)(new:yZ P w (upd H a o) h' a o):HOk P w (upd H a o) h':=λb u e=>by
 have hn:=x.fresh hp;by_cases hb:b=a
 ·subst hb;rw[zP] at e;cases e;exact new
 ·rw[zT hb] at e;exact(x b u e).stay (λc v _ q=>k c v q) (λc q=>by rw[zT (xw q hn)];exact q) λc xs q=>by rw[zT (xw q hn)];exact q
end
def Rd(H:Hp)(a:Addr)(u:HO):Prop:=H a=some u\/ ∃o,H a=some (.frz o u)
theorem Rd.of{u:HO}(h:H a=some u):Rd H a u:= .inl h
theorem Rd.ok{u:HO}(r:Rd H a u)(x:HOk P w H h):yZ P w H h a u:=by
 rcases r with r|⟨o,r⟩
 ·exact x a u r
 ·obtain⟨_,q⟩:=x a _ r;exact q
def Mut:Option HO->Prop
 |some (.lst _)=>True
 |some (.dK _)=>True
 |some (.dT _)=>True
 |some (.set _ _)=>True
 |some (.ins _ _ _)=>True
 |some (.ext _)=>True
 |_=>False
section
variable {P:Program} {w:World} {H:Hp} {h h':Heap} {x e:Addr} {o':HO}
theorem HOk.write(ok:HOk P w H h)(mu:Mut (H x))(he:e=x\/H e=some (.own x))(k: ∀b u,b≠e->h.get? b=some u->h'.get? b=some u)(heo: ∃u,h'.get? e=some u)
  (new:yZ P w (upd H x o') h' x o'):HOk P w (upd H x o') h':=λb u q=>by
 have nown: ∀c y,H c=some (.own y)->c≠x:=λc y r z=>by subst z;rw[r] at mu;exact mu
 have ntup: ∀c xs,H c=some (.tup xs)->c≠x:=λc xs r z=>by subst z;rw[r] at mu;exact mu
 by_cases hb:b=x
 ·subst hb;rw[zP] at q;cases q;exact new
 ·rw[zT hb] at q;by_cases hbe:b=e
  ·have q':H b=some (.own x):=by
    rcases he with z|z
    ·exact absurd (hbe.trans z) hb
    ·rw[hbe];exact z
   rw[q] at q';cases q';obtain⟨v,hv⟩:=heo;exact⟨v,by rw[hbe];exact hv⟩
  ·refine(ok b u q).stay (λc v hc r=>k c v ?_ r) (λc r=>by rw[zT (nown c b r)];exact r) λc xs r=>by rw[zT (ntup c xs r)];exact r
   rcases hc with rfl|hc
   ·exact hbe
   ·rintro rfl;rcases he with z|z
    ·exact nown c b hc z
    ·rw[hc] at z;cases z;exact hb rfl
end
structure Un (fs ex:List Addr) (H H':Hp) (h h':Heap):Prop where
 keep: ∀b o,h.get? b=some o->H b=none->b∉fs->b∉ex->h'.get? b=some o
 slot: ∀b o,h.get? b=some o->H b=none->b∈fs->b∉ex-> ∃sl,h'.get? b=some {o with slots:=sl}
 free: ∀b o,h.get? b=some o->H b=none->b∉ex->H' b=none
 there: ∀b o,h.get? b=some o->b∉ex-> ∃o',h'.get? b=some o'
 tups: ∀b xs,H b=some (.tup xs)->H' b=some (.tup xs)
 frzs: ∀b o u,H b=some (.frz o u)->H' b=some (.frz o u)
 tbls: ∀b ps,H b=some (.tbl ps)-> ∃more,H' b=some (.tbl (ps++more))
section
variable {fs fs' ex ex':List Addr} {H H1 H2:Hp} {h h1 h2 h':Heap} {a x e:Addr} {o:HO}
theorem Un.any(u:Un fs ex H H1 h h1){ob:Obj}(q:h.get? b=some ob)(n:H b=none)(hx:b∉ex): ∃sl,h1.get? b=some {ob with slots:=sl}:=by
 by_cases hb:b∈fs
 ·exact u.slot b ob q n hb hx
 ·exact⟨ob.slots,u.keep b ob q n hb hx⟩
theorem Un.trans(a:Un fs ex H H1 h h1)(b:Un fs ex H1 H2 h1 h2):Un fs ex H H2 h h2 where
 keep:=λc ob q n hc hx=>b.keep c ob (a.keep c ob q n hc hx) (a.free c ob q n hx) hc hx
 slot:=λc ob q n hc hx=>by
  obtain⟨sl,e1⟩:=a.slot c ob q n hc hx;obtain⟨sl',e2⟩:=b.slot c _ e1 (a.free c ob q n hx) hc hx;exact⟨sl',e2⟩
 free:=λc ob q n hx=>by
  obtain⟨o',e1⟩:=a.there c ob q hx;exact b.free c o' e1 (a.free c ob q n hx) hx
 there:=λc ob q hx=>by
  obtain⟨o',e1⟩:=a.there c ob q hx;exact b.there c o' e1 hx
 tups:=λc xs q=>b.tups c xs (a.tups c xs q)
 frzs:=λc ob xs q=>b.frzs c ob xs (a.frzs c ob xs q)
 tbls:=λc ps q=>by
  obtain⟨m1,e1⟩:=a.tbls c ps q;obtain⟨m2,e2⟩:=b.tbls c _ e1;exact⟨m1++m2,by rw[e2,Array.append_assoc]⟩
theorem Un.kept(k: ∀b u,h.get? b=some u->h'.get? b=some u):Un fs ex H H h h':=
 ⟨λb ob q _ _ _=>k b ob q,λb ob q _ _ _=>⟨ob.slots,k b ob q⟩,λ_ _ _ n _=>n,λb ob q _=>⟨ob,k b ob q⟩,λ_ _ q=>q,λ_ _ _ q=>q,λ_ ps q=>⟨#[],by rw[q];simp⟩⟩
theorem Un.refl:Un fs ex H H h h:=Un.kept λ_ _ q=>q
theorem Un.laid(k: ∀b u,h.get? b=some u->h'.get? b=some u)(hp:h.objs.size<=a)(hn:H a=none):Un fs ex H (upd H a o) h h' where
 keep:=λb u q _ _ _=>k b u q
 slot:=λb u q _ _ _=>⟨u.slots,k b u q⟩
 free:=λb u q n _=>by rw[zT (JH (Jx (JU q) hp))];exact n
 there:=λb u q _=>⟨u,k b u q⟩
 tups:=λb xs q=>by rw[zT (xw q hn)];exact q
 frzs:=λb u xs q=>by rw[zT (xw q hn)];exact q
 tbls:=λb ps q=>⟨#[],by rw[zT (xw q hn),q];simp⟩
theorem Un.write(mu:Mut (H x))(he:e=x\/H e=some (.own x))(k: ∀b u,b≠e->h.get? b=some u->h'.get? b=some u)(heo: ∃u,h'.get? e=some u):Un fs ex H (upd H x o) h h':=by
 have hx: ∀b,H b=none->b≠x:=λb n z=>by subst z;rw[n] at mu;exact mu
 have hb: ∀b,H b=none->b≠e:=λb n z=>by
  subst z;rcases he with r|r
  ·exact hx b n r
  ·rw[n] at r;cases r
 have hm: ∀b u,H b=some u-> ¬Mut (some u)->b≠x:=λb u q nm z=>by subst z;rw[q] at mu;exact nm mu
 refine⟨λb u q n _ _=>k b u (hb b n) q,λb u q n _ _=>⟨u.slots,k b u (hb b n) q⟩,λb u q n _=>by rw[zT (hx b n)];exact n,λb u q _=> ?_,
  λb xs q=>by rw[zT (hm b _ q λz=>z)];exact q,λb u xs q=>by rw[zT (hm b _ q λz=>z)];exact q,λb ps q=>⟨#[],by rw[zT (hm b _ q λz=>z),q];simp⟩⟩
 by_cases hbe:b=e
 ·subst hbe;exact heo
 ·exact⟨u,k b u hbe q⟩
theorem Un.mono(u:Un fs ex H H1 h h1)(hs: ∀b∈fs,b∈fs')(hx: ∀b∈ex,b∈ex'):Un fs' ex' H H1 h h1:=
 ⟨λb ob q n hb he=>u.keep b ob q n (λz=>hb (hs b z)) λz=>he (hx b z),λ_ _ q n _ he=>u.any q n λz=>he (hx _ z),λb ob q n he=>u.free b ob q n λz=>he (hx b z),λb ob q he=>u.there b ob q λz=>he (hx b z),u.tups,u.frzs,u.tbls⟩
end
def trk(h:Heap)(H:Hp):List Addr:=(List.range h.objs.size).filter λa=>(H a).isSome
def wu(h:Heap)(H:Hp):Heap:=PySem.W.hideAll h (trk h H)
theorem zix(h:Heap)(H:Hp):(wu h H).objs.size=h.objs.size:=PySem.W.hideAll_size _ _
theorem zje{o:Obj}(e:h.get? b=some o)(n:H b=none):(wu h H).get? b=some o:=
 PySem.W.hideAll_get _ e λhm=>by
  have q:(H b).isSome=true:=(List.mem_filter.mp hm).2;rw[n] at q;simp at q
theorem zkw{o:Obj}(e:(wu h H).get? b=some o):h.get? b=some o/\H b=none:=by
 have e':h.get? b=some o:=PySem.W.of_hideAll (trk h H) e;refine⟨e',?_⟩;cases q:H b with
 |none=>rfl
 |some x=>
  have hm:b∈trk h H:=List.mem_filter.mpr ⟨List.mem_range.mpr (JU e'),by simp [q]⟩;have z:(wu h H).get? b=none:=PySem.W.hideAll_none (trk h H) hm;rw[z] at e;cases e
def zkx(g h:Heap)(L:Addr):List (Addr×Obj):=(List.range h.objs.size).filterMap λa=>if a=L\/(g.get? a).isSome=true then none else (h.get? a).map λo=>(a,o)
def rest(g h:Heap)(L d:Addr):List (Addr×Obj):=(zkx g h L).filter λp=>decide (p.1≠d)
structure Mod (K:Fg) (mg:Str->Option Value) (base:Heap):Prop where
 kin:K.In base
 glob:base.Ns mainGlobals mg
 blt: ∃mb,base.Ns builtinsNs mb/\ ∀x:Str,x≠"__name__"->mb x=bootBuiltins x
 nolimit:base.NoLimit
set_option genInjectivity false in
set_option genSizeOf false in
structure Cx where
 prog:Program
 w:World
 K:Fg
 mg:Str->Option Value
 base:Heap
 A:Around
 N:List Str
 s₀:Shared
 H₀:Hp
 env:Env
 outer:List Env
 stack:List Env
 ex:List Addr
 fn:Str->Bool
 calm:Bool
 pn:List (Addr×Obj)
 xe:Value->Shared->Prop
def frs(l:List Env):List Addr:=l.filterMap (·.frame)
abbrev Cx.fs(X:Cx):List Addr:=frs X.outer
def Vis(sc:Scope)(x:Str):Prop:=sc.names.lookup x=some .local\/sc.names.lookup x=some .cell\/sc.names.lookup x=some .free
def Loc(sc:Scope)(x:Str):Prop:=sc.names.lookup x=some .local\/sc.names.lookup x=some .cell
def znm(env:Env)(h:Heap)(m:Str->Option Value)(x:Str)(u:Value):Prop:=
 (env.kindOf x=some .local/\m x=some u)\/((env.kindOf x=some .cell\/env.kindOf x=some .free)/\ ∃c,env.cells.lookup x=some c/\h.IsCell c (some u))
structure Cx.Ok (X:Cx):Prop where
 mod:Mod X.K X.mg X.base
 kind:X.env.scope.kind= .function
 glob:X.env.globals=mainGlobals
 blt:X.env.builtins=builtinsNs
 above:X.s₀.heap.objs.size<=X.env.locals
 inj: ∀x y c,X.env.cells.lookup x=some c->X.env.cells.lookup y=some c->x=y
 has: ∀x,(X.env.kindOf x=some .cell\/X.env.kindOf x=some .free)-> ∃c,X.env.cells.lookup x=some c
 cab: ∀x c,X.fn x=true->X.env.cells.lookup x=some c->X.s₀.heap.objs.size<=c
 hd:X.calm=true->X.A.handled=none
 frames:X.A.frames=some X.stack
 stk:X.stack=X.outer\/(X.stack=X.env::X.outer/\X.env.frame=some X.env.locals)
 exf: ∀b∈X.ex,b≠X.env.locals/\ ∀x c,X.env.cells.lookup x=some c->c≠b
 bs: ∀b o,X.base.get? b=some o->X.s₀.heap.get? b=some o/\X.H₀ b=none
 bsz:X.base.objs.size<=X.s₀.heap.objs.size
 noex: ∀b o,X.base.get? b=some o->b∉X.ex
 exfs: ∀b∈X.ex,b∉X.fs
 funs:X.s₀.heap.FunFrames X.base X.outer
 frf: ∀b∈X.fs,X.H₀ b=none
structure Inv (X:Cx) (pins:List (Addr×Obj)) (σ:List (Option V)) (H:Hp) (s:Shared):Prop where
 ok:X.Ok
 os:s.os=X.s₀.os
 bare:AllBare s.gens
 base:Un X.fs X.ex X.H₀ H X.s₀.heap s.heap
 loc: ∃m,s.heap.Ns X.env.locals m/\ ∀(i:Nat) (x:Str) (v:V),X.N[i]? =some x->σ[i]? =some (some v)->Vis X.env.scope x-> ∃u,zB v u/\znm X.env s.heap m x u
 cell: ∀x c,X.env.cells.lookup x=some c-> ∃v,s.heap.IsCell c v
 free:H X.env.locals=none
 freeC: ∀x c,X.env.cells.lookup x=some c->H c=none
 pin: ∀p∈X.pn++pins,s.heap.get? p.1=some p.2/\H p.1=none/\p.1≠X.env.locals/\p.1∉X.fs/\ ∀v,p.2.data≠ .cell v
 hok:HOk X.prog X.w H s.heap
 len:σ.length=X.N.length
section
variable {X:Cx} {pins:List (Addr×Obj)} {σ:List (Option V)} {H H':Hp} {s:Shared} {h':Heap}
theorem Cx.Ok.nofr(ok:X.Ok){o:Obj}(e:X.base.get? b=some o):b∉X.fs:=λhb=>by
 have:=(ok.funs.mem hb).1;rw[e] at this;cases this
theorem Inv.bs(I:Inv X pins σ H s): ∀b o,X.base.get? b=some o->s.heap.get? b=some o/\H b=none:=λb o e=>
 ⟨I.base.keep b o (I.ok.bs b o e).1 (I.ok.bs b o e).2 (I.ok.nofr e) (I.ok.noex b o e),I.base.free b o (I.ok.bs b o e).1 (I.ok.bs b o e).2 (I.ok.noex b o e)⟩
theorem Inv.bk(I:Inv X pins σ H s): ∀b o,X.base.get? b=some o->s.heap.get? b=some o:=λb o e=>(I.bs b o e).1
theorem Inv.mod(I:Inv X pins σ H s):Mod X.K X.mg X.base:=I.ok.mod
theorem Inv.kIn(I:Inv X pins σ H s):X.K.In s.heap:=I.ok.mod.kin.keeps I.bk
theorem Inv.nolimit(I:Inv X pins σ H s):s.heap.NoLimit:=I.ok.mod.nolimit.keeps I.bk
theorem Inv.fr(I:Inv X pins σ H s): ∃m,Fr X.base X.env.locals s.heap m:=
 let ⟨m,hn,_⟩:=I.loc
 ⟨m,hn,I.bk,JD I.ok.bsz I.ok.above⟩
theorem Inv.lt(I:Inv X pins σ H s):X.env.locals<s.heap.objs.size:=let ⟨_,hn,_⟩:=I.loc;hn.lt
theorem Inv.sz(I:Inv X pins σ H s):X.s₀.heap.objs.size<=s.heap.objs.size:=JD I.ok.above (Nat.le_of_lt I.lt)
theorem Inv.nofs(I:Inv X pins σ H s)(h:s.heap.objs.size<=a):a∉X.fs:=λhb=>by
 obtain⟨_,o,ho,_⟩:=I.ok.funs.mem hb;exact absurd (Jx (JU ho) (JD I.sz h)) (Nat.lt_irrefl _)
theorem Inv.cne(I:Inv X pins σ H s): ∀x c,X.env.cells.lookup x=some c->c≠X.env.locals:=λx c e z=>by
 obtain⟨v,o,ho,hd⟩:=I.cell x c e;obtain⟨m,⟨o',es,ep,ho',hd',_⟩,_⟩:=I.loc;rw[z,ho'] at ho;cases ho;rw[hd'] at hd;cases hd
theorem Inv.funs(I:Inv X pins σ H s):s.heap.FunFrames X.base X.outer:=by
 have all: ∀(l:List Env),(∀b∈frs l,b∈X.fs)->X.s₀.heap.FunFrames X.base l->s.heap.FunFrames X.base l:=by
  intro l;induction l with
  |nil=>intro _ _;trivial
  |cons env r ih=>
   intro hs hl;obtain⟨hk,⟨L,o,hf,hn,ho,hd⟩,hr⟩:=hl;have hL:L∈X.fs:=hs L (by unfold frs;rw[List.filterMap_cons,hf];exact Jq);obtain⟨sl,e⟩:=I.base.slot L o ho (I.ok.frf L hL) hL λz=>I.ok.exfs L z hL;exact⟨hk,⟨L,_,hf,hn,e,hd⟩,ih (λb hb=>hs b (by unfold frs;rw[List.filterMap_cons,hf];exact Jl _ hb)) hr⟩
 exact all X.outer (λ_ hb=>hb) I.ok.funs
theorem Inv.stack(I:Inv X pins σ H s):s.heap.FunFrames X.base X.stack:=by
 rcases I.ok.stk with e|⟨e,hf⟩
 ·rw[e];exact I.funs
 ·rw[e];obtain⟨m,hn,_⟩:=I.loc;refine .cons (by rw[I.ok.kind];decide) hf hn ?_ I.funs;exact Heap.get?_none_of_le (JD I.ok.bsz I.ok.above)
theorem Inv.stkSub(I:Inv X pins σ H s): ∀b∈frs X.stack,b∈X.env.locals::X.fs:=λb hb=>by
 rcases I.ok.stk with e|⟨e,hf⟩
 ·rw[e] at hb;exact Jl _ hb
 ·rw[e] at hb;unfold frs at hb;rw[List.filterMap_cons,hf] at hb;exact hb
theorem Inv.stkFree(I:Inv X pins σ H s): ∀b∈frs X.stack,H b=none:=λb hb=>by
 rcases JC.mp (I.stkSub b hb) with e|hb
 ·rw[e];exact I.free
 ·obtain⟨_,o,ho,_⟩:=I.ok.funs.mem hb;exact I.base.free b o ho (I.ok.frf b hb) λz=>I.ok.exfs b z hb
theorem Inv.step{g':Array GenState}{t':Nat}{d':Drawn}{ch:List Addr}(I:Inv X pins σ H s)
  (hch: ∀b∈ch,(b∈X.ex\/X.s₀.heap.objs.size<=b)/\b≠X.env.locals/\(∀x c,X.env.cells.lookup x=some c->c≠b)/\ ∀p∈X.pn++pins,p.1≠b)
  (keep: ∀b o,b≠X.env.locals->b∉X.fs->b∉ch->s.heap.get? b=some o->H b=none->h'.get? b=some o)
  (slot: ∀b o,b≠X.env.locals->b∈X.fs->b∉ch->s.heap.get? b=some o->H b=none-> ∃sl,h'.get? b=some {o with slots:=sl}) (free: ∀b o,b∉ch->s.heap.get? b=some o->H b=none->H' b=none)
  (there: ∀b o,b∉ch->s.heap.get? b=some o-> ∃o',h'.get? b=some o')
  (tups: ∀b xs,H b=some (.tup xs)->H' b=some (.tup xs)) (frzs: ∀b o u,H b=some (.frz o u)->H' b=some (.frz o u)) (tbls: ∀b ps,H b=some (.tbl ps)-> ∃more,H' b=some (.tbl (ps++more)))
  (ns: ∀m,s.heap.Ns X.env.locals m->h'.Ns X.env.locals m) (hok:HOk X.prog X.w H' h') (hg:AllBare g'):
  Inv X pins σ H' {s with heap:=h',gens:=g',drawn:=d',toks:=t'}:=by
 have neL: ∀b o,X.s₀.heap.get? b=some o->b≠X.env.locals:=λb o e=>JH (Jx (JU e) I.ok.above);have neC: ∀b o,X.s₀.heap.get? b=some o->b∉X.ex->b∉ch:=λb o e hx hb=>by
  rcases (hch b hb).1 with z|z
  ·exact hx z
  ·exact absurd (Jx (JU e) z) (Nat.lt_irrefl _)
 have cellK: ∀x c,X.env.cells.lookup x=some c-> ∀v,s.heap.IsCell c v->h'.IsCell c v:=λx c e v ⟨o,ho,hd⟩=>by
  have nch:c∉ch:=λz=>(hch c z).2.2.1 x c e rfl;by_cases hc:c∈X.fs
  ·obtain⟨sl,q⟩:=slot c o (I.cne x c e) hc nch ho (I.freeC x c e);exact⟨_,q,hd⟩
  ·exact⟨o,keep c o (I.cne x c e) hc nch ho (I.freeC x c e),hd⟩
 refine⟨I.ok,I.os,hg,⟨λb o e n hb hx=> ?_,λb o e n hb hx=> ?_,λb o e n hx=> ?_,λb o e hx=> ?_,λb xs e=>tups b xs (I.base.tups b xs e),λb o xs e=>frzs b o xs (I.base.frzs b o xs e),λb ps e=> ?_⟩,?_,λx c e=> ?_,?_,λx c e=> ?_,λp hp=> ?_,hok,I.len⟩
 ·exact keep b o (neL b o e) hb (neC b o e hx) (I.base.keep b o e n hb hx) (I.base.free b o e n hx)
 ·obtain⟨sl,e1⟩:=I.base.slot b o e n hb hx;obtain⟨sl',e2⟩:=slot b _ (neL b o e) hb (neC b o e hx) e1 (I.base.free b o e n hx);exact⟨sl',e2⟩
 ·obtain⟨o',e1⟩:=I.base.there b o e hx;exact free b o' (neC b o e hx) e1 (I.base.free b o e n hx)
 ·obtain⟨o',e1⟩:=I.base.there b o e hx;exact there b o' (neC b o e hx) e1
 ·obtain⟨m1,e1⟩:=I.base.tbls b ps e;obtain⟨m2,e2⟩:=tbls b _ e1;exact⟨m1++m2,by rw[e2,Array.append_assoc]⟩
 ·obtain⟨m,hn,hl⟩:=I.loc;refine⟨m,ns m hn,λi x v e1 e2 e3=> ?_⟩;obtain⟨u,r,l⟩:=hl i x v e1 e2 e3;refine⟨u,r,?_⟩;rcases l with l|⟨k,c,e,z⟩
  ·exact .inl l
  ·exact .inr ⟨k,c,e,cellK x c e _ z⟩
 ·obtain⟨v,z⟩:=I.cell x c e;exact⟨v,cellK x c e v z⟩
 ·obtain⟨m,⟨o,_,_,ho,_⟩,_⟩:=I.loc;exact free _ o (λz=>(hch _ z).2.1 rfl) ho I.free
 ·obtain⟨v,o,ho,hd⟩:=I.cell x c e;exact free c o (λz=>(hch c z).2.2.1 x c e rfl) ho (I.freeC x c e)
 ·obtain⟨e,n,ne,nf,d⟩:=I.pin p hp;have nch:p.1∉ch:=λz=>(hch p.1 z).2.2.2 p hp rfl;exact⟨keep p.1 p.2 ne nf nch e n,free p.1 p.2 nch e n,ne,nf,d⟩
theorem Inv.un{t':Nat}(I:Inv X pins σ H s)(u:Un X.fs [] H H' s.heap h')(hok:HOk X.prog X.w H' h'):Inv X pins σ H' {s with heap:=h',toks:=t'}:=by
 obtain⟨m,⟨o,es,ep,ho,r⟩,_⟩:=id I.loc;obtain⟨sl,hL⟩:=u.any ho I.free (by simp);exact I.step (g':=s.gens) (d':=s.drawn) (ch:= []) (λ_ z=>nomatch z) (λb o _ hb _ e n=>u.keep b o e n hb (by simp)) (λb o _ hb _ e n=>u.slot b o e n hb (by simp)) (λb o _ e n=>u.free b o e n (by simp)) (λb o _ e=>u.there b o e (by simp)) u.tups u.frzs u.tbls (λm' hm=>by
  obtain⟨o',es',ep',ho',r'⟩:=hm;rw[ho] at ho';cases ho';exact⟨_,es',ep',hL,r'⟩) hok I.bare
theorem Inv.call{g':Array GenState}{t':Nat}{d':Drawn}(I:Inv X pins σ H s)(u:Un (frs X.stack) ch H H' s.heap h')(hok:HOk X.prog X.w H' h')(hg:AllBare g')
  (hch: ∀b∈ch,(b∈X.ex\/X.s₀.heap.objs.size<=b)/\b≠X.env.locals/\(∀x c,X.env.cells.lookup x=some c->c≠b)/\ ∀p∈X.pn++pins,p.1≠b):
  Inv X pins σ H' {s with heap:=h',gens:=g',drawn:=d',toks:=t'}:=by
 obtain⟨m,⟨o,es,ep,ho,r⟩,_⟩:=id I.loc;obtain⟨sl,hL⟩:=u.any ho I.free λz=>(hch _ z).2.1 rfl;exact I.step (ch:=ch) hch (λb o hL hb hc e n=>u.keep b o e n (λz=>(JC.mp (I.stkSub b z)).elim hL hb) hc) (λb o _ _ hc e n=>u.any e n hc) (λb o hc e n=>u.free b o e n hc) (λb o hc e=>u.there b o e hc) u.tups u.frzs u.tbls (λm' hm=>by
  obtain⟨o',es',ep',ho',r'⟩:=hm;rw[ho] at ho';cases ho';exact⟨_,es',ep',hL,r'⟩) hok hg
theorem Inv.turned{t':Nat}{it:Addr}(I:Inv X pins σ H s)(k: ∀b o,b≠it->s.heap.get? b=some o->h'.get? b=some o)(hn:H it=none)(hL:it≠X.env.locals)
  (h1:it∈X.ex\/X.s₀.heap.objs.size<=it) (h2: ∀x c,X.env.cells.lookup x=some c->c≠it) (h3: ∀p∈X.pn++pins,p.1≠it):Inv X pins σ H {s with heap:=h',toks:=t'}:=by
 have nit: ∀b u,H b=some u->b≠it:=λb u e z=>by rw[z,hn] at e;cases e
 refine I.step (g':=s.gens) (d':=s.drawn) (ch:= [it]) (λb hb=> ?_) (λb o _ _ hc e _=>k b o (λz=>hc (by simp [z])) e) (λb o _ _ hc e _=>⟨o.slots,k b o (λz=>hc (by simp [z])) e⟩) (λ_ _ _ _ n=>n)
  (λb o hc e=>⟨o,k b o (λz=>hc (by simp [z])) e⟩) (λ_ _ e=>e) (λ_ _ _ e=>e) (λb ps e=>⟨#[],by rw[e];simp⟩) (λm hm=> ?_) (λb u e=> ?_) I.bare
 ·have e:b=it:=by simpa using hb
  subst e;exact⟨h1,hL,h2,h3⟩
 ·obtain⟨o,es,ep,ho,r⟩:=hm;exact⟨o,es,ep,k _ o (Ne.symm hL) ho,r⟩
 ·refine(I.hok b u e).stay (λc v hc q=>k c v ?_ q) (λ_ q=>q) λ_ _ q=>q;rcases hc with z|z
  ·rw[z];exact nit b u e
  ·exact nit c _ z
theorem Inv.tok(I:Inv X pins σ H s)(t:Nat):Inv X pins σ H {s with toks:=t}:=I.un (h':=s.heap) (t':=t) Un.refl I.hok
theorem Inv.kept{t':Nat}(I:Inv X pins σ H s)(k: ∀b u,s.heap.get? b=some u->h'.get? b=some u):Inv X pins σ H {s with heap:=h',toks:=t'}:=I.un (Un.kept k) (I.hok.kept k)
theorem Inv.laid{a:Addr}{o:HO}{t':Nat}(I:Inv X pins σ H s)(k: ∀b u,s.heap.get? b=some u->h'.get? b=some u)(hp:s.heap.objs.size<=a)(new:yZ X.prog X.w (upd H a o) h' a o):
  Inv X pins σ (upd H a o) {s with heap:=h',toks:=t'}:=I.un (Un.laid k hp (I.hok.fresh hp)) (I.hok.laid k hp new)
theorem Inv.write{x e:Addr}{o:HO}{t':Nat}(I:Inv X pins σ H s)(mu:Mut (H x))(he:e=x\/H e=some (.own x))(k: ∀b u,b≠e->s.heap.get? b=some u->h'.get? b=some u)(heo: ∃u,h'.get? e=some u)
  (new:yZ X.prog X.w (upd H x o) h' x o):Inv X pins σ (upd H x o) {s with heap:=h',toks:=t'}:=I.un (Un.write mu he k heo) (I.hok.write mu he k heo new)
theorem Inv.weak{σ':List (Option V)}(I:Inv X pins σ H s)(hl:σ'.length=σ.length)(w: ∀(i:Nat) v,σ'[i]? =some (some v)->σ[i]? =some (some v)):Inv X pins σ' H s:=
 ⟨I.ok,I.os,I.bare,I.base,let ⟨m,hn,hl'⟩:=I.loc;⟨m,hn,λi x v e1 e2 e3=>hl' i x v e1 (w i v e2) e3⟩,I.cell,I.free,I.freeC,I.pin,I.hok,hl.trans I.len⟩
theorem Inv.pins_of{pins':List (Addr×Obj)}(I:Inv X pins σ H s)(h: ∀p∈pins',s.heap.get? p.1=some p.2/\H p.1=none/\p.1≠X.env.locals/\p.1∉X.fs/\ ∀v,p.2.data≠ .cell v):Inv X pins' σ H s:=
 ⟨I.ok,I.os,I.bare,I.base,I.loc,I.cell,I.free,I.freeC,λp hp=>(Jr.mp hp).elim (λz=>I.pin p (List.mem_append_left _ z)) (h p),I.hok,I.len⟩
theorem jy{N:List Str}(hN:N.Nodup)(a:N[i]? =some x)(b:N[j]? =some x):i=j:=by
 obtain⟨h1,e1⟩:=Jc.mp a;obtain⟨h2,e2⟩:=Jc.mp b;exact(List.getElem_inj hN).mp (e1.trans e2.symm)
theorem zf3{M:Model}{A:Around}{E:Value->Shared->Prop}{Q:Unit->Shared->Prop}(I:Inv X pins σ H s)(hN:X.N.Nodup)(hi:X.N[i]? =some x)(hx:Loc X.env.scope x)(r:zB v u)
  (h: ∀s',Inv X pins (σ.set i (some v)) H s'->(∃a,Heap.SameBut a s.heap s'.heap/\(a=X.env.locals\/X.env.cells.lookup x=some a))->Q () s') (hf:X.fn x=true\/X.env.scope.names.lookup x=some .local:=by first|exact .inl rfl|exact .inr rfl|assumption):wpAny M A (storeName X.env x u) Q E s:=by
 obtain⟨m,hn,hl⟩:=id I.loc;have hcls:(X.env.scope.kind== .class||(X.env.scope.kind== .module && X.env.locals !=X.env.globals))=false:=by rw[I.ok.kind];rfl
 have hiσ:i<σ.length:=by rw[I.len];exact(Jc.mp hi).1
 have cne:=I.cne;have tracked: ∀{a:Addr} {h':Heap},(∃o,s.heap.get? a=some o/\H a=none)->Heap.SameBut a s.heap h'->HOk X.prog X.w H h':=fun {a h'} ha hs b ob e=>by
  obtain⟨_,_,hfree⟩:=ha;refine(I.hok b ob e).stay (λc w' hc q=>(hs.2 c ?_).trans q) (λ_ q=>q) λ_ _ q=>q;rintro rfl;rcases hc with rfl|hc
  ·rw[hfree] at e;cases e
  ·rw[hfree] at hc;cases hc
 rcases hx with hk|hk
 ·refine wpAny_storeName_local hk hn (λh' hn' hs=> ?_) hcls;obtain⟨oL,_,_,hoL,_⟩:=id hn;refine h _ ⟨I.ok,I.os,I.bare,⟨λb o e n hb hx=> ?_,λb o e n hb hx=> ?_,I.base.free,λb o e hx=> ?_,I.base.tups,I.base.frzs,I.base.tbls⟩,⟨_,hn',λj y v' e1 e2 e3=> ?_⟩,λy c e=> ?_,I.free,I.freeC,λp hp=> ?_,tracked ⟨oL,hoL,I.free⟩ hs,by simpa using I.len⟩ ⟨_,hs, .inl rfl⟩
  ·exact(hs.2 b (JH (Jx (JU e) I.ok.above))).trans (I.base.keep b o e n hb hx)
  ·obtain⟨sl,e1⟩:=I.base.slot b o e n hb hx;exact⟨sl,(hs.2 b (JH (Jx (JU e) I.ok.above))).trans e1⟩
  ·obtain⟨o',e1⟩:=I.base.there b o e hx;exact⟨o',(hs.2 b (JH (Jx (JU e) I.ok.above))).trans e1⟩
  ·by_cases hj:j=i
   ·subst hj;rw[hi] at e1;cases e1;rw[List.getElem?_set_self hiσ] at e2;cases e2;exact⟨u,r, .inl ⟨hk,by simp⟩⟩
   ·rw[List.getElem?_set_ne (Ne.symm hj)] at e2;obtain⟨u',r',q⟩:=hl j y v' e1 e2 e3;refine⟨u',r',?_⟩;rcases q with⟨k,e⟩|⟨k,c,e,z⟩
    ·refine .inl ⟨k,?_⟩
     have:y≠x:=λe=>hj (jy hN e1 (e ▸ hi));simp [this,e]
    ·exact .inr ⟨k,c,e,z.sameBut hs (cne y c e)⟩
  ·obtain⟨w',z⟩:=I.cell y c e;exact⟨w',z.sameBut hs (cne y c e)⟩
  ·obtain⟨e,n,ne,nf,d⟩:=I.pin p hp;exact⟨(hs.2 p.1 ne).trans e,n,ne,nf,d⟩
 ·have hfn:X.fn x=true:=by
   rcases hf with z|z
   ·exact z
   ·rw[z] at hk;cases hk
  obtain⟨c,hc⟩:=I.ok.has x (.inl hk);obtain⟨w',z⟩:=I.cell x c hc;refine wpAny_storeName_cell I.ok.kind hk hc z (λh' hc' hs=> ?_);obtain⟨oc,hoc,hocd⟩:=id z;refine h {s with heap:=h'} ⟨I.ok,I.os,I.bare,⟨λb o e n hb hx=> ?_,λb o e n hb hx=> ?_,I.base.free,λb o e hx=> ?_,I.base.tups,I.base.frzs,I.base.tbls⟩,⟨m,hn.sameBut hs (Ne.symm (cne x c hc)),λj y v' e1 e2 e3=> ?_⟩,λy c' e=> ?_,I.free,I.freeC,λp hp=> ?_,tracked ⟨oc,hoc,I.freeC x c hc⟩ hs,by simpa using I.len⟩ ⟨c,hs, .inr hc⟩
  ·exact(hs.2 b (JH (Jx (JU e) (I.ok.cab x c hfn hc)))).trans (I.base.keep b o e n hb hx)
  ·obtain⟨sl,e1⟩:=I.base.slot b o e n hb hx;exact⟨sl,(hs.2 b (JH (Jx (JU e) (I.ok.cab x c hfn hc)))).trans e1⟩
  ·obtain⟨o',e1⟩:=I.base.there b o e hx;exact⟨o',(hs.2 b (JH (Jx (JU e) (I.ok.cab x c hfn hc)))).trans e1⟩
  ·by_cases hj:j=i
   ·subst hj;rw[hi] at e1;cases e1;rw[List.getElem?_set_self hiσ] at e2;cases e2;exact⟨u,r, .inr ⟨.inl hk,c,hc,hc'⟩⟩
   ·rw[List.getElem?_set_ne (Ne.symm hj)] at e2;obtain⟨u',r',q⟩:=hl j y v' e1 e2 e3;refine⟨u',r',?_⟩;rcases q with q|⟨k,c',e,z'⟩
    ·exact .inl q
    ·refine .inr ⟨k,c',e,z'.sameBut hs ?_⟩;rintro rfl;exact hj (jy hN e1 (I.ok.inj _ _ _ e hc ▸ hi))
  ·by_cases hcc:c'=c
   ·subst hcc;exact⟨_,hc'⟩
   ·obtain⟨w2,z2⟩:=I.cell y c' e;exact⟨w2,z2.sameBut hs hcc⟩
  ·obtain⟨e,n,ne,nf,d⟩:=I.pin p hp;refine⟨(hs.2 p.1 ?_).trans e,n,ne,nf,d⟩;intro q;rw[q,hoc] at e;have q':oc=p.2:=JQ e;exact d w' (by rw[<-q'];exact hocd)
theorem vz{M:Model}{A:Around}{E:Value->Shared->Prop}{Q:Unit->Shared->Prop}(I:Inv X pins σ H s)(hN:X.N.Nodup)(hi:X.N[i]? =some x)(hx:Loc X.env.scope x)(r:zB v u)
  (h: ∀s',Inv X pins (σ.set i (some v)) H s'->Q () s') (hf:X.fn x=true\/X.env.scope.names.lookup x=some .local:=by first|exact .inl rfl|exact .inr rfl|assumption):wpAny M A (storeName X.env x u) Q E s:=
 zf3 I hN hi hx r (λs' I' _=>h s' I') hf
theorem Inv.call'{s':Shared}(I:Inv X pins σ H s)(ho:s'.os=s.os)(u:Un (frs X.stack) ch H H' s.heap s'.heap)(hok:HOk X.prog X.w H' s'.heap)(hg:AllBare s'.gens)
  (hch: ∀b∈ch,(b∈X.ex\/X.s₀.heap.objs.size<=b)/\b≠X.env.locals/\(∀x c,X.env.cells.lookup x=some c->c≠b)/\ ∀p∈X.pn++pins,p.1≠b):Inv X pins σ H' s':=by
 obtain⟨h',g',d',t',o'⟩:=s';have e:o'=s.os:=ho;subst e;exact I.call (g':=g') (t':=t') (d':=d') u hok hg hch
end
abbrev XK:=Value->Option Addr->Hp->Prop
abbrev St:=List (Option V)
abbrev VK:=V->Hp->Prop
abbrev TE:=St->Hp->VK->Prop
abbrev TT:=St->Hp->(Bool->Hp->Prop)->Prop
abbrev TA:=St->Hp->(List V->Hp->Prop)->Prop
structure Ends where
 nx:St->Hp->Prop
 rt:VK
 bk:St->Hp->Prop:=λ_ _=>False
 ct:St->Hp->Prop:=λ_ _=>False
abbrev TS:=Ends->St->Hp->Prop
def EP(X:Cx)(pins:List (Addr×Obj))(σ:St)(Q:VK)(u:Value)(s':Shared):Prop:= ∃v H',Inv X pins σ H' s'/\zB v u/\Q v H'
def TP(X:Cx)(pins:List (Addr×Obj))(σ:St)(Q:Bool->Hp->Prop)(b:Bool)(s':Shared):Prop:= ∃H',Inv X pins σ H' s'/\Q b H'
def AP(X:Cx)(pins:List (Addr×Obj))(σ:St)(Q:List V->Hp->Prop)(us:List Value)(s':Shared):Prop:= ∃vs H',Inv X pins σ H' s'/\zE vs us/\Q vs H'
def SP(X:Cx)(pins:List (Addr×Obj))(D:Ends)(f:Flow)(s':Shared):Prop:=
 match f with
 | .next=> ∃σ' H',Inv X pins σ' H' s'/\D.nx σ' H'
 | .brk=> ∃σ' H',Inv X pins σ' H' s'/\D.bk σ' H'
 | .cont=> ∃σ' H',Inv X pins σ' H' s'/\D.ct σ' H'
 | .ret u=> ∃v σ' H',Inv X pins σ' H' s'/\zB v u/\D.rt v H'
def PE(X:Cx)(e:Expr)(t:TE):Prop:=
 ∀(pins:List (Addr×Obj)) (s:Shared) (σ:St) (H:Hp) (Q:VK),Inv X pins σ H s->t σ H Q->wpAny (model X.prog X.w) X.A (eval e X.env) (EP X pins σ Q) X.xe s
def PT(X:Cx)(e:Expr)(t:TT):Prop:=
 ∀(pins:List (Addr×Obj)) (s:Shared) (σ:St) (H:Hp) (Q:Bool->Hp->Prop),Inv X pins σ H s->t σ H Q->wpAny (model X.prog X.w) X.A (isTrue e X.env (eval e X.env)) (TP X pins σ Q) X.xe s
def PW(X:Cx)(e:Expr)(t:TT):Prop:=
 ∀(whole:Sem Value) (pins:List (Addr×Obj)) (s:Shared) (σ:St) (H:Hp) (Q:Bool->Hp->Prop),Inv X pins σ H s->t σ H Q->wpAny (model X.prog X.w) X.A (isTrue e X.env whole) (TP X pins σ Q) X.xe s
theorem PW.pt{t:TT}(h:PW X e t):PT X e t:=h _
def PA(X:Cx)(es:List Expr)(t:TA):Prop:=
 ∀(pos:Pos) (pins:List (Addr×Obj)) (s:Shared) (σ:St) (H:Hp) (Q:List V->Hp->Prop),Inv X pins σ H s->t σ H Q->wpAny (model X.prog X.w) X.A (spliced (backTo pos (starEach es X.env))) (AP X pins σ Q) X.xe s
def PS(X:Cx)(st:Stmt)(t:TS):Prop:=
 ∀(pins:List (Addr×Obj)) (s:Shared) (σ:St) (H:Hp) (D:Ends),Inv X pins σ H s->t D σ H->wpAny (model X.prog X.w) X.A (exec st X.env) (SP X pins D) X.xe s
def PSs(X:Cx)(st:List Stmt)(t:TS):Prop:=
 ∀(pins:List (Addr×Obj)) (s:Shared) (σ:St) (H:Hp) (D:Ends),Inv X pins σ H s->t D σ H->wpAny (model X.prog X.w) X.A (execs st X.env) (SP X pins D) X.xe s
theorem thn{α:Type}{t:Sem α}{Q Q':α->Shared->Prop}(h:wpAny M A t Q E s)(hQ: ∀a s,Q a s->Q' a s):wpAny M A t Q' E s:=wpAny_mono h hQ λ_ _ x=>x
section
variable {X:Cx}
def zW(i:Nat):TE:=λσ H Q=> ∃v,σ[i]? =some (some v)/\Q v H
def tC(v:V):TE:=λ_ H Q=>Q v H
theorem zlL{pos:Pos}(hN:X.N[i]? =some x)(hv:Vis X.env.scope x)(hd:(x==("__debug__":Str))=false:=by decide)(hcd:(x==("__classdict__":Str))=false:=by decide):PE X (.Name x pos) (zW i):=by
 intro pins s σ H Q I h;obtain⟨v,e,h⟩:=h;obtain⟨m,hn,hl⟩:=I.loc;obtain⟨u,r,l⟩:=hl i x v hN e hv;have fin:EP X pins σ Q u s:=⟨v,H,I,r,h⟩
 rcases l with⟨hk,hm⟩|⟨hk,c,hc,hcell⟩
 ·exact wpAny_Name (wpAny_loadName_local I.ok.kind hk hn hm fin) hd
 ·rcases hk with hk|hk
  ·exact wpAny_Name (wpAny_loadName_cell I.ok.kind hk hc hcell fin) hd
  ·exact wpAny_Name (wpAny_loadName_free I.ok.kind hk hc hcell fin hcd) hd
theorem zh{i j pos}:PE X (.Constant (.int i) j pos) (tC (.int i)):=λ_ _ _ H _ I h=>wpAny_Constant_int ⟨.int i,H,I.tok _,⟨_,rfl⟩,h⟩
theorem qi{b j pos}:PE X (.Constant (.bool b) j pos) (tC (.bl b)):=λ_ _ _ H _ I h=>Constant_bool ⟨.bl b,H,I,rfl,h⟩
theorem wG{j pos}:PE X (.Constant .none j pos) (tC .non):=λ_ _ _ H _ I h=>Constant_none ⟨.non,H,I,rfl,h⟩
theorem qR{x j pos}:PE X (.Constant (.str x) j pos) (tC (.str x)):=λ_ _ _ H _ I h=>Calls.Constant_str ⟨.str x,H,I.tok _,⟨_,rfl⟩,h⟩
def Gl(X:Cx)(x:Str):Prop:=X.env.kindOf x=some .globalImplicit
theorem vA{E:Value->Shared->Prop}{pos:Pos}{Q:Value->Shared->Prop}(I:Inv X pins σ H s)(hg:Gl X x)(hm:X.mg x=some u)(h:Q u s)
  (hd:(x==("__debug__":Str))=false:=by decide):wpAny (model X.prog X.w) X.A (eval (.Name x pos) X.env) Q E s:=
 Calls.Name_function_global I.ok.kind hg (Calls.loadGlobal_global (by rw[I.ok.glob];exact I.mod.glob.keeps I.bk) hm h) hd
theorem w6{E:Value->Shared->Prop}{pos:Pos}{Q:Value->Shared->Prop}(I:Inv X pins σ H s)(hg:Gl X x)(hm:X.mg x=none)(hv:bootBuiltins x=some u)(h:Q u s)
  (hn:x≠"__name__":=by decide) (hd:(x==("__debug__":Str))=false:=by decide):wpAny (model X.prog X.w) X.A (eval (.Name x pos) X.env) Q E s:=by
 obtain⟨mb,h1,h2⟩:=I.mod.blt;exact Calls.Name_function_global I.ok.kind hg (Calls.loadGlobal_builtin (by rw[I.ok.glob];exact I.mod.glob.keeps I.bk) hm (by rw[I.ok.blt];exact h1.keeps I.bk) ((h2 x hn).trans hv) h) hd
theorem qr{pos:Pos}(hg:Gl X x)(hm:X.mg x=some u)(r:zB v u)(hd:(x==("__debug__":Str))=false:=by decide):PE X (.Name x pos) (tC v):=
 λ_ _ _ H _ I h=>vA I hg hm ⟨v,H,I,r,h⟩ hd
theorem zky{pos:Pos}(hg:Gl X x)(hm:X.mg x=none)(hv:bootBuiltins x=some u)(r:zB v u)(hn:x≠"__name__":=by decide)(hd:(x==("__debug__":Str))=false:=by decide):PE X (.Name x pos) (tC v):=
 λ_ _ _ H _ I h=>w6 I hg hm hv ⟨v,H,I,r,h⟩ hn hd
variable {a b:Expr} {ta tb:TE} {pos:Pos}
def PC(X:Cx)(op:CmpOp)(a b:Expr)(t:TE):Prop:=
 ∀(pins:List (Addr×Obj)) (s:Shared) (σ:St) (H:Hp) (Q:VK),Inv X pins σ H s->t σ H Q->
  wpAny (model X.prog X.w) X.A (eval a X.env) (λv s₁=>wpAny (model X.prog X.w) X.A (eval b X.env) (λu s₂=>wpAny (model X.prog X.w) X.A (compareOp op v u) (EP X pins σ Q) X.xe s₂) X.xe s₁) X.xe s
theorem zjf(b:Expr)(h:op≠ .In)(h2:op≠ .NotIn):behindInMarks op b=false:=by
 have e1:(op==CmpOp.In)=false:=by cases op<;>first|rfl|exact absurd rfl h
 have e2:(op==CmpOp.NotIn)=false:=by cases op<;>first|rfl|exact absurd rfl h2
 cases b<;>simp [behindInMarks,e1,e2]
def tB(t:TE):TT:=λσ H Q=>t σ H λx H1=> ∃c,x= .bl c/\Q c H1
theorem zlM{t:TE}(h:PC X op a b t)(h1:behindInMarks op b=false:=by first|exact zjf _ 'd' 'd'|rfl):PT X (.Compare a [op] [b] pos) (tB t):=by
 intro pins s σ H Q I hw;refine wpAny_isTrue_Compare1 (thn (h pins s σ H _ I hw) λv s1 h1=>thn h1 λu s2 h2=>thn h2 λc s3 ⟨x,H1,I1,r1,q1⟩=> ?_) h1;obtain⟨d,rfl,q⟩:=q1;cases r1;exact wpAny_truthy_bool ⟨H1,I1,q⟩
theorem qB{t:TE}(h:PE X e t)(he: ∀whole,isTrue e X.env whole=(do let v<-whole;standAt e.pos;holding [v] (truthy v)):=by intro _;rfl):PT X e (tB t):=by
 intro pins s σ H Q I hw
 refine isTrue_plain (thn (h pins s σ H _ I hw) λv s1 ⟨x,H1,I1,r1,q1⟩=> ?_) (he _)
 obtain⟨d,rfl,q⟩:=q1
 cases r1
 exact wpAny_truthy_bool ⟨H1,I1,q⟩
variable {tA tB':TT} {rest:List Expr}
def yb(t u:TT):TT:=λσ H Q=>t σ H λc H1=>if c=true then u σ H1 Q else Q false H1
def tOr(t u:TT):TT:=λσ H Q=>t σ H λc H1=>if c=true then Q true H1 else u σ H1 Q
def yc(t:TT):TT:=λσ H Q=>t σ H λc H1=>Q (!c) H1
theorem jz(ha:PT X a tA):PW X (.BoolOp .And [a] pos) tA:=by
 intro wh pins s σ H Q I h;refine isTrue_and (thn (ha pins s σ H Q I h) λc s1 e=> ?_);cases c with
 |true=>exact isTrue_and_nil e
 |false=>exact e
theorem qH(ha:PT X a tA):PW X (.BoolOp .Or [a] pos) tA:=by
 intro wh pins s σ H Q I h;refine isTrue_or (thn (ha pins s σ H Q I h) λc s1 e=> ?_);cases c with
 |false=>exact isTrue_or_nil e
 |true=>exact e
theorem jA(ha:PT X a tA)(hb:PW X (.BoolOp .And (b::rest) pos) tB'):PW X (.BoolOp .And (a::b::rest) pos) (yb tA tB'):=by
 intro wh pins s σ H Q I h;refine isTrue_and (thn (ha pins s σ H _ I h) λc s1 ⟨H1,I1,q1⟩=> ?_);cases c with
 |true=>exact hb wh pins s1 σ H1 Q I1 q1
 |false=>exact⟨H1,I1,q1⟩
theorem qb(ha:PT X a tA)(hb:PW X (.BoolOp .Or (b::rest) pos) tB'):PW X (.BoolOp .Or (a::b::rest) pos) (tOr tA tB'):=by
 intro wh pins s σ H Q I h;refine isTrue_or (thn (ha pins s σ H _ I h) λc s1 ⟨H1,I1,q1⟩=> ?_);cases c with
 |true=>exact⟨H1,I1,q1⟩
 |false=>exact hb wh pins s1 σ H1 Q I1 q1
theorem qI(ha:PT X a tA):PT X (.UnaryOp .Not a pos) (yc tA):=by
 intro pins s σ H Q I h;exact isTrue_not (ha pins s σ H (λc H1=>Q (!c) H1) I h)
def zX(ta tb:TE):TE:=λσ H Q=>ta σ H λx H1=> ∃c,x= .bl c/\if c=true then tb σ H1 Q else Q (.bl false) H1
def yd(ta tb:TE):TE:=λσ H Q=>ta σ H λx H1=> ∃c,x= .bl c/\if c=true then Q (.bl true) H1 else tb σ H1 Q
def ye(ta:TE):TE:=λσ H Q=>ta σ H λx H1=> ∃c,x= .bl c/\Q (.bl (!c)) H1
theorem qU{op}{t:TE}(h:PE X a t):PE X (.BoolOp op [a] pos) t:=λpins s σ H Q I hw=>BoolOp_one (h pins s σ H Q I hw)
theorem xC(ha:PE X a ta)(hb:PE X (.BoolOp .And (b::rest) pos) tb):PE X (.BoolOp .And (a::b::rest) pos) (zX ta tb):=by
 intro pins s σ H Q I h;refine BoolOp_and (thn (ha pins s σ H _ I h) λv s1 ⟨x,H1,I1,r1,q1⟩=> ?_);obtain⟨c,rfl,q1⟩:=q1;cases r1;refine wpAny_truthy_bool ?_;cases c with
 |true=>exact hb pins s1 σ H1 Q I1 q1
 |false=>exact⟨.bl false,H1,I1,rfl,q1⟩
theorem vB(ha:PE X a ta)(hb:PE X (.BoolOp .Or (b::rest) pos) tb):PE X (.BoolOp .Or (a::b::rest) pos) (yd ta tb):=by
 intro pins s σ H Q I h;refine BoolOp_or (thn (ha pins s σ H _ I h) λv s1 ⟨x,H1,I1,r1,q1⟩=> ?_);obtain⟨c,rfl,q1⟩:=q1;cases r1;refine wpAny_truthy_bool ?_;cases c with
 |false=>exact hb pins s1 σ H1 Q I1 q1
 |true=>exact⟨.bl true,H1,I1,rfl,q1⟩
theorem zjg(ha:PE X a ta):PE X (.UnaryOp .Not a pos) (ye ta):=by
 intro pins s σ H Q I h;refine UnaryOp_ (thn (ha pins s σ H _ I h) λv s1 ⟨x,H1,I1,r1,q1⟩=> ?_);obtain⟨c,rfl,q1⟩:=q1;cases r1;exact not_of (wpAny_truthy_bool ⟨.bl (!c),H1,I1,rfl,q1⟩)
def tIf(t:TT)(ta tb:TE):TE:=λσ H Q=>t σ H λc H1=>if c=true then ta σ H1 Q else tb σ H1 Q
theorem zg5(hc:PT X c tA)(ha:PE X a ta)(hb:PE X b tb):PE X (.IfExp c a b pos) (tIf tA ta tb):=by
 intro pins s σ H Q I h;refine wpAny_IfExp (thn (hc pins s σ H _ I h) λd s1 ⟨H1,I1,q1⟩=> ?_);cases d with
 |true=>exact ha pins s1 σ H1 Q I1 q1
 |false=>exact hb pins s1 σ H1 Q I1 q1
end
def SqL(K:Fg)(H:Hp)(a:Addr)(xs:List V):Prop:=
 Rd H a (.lst xs)\/
  ∃(o:Obj) (its:Array Value) (n:Nat),K.lookup a=some o/\o.cls= .type "list"/\o.dict=none/\o.data= .seq its n/\its.size<=sizeLine/\zE xs its.toList
def SqT(K:Fg)(H:Hp)(a:Addr)(xs:List V):Prop:=
 Rd H a (.tup xs)\/
  ∃(o:Obj) (its:Array Value) (n:Nat),K.lookup a=some o/\o.cls= .type "tuple"/\o.data= .seq its n/\its.size<=sizeLine/\zE xs its.toList
def znn:Value->Option V
 | .none=>some .non
 | .bool b=>some (.bl b)
 | .int i _=>some (.int i)
 | .str x _=>some (.str x)
 | .bytes b _=>some (.byt b)
 | .float b _=>some (.flt b)
 | .ref a=>some (.ref a)
 | .type n=>some (.ty n)
 |_=>none
theorem zB.abs{x:V}(r:zB x u):znn u=some x:=by
 cases x with
 |non=>cases r;rfl
 |bl _=>cases r;rfl
 |int _=>obtain⟨t,rfl⟩:=r;rfl
 |str _=>obtain⟨t,rfl⟩:=r;rfl
 |byt _=>obtain⟨t,rfl⟩:=r;rfl
 |flt _=>obtain⟨t,rfl⟩:=r;rfl
 |ref _=>cases r;rfl
 |ty _=>cases r;rfl
theorem zB.inj{x y:V}{u:Value}(r:zB x u)(q:zB y u):x=y:=JQ (r.abs.symm.trans q.abs)
theorem zE.inj: ∀{xs ys:List V} {us:List Value},zE xs us->zE ys us->xs=ys
 |_,_,_, .nil, .nil=>rfl
 |_,_,_, .cons r t, .cons r' t'=>by rw[r.inj r',zE.inj t t']
section
variable {X:Cx} {pins:List (Addr×Obj)} {σ:St} {H:Hp} {s:Shared} {a:Addr} {xs ys:List V}
theorem SqL.of(h:H a=some (.lst xs)):SqL K H a xs:= .inl (.inl h)
theorem SqT.of(h:H a=some (.tup xs)):SqT K H a xs:= .inl (.inl h)
theorem Inv.list(I:Inv X pins σ H s)(h:SqL X.K H a xs): ∃its:List Value,zE xs its/\PlainL s.heap a its.toArray/\xs.length<=sizeLine:=by
 rcases h with h|⟨o,its,n,hk,hc,hd,hs,hz,r⟩
 ·obtain⟨z,its,n,r,e⟩:=h.ok I.hok;exact⟨its,r,⟨_,n,e,rfl,rfl,rfl⟩,z⟩
 ·refine⟨its.toList,r,⟨o,n,I.kIn a o hk,hc,hd,by simpa using hs⟩,?_⟩;have e:=r.length;simp only[Array.length_toList] at e;omega
theorem Inv.tuple(I:Inv X pins σ H s)(h:SqT X.K H a xs): ∃its:List Value,zE xs its/\IsTup s.heap a its.toArray/\xs.length<=sizeLine:=by
 rcases h with h|⟨o,its,n,hk,hc,hs,hz,r⟩
 ·obtain⟨z,its,r,p⟩:=h.ok I.hok;exact⟨its,r,p,z⟩
 ·refine⟨its.toList,r,⟨o,I.kIn a o hk,hc,n,by simpa using hs⟩,?_⟩;have e:=r.length;simp only[Array.length_toList] at e;omega
theorem Inv.list_inj(I:Inv X pins σ H s)(h:SqL X.K H a xs)(h':SqL X.K H a ys):xs=ys:=by
 obtain⟨its,r,⟨o,n,e,_,_,d⟩,_⟩:=I.list h;obtain⟨its',r',⟨o',n',e',_,_,d'⟩,_⟩:=I.list h';rw[e] at e';cases e';rw[d] at d';injection d' with d1 _
 have:its=its':=by simpa using congrArg Array.toList d1
 subst this;exact r.inj r'
theorem Inv.tuple_inj(I:Inv X pins σ H s)(h:SqT X.K H a xs)(h':SqT X.K H a ys):xs=ys:=by
 obtain⟨its,r,⟨o,e,_,n,d⟩,_⟩:=I.tuple h;obtain⟨its',r',⟨o',e',_,n',d'⟩,_⟩:=I.tuple h';rw[e] at e';cases e';rw[d] at d';injection d' with d1 _
 have:its=its':=by simpa using congrArg Array.toList d1
 subst this;exact r.inj r'
end
abbrev Cx.wish(X:Cx)(E:Value->Shared->Prop):Cx:={X with xe:=E}
abbrev Cx.nox(X:Cx):Cx:=X.wish λ_ _=>False
theorem Cx.Ok.wish{X:Cx}(ok:X.Ok)(E:Value->Shared->Prop):(X.wish E).Ok:=
 ⟨ok.mod,ok.kind,ok.glob,ok.blt,ok.above,ok.inj,ok.has,ok.cab,ok.hd,ok.frames,ok.stk,ok.exf,ok.bs,ok.bsz,ok.noex,ok.exfs,ok.funs,ok.frf⟩
theorem Cx.Ok.unwish(ok:(X.wish E).Ok):X.Ok:=
 ⟨ok.mod,ok.kind,ok.glob,ok.blt,ok.above,ok.inj,ok.has,ok.cab,ok.hd,ok.frames,ok.stk,ok.exf,ok.bs,ok.bsz,ok.noex,ok.exfs,ok.funs,ok.frf⟩
section
variable {X:Cx} {pins:List (Addr×Obj)} {σ:St} {H:Hp} {s:Shared} {E:Value->Shared->Prop}
theorem Inv.wish(I:Inv X pins σ H s)(E:Value->Shared->Prop):Inv (X.wish E) pins σ H s:=⟨I.ok.wish E,I.os,I.bare,I.base,I.loc,I.cell,I.free,I.freeC,I.pin,I.hok,I.len⟩
theorem Inv.unwish(I:Inv (X.wish E) pins σ H s):Inv X pins σ H s:=⟨I.ok.unwish,I.os,I.bare,I.base,I.loc,I.cell,I.free,I.freeC,I.pin,I.hok,I.len⟩
theorem SP.unwish{D:Ends}{f:Flow}{s':Shared}(h:SP (X.wish E) pins D f s'):SP X pins D f s':=by
 cases f with
 |next=>obtain⟨σ',H',I,q⟩:=h;exact⟨σ',H',I.unwish,q⟩
 |brk=>obtain⟨σ',H',I,q⟩:=h;exact⟨σ',H',I.unwish,q⟩
 |cont=>obtain⟨σ',H',I,q⟩:=h;exact⟨σ',H',I.unwish,q⟩
 |ret u=>obtain⟨v,σ',H',I,r,q⟩:=h;exact⟨v,σ',H',I.unwish,r,q⟩
theorem PE.nox{e:Expr}{t:TE}(h:PE X.nox e t):PE X e t:=λpins s σ H Q I hw=>
 wpAny_mono (h pins s σ H Q (I.wish _) hw) (λ_ _ ⟨v,H',I',r,q⟩=>⟨v,H',I'.unwish,r,q⟩) λ_ _ z=>False.elim z
theorem PT.nox{e:Expr}{t:TT}(h:PT X.nox e t):PT X e t:=λpins s σ H Q I hw=>
 wpAny_mono (h pins s σ H Q (I.wish _) hw) (λ_ _ ⟨H',I',q⟩=>⟨H',I'.unwish,q⟩) λ_ _ z=>False.elim z
theorem PSs.nox{st:List Stmt}{t:TS}(h:PSs X.nox st t):PSs X st t:=λpins s σ H D I hw=>
 wpAny_mono (h pins s σ H D (I.wish _) hw) (λ_ _ q=>q.unwish) λ_ _ z=>False.elim z
end
section
variable {X:Cx} {st:Stmt} {rest:List Stmt} {t u:TS} {e:Expr} {te:TE} {pos:Pos}
def yf:TS:=λD σ H=>D.nx σ H
def zU(t u:TS):TS:=λD σ H=>t {D with nx:=u D} σ H
theorem zF:PSs X [] yf:=λ_ _ σ H _ I h=>wpAny_execs_nil ⟨σ,H,I,h⟩
theorem zn(h1:PS X st t)(h2:PSs X rest u):PSs X (st::rest) (zU t u):=by
 intro pins s σ H D I h;refine wpAny_execs_cons (thn (h1 pins s σ H {D with nx:=u D} I h) λf s1 q=> ?_);cases f with
 |next=>
  obtain⟨σ',H',I',q⟩:=q;exact h2 pins s1 σ' H' D I' q
 |ret v=>exact q
 |brk=>exact q
 |cont=>exact q
theorem zo(h1:PS X st t):PSs X [st] t:=by
 intro pins s σ H D I h;refine wpAny_execs_cons (thn (h1 pins s σ H D I h) λf s1 q=> ?_);cases f with
 |next=>exact wpAny_execs_nil q
 |ret v=>exact q
 |brk=>exact q
 |cont=>exact q
theorem Inv.quiet(I:Inv X pins σ H s):interactive X.env=false:=by simp [interactive,I.ok.kind]
def zY(te:TE):TS:=λD σ H=>te σ H λ_ H1=>D.nx σ H1
theorem qc(he:PE X e te)(hs:swapsWith e none pos.line X.env=pure false:=by rfl):PS X (.Expr e pos) (zY te):=by
 intro pins s σ H D I h;exact wpAny_Expr_any (thn (he pins s σ H _ I h) λv s1 ⟨x,H1,I1,r1,q1⟩=>⟨σ,H1,I1,q1⟩) I.quiet hs
def zZ(te:TE):TS:=λD σ H=>te σ H D.rt
theorem zD(he:PE X e te):PS X (.Return (some e) pos) (zZ te):=by
 intro pins s σ H D I h;exact wpAny_Return_some (thn (he pins s σ H _ I h) λv s1 ⟨x,H1,I1,r1,q1⟩=>⟨x,σ,H1,I1,r1,q1⟩)
def yx:TS:=λD _ H=>D.rt .non H
def yg(c:TT)(t u:TS):TS:=λD σ H=>c σ H λb H1=>if b=true then t D σ H1 else u D σ H1
theorem zG{a b:List Stmt}{tc:TT}(hc:PT X c tc)(ha:PSs X a t)(hb:PSs X b u):PS X (.If c a b pos) (yg tc t u):=by
 intro pins s σ H D I h;refine wpAny_If (thn (hc pins s σ H _ I h) λd s1 ⟨H1,I1,q1⟩=> ?_);cases d with
 |true=>exact ha pins s1 σ H1 D I1 q1
 |false=>exact hb pins s1 σ H1 D I1 q1
end
abbrev TG:=V->St->Hp->(St->Hp->Prop)->Prop
abbrev TGs:=List V->St->Hp->(St->Hp->Prop)->Prop
def PG(X:Cx)(target:Expr)(t:TG):Prop:=
 ∀(pins:List (Addr×Obj)) (s:Shared) (σ:St) (H:Hp) (v:V) (u:Value) (Q:St->Hp->Prop),Inv X pins σ H s->zB v u->t v σ H Q->
  wpAny (model X.prog X.w) X.A (assign target X.env u) (λ_ s'=> ∃σ' H',Inv X pins σ' H' s'/\Q σ' H') X.xe s
def PGs(X:Cx)(ts:List Expr)(t:TGs):Prop:=
 ∀(pins:List (Addr×Obj)) (s:Shared) (σ:St) (H:Hp) (vs:List V) (us:List Value) (Q:St->Hp->Prop),Inv X pins σ H s->zE vs us->t vs σ H Q->
  wpAny (model X.prog X.w) X.A (assignInOrder ((assignEach ts X.env).map (·.2)) us) (λ_ s'=> ∃σ' H',Inv X pins σ' H' s'/\Q σ' H') X.xe s
abbrev jB:=V->V->V->Hp->(Hp->Prop)->Prop
def zmK(X:Cx)(t:jB):Prop:=
 ∀(pins:List (Addr×Obj)) (s:Shared) (σ:St) (H:Hp) (o i v:V) (ov iv u:Value) (Q:Hp->Prop),Inv X pins σ H s->zB o ov->zB i iv->zB v u->t o i v H Q->
  wpAny (model X.prog X.w) X.A (setItem ov iv u) (λ_ s'=> ∃H',Inv X pins σ H' s'/\Q H') X.xe s
abbrev TIp:=V->V->Hp->VK->Prop
def PIp(X:Cx)(op:Operator)(t:TIp):Prop:=
 ∀(pins:List (Addr×Obj)) (s:Shared) (σ:St) (H:Hp) (x y:V) (v u:Value) (Q:VK),Inv X pins σ H s->zB x v->zB y u->t x y H Q->
  wpAny (model X.prog X.w) X.A (inplaceOp op v u) (EP X pins σ Q) X.xe s
section
variable {X:Cx} {pos:Pos}
def zL(i:Nat):TG:=λv σ H Q=>Q (σ.set i (some v)) H
theorem yO(hN:X.N.Nodup)(hi:X.N[i]? =some x)(hx:Loc X.env.scope x)(hf:X.fn x=true\/X.env.scope.names.lookup x=some .local:=by first|exact .inl rfl|exact .inr rfl|assumption):PG X (.Name x pos) (zL i):=by
 intro pins s σ H v u Q I r h;exact wpAny_assign_Name (vz I hN hi hx r (λs' I'=>⟨_,H,I',h⟩) hf)
def zV:TGs:=λvs σ H Q=>vs= []/\Q σ H
def zR(t:TG)(u:TGs):TGs:=λvs σ H Q=> ∃v r,vs=v::r/\t v σ H λσ' H'=>u r σ' H' Q
theorem xI:PGs X [] zV:=by
 intro pins s σ H vs us Q I r h;obtain⟨e,h⟩:=h;subst e;cases r;exact assignInOrder_nil ⟨σ,H,I,h⟩
theorem qf{es:List Expr}{t:TG}{u:TGs}(h1:PG X e t)(h2:PGs X es u)
  (hs:(assignEach (e::es) X.env).map (·.2)=assign e X.env::(assignEach es X.env).map (·.2):=by rfl):PGs X (e::es) (zR t u):=by
 intro pins s σ H vs us Q I r h;obtain⟨v,vr,e1,h⟩:=h;subst e1;cases r with
 |cons r rr=>
  rw[hs];refine assignInOrder_cons (thn (h1 pins s σ H _ _ _ I r h) λ_ s1 ⟨σ1,H1,I1,q1⟩=> ?_);exact h2 pins s1 σ1 H1 _ _ Q I1 rr q1
def jC(K:Fg)(n:Nat)(t:TGs):TG:=λv σ H Q=> ∃a xs,v= .ref a/\SqT K H a xs/\xs.length=n/\t xs σ H Q
theorem xJ{es:List Expr}{k:Nat}{t:TGs}{n:Nat}(hc:X.calm=true)(h:PGs X es t)
  (hn:(assignEach es X.env).length=n:=by rfl) (hst:(assignEach es X.env).findIdx? (·.1)=none:=by rfl):PG X (.Tuple es k pos) (jC X.K n t):=by
 intro pins s σ H v u Q I r hw;obtain⟨a,xs,e1,hq,hl,hw⟩:=hw;subst e1;cases r;obtain⟨its,rv,ht,hz⟩:=I.tuple hq;refine assign_Tuple_tuple (I.ok.hd hc) ht (by simp [hn,<-hl,rv.length]) hst λh' hx=> ?_;have I1:Inv X pins σ H {s with heap:=h'}:=I.kept (t':=s.toks) λb o e=>hx b o (JH (JU e)) e;exact h pins _ σ H xs _ Q I1 (by simpa using rv) hw
def xU(to ti:TE)(t:jB):TG:=λv σ H Q=>to σ H λo H1=>ti σ H1 λi H2=>t o i v H2 λH3=>Q σ H3
theorem w8{o i:Expr}{to ti:TE}{t:jB}(ho:PE X o to)(hi:PE X i ti)(hs:zmK X t)
  (ha: ∀v,assign (.Subscript o i pos) X.env v=(do
   let ov<-holding [v] (eval o X.env)
   let iv<-holding [v,ov] (eval i X.env)
   standAt pos
   holding [v,ov,iv] (setItem ov iv v)
   release [v,ov,iv] []):=by intro _;rfl):PG X (.Subscript o i pos) (xU to ti t):=by
 intro pins s σ H v u Q I r h;rw[ha];refine JR (wpAny_holding (thn (ho pins s σ H _ I h) λov s1 ⟨x,H1,I1,r1,q1⟩=> ?_));refine JR (wpAny_holding (thn (hi pins s1 σ H1 _ I1 q1) λiv s2 ⟨y,H2,I2,r2,q2⟩=> ?_));refine JR (wpAny_standAt (JR (wpAny_holding (thn (hs pins s2 σ H2 x y v ov iv u _ I2 r1 r2 r q2) λ_ s3 ⟨H3,I3,q3⟩=> ?_))));exact wpAny_release ⟨σ,H3,I3,q3⟩
def zS(te:TE)(g:TG):TS:=λD σ H=>te σ H λx H1=>g x σ H1 D.nx
theorem qV(he:PE X e te)(hg:PG X tg g)(hs:swapsWithSole [tg] e pos.line X.env=pure false:=by rfl)(hw:swappedStores [tg] e X.env=pure none:=by rfl)
  (h1:(assignEach [tg] X.env).map (·.2)= [assign tg X.env]:=by rfl):PS X (.Assign [tg] e pos) (zS te g):=by
 intro pins s σ H D I h;refine wpAny_Assign_stores (thn (he pins s σ H _ I h) λv s1 ⟨x,H1,I1,r1,q1⟩=> ?_) hs hw;rw[h1];exact thn (hg pins s1 σ H1 x v _ I1 r1 q1) λ_ s2 q=>q
theorem zI{pos':Pos}(hN:X.N.Nodup)(hi:X.N[i]? =some x)(hx:Loc X.env.scope x)(he:PE X e te)(hs:swapsWith e (some (.Name x pos')) pos.line X.env=pure false:=by rfl)(hf:X.fn x=true\/X.env.scope.names.lookup x=some .local:=by first|exact .inl rfl|exact .inr rfl|assumption):
  PS X (.Assign [.Name x pos'] e pos) (zS te (zL i)):=by
 intro pins s σ H D I h;refine wpAny_Assign_Name (thn (he pins s σ H _ I h) λv s1 ⟨y,H1,I1,r1,q1⟩=> ?_) hs;exact vz I1 hN hi hx r1 (λs2 I2=>⟨_,H1,I2,q1⟩) hf
def yh(i:Nat)(te:TE)(ti:TIp):TS:=λD σ H=> ∃x,σ[i]? =some (some x)/\te σ H λy H1=>ti x y H1 λz H2=>D.nx (σ.set i (some z)) H2
theorem uH{op:Operator}{ti:TIp}{pos':Pos}(hN:X.N.Nodup)(hi:X.N[i]? =some x)(hx:Loc X.env.scope x)(he:PE X e te)(ho:PIp X op ti)(hf:X.fn x=true\/X.env.scope.names.lookup x=some .local:=by first|exact .inl rfl|exact .inr rfl|assumption):
  PS X (.AugAssign (.Name x pos') op e pos) (yh i te ti):=by
 intro pins s σ H D I h;obtain⟨v,e1,h⟩:=h;obtain⟨m,hn,hl⟩:=I.loc;have vis:Vis X.env.scope x:=by rcases hx with k|k;exact .inl k;exact .inr (.inl k)
 obtain⟨u,r,l⟩:=hl i x v hi e1 vis;refine wpAny_AugAssign_Name ?_;have go:wpAny (model X.prog X.w) X.A (eval e X.env) (λw s₂=>wpAny (model X.prog X.w) X.A (inplaceOp op u w) (λr s₃=>wpAny (model X.prog X.w) X.A (storeName X.env x r) (λ_=>SP X pins D .next) X.xe s₃) X.xe s₂) X.xe s:=by
  refine thn (he pins s σ H _ I h) λw s1 ⟨y,H1,I1,r1,q1⟩=> ?_;refine thn (ho pins s1 σ H1 v y u w _ I1 r r1 q1) λz s2 ⟨zv,H2,I2,r2,q2⟩=> ?_;exact vz I2 hN hi hx r2 (λs3 I3=>⟨_,H2,I3,q2⟩) hf
 rcases l with⟨hk,hm⟩|⟨hk,c,hc,hcell⟩
 ·exact wpAny_loadName_local I.ok.kind hk hn hm go
 ·rcases hk with hk|hk
  ·exact wpAny_loadName_cell I.ok.kind hk hc hcell go
  ·rcases hx with k|k
   ·have:X.env.scope.names.lookup x=some .free:=hk;rw[k] at this;cases this
   ·have:X.env.scope.names.lookup x=some .free:=hk;rw[k] at this;cases this
def ipI(f:Int->Int->Int):TIp:=λx y H Q=> ∃i j,x= .int i/\y= .int j/\Q (.int (f i j)) H
theorem zjh:PIp X .Add (ipI λi j=>i+j):=by
 intro pins s σ H x y v u Q I r1 r2 h;obtain⟨i,j,e1,e2,q⟩:=h;subst e1;subst e2;obtain⟨t,rfl⟩:=r1;obtain⟨t',rfl⟩:=r2;exact iadd_int ⟨.int _,H,I.tok _,⟨_,rfl⟩,q⟩
theorem zji:PIp X .Sub (ipI λi j=>i - j):=by
 intro pins s σ H x y v u Q I r1 r2 h;obtain⟨i,j,e1,e2,q⟩:=h;subst e1;subst e2;obtain⟨t,rfl⟩:=r1;obtain⟨t',rfl⟩:=r2;exact isub_int ⟨.int _,H,I.tok _,⟨_,rfl⟩,q⟩
end
section
variable {X:Cx} {pos:Pos}
def zlP(c:TT)(tb:TS):TS:=λD σ H=> ∃W:Nat->St->Hp->Prop,(∃m,W m σ H)/\ ∀m σ H,W m σ H->
 c σ H λb H1=>if b=true then∃N:St->Hp->Prop,(∀σ' H',N σ' H'-> ∃m',m'<m/\W m' σ' H')/\tb {D with nx:=N,ct:=N,bk:=D.nx} σ H1 else D.nx σ H1
theorem zjj{tc:TT}(hp:PassesOwn (model X.prog X.w) X.A X.env X.xe)(hc:PT X c tc)(hb:PSs X body tb):PS X (.While c body [] pos) (zlP tc tb):=by
 intro pins s σ H D I h;obtain⟨W,⟨m0,w0⟩,turn⟩:=h;refine wpAny_While (codeAny_whileLoop (λn s'=> ∃σ' H',Inv X pins σ' H' s'/\W n σ' H') ?_ m0 ⟨σ,H,I,w0⟩);rintro n s1 ⟨σ1,H1,I1,w1⟩;refine wpAny_passesOwn hp (thn (hc pins s1 σ1 H1 _ I1 (turn n σ1 H1 w1)) λb s2 ⟨H2,I2,q2⟩=> ?_);cases b with
 |true=>
  obtain⟨N,hN,q2⟩:=q2;rw[Jg rfl];refine wpAny_passesOwn hp (thn (hb pins s2 σ1 H2 _ I2 q2) λf s3 q3=> ?_);cases f with
  |next=>
   obtain⟨σ3,H3,I3,n3⟩:=q3;obtain⟨m',hm,w3⟩:=hN σ3 H3 n3;exact⟨m',hm,σ3,H3,I3,w3⟩
  |cont=>
   obtain⟨σ3,H3,I3,n3⟩:=q3;obtain⟨m',hm,w3⟩:=hN σ3 H3 n3;exact⟨m',hm,σ3,H3,I3,w3⟩
  |brk=>exact q3
  |ret v=>exact q3
 |false=>
  rw[Jf Ju];exact wpAny_execs_nil ⟨σ1,H2,I2,q2⟩
end
structure It where
 go:Nat->Hp->Prop
 yld:Nat->Hp->V->Hp->Prop
 stop:Nat->Hp->Prop
def qS(X:Cx)(pins:List (Addr×Obj))(H:Hp)(b:Addr):Prop:=
 H b=none/\b≠X.env.locals/\b∉X.fs/\(b∈X.ex\/X.s₀.heap.objs.size<=b)/\(∀x c,X.env.cells.lookup x=some c->c≠b)/\ ∀p∈X.pn++pins,p.1≠b
theorem Inv.fpOk{H':Hp}(I:Inv X pins σ H s)(hb:s.heap.objs.size<=b)(hn:H' b=none):qS X pins H' b:=by
 refine⟨hn,Nat.ne_of_gt (Jx I.lt hb),I.nofs hb, .inr (JD I.sz hb),λx c e z=> ?_,λp hp z=> ?_⟩
 ·obtain⟨v,q⟩:=I.cell x c e;exact absurd (Jx q.lt (by rw[z];exact hb)) (Nat.lt_irrefl _)
 ·exact absurd (Jx (JU (I.pin p hp).1) (by rw[z];exact hb)) (Nat.lt_irrefl _)
structure Turn (P:Program) (w:World) (K:Fg) (tg:Expr) (J:It) (fp:List Addr) (it:Addr) (tn:Nat->Heap->Prop):Prop where
 mem:it∈fp
 obj: ∀i h,tn i h-> ∀b∈fp,∃o,h.get? b=some o/\ ∀v,o.data≠ .cell v
 keep: ∀i h h',tn i h->(∀b∈fp,∀o,h.get? b=some o->h'.get? b=some o)->tn i h'
 item: ∀(X:Cx),X.prog=P->X.w=w->X.K=K->X.calm=true-> ∀(i:Nat) (pins:List (Addr×Obj)) (s:Shared) (σ:St) (H:Hp) (E:Value->Shared->Prop),Inv X pins σ H s->(∀b∈fp,qS X pins H b)->tn i s.heap->J.go i H->
  wpAny (model P w) X.A (pyNext (.ref it)) (λr s1=> ∃u,r=some u/\
   wpAny (model P w) X.A (letOwnedTupleGo tg (.ref it) u) (λ_ s2=> ∃x H',Inv X pins σ H' s2/\zB x u/\J.yld i H x H'/\tn (i+1) s2.heap/\ ∀b∈fp,H' b=none) E s1) E s
 done: ∀(X:Cx),X.prog=P->X.w=w->X.K=K->X.calm=true-> ∀(i:Nat) (pins:List (Addr×Obj)) (s:Shared) (σ:St) (H:Hp) (E:Value->Shared->Prop),Inv X pins σ H s->(∀b∈fp,qS X pins H b)->tn i s.heap->J.stop i H->
  wpAny (model P w) X.A (pyNext (.ref it)) (λr s1=>r=none/\Inv X pins σ H s1) E s
 self: ∀(A:Around) (i:Nat) (s:Shared) (Q:Value->Shared->Prop) (E:Value->Shared->Prop),tn i s.heap->Q (.ref it) s->wpAny (model P w) A (pyIter (.ref it)) Q E s
abbrev TI:=St->Hp->(It->Hp->Prop)->Prop
def PIE(X:Cx)(pins:List (Addr×Obj))(σ:St)(tg:Expr)(R:It->Hp->Prop)(itv:Value)(s2:Shared):Prop:=
 ∃(it:Addr) (fp:List Addr) (tn:Nat->Heap->Prop) (J:It) (H':Hp),itv= .ref it/\Inv X pins σ H' s2/\Turn X.prog X.w X.K tg J fp it tn/\tn 0 s2.heap/\(∀b∈fp,qS X pins H' b)/\R J H'
def PI(X:Cx)(tg iter:Expr)(wi:TI):Prop:=
 ∀(pins:List (Addr×Obj)) (s:Shared) (σ:St) (H:Hp) (R:It->Hp->Prop),Inv X pins σ H s->wi σ H R->
  wpAny (model X.prog X.w) X.A (eval iter X.env) (λv s1=>wpAny (model X.prog X.w) X.A (pyIter v) (PIE X pins σ tg R) X.xe s1) X.xe s
theorem jD{M:Model}{A:Around}{E:Value->Shared->Prop}{tg:Expr}{it:Addr}{u:Value}{o:Obj}{n:String}{vs:Array Value}{Q:Unit->Shared->Prop}(ho:s.heap.get? it=some o)(hc:o.cls= .type n)(hd:o.data= .fields vs)
  (hn: ["enumerate","zip","dict_itemiterator","dict_reverseitemiterator","odict_iterator","itertools.zip_longest","itertools.pairwise"].contains n=false) (hQ:Q () s):wpAny M A (letOwnedTupleGo tg (.ref it) u) Q E s:=by
 unfold letOwnedTupleGo;cases tg<;>first
  |exact JS hQ
  |(cases u<;>first
    |exact JS hQ
    |(refine JR (wpAny_load ho ?_)
      rw[hc,hd];show wpAny M A (if (["enumerate","zip","dict_itemiterator","dict_reverseitemiterator","odict_iterator","itertools.zip_longest","itertools.pairwise"].contains n && vs[0]? ==some (rawInt _))=true then _ else _) Q E s;rw[Jf (by intro h;rw[hn,Bool.false_and] at h;cases h)];exact JS hQ))
def Itl(K:Fg)(a:Addr):It:=
 ⟨λi H=> ∃xs x,SqL K H a xs/\xs[i]? =some x,λi H x H'=>H'=H/\ ∀xs,SqL K H a xs->xs[i]? =some x,λi H=> ∃xs,SqL K H a xs/\xs.length<=i⟩
def Itt(K:Fg)(a:Addr):It:=
 ⟨λi H=> ∃xs x,SqT K H a xs/\xs[i]? =some x,λi H x H'=>H'=H/\ ∀xs,SqT K H a xs->xs[i]? =some x,λi H=> ∃xs,SqT K H a xs/\xs.length<=i⟩
def Itr(lo:Int)(n:Nat):It:=⟨λi _=>i<n,λi H x H'=>H'=H/\x= .int (lo+i),λi _=>n<=i⟩
theorem ziy(a it:Addr):Turn P w K tg (Itl K a) [it] it (λi h=>h.IsListIter it a i) where
 mem:=by simp
 obj:=λi h st b hb=>by
  have e:b=it:=by simpa using hb
  subst e;obtain⟨o,e,c,d⟩:=st;exact⟨o,e,λv z=>by rw[d] at z;cases z⟩
 keep:=λi h h' st k=>st.at λo e=>k it (by simp) o e
 item:=by
  intro X hP hw hK hc i pins s σ H E I hf st hg;subst hP hw hK;obtain⟨xs,x,hq,hx⟩:=hg;obtain⟨its,rv,p,hz⟩:=I.list hq;obtain⟨u,hu,ru⟩:=rv.get hx;obtain⟨f0,f1,f2,f3,f4,f5⟩:=hf it (by simp);refine wpAny_pyNext_list_item st p.isList (x:=u) (by simpa using hu) λh' st' sb=> ?_;have I1:Inv X pins σ H {s with heap:=h'}:=I.turned (t':=s.toks) (λb o hb e=>(sb.2 b hb).trans e) f0 f1 f3 f4 f5;obtain⟨o,e,c,d⟩:=id st';exact⟨u,rfl,jD (s:={s with heap:=h'}) e c d 'd' ⟨x,H,I1,ru,⟨rfl,λys hy=>by rw[I.list_inj hy hq];exact hx⟩,st',λb hb=>(hf b hb).1⟩⟩
 done:=by
  intro X hP hw hK hc i pins s σ H E I hf st hg;subst hP hw hK;obtain⟨xs,hq,hx⟩:=hg;obtain⟨its,rv,p,hz⟩:=I.list hq;obtain⟨f0,f1,f2,f3,f4,f5⟩:=hf it (by simp);have hl:=rv.length;exact wpAny_pyNext_list_end (I.ok.hd hc) st p.isList (by simp;omega) λh' eb=>⟨rfl,I.turned (t':=s.toks) (λb o hb e=>eb b o hb e) f0 f1 f3 f4 f5⟩
 self:=λ_ _ _ _ _ st h=>wpAny_pyIter_listiter st h
theorem zhw(it:Addr)(lo:Int)(n:Nat):Turn P w K tg (Itr lo n) [it] it (λi h=>IsRangeIter h it (lo+(i:Nat)*1) ((n:Int) - (i:Nat)) 1) where
 mem:=by simp
 obj:=λi h st b hb=>by
  have e:b=it:=by simpa using hb
  subst e;exact⟨_,st,λv z=>by
   have z':Data.fields _=Data.cell v:=z;cases z'⟩
 keep:=λi h h' st k=>k it (by simp) _ st
 item:=by
  intro X hP hw hK hc i pins s σ H E I hf st hg;subst hP hw hK;obtain⟨f0,f1,f2,f3,f4,f5⟩:=hf it (by simp);have W:=Walks.range (prog:=X.prog) (w:=X.w) (I.ok.hd hc) it lo 1 n;refine W.item i s _ _ hg st λv h' tk hv st' kk=> ?_;obtain⟨t,rfl⟩:=hv;have I1:Inv X pins σ H {s with heap:=h',toks:=tk}:=I.turned (λb o hb e=>kk b o (by simpa using hb) e) f0 f1 f3 f4 f5;refine⟨_,rfl,jD (s:={s with heap:=h',toks:=tk}) (n:="range_iterator") st' rfl rfl 'd' ⟨.int (lo+i),H,I1,⟨t,?_⟩,⟨rfl,rfl⟩,st',λb hb=>(hf b hb).1⟩⟩;rw[Int.mul_one]
 done:=by
  intro X hP hw hK hc i pins s σ H E I hf st hg;subst hP hw hK;obtain⟨f0,f1,f2,f3,f4,f5⟩:=hf it (by simp);exact wpAny_pyNext_range_end (I.ok.hd hc) st (by have:n<=i:=hg;omega) λh' eb=>⟨rfl,I.turned (t':=s.toks) (λb o hb e=>eb b o hb e) f0 f1 f3 f4 f5⟩
 self:=λ_ _ _ _ _ st h=>wpAny_pyIter_rangeiter st h
section
variable {X:Cx} {tg:Expr}
def qW(K:Fg)(tl:TE):TI:=λσ H R=>tl σ H λx H1=> ∃a,x= .ref a/\(∃xs,SqL K H1 a xs)/\R (Itl K a) H1
def vC(K:Fg)(tl:TE):TI:=λσ H R=>tl σ H λx H1=> ∃a,x= .ref a/\(∃xs,SqT K H1 a xs)/\R (Itt K a) H1
theorem qX{l:Expr}{tl:TE}(hl:PE X l tl):PI X tg l (qW X.K tl):=by
 intro pins s σ H R I h;refine thn (hl pins s σ H _ I h) λv s1 ⟨x,H1,I1,r1,q1⟩=> ?_;obtain⟨a,e,⟨xs,hq⟩,q⟩:=q1;subst e;cases r1;obtain⟨its,rv,p,hz⟩:=I1.list hq;refine wpAny_pyIter_list p.isList ?_;refine⟨s1.heap.objs.size, [s1.heap.objs.size],_,_,H1,rfl,I1.kept (t':=s1.toks) λb o e=>JT _ e,ziy a _,⟨_,JV _ rfl,rfl,rfl⟩,λb hb=> ?_,q⟩;have e:b=s1.heap.objs.size:=by simpa using hb
 subst e;exact I1.fpOk (Je _) (I1.hok.fresh (Je _))
theorem zg6{R:It->Hp->Prop}{E:Value->Shared->Prop}{lo hi:Int}{t u v:Tok}{tk:Nat}(I:Inv X pins σ H s)(h1: -(2 ^ 62)<=lo)(h2:lo<2 ^ 62)(h3: -(2 ^ 62)<=hi)(h4:hi<2 ^ 62)
  (q:R (Itr lo (hi - lo).toNat) H):wpAny (model X.prog X.w) X.A (pyIter (.ref s.heap.objs.size)) (PIE X pins σ tg R) E {s with heap:=s.heap.push {cls:= .type "range",data:= .fields #[.int lo t, .int hi u, .int 1 v]},toks:=tk}:=by
 refine wpAny_pyIter_range (IsRange.new ..) (small_one h1 h2 h3 h4) ?_;have I1:Inv X pins σ H {s with heap:=s.heap.push {cls:= .type "range",data:= .fields #[.int lo t, .int hi u, .int 1 v]},toks:=tk}:=I.kept λb o e=>JT _ e;refine⟨(s.heap.push {cls:= .type "range",data:= .fields #[.int lo t, .int hi u, .int 1 v]}).objs.size, [(s.heap.push {cls:= .type "range",data:= .fields #[.int lo t, .int hi u, .int 1 v]}).objs.size],_,_,H,rfl,
  I1.kept (t':=tk) λb o e=>JT _ e,zhw _ lo (hi - lo).toNat,?_,λb hb=> ?_,q⟩
 ·have e1:lo+((0:Nat):Int)*1=lo:=by simp
  have e2:(((hi - lo).toNat:Nat):Int) - ((0:Nat):Int)=Builtin.Range.rangeSize lo hi 1:=by rw[rangeSize_one];split<;>omega
  show IsRangeIter _ _ (lo+((0:Nat):Int)*1) ((((hi - lo).toNat:Nat):Int) - ((0:Nat):Int)) 1;rw[e1,e2];exact JV _ rfl
 ·have e:b=(s.heap.push {cls:= .type "range",data:= .fields #[.int lo t, .int hi u, .int 1 v]}).objs.size:=by simpa using hb
  subst e;exact I1.fpOk (Je _) (I1.hok.fresh (Je _))
def wv(ta:TA):TI:=λσ H R=>ta σ H λvs H1=> ∃j:Int,vs= [.int j]/\ -(2 ^ 62)<=j/\j<2 ^ 62/\R (Itr 0 j.toNat) H1
def w9(ta:TA):TI:=λσ H R=>ta σ H λvs H1=> ∃i j:Int,vs= [.int i, .int j]/\(-(2 ^ 62)<=i/\i<2 ^ 62/\ -(2 ^ 62)<=j/\j<2 ^ 62)/\R (Itr i (j - i).toNat) H1
theorem jE{a:Expr}{ta:TA}{p pos:Pos}(hg:Gl X "range")(hm:X.mg "range"=none)(ha:PA X [a] ta)(hs:starEach [a] X.env= [(false,eval a X.env)]:=by rfl):PI X tg (.Call (.Name "range" p) [a] [] pos) (wv ta):=by
 intro pins s σ H R I h;refine Call_ (w6 I hg hm boot_range (PyProof.Rows.callWith_type1 (thn (ha pos pins s σ H _ I h) λus s1 ⟨vs,H1,I1,r1,q1⟩=> ?_) hs rfl));obtain⟨j,e,q1,q2,q⟩:=q1;subst e;cases r1 with
 |cons r rr=>
  cases rr;obtain⟨t,rfl⟩:=r;exact call_range_1 (zg6 I1 'o' 'o' q1 q2 (by simpa using q))
theorem ziA{a b:Expr}{ta:TA}{p pos:Pos}(hg:Gl X "range")(hm:X.mg "range"=none)(ha:PA X [a,b] ta)(hs:starEach [a,b] X.env= [(false,eval a X.env),(false,eval b X.env)]:=by rfl)(hs2:starEach [b] X.env= [(false,eval b X.env)]:=by rfl):
  PI X tg (.Call (.Name "range" p) [a,b] [] pos) (w9 ta):=by
 intro pins s σ H R I h;refine Call_ (w6 I hg hm boot_range (PyProof.Rows.callWith_type1 (thn (ha pos pins s σ H _ I h) λus s1 ⟨vs,H1,I1,r1,q1⟩=> ?_) (by rw[hs,hs2]) (by rw[hs2];rfl)));obtain⟨i,j,e,⟨q1,q2,q3,q4⟩,q⟩:=q1;subst e;cases r1 with
 |cons r rr=>
  cases rr with
  |cons r' rr=>
   cases rr;obtain⟨t,rfl⟩:=r;obtain⟨t',rfl⟩:=r';exact call_range_2 (zg6 I1 q1 q2 q3 q4 q)
def jF(wi:TI)(g:TG)(tb:TS):TS:=λD σ H=>wi σ H λJ H1=> ∃W:Nat->Nat->St->Hp->Prop,(∃m,W 0 m σ H1)/\ ∀i m σ H,W i m σ H->
 (J.stop i H/\D.nx σ H)\/(J.go i H/\ ∃N:St->Hp->Prop,(∀σ' H',N σ' H'-> ∃m',m'<m/\W (i+1) m' σ' H')/\ ∀x H',J.yld i H x H'->g x σ H' λσ2 H2=>tb {D with nx:=N,ct:=N,bk:=D.nx} σ2 H2)
def ww(fp:List Addr)(h:Heap):List (Addr×Obj):=fp.filterMap λb=>(h.get? b).map λo=>(b,o)
theorem wH{o:Obj}(hb:b∈fp)(e:h.get? b=some o):(b,o)∈ww fp h:=List.mem_filterMap.mpr ⟨b,hb,by rw[e];rfl⟩
theorem ziB{p:Addr×Obj}(hp:p∈ww fp h):p.1∈fp/\h.get? p.1=some p.2:=by
 obtain⟨b,hb,e⟩:=List.mem_filterMap.mp hp;cases q:h.get? b with
 |none=>rw[q] at e;cases e
 |some o=>
  rw[q] at e;have e':(b,o)=p:=JQ e;subst e';exact⟨hb,q⟩
theorem Inv.pinned(I:Inv X pins σ H s)(hf: ∀b∈fp,qS X pins H b)(ho: ∀b∈fp,∃o,s.heap.get? b=some o/\ ∀v,o.data≠ .cell v):Inv X (pins++ww fp s.heap) σ H s:=
 I.pins_of λp hp=>(Jr.mp hp).elim (λz=>I.pin p (List.mem_append_right _ z)) λz=>by
  obtain⟨hb,e⟩:=ziB z;obtain⟨f0,f1,f2,_⟩:=hf p.1 hb;obtain⟨o,e',d⟩:=ho p.1 hb;rw[e] at e';cases e';exact⟨e,f0,f1,f2,d⟩
theorem Inv.unpinned{pl:List (Addr×Obj)}(I:Inv X (pins++pl) σ H s):Inv X pins σ H s:=I.pins_of λp hp=>I.pin p (List.mem_append_right _ (List.mem_append_left _ hp))
theorem xx{iter:Expr}{wi:TI}{pos:Pos}(hp:PassesOwn (model X.prog X.w) X.A X.env X.xe)(hc:X.calm=true)(hi:PI X tg iter wi)(hg:PG X tg g)(hb:PSs X body tb)
  (hs: ∀x,foldedSetIterable iter X.env x=pure x:=by intro _;rfl):PS X (.For tg iter body [] pos) (jF wi g tb):=by
 intro pins s σ H D I h;refine wpAny_For (thn (hi pins s σ H _ I h) λv s1 h1=>thn h1 λitv s2 h2=> ?_) hs;obtain⟨it,fp,tn,J,H2,e,I2,T,st2,f2,W,⟨m0,w0⟩,turn⟩:=h2;subst e;have stat: ∀{H':Hp},(∀b∈fp,H' b=none)-> ∀b∈fp,qS X pins H' b:=λhn b hb=>⟨hn b hb,(f2 b hb).2⟩
 refine codeAny_forLoop_any (λn s'=> ∃i σ' H',Inv X pins σ' H' s'/\tn i s'.heap/\(∀b∈fp,H' b=none)/\W i n σ' H') ?_ m0 ⟨0,σ,H2,I2,st2,λb hb=>(f2 b hb).1,w0⟩;rintro n s3 ⟨i,σ3,H3,I3,st3,fr3,w3⟩;rcases turn i n σ3 H3 w3 with⟨stop,qn⟩|⟨go,N,hN,step⟩
 ·refine wpAny_passesOwn hp (thn (T.done X rfl rfl rfl hc i pins s3 σ3 H3 X.xe I3 (stat fr3) st3 stop) λr s4 ⟨hr,I4⟩=> ?_);subst hr;exact wpAny_execs_nil ⟨σ3,H3,I4,qn⟩
 ·refine wpAny_passesOwn hp (thn (T.item X rfl rfl rfl hc i pins s3 σ3 H3 X.xe I3 (stat fr3) st3 go) λr s4 ⟨u,hr,h4⟩=> ?_);subst hr;refine wpAny_passesOwn hp (thn h4 λ_ s5 ⟨x,H5,I5,r5,y5,st5,fr5⟩=> ?_);have I5':=I5.pinned (stat fr5) (T.obj _ _ st5);refine wpAny_passesOwn hp (thn (hg _ s5 σ3 H5 x u _ I5' r5 (step x H5 y5)) λ_ s6 ⟨σ6,H6,I6,q6⟩=> ?_);refine wpAny_passesOwn hp (thn (hb _ s6 σ6 H6 _ I6 q6) λf s7 q7=> ?_);have again: ∀{σ7:St} {H7:Hp},Inv X (pins++ww fp s5.heap) σ7 H7 s7->N σ7 H7-> ∃m,m<n/\ ∃i σ' H',Inv X pins σ' H' s7/\tn i s7.heap/\(∀b∈fp,H' b=none)/\W i m σ' H':=fun {σ7 H7} I7 n7=>by
   obtain⟨m',hm,w7⟩:=hN σ7 H7 n7;refine⟨m',hm,i+1,σ7,H7,I7.unpinned,T.keep _ _ _ st5 λb hb o e=>(I7.pin (b,o) (List.mem_append_right _ (List.mem_append_right _ (wH hb e)))).1,λb hb=> ?_,w7⟩;obtain⟨o,e,d⟩:=T.obj _ _ st5 b hb;exact(I7.pin (b,o) (List.mem_append_right _ (List.mem_append_right _ (wH hb e)))).2.1
  cases f with
  |next=>obtain⟨σ7,H7,I7,n7⟩:=q7;exact again I7 n7
  |cont=>obtain⟨σ7,H7,I7,n7⟩:=q7;exact again I7 n7
  |brk=>obtain⟨σ7,H7,I7,q7⟩:=q7;exact⟨σ7,H7,I7.unpinned,q7⟩
  |ret v=>obtain⟨x7,σ7,H7,I7,r7,q7⟩:=q7;exact⟨x7,σ7,H7,I7.unpinned,r7,q7⟩
end
theorem uI{xs:List V}{g:TG}{tb:TS}{D:Ends}(Pv:Nat->St->Hp->Prop)(h0:Pv 0 σ H)(hl: ∀i σ H,i<=xs.length->Pv i σ H->SqL K H a xs)
  (hs: ∀i x σ H,xs[i]? =some x->Pv i σ H->g x σ H λσ2 H2=>tb {D with nx:=Pv (i+1),ct:=Pv (i+1),bk:=D.nx} σ2 H2) (hd: ∀σ H,Pv xs.length σ H->D.nx σ H):
  ∃W:Nat->Nat->St->Hp->Prop,(∃m,W 0 m σ H)/\ ∀i m σ H,W i m σ H->
   ((Itl K a).stop i H/\D.nx σ H)\/((Itl K a).go i H/\ ∃N:St->Hp->Prop,(∀σ' H',N σ' H'-> ∃m',m'<m/\W (i+1) m' σ' H')/\ ∀x H',(Itl K a).yld i H x H'->g x σ H' λσ2 H2=>tb {D with nx:=N,ct:=N,bk:=D.nx} σ2 H2):=by
 refine⟨λi m σ H=>m=xs.length - i/\i<=xs.length/\Pv i σ H,⟨xs.length,by simp,Jv _,h0⟩,?_⟩;rintro i m σ H ⟨rfl,hi,p⟩;have q:=hl i σ H hi p;by_cases hlt:i<xs.length
 ·refine .inr ⟨⟨xs,xs[i],q,by simp [hlt]⟩,Pv (i+1),λσ' H' p'=>⟨xs.length - (i+1),'o',rfl,hlt,p'⟩,λx H' y=> ?_⟩;obtain⟨e,y⟩:=y;subst e;exact hs i x σ _ (y xs q) p
 ·have e:i=xs.length:=by omega
  subst e;exact .inl ⟨⟨xs,q,Je _⟩,hd σ H p⟩
theorem uJ{lo:Int}{n:Nat}{g:TG}{tb:TS}{D:Ends}(Pv:Nat->St->Hp->Prop)(h0:Pv 0 σ H)
  (hs: ∀i σ H,i<n->Pv i σ H->g (.int (lo+i)) σ H λσ2 H2=>tb {D with nx:=Pv (i+1),ct:=Pv (i+1),bk:=D.nx} σ2 H2) (hd: ∀σ H,Pv n σ H->D.nx σ H):
  ∃W:Nat->Nat->St->Hp->Prop,(∃m,W 0 m σ H)/\ ∀i m σ H,W i m σ H->
   ((Itr lo n).stop i H/\D.nx σ H)\/((Itr lo n).go i H/\ ∃N:St->Hp->Prop,(∀σ' H',N σ' H'-> ∃m',m'<m/\W (i+1) m' σ' H')/\ ∀x H',(Itr lo n).yld i H x H'->g x σ H' λσ2 H2=>tb {D with nx:=N,ct:=N,bk:=D.nx} σ2 H2):=by
 refine⟨λi m σ H=>m=n - i/\i<=n/\Pv i σ H,⟨n,by simp,Jv _,h0⟩,?_⟩;rintro i m σ H ⟨rfl,hi,p⟩;by_cases hlt:i<n
 ·refine .inr ⟨hlt,Pv (i+1),λσ' H' p'=>⟨n - (i+1),'o',rfl,hlt,p'⟩,λx H' y=> ?_⟩;obtain⟨e,y⟩:=y;subst e y;exact hs i σ _ hlt p
 ·have e:i=n:=by omega
  subst e;exact .inl ⟨Je _,hd σ H p⟩
abbrev R2:=V->V->Hp->VK->Prop
def OpR(X:Cx)(f:Value->Value->Sem Value)(r:R2):Prop:=
 ∀(pins:List (Addr×Obj)) (s:Shared) (σ:St) (H:Hp) (x y:V) (v u:Value) (Q:VK),Inv X pins σ H s->zB x v->zB y u->r x y H Q->
  wpAny (model X.prog X.w) X.A (f v u) (EP X pins σ Q) X.xe s
def UnR(X:Cx)(f:Value->Sem Value)(r:V->Hp->VK->Prop):Prop:=
 ∀(pins:List (Addr×Obj)) (s:Shared) (σ:St) (H:Hp) (x:V) (v:Value) (Q:VK),Inv X pins σ H s->zB x v->r x H Q->
  wpAny (model X.prog X.w) X.A (f v) (EP X pins σ Q) X.xe s
def ql(X:Cx)(f:Value)(r:List V->Hp->VK->Prop):Prop:=
 ∀(pins:List (Addr×Obj)) (s:Shared) (σ:St) (H:Hp) (xs:List V) (us:List Value) (Q:VK),Inv X pins σ H s->zE xs us->r xs H Q->
  wpAny (model X.prog X.w) X.A (call f us) (EP X pins σ Q) X.xe s
def tOp(r:R2)(ta tb:TE):TE:=λσ H Q=>ta σ H λx H1=>tb σ H1 λy H2=>r x y H2 Q
def tUn(r:V->Hp->VK->Prop)(ta:TE):TE:=λσ H Q=>ta σ H λx H1=>r x H1 Q
def rI(C:Int->Int->Prop)(g:Int->Int->V):R2:=λx y H Q=> ∃i j,x= .int i/\y= .int j/\C i j/\Q (g i j) H
def rI0(g:Int->Int->V):R2:=λx y H Q=> ∃i j,x= .int i/\y= .int j/\Q (g i j) H
def rU(g:Int->V):V->Hp->VK->Prop:=λx H Q=> ∃i,x= .int i/\Q (g i) H
section
variable {X:Cx} {a b c:Expr} {ta tb tc:TE} {pos:Pos}
theorem jG(ha:PE X a ta)(hb:PE X b tb){R:V->V->Hp->Prop}(I:Inv X pins σ H s)
  (h:ta σ H λx H1=>tb σ H1 λy H2=>R x y H2) {Q:Value->Shared->Prop} {f:Value->Value->Sem Value}
  (hf: ∀v u s2 x y H2,Inv X pins σ H2 s2->zB x v->zB y u->R x y H2->wpAny (model X.prog X.w) X.A (f v u) Q X.xe s2):
  wpAny (model X.prog X.w) X.A (eval a X.env) (λv s₁=>wpAny (model X.prog X.w) X.A (eval b X.env) (λu s₂=>wpAny (model X.prog X.w) X.A (f v u) Q X.xe s₂) X.xe s₁) X.xe s:=by
 refine thn (ha pins s σ H _ I h) λv s1 ⟨x,H1,I1,r1,q1⟩=> ?_;refine thn (hb pins s1 σ H1 _ I1 q1) λu s2 ⟨y,H2,I2,r2,q2⟩=> ?_;exact hf v u s2 x y H2 I2 r1 r2 q2
theorem zr{op:Operator}(ho:OpR X (binaryOp op) r)(ha:PE X a ta)(hb:PE X b tb):PE X (.BinOp a op b pos) (tOp r ta tb):=by
 intro pins s σ H Q I h;exact wpAny_BinOp (jG ha hb I h λv u s2 x y H2 I2 rx ry q=>ho pins s2 σ H2 x y v u Q I2 rx ry q)
theorem zlt{op:UnaryOp}{r:V->Hp->VK->Prop}(ho:UnR X (unaryOp op) r)(ha:PE X a ta):PE X (.UnaryOp op a pos) (tUn r ta):=by
 intro pins s σ H Q I h;exact UnaryOp_ (thn (ha pins s σ H _ I h) λv s1 ⟨x,H1,I1,r1,q1⟩=>ho pins s1 σ H1 x v Q I1 r1 q1)
theorem opI{f:Value->Value->Sem Value}{C:Int->Int->Prop}{g:Int->Int->Int}
  (rule: ∀(i j:Int) (t u:Tok) (s:Shared) (Q:Value->Shared->Prop) (E:Value->Shared->Prop),C i j->Q (.int (g i j) s.toks) {s with toks:=s.toks+1}->wpAny (model X.prog X.w) X.A (f (.int i t) (.int j u)) Q E s):
  OpR X f (rI C λi j=> .int (g i j)):=by
 intro pins s σ H x y v u Q I rx ry h;obtain⟨i,j,rfl,rfl,hc,q⟩:=h;obtain⟨t,rfl⟩:=rx;obtain⟨t',rfl⟩:=ry;exact rule i j t t' s _ _ hc ⟨.int (g i j),H,I.tok _,⟨_,rfl⟩,q⟩
theorem zmL{f:Value->Value->Sem Value}{g:Int->Int->Int}
  (rule: ∀(i j:Int) (t u:Tok) (s:Shared) (Q:Value->Shared->Prop) (E:Value->Shared->Prop),Q (.int (g i j) s.toks) {s with toks:=s.toks+1}->wpAny (model X.prog X.w) X.A (f (.int i t) (.int j u)) Q E s):
  OpR X f (rI0 λi j=> .int (g i j)):=by
 intro pins s σ H x y v u Q I rx ry h;obtain⟨i,j,rfl,rfl,q⟩:=h;obtain⟨t,rfl⟩:=rx;obtain⟨t',rfl⟩:=ry;exact rule i j t t' s _ _ ⟨.int (g i j),H,I.tok _,⟨_,rfl⟩,q⟩
theorem uK{f:Value->Value->Sem Value}{g:Int->Int->Bool}
  (rule: ∀(i j:Int) (t u:Tok) (s:Shared) (Q:Value->Shared->Prop) (E:Value->Shared->Prop),Q (.bool (g i j)) s->wpAny (model X.prog X.w) X.A (f (.int i t) (.int j u)) Q E s):
  OpR X f (rI0 λi j=> .bl (g i j)):=by
 intro pins s σ H x y v u Q I rx ry h;obtain⟨i,j,rfl,rfl,q⟩:=h;obtain⟨t,rfl⟩:=rx;obtain⟨t',rfl⟩:=ry;exact rule i j t t' s _ _ ⟨.bl (g i j),H,I,rfl,q⟩
def z4(i j:Int):Prop:=0<j/\j<1073741824
def zmM(i j:Int):Prop:=0<=j/\j<=1000000/\i.natAbs<2 ^ 64
def uL(i j:Int):Prop:=(-(2 ^ 64)<i/\i<2 ^ 64)\/(-(2 ^ 64)<j/\j<2 ^ 64)
theorem uL.ok{i j:Int}(h:uL i j):IntMulOk i j:=by
 rcases h with⟨h1,h2⟩|⟨h1,h2⟩
 ·exact .of_left (intBits_le_64 h1 h2)
 ·exact .of_right (intBits_le_64 h1 h2)
theorem y0:OpR X (binaryOp .Add) (rI0 λi j=> .int (i+j)):=zmL λ_ _ _ _ _ _ _ q=>add_int q
theorem xV:OpR X (binaryOp .Sub) (rI0 λi j=> .int (i - j)):=zmL λ_ _ _ _ _ _ _ q=>sub_int q
theorem vY:OpR X (binaryOp .Mult) (rI uL λi j=> .int (i*j)):=opI λ_ _ _ _ _ _ _ hc q=>mul_int q hc.ok
theorem vc:OpR X (binaryOp .FloorDiv) (rI z4 λi j=> .int (i / j)):=opI λi j _ _ _ _ _ hc q=>by
 have h1:(0:Int)<j:=hc.1;have h2:j<1073741824:=hc.2;exact floordiv_int 'o' (by rw[Int.fdiv_eq_ediv_of_nonneg i 'o'];exact q) (.inl (PyProof.noPylong_small 'o'))
theorem y6:OpR X (binaryOp .Mod) (rI (λ_ j=>0<j) λi j=> .int (i % j)):=opI λi j _ _ _ _ _ hc q=>by
 have h1:(0:Int)<j:=hc;exact mod_int' 'o' (by rw[Int.fmod_eq_emod_of_nonneg i 'o'];exact q)
theorem vZ:OpR X (binaryOp .Pow) (rI zmM λi j=> .int (i ^ j.toNat)):=opI λ_ _ _ _ _ _ _ hc q=>pow_int_small hc.1 hc.2.1 hc.2.2 q
theorem unI{f:Value->Sem Value}{g:Int->Int}
  (rule: ∀(i:Int) (t:Tok) (s:Shared) (Q:Value->Shared->Prop) (E:Value->Shared->Prop),Q (.int (g i) s.toks) {s with toks:=s.toks+1}->wpAny (model X.prog X.w) X.A (f (.int i t)) Q E s):
  UnR X f (rU λi=> .int (g i)):=by
 intro pins s σ H x v Q I rx h;obtain⟨i,rfl,q⟩:=h;obtain⟨t,rfl⟩:=rx;exact rule i t s _ _ ⟨.int (g i),H,I.tok _,⟨_,rfl⟩,q⟩
theorem zjl:UnR X (unaryOp .USub) (rU λi=> .int (-i)):=unI λ_ _ _ _ _ q=>neg_int q
end
def vd:V->V->Bool
 | .non, .non=>true| .non, .int _=>true| .int _, .non=>true| .non, .bl _=>true| .bl _, .non=>true| .non, .str _=>true| .str _, .non=>true
 | .int _, .int _=>true| .bl _, .bl _=>true| .str _, .str _=>true| .byt _, .byt _=>true
 | .int _, .str _=>true| .str _, .int _=>true| .bl _, .str _=>true| .str _, .bl _=>true
 |_,_=>false
def rEq:R2:=λx y H Q=>vd x y=true/\Q (.bl (decide (x=y))) H
def rNe:R2:=λx y H Q=>vd x y=true/\Q (.bl (!decide (x=y))) H
theorem zh5{i j:Int}:decide (V.int i=V.int j)=(i==j):=by
 rw[Bool.eq_iff_iff];simp
theorem zjm{i j:Bool}:decide (V.bl i=V.bl j)=(i==j):=by
 rw[Bool.eq_iff_iff];simp
theorem zh6{i j:Str}:decide (V.str i=V.str j)=(i==j):=by
 rw[Bool.eq_iff_iff];simp
theorem zh7{i j:Array UInt8}:decide (V.byt i=V.byt j)=(i.toList==j.toList):=by
 rw[Bool.eq_iff_iff];cases i;cases j;simp
section
variable {X:Cx} {a b c:Expr} {ta tb tc:TE} {pos:Pos}
theorem yW{Q:VK}{k k':Bool}(I:Inv X pins σ H s)(q:Q (.bl k) H)(e:k=k'):EP X pins σ Q (.bool k') s:=by
 subst e;exact⟨.bl k,H,I,rfl,q⟩
theorem yQ:OpR X (compareOp .Eq) rEq:=by
 intro pins s σ H x y v u Q I rx ry h;obtain⟨hs,q⟩:=h;cases x with
 |non=>
  cases rx;cases y with
  |non=>cases ry;exact PySem.EqNone.eq_none_none (yW I q (by simp))
  |bl j=>cases ry;exact PySem.EqNone.eq_none_bool (yW I q (by simp))
  |int j=>obtain⟨t',rfl⟩:=ry;exact PySem.EqNone.eq_none_int (yW I q (by simp))
  |str j=>obtain⟨t',rfl⟩:=ry;exact PySem.EqNone.eq_none_str (yW I q (by simp))
  |_=>exact absurd (show false=true from hs) Ju
 |bl i=>
  cases rx;cases y with
  |non=>cases ry;exact PySem.EqNone.eq_bool_none (yW I q (by simp))
  |bl j=>cases ry;exact eq_bool (yW I q zjm)
  |str j=>obtain⟨t',rfl⟩:=ry;exact PySem.EqMixed.eq_bool_str (yW I q (by simp))
  |_=>exact absurd (show false=true from hs) Ju
 |int i=>
  obtain⟨t,rfl⟩:=rx;cases y with
  |non=>cases ry;exact PySem.EqNone.eq_int_none (yW I q (by simp))
  |int j=>obtain⟨t',rfl⟩:=ry;exact eq_int (yW I q zh5)
  |str j=>obtain⟨t',rfl⟩:=ry;exact PySem.EqMixed.eq_int_str (yW I q (by simp))
  |_=>exact absurd (show false=true from hs) Ju
 |str i=>
  obtain⟨t,rfl⟩:=rx;cases y with
  |non=>cases ry;exact PySem.EqNone.eq_str_none (yW I q (by simp))
  |bl j=>cases ry;exact PySem.EqMixed.eq_str_bool (yW I q (by simp))
  |int j=>obtain⟨t',rfl⟩:=ry;exact PySem.EqMixed.eq_str_int (yW I q (by simp))
  |str j=>obtain⟨t',rfl⟩:=ry;exact eq_str (yW I q zh6)
  |_=>exact absurd (show false=true from hs) Ju
 |byt i=>
  obtain⟨t,rfl⟩:=rx;cases y with
  |byt j=>obtain⟨t',rfl⟩:=ry;exact PySem.W.eq_bytes (yW I q zh7)
  |_=>exact absurd (show false=true from hs) Ju
 |_=>cases y<;>exact absurd (show false=true from hs) Ju
theorem qC:OpR X (compareOp .NotEq) rNe:=by
 intro pins s σ H x y v u Q I rx ry h;obtain⟨hs,q⟩:=h;cases x with
 |non=>
  cases rx;cases y with
  |non=>cases ry;exact PySem.EqNone.ne_none_none (yW I q (by simp))
  |bl j=>cases ry;exact PySem.EqNone.ne_none_bool (yW I q (by simp))
  |int j=>obtain⟨t',rfl⟩:=ry;exact PySem.EqNone.ne_none_int (yW I q (by simp))
  |str j=>obtain⟨t',rfl⟩:=ry;exact PySem.EqNone.ne_none_str (yW I q (by simp))
  |_=>exact absurd (show false=true from hs) Ju
 |bl i=>
  cases rx;cases y with
  |non=>cases ry;exact PySem.EqNone.ne_bool_none (yW I q (by simp))
  |bl j=>cases ry;exact ne_bool (yW I q (congrArg not zjm))
  |str j=>obtain⟨t',rfl⟩:=ry;exact PySem.EqMixed.ne_bool_str (yW I q (by simp))
  |_=>exact absurd (show false=true from hs) Ju
 |int i=>
  obtain⟨t,rfl⟩:=rx;cases y with
  |non=>cases ry;exact PySem.EqNone.ne_int_none (yW I q (by simp))
  |int j=>obtain⟨t',rfl⟩:=ry;exact ne_int (yW I q (congrArg not zh5))
  |str j=>obtain⟨t',rfl⟩:=ry;exact PySem.EqMixed.ne_int_str (yW I q (by simp))
  |_=>exact absurd (show false=true from hs) Ju
 |str i=>
  obtain⟨t,rfl⟩:=rx;cases y with
  |non=>cases ry;exact PySem.EqNone.ne_str_none (yW I q (by simp))
  |bl j=>cases ry;exact PySem.EqMixed.ne_str_bool (yW I q (by simp))
  |int j=>obtain⟨t',rfl⟩:=ry;exact PySem.EqMixed.ne_str_int (yW I q (by simp))
  |str j=>obtain⟨t',rfl⟩:=ry;exact ne_str (yW I q (congrArg not zh6))
  |_=>exact absurd (show false=true from hs) Ju
 |byt i=>
  obtain⟨t,rfl⟩:=rx;cases y with
  |byt j=>obtain⟨t',rfl⟩:=ry;exact PySem.W.ne_bytes (yW I q (congrArg not zh7))
  |_=>exact absurd (show false=true from hs) Ju
 |_=>cases y<;>exact absurd (show false=true from hs) Ju
theorem xj:OpR X (compareOp .Lt) (rI0 λi j=> .bl (decide (i<j))):=uK λ_ _ _ _ _ _ _ q=>lt_int q
theorem xW:OpR X (compareOp .LtE) (rI0 λi j=> .bl (decide (i<=j))):=uK λ_ _ _ _ _ _ _ q=>le_int q
theorem qJ:OpR X (compareOp .Gt) (rI0 λi j=> .bl (decide (j<i))):=uK λ_ _ _ _ _ _ _ q=>gt_int q
theorem zmN:OpR X (compareOp .GtE) (rI0 λi j=> .bl (decide (j<=i))):=uK λ_ _ _ _ _ _ _ q=>ge_int q
theorem zlS:OpR X (compareOp .Is) (λx y H Q=>y= .non/\Q (.bl (decide (x= .non))) H):=by
 intro pins s σ H x y v u Q I rx ry h;obtain⟨rfl,q⟩:=h;cases ry;refine is_none_gen (yW I q ?_);cases x<;>first
  |(cases rx;rfl)
  |(obtain⟨t,rfl⟩:=rx;rfl)
theorem zgD:OpR X (compareOp .NotIn) (λx y H Q=> ∃i j,x= .str i/\y= .str j/\Q (.bl (!(!(Builtin.Str.occurrences j i 0 j.length 1).isEmpty))) H):=by
 intro pins s σ H x y v u Q I rx ry h;obtain⟨i,j,rfl,rfl,q⟩:=h;obtain⟨t,rfl⟩:=rx;obtain⟨t',rfl⟩:=ry;exact notIn_str (yW I q rfl)
theorem OpR.or(h:OpR X f r)(h':OpR X f r'):OpR X f (λx y H Q=>r x y H Q\/r' x y H Q):=by
 intro pins s σ H x y v u Q I rx ry q;rcases q with q|q
 ·exact h pins s σ H x y v u Q I rx ry q
 ·exact h' pins s σ H x y v u Q I rx ry q
theorem zw(b:Expr)(h:op≠ .In:=by decide)(h2:op≠ .NotIn:=by decide):behindInMarks op b=false:=by
 have e1:(op==CmpOp.In)=false:=by cases op<;>first|rfl|exact absurd rfl h
 have e2:(op==CmpOp.NotIn)=false:=by cases op<;>first|rfl|exact absurd rfl h2
 cases b<;>simp [behindInMarks,e1,e2]
theorem qz(ho:OpR X (compareOp op) r)(ha:PE X a ta)(hb:PE X b tb)(hm:behindInMarks op b=false):PE X (.Compare a [op] [b] pos) (tOp r ta tb):=by
 intro pins s σ H Q I h;exact wpAny_Compare1 (jG ha hb I h λv u s2 x y H2 I2 rx ry q=>ho pins s2 σ H2 x y v u Q I2 rx ry q) hm
def z5(t:TE):TT:=λσ H Q=>t σ H λx H'=> ∃k,x= .bl k/\Q k H'
theorem zz(ho:OpR X (compareOp op) r)(ha:PE X a ta)(hb:PE X b tb)(hm:behindInMarks op b=false):PT X (.Compare a [op] [b] pos) (z5 (tOp r ta tb)):=by
 intro pins s σ H Q I h;refine wpAny_isTrue_Compare1 (thn (ha pins s σ H _ I h) λv s1 ⟨x,H1,I1,r1,q1⟩=>thn (hb pins s1 σ H1 _ I1 q1) λu s2 ⟨y,H2,I2,r2,q2⟩=>
  thn (ho pins s2 σ H2 x y v u _ I2 r1 r2 q2) λc s3 ⟨z,H3,I3,r3,k,e,q3⟩=> ?_) hm
 subst e;cases r3;exact wpAny_truthy_bool ⟨H3,I3,q3⟩
def z6(r r':R2)(ta tb tc:TE):TE:=λσ H Q=>ta σ H λx H1=>tb σ H1 λy H2=>r x y H2 λz H3=> ∃k,z= .bl k/\
 (if k=true then tc σ H3 λw' H4=>r' y w' H4 Q else Q (.bl false) H3)
theorem zjn{op':CmpOp}(ho:OpR X (compareOp op) r)(ho':OpR X (compareOp op') r')(ha:PE X a ta)(hb:PE X b tb)(hc:PE X c tc)
  (hm:lastMarks [op,op'] [b,c]=false:=by with_unfolding_all rfl):PE X (.Compare a [op,op'] [b,c] pos) (z6 r r' ta tb tc):=by
 intro pins s σ H Q I h;refine Compare_chain (thn (ha pins s σ H _ I h) λv s1 ⟨x,H1,I1,r1,q1⟩=>chain_link (thn (hb pins s1 σ H1 _ I1 q1) λu s2 ⟨y,H2,I2,r2,q2⟩=>
  thn (ho pins s2 σ H2 x y v u _ I2 r1 r2 q2) λd s3 ⟨z,H3,I3,r3,k,e,q3⟩=> ?_)) hm
 subst e;cases r3;refine wpAny_truthy_bool ?_;cases k with
 |false=>exact ite_ff ⟨.bl false,H3,I3,rfl,q3⟩
 |true=>exact ite_tt (chain_last (thn (hc pins s3 σ H3 _ I3 q3) λw' s4 ⟨z',H4,I4,r4,q4⟩=>ho' pins s4 σ H4 y z' u w' Q I4 r2 r4 q4))
theorem jH{op':CmpOp}(ho:OpR X (compareOp op) r)(ho':OpR X (compareOp op') r')(ha:PE X a ta)(hb:PE X b tb)(hc:PE X c tc)
  (hm:lastMarks [op,op'] [b,c]=false:=by with_unfolding_all rfl):PT X (.Compare a [op,op'] [b,c] pos) (z5 (z6 r r' ta tb tc)):=by
 intro pins s σ H Q I h;refine isTrue_chain (thn (ha pins s σ H _ I h) λv s1 ⟨x,H1,I1,r1,q1⟩=>test_link (thn (hb pins s1 σ H1 _ I1 q1) λu s2 ⟨y,H2,I2,r2,q2⟩=>
  thn (ho pins s2 σ H2 x y v u _ I2 r1 r2 q2) λd s3 ⟨z,H3,I3,r3,k,e,q3⟩=> ?_)) hm
 subst e;cases r3;refine wpAny_truthy_bool ?_;cases k with
 |false=>
  obtain⟨k',e',q'⟩:=q3;cases e';exact ite_ff ⟨H3,I3,q'⟩
 |true=>
  refine ite_tt (test_last (thn (hc pins s3 σ H3 _ I3 q3) λw' s4 ⟨z',H4,I4,r4,q4⟩=>thn (ho' pins s4 σ H4 y z' u w' _ I4 r2 r4 q4) λd' s5 ⟨z2,H5,I5,r5,k2,e2,q5⟩=> ?_));subst e2;cases r5;exact wpAny_truthy_bool ⟨H5,I5,q5⟩
theorem vD:(sizeLine:Nat)<2 ^ 63:=by rw[sizeLine_eq];decide
theorem zhy:OpR X (binaryOp .Add) (λx y H Q=> ∃i j,x= .str i/\y= .str j/\i.length+j.length<=sizeLine/\Q (.str (i++j)) H):=by
 intro pins s σ H x y v u Q I rx ry h;obtain⟨i,j,rfl,rfl,hz,q⟩:=h;obtain⟨t,rfl⟩:=rx;obtain⟨t',rfl⟩:=ry;exact add_str (λt' tk=>⟨.str (i++j),H,I.tok _,⟨_,rfl⟩,q⟩) hz
theorem qK{x:V}(r:zE [x] us): ∃u,us= [u]/\zB x u:=by
 cases r with
 |cons r1 r2=>cases r2;exact⟨_,rfl,r1⟩
theorem jI{x y:V}(r:zE [x,y] us): ∃u w',us= [u,w']/\zB x u/\zB y w':=by
 cases r with
 |cons r1 r2=>
  cases r2 with
  |cons r3 r4=>cases r4;exact⟨_,_,rfl,r1,r3⟩
theorem zjp:ql X (.builtin "abs") (λxs H Q=> ∃i,xs= [.int i]/\Q (.int (if i<0 then -i else i)) H):=by
 intro pins s σ H xs us Q I r h;obtain⟨i,rfl,q⟩:=h;obtain⟨u,rfl,t,rfl⟩:=qK r;exact call_abs_int λu tk=>⟨.int (if i<0 then -i else i),H,I.tok _,⟨_,rfl⟩,q⟩
theorem zf5(hc:X.calm=true):ql X (.builtin "min") (λxs H Q=> ∃i j,xs= [.int i, .int j]/\Q (.int (if j<i then j else i)) H):=by
 intro pins s σ H xs us Q I r h;obtain⟨i,j,rfl,q⟩:=h;obtain⟨u,w',rfl,⟨t,rfl⟩,⟨t',rfl⟩⟩:=jI r;refine min_two_ints (I.ok.hd hc) λh' tk k=>⟨_,H,I.kept k,?_,q⟩
 by_cases hj:j<i
 ·rw[Jg hj,Jg hj];exact⟨_,rfl⟩
 ·rw[Jf hj,Jf hj];exact⟨_,rfl⟩
theorem zf6:ql X (.type "int") (λxs H Q=>(∃i,xs= [.int i]/\Q (.int i) H)\/ ∃k,xs= [.bl k]/\Q (.int (if k then 1 else 0)) H):=by
 intro pins s σ H xs us Q I r h;rcases h with⟨i,rfl,q⟩|⟨k,rfl,q⟩
 ·obtain⟨u,rfl,t,rfl⟩:=qK r;exact call_int_int ⟨.int i,H,I,⟨_,rfl⟩,q⟩
 ·obtain⟨u,rfl,r1⟩:=qK r;cases r1;exact call_int_bool ⟨.int (if k then 1 else 0),H,I.tok _,⟨_,rfl⟩,q⟩
theorem zgE:ql X (.type "str") (λxs H Q=> ∃i,xs= [.int i]/\i.natAbs.log2<1920/\Q (.str (toString i)) H):=by
 intro pins s σ H xs us Q I r h;obtain⟨i,rfl,hz,q⟩:=h;obtain⟨u,rfl,t,rfl⟩:=qK r;exact PySem.P.str_of_int hz ⟨.str _,H,I.tok _,⟨_,rfl⟩,q⟩
theorem ze2:ql X (.builtin "divmod") (λxs H Q=> ∃i j,xs= [.int i, .int j]/\z4 i j/\ ∀p,H p=none->Q (.ref p) (upd H p (.tup [.int (i / j), .int (i % j)]))):=by
 intro pins s σ H xs us Q I r h;obtain⟨i,j,rfl,⟨h1,h2⟩,q⟩:=h;obtain⟨u,w',rfl,⟨t,rfl⟩,⟨t',rfl⟩⟩:=jI r;refine divmod_int 'o' ?_ (.inl (PyProof.noPylong_small 'o'));rw[Int.fdiv_eq_ediv_of_nonneg i 'o',Int.fmod_eq_emod_of_nonneg i 'o'];have hn:H s.heap.objs.size=none:=I.hok.fresh (Je _);refine⟨.ref s.heap.objs.size,_,?_,rfl,q _ hn⟩;refine I.laid (λb o e=>JT _ e) (Je _) ⟨by simp only[Jp,List.length_nil];rw[sizeLine_eq];decide, [.int (i / j) s.toks, .int (i % j) (s.toks+1)], .cons ⟨_,rfl⟩ (.cons ⟨_,rfl⟩ .nil),?_⟩;exact⟨_,JV s.heap rfl,rfl,0,rfl⟩
end
structure ObjM (h:Heap) (x dx C:Addr) (mA:Str->Option Value):Prop where
 obj:h.get? x=some (PySem.W.instObj C dx)
 ns:h.Ns1 dx mA
 ne:dx≠x
theorem ziC{dx:Addr}{mA:Str->Option Value}(n:h.Ns1 dx mA): ∃od,h.get? dx=some od/\ ∀name,PySem.W.lookIn name od=some (mA name):=by
 obtain⟨o,es,ep,ho,hd,hk,_,hm⟩:=n;refine⟨o,ho,λname=> ?_⟩;have e:=hm name;unfold nsFind findBy at e;rw[<-Array.find?_toList] at e;unfold PySem.W.lookIn;rw[hd];dsimp only;split
 ·rename_i y q;rw[q] at e;exact congrArg some e
 ·rename_i q;rw[q] at e;have a:es.toList.any (·.refKey)=false:=by
   rw[List.any_eq_false];intro y hy;obtain⟨z,t,hkey⟩:=hk y (Array.mem_toList_iff.mp hy);simp [DictEntry.refKey,hkey]
  have a': ¬es.toList.any (·.refKey)=true:=by rw[a];exact Ju
  rw[Jf a'];exact congrArg some e
theorem ObjM.look{x dx:Addr}{mA:Str->Option Value}(I:ObjM h x dx C mA): ∃od,PySem.W.InstAt h x (PySem.W.instObj C dx) C (some od)/\ ∀name,PySem.W.lookIn name od=some (mA name):=
 let ⟨od,ho,hl⟩:=ziC I.ns
 ⟨od,⟨I.obj,rfl,rfl,ho⟩,hl⟩
section
variable {prog:Program} {w:World} {A:Around} {E:Value->Shared->Prop} {s:Shared} {K:Fg} {x dx C f:Addr} {mA:Str->Option Value} {name:Str} {v:Value}
end
theorem xH.none_of{o:Option Value}(r:xH none o):o=none:=by
 cases o with
 |none=>rfl
 |some u=>exact(show False from r).elim
section
variable {P:Program} {w:World} {H H':Hp} {h h':Heap} {a C dx:Addr} {fs fs':List (Str×V)}
theorem zkB(hok:HOk P w H h)(e:H a=some (.ins C dx fs)): ∃mA,ObjM h a dx C mA/\(∀f,xH (fs.lookup f) (mA f))/\PySem.Within mA (fs.map (·.1))/\fs.length<=1000/\H dx=some (.own a):=by
 obtain⟨d,z,ne,ob,mA,n,r,q⟩:=(show yZ P w H h a (.ins C dx fs) from hok a _ e)
 exact⟨mA,⟨ob,n,ne⟩,r,q,z,d⟩
end
structure Cls (K:Fg) (C:Addr):Prop where
 pg:PySem.W.plainGet K C Str.empty=true
 hd:PySem.W.hasDictIn K C=true
 po:PySem.W.plainOver K C=true
 sa:PySem.W.findIn K (.ref C) "__setattr__"=some (some (.builtin "object.__setattr__"))
theorem Cls.get(c:Cls K C)(f:Str):PySem.W.plainGet K C f=true:=c.pg
structure Con (K:Fg) (C:Addr) (f:Str) (v:V) (u:Value):Prop where
 at_:PySem.W.findIn K (.ref C) f=some (some u)
 rel:zB v u
 get:PySem.W.specialIn K u "__get__"=some none
 cp:PySem.W.copiedNames.contains f=false
structure Meth (K:Fg) (C:Addr) (m:Str) (f:Addr):Prop where
 at_:PySem.W.findIn K (.ref C) m=some (some (.ref f))
 fn:PySem.W.isFn K (.ref f)=true
 kp:PySem.W.keepIn K (.ref f)=true
section
variable {X:Cx} {pins:List (Addr×Obj)} {σ:St} {H:Hp} {s:Shared} {a C dx:Addr} {fs:List (Str×V)} {f:Str} {v:V} {A:Around} {E:Value->Shared->Prop}
theorem Inv.made(I:Inv X pins σ H s):Inv X pins σ (upd (upd H s.heap.objs.size (.own (s.heap.objs.size+1))) (s.heap.objs.size+1) (.ins C s.heap.objs.size []))
  {s with heap:=(s.heap.push PySem.W.emptyDict).push (PySem.W.instObj C s.heap.objs.size)}:=by
 have e1:(s.heap.push PySem.W.emptyDict).get? s.heap.objs.size=some PySem.W.emptyDict:=JV s.heap rfl;have e2:((s.heap.push PySem.W.emptyDict).push (PySem.W.instObj C s.heap.objs.size)).get? (s.heap.objs.size+1)=some (PySem.W.instObj C s.heap.objs.size):=by
  have:=JV (s.heap.push PySem.W.emptyDict) (o:=PySem.W.instObj C s.heap.objs.size) rfl;rwa[Heap.size_push] at this
 have e3:(s.heap.push PySem.W.emptyDict).Ns s.heap.objs.size (λ_=>none):=⟨PySem.W.emptyDict, #[],_,e1,rfl,(λe he=>absurd he (by simp)),λ_=>rfl⟩
 have I1:=I.laid (a:=s.heap.objs.size) (o:= .own (s.heap.objs.size+1)) (h':=s.heap.push PySem.W.emptyDict) (t':=s.toks) (λb u q=>JT _ q) (Je _) ⟨_,e1⟩;refine I1.laid (a:=s.heap.objs.size+1) (o:= .ins C s.heap.objs.size []) (t':=s.toks) (λb u q=>JT _ q) (Nat.le_of_eq (Heap.size_push _ _)) ?_;have ne:s.heap.objs.size≠s.heap.objs.size+1:=JH (Nat.lt_succ_self _);refine⟨by rw[zT ne,zP],Jv _,ne,e2,λ_=>none,(Heap.Ns1.of_empty e3).at λo q=>JT _ q,λ_=>True.intro,λy hy=>absurd rfl hy⟩
end
section
variable {X:Cx} {o e value:Expr} {f:Str} {pos pos' tpos:Pos} {ta tv:TE}
end
section
variable {X:Cx} {pins:List (Addr×Obj)} {σ:St} {H:Hp} {s:Shared} {A:Around} {E:Value->Shared->Prop} {Q:Value->Shared->Prop} {c:Value} {b:Bool}
inductive TyOf (K:Fg) (H:Hp):V->Value->Prop where
 |non:TyOf K H .non (.type "NoneType")
 |bl (x:Bool):TyOf K H (.bl x) (.type "bool")
 |int (i:Int):TyOf K H (.int i) (.type "int")
 |str (x:Str):TyOf K H (.str x) (.type "str")
 |flt (x:UInt64):TyOf K H (.flt x) (.type "float")
 |lst {a:Addr} {xs:List V} (e:H a=some (.lst xs)):TyOf K H (.ref a) (.type "list")
 |frz {a:Addr} {o:Obj} {xs:List V} (e:H a=some (.frz o (.lst xs))):TyOf K H (.ref a) (.type "list")
 |tup {a:Addr} {xs:List V} (e:H a=some (.tup xs)):TyOf K H (.ref a) (.type "tuple")
 |dK {a:Addr} {kvs:List (Key×V)} (e:H a=some (.dK kvs)):TyOf K H (.ref a) (.type "dict")
 |dT {a:Addr} {kvs:List (List Key×V)} (e:H a=some (.dT kvs)):TyOf K H (.ref a) (.type "dict")
 |ins {a C dx:Addr} {fs:List (Str×V)} (e:H a=some (.ins C dx fs)) (cl:Cls K C) (ha:PySem.W.findIn K (.ref C) "__class__"=some (some (.builtin "object.__class__")))
   (hn:PySem.W.specialIn K (.builtin "object.__class__") "__get__"=some (some (.builtin "getset_descriptor.__get__"))) (htk:PySem.W.takesIn K (.builtin "object.__class__")=some true)
   (hm:PySem.W.mroIn K C (.type "object")=some true):TyOf K H (.ref a) (.ref C)
theorem ziD{x:V}{t:Value}(I:Inv X pins σ H s)(rx:zB x u)(ty:TyOf X.K H x t)(e:PySem.W.kitOne X.K t c=some b)(h: ∀tk,Q (.bool b) {s with toks:=tk}):
  wpAny (model X.prog X.w) A (call (.builtin "isinstance") [u,c]) Q E s:=by
 cases ty with
 |non=>cases (show u=Value.none from rx);exact PySem.W.kia_one PySem.W.kitx_none I.kIn True.intro e (λz=>nomatch z) h
 |bl y=>cases (show u=Value.bool y from rx);exact PySem.W.kia_one PySem.W.kitx_bool I.kIn True.intro e (λz=>nomatch z) h
 |int i=>obtain⟨t,q⟩:=(show∃t,u=Value.int i t from rx);cases q;exact PySem.W.kia_one PySem.W.kitx_int I.kIn True.intro e (λz=>nomatch z) h
 |str y=>obtain⟨t,q⟩:=(show∃t,u=Value.str y t from rx);cases q;exact PySem.W.kia_one PySem.W.kitx_str I.kIn True.intro e (λz=>nomatch z) h
 |flt y=>obtain⟨t,q⟩:=(show∃t,u=Value.float y t from rx);cases q;exact PySem.W.kia_one PySem.W.kitx_float I.kIn True.intro e (λz=>nomatch z) h
 | @lst a xs ea=>
  cases (show u=Value.ref a from rx);obtain⟨_,_,n,_,h1⟩:=(show yZ X.prog X.w H s.heap a (.lst xs) from I.hok a _ ea)
  exact PySem.W.kia_one PySem.W.kitx_list I.kIn ⟨_,h1,rfl⟩ e (λz=>nomatch z) h
 | @frz a ob xs ea=>
  cases (show u=Value.ref a from rx);obtain⟨_,_,_,n,_,h1⟩:=(show yZ X.prog X.w H s.heap a (.frz ob (.lst xs)) from I.hok a _ ea)
  exact PySem.W.kia_one PySem.W.kitx_list I.kIn ⟨_,h1,rfl⟩ e (λz=>nomatch z) h
 | @tup a xs ea=>
  cases (show u=Value.ref a from rx);obtain⟨_,_,_,p⟩:=(show yZ X.prog X.w H s.heap a (.tup xs) from I.hok a _ ea)
  obtain⟨o,h1,h2,_⟩:=p;exact PySem.W.kia_one PySem.W.kitx_tuple I.kIn ⟨o,h1,h2⟩ e (λz=>nomatch z) h
 | @dK a kvs ea=>
  cases (show u=Value.ref a from rx);obtain⟨_,_,vs,_,p⟩:=(show yZ X.prog X.w H s.heap a (.dK kvs) from I.hok a _ ea)
  obtain⟨o,es,ep,h1,h2,_⟩:=p;exact PySem.W.kia_one PySem.W.kitx_dict I.kIn ⟨o,h1,h2.1⟩ e (λz=>nomatch z) h
 | @dT a kvs ea=>
  cases (show u=Value.ref a from rx);obtain⟨_,_,xs,_,o,es,ep,h1,h2,_⟩:=(show yZ X.prog X.w H s.heap a (.dT kvs) from I.hok a _ ea)
  exact PySem.W.kia_one PySem.W.kitx_dict I.kIn ⟨o,h1,h2.1⟩ e (λz=>nomatch z) h
 | @ins a C dx fs ea cl ha hn htk hm=>
  cases (show u=Value.ref a from rx);obtain⟨mA,O,_⟩:=zkB I.hok ea;obtain⟨od,J,_⟩:=O.look;exact PySem.W.kia_one (PySem.W.kitx_own (cl.get _) cl.hd ha hn htk hm) I.kIn J e (λz=>nomatch z) h
end
structure Room (k:Nat) (A:Around):Prop where
 hd:A.handled=none
 dp:A.depth+3*k+5<recursionLimit
 un:A.units+16*k+200<cLine
theorem Room.mono{k:Nat}(r:Room k A)(h:j<=k):Room j A:=⟨r.hd,by have:=r.dp;omega,by have:=r.un;omega⟩
theorem Room.deeper{k:Nat}{A:Around}(r:Room (k+1) A)(env:Env):Room k (A.deeper env):=
 ⟨r.hd,by have:=r.dp;show A.depth+1+3*k+5<_;omega,by have:=r.un;show A.units+3+16*k+200<_;omega⟩
theorem Room.in1{k:Nat}{A:Around}(r:Room (k+1) A):Room k A.in1:=
 ⟨r.hd,by have:=r.dp;show A.depth+3*k+5<_;omega,by have:=r.un;show A.units+1+16*k+200<_;omega⟩
theorem zhz{kw:List (Str×Value)}:(A.under (.builtin "type.__call__" ⟨.ref C::us,kw⟩)).depth=A.depth+1:=by
 first|rfl|simp [Around.under,Code.weight,Code.isCreation,Code.isGuard,Code.isCaller,Code.frames,Code.isFrame,guardIds]
theorem zhA{kw:List (Str×Value)}:(A.under (.builtin "type.__call__" ⟨.ref C::us,kw⟩)).units=A.units+1:=by
 first|rfl|simp [Around.under,Code.cUnits,Code.frames,Code.isFrame]
theorem Room.make{k:Nat}(r:Room (k+1) A)(C:Addr)(us:List Value)(kw:List (Str×Value)):Room k (A.under (.builtin "type.__call__" ⟨.ref C::us,kw⟩)):=
 ⟨r.hd,by have:=r.dp;rw[zhz];omega,by have:=r.un;rw[zhA];omega⟩
theorem Room.depth{k:Nat}{A:Around}(r:Room k A):A.depth<recursionLimit:=by have:=r.dp;omega
theorem Room.units{k:Nat}{A:Around}(r:Room k A):A.units+64<cLine:=by have:=r.un;omega
def yi:TA:=λ_ H Q=>Q [] H
def z7(ta:TE)(tr:TA):TA:=λσ H Q=>ta σ H λx H1=>tr σ H1 λxs H2=>Q (x::xs) H2
section
variable {X:Cx} {e:Expr} {es:List Expr} {te:TE} {t:TA} {pos:Pos}
theorem zg:PA X [] yi:=λ_ _ _ _ H Q I h=>Calls.spliced_nil ⟨[],H,I, .nil,h⟩
theorem ze(ha:PE X e te)(hr:PA X es t)(hs:starEach (e::es) X.env=(false,eval e X.env)::starEach es X.env:=by rfl):PA X (e::es) (z7 te t):=by
 intro pos pins s σ H Q I h;rw[hs];show wpAny _ _ (spliced ((false,eval e X.env)::backTo pos (starEach es X.env))) _ _ s;refine Calls.spliced_cons (thn (ha pins s σ H _ I h) λu s1 ⟨x,H1,I1,r1,q1⟩=> ?_);exact thn (hr pos pins s1 σ H1 _ I1 q1) λus s2 ⟨xs,H2,I2,r2,q2⟩=>⟨x::xs,H2,I2, .cons r1 r2,q2⟩
def yj(t:TA):TE:=λσ H Q=>t σ H λxs H1=>xs.length<=sizeLine/\ ∀p,H1 p=none->Q (.ref p) (upd H1 p (.tup xs))
def yk(t:TA):TE:=λσ H Q=>t σ H λxs H1=>xs.length<=sizeLine/\ ∀p,H1 p=none->Q (.ref p) (upd H1 p (.lst xs))
theorem zlT{x1}(h:PA X es t):PE X (.Tuple es x1 pos) (yj t):=by
 intro pins s σ H Q I hq;refine wpAny_Tuple_spliced (thn (h pos pins s σ H _ I hq) λus s1 ⟨xs,H1,I1,r,z,q⟩=>⟨by rw[<-r.length];exact z,?_⟩);have hf:H1 s1.heap.objs.size=none:=I1.hok.fresh (Je _);refine⟨.ref s1.heap.objs.size,upd H1 s1.heap.objs.size (.tup xs),I1.laid (t':=s1.toks) (λb u e=>JT _ e) (Je _) ?_,rfl,q _ hf⟩;exact⟨z,us,r,⟨_,JV _ rfl,rfl,_,rfl⟩⟩
theorem zlU(h:PA X es t):PE X (.List es pos) (yk t):=by
 intro pins s σ H Q I hq;refine wpAny_List_spliced (thn (h pos pins s σ H _ I hq) λus s1 ⟨xs,H1,I1,r,z,q⟩=>⟨by rw[<-r.length];exact z,?_⟩);have hf:H1 s1.heap.objs.size=none:=I1.hok.fresh (Je _);refine⟨.ref s1.heap.objs.size,upd H1 s1.heap.objs.size (.lst xs),I1.laid (t':=s1.toks) (λb u e=>JT _ e) (Je _) ?_,rfl,q _ hf⟩;exact⟨z,us,0,r,JV _ rfl⟩
end
abbrev Sp:=List V->Hp->VK->XK->Prop
abbrev CXT:=List Env->Hp->Shared->XK->Value->Shared->Prop
structure Env0 (P:Program) (w:World) (K:Fg) (mg:Str->Option Value) (base:Heap) (A:Around) (outer:List Env) (s:Shared) (H:Hp):Prop where
 frames:A.frames=some outer
 mod:Mod K mg base
 bs: ∀b o,base.get? b=some o->s.heap.get? b=some o/\H b=none
 bsz:base.objs.size<=s.heap.objs.size
 funs:s.heap.FunFrames base outer
 frf: ∀b∈frs outer,H b=none
 hok:HOk P w H s.heap
 bare:AllBare s.gens
def CE(outer:List Env)(P:Program)(w:World)(H:Hp)(s:Shared)(Q:VK)(u:Value)(s':Shared):Prop:=
 ∃v H',s'.os=s.os/\AllBare s'.gens/\Un (frs outer) [] H H' s.heap s'.heap/\HOk P w H' s'.heap/\zB v u/\Q v H'
def CR(CX:CXT)(outer:List Env)(P:Program)(w:World)(H:Hp)(s:Shared)(Q:VK)(E:XK)(r:Result)(s':Shared):Prop:=
 match r with
 | .ok (.ret u)=>CE outer P w H s Q u s'
 | .ok _=>False
 | .error e=>CX outer H s E e s'
structure FnOk (P:Program) (w:World) (K:Fg) (mg:Str->Option Value) (base:Heap) (CX:CXT) (k:Nat) (f:Addr) (fd:FuncData) (ps:List Str) (sp:Sp):Prop where
 len: ∀vs H Q E,sp vs H Q E->vs.length=ps.length
 run: ∀(A:Around) (outer:List Env) (s:Shared) (H:Hp) (args:Args) (us:List Value) (vs:List V) (Q:VK) (E:XK),Room k A->Env0 P w K mg base A outer s H->BindsTo s fd args (ps.zip us)->zE vs us->sp vs H Q E->
  codeAny (model P w) A (.call (.ref f) args) (CR CX outer P w H s Q E) s
theorem FnOk.mono{P:Program}{w:World}{K:Fg}{mg:Str->Option Value}{base:Heap}{CX:CXT}{j k:Nat}{f:Addr}{fd:FuncData}{ps:List Str}{sp:Sp}(F:FnOk P w K mg base CX j f fd ps sp)(h:j<=k):
  FnOk P w K mg base CX k f fd ps sp:=⟨F.len,λA outer s H args us vs Q E hr=>F.run A outer s H args us vs Q E (hr.mono h)⟩
theorem FnOk.imp{k:Nat}{f:Addr}{sp sp':Sp}(F:FnOk P w K mg base CX k f fd ps sp)
  (h: ∀vs H Q E,sp' vs H Q E->sp vs H Q E):FnOk P w K mg base CX k f fd ps sp':=
 ⟨λvs H Q E q=>F.len vs H Q E (h _ _ _ _ q),λA outer s H args us vs Q E hr he hb hv hs=>F.run A outer s H args us vs Q E hr he hb hv (h _ _ _ _ hs)⟩
theorem Env0.make(e:Env0 P w K mg base A outer s H)(C:Addr)(us:List Value)(kw:List (Str×Value)):
  Env0 P w K mg base (A.under (.builtin "type.__call__" ⟨.ref C::us,kw⟩)) outer s H:=⟨by first|exact e.frames|(simpa [Around.under,Code.envs,Code.isFrame,pushEnvs] using e.frames),e.mod,e.bs,e.bsz,e.funs,e.frf,e.hok,e.bare⟩
theorem Env0.in1{P:Program}{w:World}{K:Fg}{mg:Str->Option Value}{base:Heap}{A:Around}{outer:List Env}{s:Shared}{H:Hp}(e:Env0 P w K mg base A outer s H):
  Env0 P w K mg base A.in1 outer s H:=⟨e.frames,e.mod,e.bs,e.bsz,e.funs,e.frf,e.hok,e.bare⟩
section
variable {X:Cx} {pins:List (Addr×Obj)} {σ:St} {H:Hp} {s s':Shared}
theorem Inv.env0(I:Inv X pins σ H s):Env0 X.prog X.w X.K X.mg X.base X.A X.stack s H:=
 ⟨I.ok.frames,I.ok.mod,I.bs,JD I.ok.bsz I.sz,I.stack,I.stkFree,I.hok,I.bare⟩
theorem Inv.after{Q:VK}(I:Inv X pins σ H s)(h:CE X.stack X.prog X.w H s Q u s'):EP X pins σ Q u s':=by
 obtain⟨v,H',os,bare,un,hok,r,q⟩:=h;obtain⟨hh,g,d,t,os'⟩:=s';obtain rfl:os'=s.os:=os;exact⟨v,H',I.call (h':=hh) (g':=g) (d':=d) (t':=t) (ch:= []) un hok bare (λb z=>absurd z (by simp)),r,q⟩
end
def zN(K:Fg)(fd:FuncData)(ps:List Str)(ds:List Value):Prop:=
 ∀(s:Shared) (us:List Value),K.In s.heap->(us++ds).length=ps.length->BindsTo s fd ⟨us, []⟩ (ps.zip (us++ds))
theorem zN.all(h: ∀us:List Value,us.length=ps.length->bindArgs fd ⟨us, []⟩=pure (ps.zip us)):zN K fd ps []:=λs us _ hl=>by
 rw[Jt] at hl ⊢;exact .of_eq (h us hl)
section
variable {X:Cx} {CX:CXT} {k:Nat} {f C:Addr} {fd:FuncData} {ps:List Str} {sp:Sp} {dvs:List V} {ds:List Value} {E:XK} {x m:Str} {p pos apos:Pos} {e o:Expr} {es:List Expr} {ta:TE} {t:TA}
structure Mk (K:Fg) (C f:Addr):Prop where
 makes:PySem.W.makesIn K C=true
 init:PySem.W.findIn K (.ref C) "__init__"=some (some (.ref f))
 fn:PySem.W.isFn K (.ref f)=true
 kp:PySem.W.keepIn K (.ref C)=true
end
def PK(X:Cx)(kws:List Keyword)(t:TA):Prop:=
 ∀(pos:Pos) (pins:List (Addr×Obj)) (s:Shared) (σ:St) (H:Hp) (Q:List V->Hp->Prop),Inv X pins σ H s->t σ H Q->wpAny (model X.prog X.w) X.A (evalAll ((backToKw pos (keywordEach kws X.env)).map (·.2))) (AP X pins σ Q) X.xe s
section
variable {X:Cx} {CX:CXT} {k:Nat} {f C:Addr} {fd:FuncData} {ps ks:List Str} {sp:Sp} {E:XK} {x m:Str} {p pos apos kpos:Pos} {e o:Expr} {es:List Expr} {kws:List Keyword} {te ta:TE} {t tk:TA} {nm:Option Str}
structure KBinds (K:Fg) (fd:FuncData) (ps ks:List Str) (g:List Value->List Value->List Value) (gV:List V->List V->List V):Prop where
 to: ∀(s:Shared) (us ws:List Value),K.In s.heap->(g us ws).length=ps.length->BindsTo s fd ⟨us,ks.zip ws⟩ (ps.zip (g us ws))
 rel: ∀{vs:List V} {us:List Value} {zs:List V} {ws:List Value},zE vs us->zE zs ws->zE (gV vs zs) (g us ws)
variable {g:List Value->List Value->List Value} {gV:List V->List V->List V}
end
structure FnScope (N P:List Str) (sc:Scope):Prop where
 kind:sc.kind= .function
 co:sc.isCoroutine=false
 gen:sc.isGenerator=false
 nd:N.Nodup
 pre:N.take P.length=P
 par: ∀x∈P,sc.names.lookup x=some .local\/sc.names.lookup x=some .cell
 nofree: ∀y∈sc.names,y.2≠ .free
theorem zf7{kindOf:Str->Option NameKind}{x:Str}: ∀{binds:List (Str×Value)} {m:Str->Option Value},(∀v,(x,v)∉binds)->bindL kindOf binds m x=m x
 | [],_,_=>rfl
 |(n,v)::r,m,h=>by
  unfold bindL;rw[zf7 λw hw=>h w (Jl _ hw)];split
  ·have:x≠n:=by rintro rfl;exact h v Jq
   simp [this]
  ·rfl
theorem zf8{kindOf:Str->Option NameKind}{x:Str}: ∀{binds:List (Str×Value)} {m:Str->Option Value},(∀v,(x,v)∉binds)->bindC kindOf binds m x=m x
 | [],_,_=>rfl
 |(n,v)::r,m,h=>by
  unfold bindC;rw[zf8 λw hw=>h w (Jl _ hw)];split
  ·rfl
  ·have:x≠n:=by rintro rfl;exact h v Jq
   simp [this]
theorem zf9{kindOf:Str->Option NameKind}{x:Str}{v:Value}: ∀{P:List Str} {vs:List Value} {i:Nat} {m:Str->Option Value},P.Nodup->P[i]? =some x->vs[i]? =some v->kindOf x=some .local->
  bindL kindOf (P.zip vs) m x=some v
 | [],_,_,_,_,h,_,_=>by simp at h
 |_::_, [],_,_,_,_,h,_=>by simp at h
 |p::P,w::vs,0,m,nd,h1,h2,hk=>by
  simp at h1 h2;subst h1;subst h2;show bindL kindOf ((p,w)::P.zip vs) m p=_;unfold bindL;rw[zf7 λv hv=>(List.nodup_cons.mp nd).1 (List.of_mem_zip hv).1,Jg hk];simp
 |p::P,w::vs,i+1,m,nd,h1,h2,hk=>by
  show bindL kindOf ((p,w)::P.zip vs) m x=_;unfold bindL;exact zf9 (i:=i) (List.nodup_cons.mp nd).2 (by simpa using h1) (by simpa using h2) hk
theorem zga{kindOf:Str->Option NameKind}{x:Str}{v:Value}: ∀{P:List Str} {vs:List Value} {i:Nat} {m:Str->Option Value},P.Nodup->P[i]? =some x->vs[i]? =some v->kindOf x≠some .local->
  bindC kindOf (P.zip vs) m x=some v
 | [],_,_,_,_,h,_,_=>by simp at h
 |_::_, [],_,_,_,_,h,_=>by simp at h
 |p::P,w::vs,0,m,nd,h1,h2,hk=>by
  simp at h1 h2;subst h1;subst h2;show bindC kindOf ((p,w)::P.zip vs) m p=_;unfold bindC;rw[zf8 λv hv=>(List.nodup_cons.mp nd).1 (List.of_mem_zip hv).1,Jf hk];simp
 |p::P,w::vs,i+1,m,nd,h1,h2,hk=>by
  show bindC kindOf ((p,w)::P.zip vs) m x=_;unfold bindC;exact zga (i:=i) (List.nodup_cons.mp nd).2 (by simpa using h1) (by simpa using h2) hk
def start(N:List Str)(vs:List V):St:=vs.map some++List.replicate (N.length - vs.length) none
def qt(CX:CXT)(P:Program)(w:World)(K:Fg)(mg:Str->Option Value)(base:Heap)(N:List Str)(qual:Str)(scope:Scope)(f:Addr)(cd:Value)(A:Around)(outer:List Env)(s:Shared)(H:Hp)(E:XK):Cx where
 prog:=P
 w:=w
 K:=K
 mg:=mg
 base:=base
 A:=A.deeper (envOfC qual scope s.heap.objs.size f cd)
 N:=N
 s₀:=s
 H₀:=H
 env:=envOfC qual scope s.heap.objs.size f cd
 outer:=outer
 stack:=envOfC qual scope s.heap.objs.size f cd::outer
 ex:= []
 calm:=true
 fn:=λ_=>true
 pn:= []
 xe:=λe s'=>wpAny (model P w) (A.deeper (envOfC qual scope s.heap.objs.size f cd)) (leaving (envOfC qual scope s.heap.objs.size f cd) e) (λ_ s''=>CX outer H s E e s'') (λe' s''=>CX outer H s E e' s'') s'
theorem zg7{sc:Scope}(h:sc.names.lookup x=some .cell): ∃c,(cellsFrom n sc.names []).lookup x=some c:=by
 have q:=PySem.W.cellsFrom_some sc.names n [] (.inl h);exact Option.isSome_iff_exists.mp q
theorem zgb{CX:CXT}{P:Program}{w:World}{K:Fg}{mg:Str->Option Value}{base:Heap}{N ps:List Str}{qual:Str}{scope:Scope}{f:Addr}{cd:Value}{A:Around}{outer:List Env}{s s1:Shared}{H:Hp}{E:XK}{us:List Value}{vs:List V}
  (S:FnScope N ps scope) (hd:A.handled=none) (e0:Env0 P w K mg base A outer s H) (hl:vs.length=ps.length) (r:zE vs us)
  (x:InCallC s s.heap.objs.size (bindL (envOfC qual scope s.heap.objs.size f cd).kindOf (ps.zip us) λ_=>none) (cellsFrom (s.heap.objs.size+1) scope.names []) (bindC (envOfC qual scope s.heap.objs.size f cd).kindOf (ps.zip us) λ_=>none) s1):
  Inv (qt CX P w K mg base N qual scope f cd A outer s H E) [] (start N vs) H s1:=by
 have hpl:ps.length<=N.length:=by have:=congrArg List.length S.pre;rw[JA] at this;omega
 obtain⟨h1,tk,rfl,hk⟩:=x.done;have noA: ∀b:Addr,b∉(qt CX P w K mg base N qual scope f cd A outer s H E).ex:=λb z=>absurd (show b∈([]:List Addr) from z) (by simp);refine⟨⟨e0.mod,S.kind,rfl,rfl,Je _,λy z c h1 h2=> ?_,λy hy=> ?_,λy c _ h=> ?_,λ_=>hd,Around.frames_deeper e0.frames, .inr ⟨rfl,rfl⟩,λb z=>absurd z (noA b),e0.bs,e0.bsz,λb _ _=>noA b,λb z=>absurd z (noA b),e0.funs,e0.frf⟩,
  rfl,e0.bare,Un.kept hk,⟨_,x.toInCall.ns,λi y v h1 h2 h3=> ?_⟩,λy c h=>⟨_,x.cell y c h⟩,e0.hok.fresh (Je _),λy c h=> ?_,λp hp=>absurd (show p∈([]:List (Addr×Obj)) from hp) (by simp),e0.hok.kept hk,?_⟩
 ·exact name_of_addr x.apart (PySem.mem_of_lookup h1) (PySem.mem_of_lookup h2)
 ·have hy:scope.names.lookup y=some .cell\/scope.names.lookup y=some .free:=hy;rcases hy with hy|hy
  ·exact zg7 hy
  ·exact absurd rfl (S.nofree _ (PySem.mem_of_lookup hy))
 ·exact Nat.le_of_lt (x.above y c (PySem.mem_of_lookup h))
 ·have hi:i<vs.length:=by
   unfold start at h2;by_cases hi:i<vs.length
   ·exact hi
   ·rw[List.getElem?_append_right (by simpa using hi)] at h2;rw[List.getElem?_replicate] at h2;split at h2<;>cases h2
  have ha:vs[i]? =some v:=by
   unfold start at h2;rw[List.getElem?_append_left (by simpa using hi),Jh] at h2;cases e:vs[i]? with
   |none=>rw[e] at h2;cases h2
   |some a=>rw[e] at h2;cases h2;rfl
  obtain⟨u,hu,rv⟩:=r.get ha;have hp:ps[i]? =some y:=by
   rw[<-S.pre,List.getElem?_take_of_lt 'o'];exact h1
  have ndP:ps.Nodup:=by rw[<-S.pre];exact S.nd.sublist (List.take_sublist _ _)
  refine⟨u,rv,?_⟩;rcases S.par y (Ji hp) with k|k
  ·exact .inl ⟨k,zf9 ndP hp hu k⟩
  ·obtain⟨c,e⟩:=zg7 (n:=s.heap.objs.size+1) k;refine .inr ⟨.inl k,c,e,?_⟩;have q:=x.cell y c e;rw[zga ndP hp hu (by show scope.names.lookup y≠_;rw[k];decide)] at q;exact q
 ·exact e0.hok.fresh (Nat.le_of_lt (x.above y c (PySem.mem_of_lookup h)))
 ·unfold start;show _=N.length;rw[Jj,Ja,List.length_replicate];omega
theorem jJ{CX:CXT}{P:Program}{w:World}{K:Fg}{mg:Str->Option Value}{base:Heap}{k:Nat}{f:Addr}{name qual:Str}{params:Arguments}{body:List Stmt}{scope:Scope}{dV kV doc pm cdv ct oc:Value}{an od:Option Addr}
  {osl:Array (Option Value)} {N ps:List Str} {sp:Sp} (lk:K.lookup f=some ⟨oc,od, .func (PySem.W.fnOf name qual params body scope dV kV doc pm an cdv ct),osl⟩) (hcd:PySem.W.codeIn K cdv qual=true) (S:FnScope N ps scope)
  (len: ∀vs H Q E,sp vs H Q E->vs.length=ps.length)
  (hbody: ∀(A:Around) (outer:List Env) (s:Shared) (H:Hp) (vs:List V) (Q:VK) (E:XK),Room k (A.deeper (envOfC qual scope s.heap.objs.size f cdv))->sp vs H Q E->
   ∃t,PSs (qt CX P w K mg base N qual scope f cdv A outer s H E) body t/\t {nx:=λ_ H'=>Q .non H',rt:=Q} (start N vs) H):
  FnOk P w K mg base CX (k+1) f (PySem.W.fnOf name qual params body scope dV kV doc pm an cdv ct) ps sp:=by
 refine⟨len,λA outer s H args us vs Q E hr e0 hb r hsp=> ?_⟩;have hl:=len _ _ _ _ hsp;have KX:K.In s.heap:=e0.mod.kin.keeps λb o e=>(e0.bs b o e).1;have lim:s.heap.NoLimit:=e0.mod.nolimit.keeps λb o e=>(e0.bs b o e).1;have hkind: ∀y∈ps.zip us,scope.names.lookup y.1=some .local\/(scope.names.lookup y.1=some .cell/\((cellsFrom (s.heap.objs.size+1) scope.names []).lookup y.1).isSome=true):=λ⟨n,v⟩ hy=>by
  rcases S.par n (List.of_mem_zip hy).1 with q|q
  ·exact .inl q
  ·exact .inr ⟨q,PySem.W.cellsFrom_some _ _ _ (.inl q)⟩
 refine codeAny_call_function hr.depth (KX _ _ lk) rfl S.co S.gen rfl (PySem.W.codeRec_of KX hcd) (hb _ _ _ _ ?_);refine wpAny_newFunctionEnv_cells S.kind hkind λenv he s1 x=> ?_;subst he;refine⟨lim.keeps x.toInCall.keep,codeAny_func ?_⟩;obtain⟨t,ht,hq⟩:=hbody A outer s H vs Q E (hr.deeper _) hsp;have I:Inv (qt CX P w K mg base N qual scope f cdv A outer s H E) [] (start N vs) H s1:=zgb S hr.hd e0 hl r x;refine wpAny_mono (ht [] s1 (start N vs) H _ I hq) (λfl s' hs=> ?_) λe s' hs=>hs;have fin: ∀{σ':St} {H':Hp} {v:V} {u:Value},Inv (qt CX P w K mg base N qual scope f cdv A outer s H E) [] σ' H' s'->zB v u->Q v H'->CE outer P w H s Q u s':=
  fun {σ' H' v u} J rv q=>⟨v,H',J.os,J.bare,J.base,J.hok,rv,q⟩
 cases fl with
 |ret u=>
  obtain⟨v,σ',H',J,rv,q⟩:=hs;exact fin J rv q
 |next=>
  obtain⟨σ',H',J,q⟩:=hs;exact fin (v:=V.non) (u:=Value.none) J rfl q
 |brk=>
  obtain⟨_,_,_,q⟩:=hs;exact False.elim q
 |cont=>
  obtain⟨_,_,_,q⟩:=hs;exact False.elim q
section
variable {X:Cx} {x:Str} {p pos:Pos} {e:Expr} {es:List Expr} {t:TA} {id T:String} {r:List V->Hp->VK->Prop}
def tCB(r:List V->Hp->VK->Prop)(t:TA):TE:=λσ H Q=>t σ H λvs H1=>r vs H1 Q
theorem zM(hc:ql X (.builtin id) r)(hg:Gl X x)(hm:X.mg x=none)(hv:bootBuiltins x=some (.builtin id))(ha:PA X (e::es) t)(hn:x≠"__name__":=by decide)(hdb:(x==("__debug__":Str))=false:=by decide)
  (he:starEach (e::es) X.env=(false,eval e X.env)::starEach es X.env:=by rfl) (hpl:(backTo pos (starEach es X.env)).any (·.1)=false:=by rfl):PE X (.Call (.Name x p) (e::es) [] pos) (tCB r t):=by
 intro pins s σ H Q I h;refine wpAny_Call_Name_kw (w6 I hg hm hv ?_ hn hdb);exact PyProof.Rows.callWith_builtin1 (thn (ha pos pins s σ H _ I h) λus s1 ⟨vs,H1,I1,r1,q1⟩=>hc pins s1 σ H1 vs us Q I1 r1 q1) he hpl
theorem qu(hc:ql X (.type T) r)(hg:Gl X x)(hm:X.mg x=none)(hv:bootBuiltins x=some (.type T))(ha:PA X (e::es) t)(hn:x≠"__name__":=by decide)(hdb:(x==("__debug__":Str))=false:=by decide)
  (he:starEach (e::es) X.env=(false,eval e X.env)::starEach es X.env:=by rfl) (hpl:(backTo pos (starEach es X.env)).any (·.1)=false:=by rfl):PE X (.Call (.Name x p) (e::es) [] pos) (tCB r t):=by
 intro pins s σ H Q I h;refine wpAny_Call_Name_kw (w6 I hg hm hv ?_ hn hdb);exact PyProof.Rows.callWith_type1 (thn (ha pos pins s σ H _ I h) λus s1 ⟨vs,H1,I1,r1,q1⟩=>hc pins s1 σ H1 vs us Q I1 r1 q1) he hpl
end
end L2
namespace HT
open PySem PyProof.Rows
section
open PySem.SeqAt
open PySem.AutoSeq1 (wpAny_loadPart')
open PySem.MeetsSeq PySem.MeetsSeq2 PySem.MeetsSeq3
end
section
variable {prog:Program} {w:World} {A:Around} {E:Value->Shared->Prop} {s:Shared}
def sIx(n d:Nat):Option Int->Nat
 |none=>d
 |some v=>if v<0 then (v+(n:Int)).toNat else min v.toNat n
theorem sIx_none(n d:Nat):sIx n d none=d:=rfl
theorem sIx_nat(n d k:Nat):sIx n d (some (k:Int))=min k n:=by
 show (if (k:Int)<0 then ((k:Int)+(n:Int)).toNat else min (k:Int).toNat n)=min k n;rw[Jf 'o',JE]
theorem sIx_le(n d:Nat)(hd:d<=n)(o:Option Int):sIx n d o<=n:=by
 cases o with
 |none=>exact hd
 |some v=>
  show (if v<0 then (v+(n:Int)).toNat else min v.toNat n)<=n;by_cases hv:v<0
  ·rw[Jg hv];omega
  ·rw[Jf hv];exact Nat.min_le_right _ _
end
end HT
namespace L2
open PySem PySem.Spec PyProof.Rows
variable{α:Type}{n:Nat}{pins:List (Addr×Obj)}{σ:St}{H:Hp}{s:Shared}{its:List Value}{x:V}{v:Value}
abbrev TO:=St->Hp->(Option Int->Hp->Prop)->Prop
def PO(X:Cx)(e:Option Expr)(t:TO):Prop:=
 ∀(pins:List (Addr×Obj)) (s:Shared) (σ:St) (H:Hp) (Q:Option Int->Hp->Prop),Inv X pins σ H s->t σ H Q->
  wpAny (model X.prog X.w) X.A (evalPart e X.env) (λu s'=> ∃o H',Inv X pins σ H' s'/\IsPart u o/\Q o H') X.xe s
def ym:TO:=λ_ H Q=>Q none H
def yo(t:TE):TO:=λσ H Q=>t σ H λx H1=> ∃i,x= .int i/\Q (some i) H1
section
variable {X:Cx} {e:Expr} {te:TE} {lo hi:Option Expr} {tl th:TO} {pos p2:Pos}
theorem qY:PO X none ym:=by
 intro pins s σ H Q I h;rw[evalPart_none];exact JS ⟨none,H,I, .none,h⟩
theorem qL(h:PE X e te):PO X (some e) (yo te):=by
 intro pins s σ H Q I hw;rw[evalPart_some];refine thn (h pins s σ H _ I hw) λu s1 ⟨x,H1,I1,r1,q1⟩=> ?_;obtain⟨i,rfl,q⟩:=q1;obtain⟨t,rfl⟩:=r1;exact⟨some i,H1,I1, .int i t,q⟩
def SlR(X:Cx)(r:V->Option Int->Option Int->Hp->VK->Prop):Prop:=
 ∀(pins:List (Addr×Obj)) (s:Shared) (σ:St) (H:Hp) (x:V) (v vl vu:Value) (lo hi:Option Int) (sl:Addr) (Q:VK),Inv X pins σ H s->zB x v->s.heap.IsSliceOf sl vl vu .none->IsPart vl lo->IsPart vu hi->r x lo hi H Q->
  ∃T id,typeLookup (.type T) "__getitem__"=pure (some (.builtin id))/\s.TypeIs v T/\wpAny (model X.prog X.w) X.A (getItem v (.ref sl)) (EP X pins σ Q) X.xe s
theorem SlR.or{r r':V->Option Int->Option Int->Hp->VK->Prop}(h:SlR X r)(h':SlR X r'):SlR X (λx lo hi H Q=>r x lo hi H Q\/r' x lo hi H Q):=by
 intro pins s σ H x v vl vu lo hi sl Q I rx hs pl pu q;rcases q with q|q
 ·exact h pins s σ H x v vl vu lo hi sl Q I rx hs pl pu q
 ·exact h' pins s σ H x v vl vu lo hi sl Q I rx hs pl pu q
def tSl(r:V->Option Int->Option Int->Hp->VK->Prop)(te:TE)(tl th:TO):TE:=λσ H Q=>te σ H λx H1=>tl σ H1 λl H2=>th σ H2 λu H3=>r x l u H3 Q
theorem qT{r:V->Option Int->Option Int->Hp->VK->Prop}(hr:SlR X r)(he:PE X e te)(hl:PO X lo tl)(hu:PO X hi th):PE X (.Subscript e (.Slice lo hi none p2) pos) (tSl r te tl th):=by
 intro pins s σ H Q I h;refine Subscript_ (thn (he pins s σ H _ I h) λv s1 ⟨x,H1,I1,r1,q1⟩=> ?_);refine wpAny_Slice (thn (hl pins s1 σ H1 _ I1 q1) λvl s2 ⟨l,H2,I2,pl,q2⟩=>thn (hu pins s2 σ H2 _ I2 q2) λvu s3 ⟨u,H3,I3,pu,q3⟩=> ?_);rw[evalPart_none];refine JS ?_;have I4:Inv X pins σ H3 {s3 with heap:=s3.heap.push {cls:= .type "slice",data:= .fields #[vl,vu, .none]} }:=I3.kept (t':=s3.toks) λb ob q=>JT _ q;obtain⟨T,id,hT,ht,hg⟩:=hr pins {s3 with heap:=s3.heap.push {cls:= .type "slice",data:= .fields #[vl,vu, .none]} } σ H3 x v vl vu l u s3.heap.objs.size Q I4 r1 (Heap.IsSliceOf.new ..) pl pu q3;show wpAny (model X.prog X.w) X.A (subscriptTail e (.Slice lo hi none p2) v (.ref s3.heap.objs.size)) (EP X pins σ Q) X.xe {s3 with heap:=s3.heap.push {cls:= .type "slice",data:= .fields #[vl,vu, .none]} };exact tail_any (ops:= [.ref s3.heap.objs.size,v]) ht hT hg (by with_unfolding_all rfl)
def ve(xs:List V)(lo hi:Option Int):List V:=(xs.drop (HT.sIx xs.length 0 lo)).take (HT.sIx xs.length xs.length hi - HT.sIx xs.length 0 lo)
theorem zg8(xs:List V)(lo hi:Option Int):(ve xs lo hi).length<=xs.length:=by
 unfold ve;rw[JA,List.length_drop];omega
end
def ixN(n:Nat)(i:Int):Option Nat:=if 0<=i then (if i<n then some i.toNat else none) else if -(n:Int)<=i then some (i+n).toNat else none
def atI(xs:List α)(i:Int):Option α:=(ixN xs.length i).bind λj=>xs[j]?
theorem jK{i:Int}{j:Nat}(h:ixN n i=some j):seqIndex? i n=some j/\j<n/\ -(n:Int)<=i/\i<n:=by
 unfold ixN at h;by_cases h0:0<=i
 ·rw[Jg h0] at h;by_cases h1:i<n
  ·rw[Jg h1] at h;have e:i.toNat=j:=JQ h;exact⟨by rw[seqIndex_of h0 h1,e],'o','o',h1⟩
  ·rw[Jf h1] at h;cases h
 ·rw[Jf h0] at h;by_cases h1: -(n:Int)<=i
  ·rw[Jg h1] at h;have e:(i+n).toNat=j:=JQ h;exact⟨by rw[seqIndex_neg 'o' h1,e],'o',h1,'o'⟩
  ·rw[Jf h1] at h;cases h
theorem jL{xs:List α}{i:Int}{v:α}(h:atI xs i=some v): ∃j,seqIndex? i xs.length=some j/\xs[j]? =some v/\j<xs.length/\ -(xs.length:Int)<=i/\i<xs.length:=by
 unfold atI at h;cases e:ixN xs.length i with
 |none=>rw[e] at h;cases h
 |some j=>
  rw[e] at h;obtain⟨h1,h2,h3,h4⟩:=jK e;exact⟨j,h1,h,h2,h3,h4⟩
theorem yP{xs:List α}{j:Nat}{v:α}(h:xs[j]? =some v):atI xs (j:Int)=some v:=by
 have hj:j<xs.length:=(Jc.mp h).1;have e:ixN xs.length (j:Int)=some j:=by
  unfold ixN;rw[Jg 'o',Jg 'o'];simp
 unfold atI;rw[e];exact h
def zkC(b:Expr):Prop:= ∀o i,subscripted b false o i=operate [o,i] (getItem o i)
def IxR(X:Cx)(r:R2):Prop:=
 ∀(value slice:Expr) (pins:List (Addr×Obj)) (s:Shared) (σ:St) (H:Hp) (x y:V) (v u:Value) (Q:VK),Inv X pins σ H s->zB x v->zB y u->r x y H Q->
  subscripted slice false v u=operate [v,u] (getItem v u)->wpAny (model X.prog X.w) X.A (subscriptTail value slice v u) (EP X pins σ Q) X.xe s
def MtR(X:Cx)(id:String)(r:V->List V->Hp->VK->Prop):Prop:=
 ∀(pins:List (Addr×Obj)) (s:Shared) (σ:St) (H:Hp) (x:V) (xs:List V) (v:Value) (us:List Value) (Q:VK),Inv X pins σ H s->zB x v->zE xs us->r x xs H Q->
  wpAny (model X.prog X.w) X.A (call (.builtin id) (v::us)) (EP X pins σ Q) X.xe s
section
variable {X:Cx} {a b:Expr} {ta tb:TE} {pos:Pos}
theorem IxR.or{r r':R2}(h:IxR X r)(h':IxR X r'):IxR X (λx y H Q=>r x y H Q\/r' x y H Q):=by
 intro value slice pins s σ H x y v u Q I rx ry q hs;rcases q with q|q
 ·exact h value slice pins s σ H x y v u Q I rx ry q hs
 ·exact h' value slice pins s σ H x y v u Q I rx ry q hs
theorem MtR.or{id:String}{r r':V->List V->Hp->VK->Prop}(h:MtR X id r)(h':MtR X id r'):MtR X id (λx xs H Q=>r x xs H Q\/r' x xs H Q):=by
 intro pins s σ H x xs v us Q I rx rs q;rcases q with q|q
 ·exact h pins s σ H x xs v us Q I rx rs q
 ·exact h' pins s σ H x xs v us Q I rx rs q
theorem zt{r:R2}(hr:IxR X r)(ha:PE X a ta)(hb:PE X b tb)(hs:zkC b):PE X (.Subscript a b pos) (tOp r ta tb):=by
 intro pins s σ H Q I h;exact Subscript_ (jG ha hb I h λv u s2 x y H2 I2 rx ry q=>hr a b pins s2 σ H2 x y v u Q I2 rx ry q (hs _ _))
def vf(K:Fg):R2:=λx y H Q=> ∃p xs i v,x= .ref p/\y= .int i/\SqL K H p xs/\atI xs i=some v/\Q v H
def zmO(K:Fg):R2:=λx y H Q=> ∃p xs i v,x= .ref p/\y= .int i/\SqT K H p xs/\atI xs i=some v/\Q v H
def zno:R2:=λx y H Q=> ∃z i c,x= .str z/\y= .int i/\z.length<=sizeLine/\atI z.cps.toList i=some c/\Q (.str ⟨#[c]⟩) H
theorem zy:IxR X (vf X.K):=by
 intro value slice pins s σ H x y v u Q I rx ry h hs;obtain⟨p,xs,i,z,rfl,rfl,hq,he,q⟩:=h;cases rx;obtain⟨t,rfl⟩:=ry;obtain⟨its,r,pl,hz⟩:=I.list hq;obtain⟨j,h1,h2,h3,h4,h5⟩:=jL he;obtain⟨w,ew,rw'⟩:=r.get h2;have hl:=r.length;have hn:=vD;have fin:EP X pins σ Q w s:=⟨z,H,I,rw',q⟩
 by_cases h0:0<=i
 ·have hj:i.toNat=j:=by
   rw[seqIndex_of h0 h5] at h1;exact JQ h1
  exact item_listR pl.isList h0 'o' (by rw[hj];simpa using ew) fin hs
 ·have hj:(i+(its.toArray.size:Int)).toNat=j:=by
   rw[seqIndex_neg 'o' h4] at h1;rw[Jn,<-hl];exact JQ h1
  exact subscriptTail_builtinR (x:=w) pl.isList.typeIs slot_list_getitem.lookup
   (wpAny_getItem_list_neg (Q:=λr s'=>r=w/\EP X pins σ Q r s') pl.isList 'o' (by rw[Jn]<;>omega) 'o' (by rw[hj];simpa using ew) ⟨rfl,fin⟩) hs
theorem v7:IxR X (zmO X.K):=by
 intro value slice pins s σ H x y v u Q I rx ry h hs;obtain⟨p,xs,i,z,rfl,rfl,hq,he,q⟩:=h;cases rx;obtain⟨t,rfl⟩:=ry;obtain⟨its,r,pl,hz⟩:=I.tuple hq;obtain⟨j,h1,h2,h3,h4,h5⟩:=jL he;obtain⟨w,ew,rw'⟩:=r.get h2;have hl:=r.length;have hn:=vD;have fin:EP X pins σ Q w s:=⟨z,H,I,rw',q⟩
 exact subscriptTail_builtinR (x:=w) pl.typeIs slot_tuple_getitem.lookup
  (getItem_tuple (j:=j) (Q:=λr s'=>r=w/\EP X pins σ Q r s') pl 'o' 'o' (by rw[Jn,<-hl];exact h1) (by simpa using ew) ⟨rfl,fin⟩) hs
theorem zlV:IxR X zno:=by
 intro value slice pins s σ H x y v u Q I rx ry h hs;obtain⟨z,i,c,rfl,rfl,hz,he,q⟩:=h;obtain⟨t,rfl⟩:=rx;obtain⟨t',rfl⟩:=ry;obtain⟨j,h1,h2,h3,h4,h5⟩:=jL he;have hl:z.cps.toList.length=z.length:=by simp [Str.length]
 rw[hl] at h1 h4 h5;have hn:=vD;exact tail_any (typeIs_str s z t) slot_str_getitem.lookup (getItem_str (c:=c) (by
  have e1:decide (i< -(2 ^ 63:Int))=false:=JM 'o';have e2:decide (i≥2 ^ 63)=false:=JM 'o';rw[e1,e2,Bool.or_false]) (by rw[h1];simpa using h2) ⟨.str ⟨#[c]⟩,H,I.tok _,⟨_,rfl⟩,q⟩) hs
theorem zhD(its:List Value)(n j:Nat)(u:Value):Obj.mapSeq (·.setIfInBounds j u) {cls:= .type "list",data:= .seq its.toArray n}={cls:= .type "list",data:= .seq (its.set j u).toArray n}:=by
 simp [Obj.mapSeq]
theorem Inv.lst{pins:List (Addr×Obj)}{σ:St}{H:Hp}{s:Shared}{p:Addr}{xs:List V}(I:Inv X pins σ H s)(h:H p=some (.lst xs)):
  ∃(its:List Value) (n:Nat),zE xs its/\s.heap.get? p=some {cls:= .type "list",data:= .seq its.toArray n}/\xs.length<=sizeLine:=by
 obtain⟨z,its,n,r,e⟩:=I.hok p _ h;exact⟨its,n,r,e,z⟩
theorem Inv.lstUpd{p:Addr}{xs ys:List V}{its its':List Value}{n n':Nat}{f:Obj->Obj}(I:Inv X pins σ H s)(h:H p=some (.lst xs))
  (ho:s.heap.get? p=some {cls:= .type "list",data:= .seq its.toArray n}) (hf:f {cls:= .type "list",data:= .seq its.toArray n}={cls:= .type "list",data:= .seq its'.toArray n'}) (r:zE ys its') (hz:ys.length<=sizeLine) (t:Nat):
  Inv X pins σ (upd H p (.lst ys)) {s with heap:=s.heap.update p f,toks:=t}:=by
 have e:(s.heap.update p f).get? p=some {cls:= .type "list",data:= .seq its'.toArray n'}:=by
  rw[Heap.get?_update_self f ho (by rw[hf]<;>rfl),hf]
 refine I.write (x:=p) (e:=p) (by rw[h];trivial) (.inl rfl) (λb u hb q=>(JW _ _ (Ne.symm hb)).trans q) ⟨_,e⟩ ?_;exact⟨hz,its',n',r,e⟩
def xX:V->V->V->Hp->(Hp->Prop)->Prop:=λo i v H Q=> ∃p xs k j,o= .ref p/\i= .int k/\H p=some (.lst xs)/\ixN xs.length k=some j/\Q (upd H p (.lst (xs.set j v)))
theorem set_list:zmK X xX:=by
 intro pins s σ H o i v ov iv u Q I ro ri rv h;obtain⟨p,xs,k,j,rfl,rfl,hp,hj,q⟩:=h;cases ro;obtain⟨t,rfl⟩:=ri;obtain⟨its,n,r,ho,hz⟩:=I.lst hp;obtain⟨h1,h2,h3,h4⟩:=jK hj;have hl:=r.length;have hn:=vD;have I':Inv X pins σ (upd H p (.lst (xs.set j v))) {s with heap:=s.heap.update p (Obj.mapSeq (·.setIfInBounds j u))}:=
  I.lstUpd hp ho (zhD its n j u) (r.set rv j) (by rw[List.length_set];exact hz) s.toks
 by_cases h0:0<=k
 ·have hk:k.toNat=j:=by
   rw[seqIndex_of h0 h4] at h1;exact JQ h1
  exact PySem.W.ki_setAt ho h0 'o' (by rw[Jn,<-hl];exact h4) (by rw[hk];exact⟨_,I',q⟩)
 ·have hk:(k+(its.toArray.size:Int)).toNat=j:=by
   rw[seqIndex_neg 'o' h3] at h1;rw[Jn,<-hl];exact JQ h1
  exact PySem.W.ki_setBack ho 'o' (by rw[Jn,<-hl];exact h3) 'o' (by rw[hk];exact⟨_,I',q⟩)
theorem zgH(lo hi:Option Int)(n:Nat):(sliceBounds lo hi none n).1=((HT.sIx n 0 lo:Nat):Int)/\(sliceBounds lo hi none n).2.1=((HT.sIx n n hi:Nat):Int)/\(sliceBounds lo hi none n).2.2=1:=by
 refine⟨?_,?_,rfl⟩
 ·cases lo with
  |none=>simp [sliceBounds,HT.sIx]
  |some i=>
   simp only[sliceBounds,HT.sIx,Option.getD_none,show (1:Int)>0 by decide,if_true];by_cases h:i<0
   ·simp only[h,if_true]<;>omega
   ·simp only[h,if_false]<;>omega
 ·cases hi with
  |none=>simp [sliceBounds,HT.sIx]
  |some i=>
   simp only[sliceBounds,HT.sIx,Option.getD_none,show (1:Int)>0 by decide,if_true];by_cases h:i<0
   ·simp only[h,if_true]<;>omega
   ·simp only[h,if_false]<;>omega
theorem zfW(its:List Value)(lo hi:Option Int):slicePick its.toArray lo hi none=((its.drop (HT.sIx its.length 0 lo)).take (HT.sIx its.length its.length hi - HT.sIx its.length 0 lo)).toArray:=by
 obtain⟨h1,h2,h3⟩:=zgH lo hi its.toArray.size;unfold slicePick;rw[h1,h2,h3];simp only[sliceRange_one,pick_run,Jn]<;>rfl
def znp(K:Fg):V->Option Int->Option Int->Hp->VK->Prop:=λx lo hi H Q=> ∃a xs,x= .ref a/\SqL K H a xs/\ ∀p,H p=none->Q (.ref p) (upd H p (.lst (ve xs lo hi)))
theorem zkD:SlR X (znp X.K):=by
 intro pins s σ H x v vl vu lo hi sl Q I rx hs pl pu h;obtain⟨a,xs,rfl,hx,q⟩:=h;cases rx;obtain⟨its,r,ht,hz⟩:=I.list hx;have hlen:=r.length;refine⟨"list",_,slot_list_getitem.lookup,ht.isList.typeIs,?_⟩;refine wpAny_getItem_list_slice ht.isList hs pl pu .none (by simp) ?_ (by rw[Jn]<;>omega);rw[zfW,<-hlen];refine⟨.ref s.heap.objs.size,_,I.laid (t':=s.toks) (o:= .lst (ve xs lo hi)) (λb ob q=>JT _ q) (Je _) ?_,rfl,q _ (I.hok.fresh (Je _))⟩;exact⟨JD (zg8 xs lo hi) hz,_,0,(r.drop (HT.sIx xs.length 0 lo)).take (HT.sIx xs.length xs.length hi - HT.sIx xs.length 0 lo),JV _ rfl⟩
def xY:V->Bool
 | .non=>true
 | .bl _=>true
 | .int _=>true
 | .str _=>true
 |_=>false
def eqV:V->V->Bool
 | .non, .non=>true
 | .bl a, .bl b=>a==b
 | .bl a, .int b=>(if a then 1 else 0)==b
 | .int a, .bl b=>a==(if b then 1 else 0)
 | .int a, .int b=>a==b
 | .str a, .str b=>a==b
 |_,_=>false
theorem jM{A:Around}{y:V}{u:Value}(ry:zB y u)(rx:zB x v)(fy:xY y=true)(fx:xY x=true):SeqAt.EqAt A s u v (eqV y x):=by
 cases y with
 |non=>
  cases ry;cases x with
  |non=>cases rx;exact SeqAt.EqAt.same _
  |bl b=>cases rx;exact SeqAt.EqAt.none_bool b
  |int b=>obtain⟨t,rfl⟩:=rx;exact SeqAt.EqAt.none_int b t
  |str b=>obtain⟨t,rfl⟩:=rx;exact SeqAt.EqAt.none_str b t
  |_=>exact absurd (show false=true from fx) Ju
 |bl a=>
  cases ry;cases x with
  |non=>cases rx;exact SeqAt.EqAt.bool_none a
  |bl b=>cases rx;exact SeqAt.EqAt.bool_bool a b
  |int b=>obtain⟨t,rfl⟩:=rx;exact SeqAt.EqAt.bool_int a b t
  |str b=>obtain⟨t,rfl⟩:=rx;exact SeqAt.EqAt.bool_str a b t
  |_=>exact absurd (show false=true from fx) Ju
 |int a=>
  obtain⟨t',rfl⟩:=ry;cases x with
  |non=>cases rx;exact SeqAt.EqAt.int_none a t'
  |bl b=>cases rx;exact SeqAt.EqAt.int_bool a t' b
  |int b=>obtain⟨t,rfl⟩:=rx;exact SeqAt.EqAt.int_int a t' b t
  |str b=>obtain⟨t,rfl⟩:=rx;exact SeqAt.EqAt.int_str a t' b t
  |_=>exact absurd (show false=true from fx) Ju
 |str a=>
  obtain⟨t',rfl⟩:=ry;cases x with
  |non=>cases rx;exact SeqAt.EqAt.str_none a t'
  |bl b=>cases rx;exact SeqAt.EqAt.str_bool a t' b
  |int b=>obtain⟨t,rfl⟩:=rx;exact SeqAt.EqAt.str_int a t' b t
  |str b=>obtain⟨t,rfl⟩:=rx;exact SeqAt.EqAt.str_str a t' b t
  |_=>exact absurd (show false=true from fx) Ju
 |_=>exact absurd (show false=true from fy) Ju
def eqU(x:V)(u:Value):Bool:=match u with
 | .none=>eqV .non x
 | .bool b=>eqV (.bl b) x
 | .int i _=>eqV (.int i) x
 | .str z _=>eqV (.str z) x
 |_=>false
theorem zjr{y:V}{u:Value}(r:zB y u)(f:xY y=true):eqU x u=eqV y x:=by
 cases y with
 |non=>cases r;rfl
 |bl b=>cases r;rfl
 |int i=>obtain⟨t,rfl⟩:=r;rfl
 |str z=>obtain⟨t,rfl⟩:=r;rfl
 |_=>exact absurd (show false=true from f) Ju
theorem v8{x:V}: ∀{xs:List V} {us:List Value},zE xs us->xs.all xY=true->us.any (eqU x)=xs.any λy=>eqV y x
 |_,_, .nil,_=>rfl
 |y::xs,u::us, .cons r t,f=>by
  rw[List.all_cons,Bool.and_eq_true] at f;rw[List.any_cons,List.any_cons,zjr r f.1,v8 t f.2]
theorem v9{A:Around}{s:Shared}{x:V}{v:Value}(rx:zB x v)(fx:xY x=true): ∀{xs:List V} {us:List Value},zE xs us->xs.all xY=true-> ∀u∈us,SeqAt.EqAt A s u v (eqU x u)
 |_,_, .nil,_=>λu hu=>by cases hu
 |y::xs,u::us, .cons r t,f=>λu' hu=>by
  rw[List.all_cons,Bool.and_eq_true] at f;rcases JC.mp hu with rfl|hu
  ·rw[zjr r f.1];exact jM r rx f.1 fx
  ·exact v9 rx fx t f.2 u' hu
def inV(x:V)(xs:List V):Bool:=xs.any λy=>eqV y x
def rIn(K:Fg)(neg:Bool):R2:=λx y H Q=> ∃p xs,y= .ref p/\(SqL K H p xs\/SqT K H p xs)/\xY x=true/\xs.all xY=true/\Q (.bl (if neg then !inV x xs else inV x xs)) H
theorem uM:OpR X (compareOp .In) (rIn X.K false):=by
 intro pins s σ H x y v u Q I rx ry h;obtain⟨p,xs,rfl,hq,fx,fs,q⟩:=h;cases ry;rcases hq with hq|hq
 ·obtain⟨its,r,pl,hz⟩:=I.list hq;refine SeqAt.in_listAt (eqU x) pl.isList (λw hw=>v9 rx fx r fs w (by simpa using hw)) ⟨.bl _,H,I,rfl,?_⟩;rw[show its.toArray.any (eqU x)=its.any (eqU x) by simp,v8 r fs];exact q
 ·obtain⟨its,r,pl,hz⟩:=I.tuple hq;refine SeqAt.in_tupleAt (eqU x) pl (λw hw=>v9 rx fx r fs w (by simpa using hw)) ⟨.bl _,H,I,rfl,?_⟩;rw[show its.toArray.any (eqU x)=its.any (eqU x) by simp,v8 r fs];exact q
theorem zev:OpR X (compareOp .NotIn) (rIn X.K true):=by
 intro pins s σ H x y v u Q I rx ry h;obtain⟨p,xs,rfl,hq,fx,fs,q⟩:=h;cases ry;rcases hq with hq|hq
 ·obtain⟨its,r,pl,hz⟩:=I.list hq;refine SeqAt.notIn_listAt (eqU x) pl.isList (λw hw=>v9 rx fx r fs w (by simpa using hw)) ⟨.bl _,H,I,rfl,?_⟩;rw[show its.toArray.any (eqU x)=its.any (eqU x) by simp,v8 r fs];exact q
 ·obtain⟨its,r,pl,hz⟩:=I.tuple hq;refine SeqAt.notIn_tupleAt (eqU x) pl (λw hw=>v9 rx fx r fs w (by simpa using hw)) ⟨.bl _,H,I,rfl,?_⟩;rw[show its.toArray.any (eqU x)=its.any (eqU x) by simp,v8 r fs];exact q
theorem y8:ql X (.builtin "len") (λxs H Q=> ∃p ys,xs= [.ref p]/\(SqL X.K H p ys\/SqT X.K H p ys)/\Q (.int ys.length) H):=by
 intro pins s σ H xs us Q I r h;obtain⟨p,ys,rfl,hq,q⟩:=h;obtain⟨u,rfl,rx⟩:=qK r;cases rx;have hn:=vD;rcases hq with hq|hq
 ·obtain⟨its,r',pl,hz⟩:=I.list hq;have hlen:=r'.length;exact Calls.call_len_list pl.isList (by simp only[Jn]<;>omega) ⟨.int ys.length,H,I.tok _,⟨s.toks+1,by rw[Jn,hlen]⟩,q⟩
 ·obtain⟨its,r',pl,hz⟩:=I.tuple hq;have hlen:=r'.length;exact len_tuple pl (by simp only[Jn]<;>omega) ⟨.int ys.length,H,I.tok _,⟨s.toks+1,by rw[Jn,hlen]⟩,q⟩
theorem zgI:ql X (.builtin "len") (λxs H Q=> ∃z,xs= [.str z]/\z.length<=sizeLine/\Q (.int z.length) H):=by
 intro pins s σ H xs us Q I r h;obtain⟨z,rfl,hz,q⟩:=h;obtain⟨u,rfl,t,rfl⟩:=qK r;have hn:=vD;exact len_str 'o' ⟨.int z.length,H,I.tok _,⟨_,rfl⟩,q⟩
theorem ql.or{f:Value}{r r':List V->Hp->VK->Prop}(h:ql X f r)(h':ql X f r'):ql X f (λxs H Q=>r xs H Q\/r' xs H Q):=by
 intro pins s σ H xs us Q I rs q;rcases q with q|q
 ·exact h pins s σ H xs us Q I rs q
 ·exact h' pins s σ H xs us Q I rs q
def tyV(K:Fg)(T:String)(x:V)(H:Hp):Prop:=match x with
 | .str _=>T="str"
 | .int _=>T="int"
 | .ref p=>(T="list"/\ ∃xs,SqL K H p xs)\/(T="tuple"/\ ∃o,K.lookup p=some o/\o.cls= .type "tuple"/\o.dict=none)\/
   (T="dict"/\((∃kvs,H p=some (.dK kvs))\/ ∃kvs,H p=some (.dT kvs)))\/(T="set"/\ ∃S n,H p=some (.set S n))
 |_=>False
theorem ua{T:String}(I:Inv X pins σ H s)(r:zB x v)(ty:tyV X.K T x H):
  s.TypeIs v T/\ ∀a,v= .ref a-> ∃ob,s.heap.get? a=some ob/\ob.dict=none:=by
 cases x with
 |str z=>
  obtain⟨t,rfl⟩:=r;cases (show T="str" from ty);exact⟨typeIs_str s z t,λ_ e=>nomatch e⟩
 |int i=>
  obtain⟨t,rfl⟩:=r;cases (show T="int" from ty);exact⟨typeIs_int s i t,λ_ e=>nomatch e⟩
 |ref p=>
  cases r;rcases ty with⟨rfl,xs,hq⟩|⟨rfl,o,hk,hc,hd⟩|⟨rfl,hk⟩|⟨rfl,S,n,hk⟩
  ·obtain⟨its,_,pl,_⟩:=I.list hq;refine⟨pl.isList.typeIs,λa e=> ?_⟩;cases e;obtain⟨o,n,e,c,hd,_⟩:=pl;exact⟨o,e,hd⟩
  ·refine⟨⟨o,I.kIn p o hk,hc⟩,λa e=> ?_⟩;cases e;exact⟨o,I.kIn _ o hk,hd⟩
  ·have z: ∃o,s.heap.get? p=some o/\o.ExactDict:=by
    rcases hk with⟨kvs,hk⟩|⟨kvs,hk⟩
    ·obtain⟨_,_,_,_,o,_,_,e,ex,_⟩:=I.hok p _ hk;exact⟨o,e,ex⟩
    ·obtain⟨_,_,_,_,o,_,_,e,ex,_⟩:=I.hok p _ hk;exact⟨o,e,ex⟩
   obtain⟨o,e,ex⟩:=z;refine⟨⟨o,e,ex.1⟩,λa e2=> ?_⟩;cases e2;exact⟨o,e,ex.2.1⟩
  ·obtain⟨o,_,_,_,e,ex,_⟩:=I.hok p _ hk;refine⟨⟨o,e,ex.1⟩,λa e2=> ?_⟩;cases e2;exact⟨o,e,ex.2.1⟩
 |_=>exact False.elim ty
def zmP(K:Fg)(T:String)(r:V->List V->Hp->VK->Prop)(to:TE):TE:=λσ H Q=>to σ H λx H1=>tyV K T x H1/\r x [] H1 Q
def tBM(K:Fg)(T:String)(r:V->List V->Hp->VK->Prop)(to:TE)(t:TA):TE:=λσ H Q=>to σ H λx H1=>tyV K T x H1/\t σ H1 λxs H2=>r x xs H2 Q
variable {o e:Expr} {es:List Expr} {to:TE} {t:TA} {name:Str} {apos cpos:Pos} {T id:String} {r:V->List V->Hp->VK->Prop}
theorem zlW(pa:PlainAttrs T)(slot:Slot T name id)(hty:typeOf (.builtin id)=pure (.type "method_descriptor"))(hm:MtR X id r)(ho:PE X o to)
  (hbase:attributeBase o name X.env (eval o X.env)=eval o X.env:=by rfl) (hline:(apos.endLine==cpos.line)=true:=by rfl):PE X (.Call (.Attribute o name apos) [] [] cpos) (zmP X.K T r to):=by
 intro pins s σ H Q I h;refine wpAny_Call_method0_late hbase hline (thn (ho pins s σ H _ I h) λv s1 ⟨x,H1,I1,r1,ty,q1⟩=> ?_);obtain⟨h1,h2⟩:=ua I1 r1 ty;exact⟨T,id,pa,slot,hty,h1,h2,Calls.callWith_builtin rfl (PySem.evalArgs_none (hm pins s1 σ H1 x [] v [] Q I1 r1 .nil q1))⟩
theorem yU(pa:PlainAttrs T)(slot:Slot T name id)(hty:typeOf (.builtin id)=pure (.type "method_descriptor"))(hm:MtR X id r)(ho:PE X o to)(ha:PA X (e::es) t)
  (hbase:attributeBase o name X.env (eval o X.env)=eval o X.env:=by rfl)
  (hfew:((backTo cpos (starEach (e::es) X.env)).all (λx=> !x.1) && (backToKw cpos (keywordEach [] X.env)).all (λx=>x.1.isSome)
   && decide ((e::es).length+([]:List Keyword).length+(if ([]:List Keyword).isEmpty then 0 else 1)<30))=true:=by rfl)
  (hline:(apos.endLine==cpos.line)=true:=by rfl) (hs:starEach (e::es) X.env=(false,eval e X.env)::starEach es X.env:=by rfl) (hplain:(backTo cpos (starEach es X.env)).any (·.1)=false:=by rfl):
  PE X (.Call (.Attribute o name apos) (e::es) [] cpos) (tBM X.K T r to t):=by
 intro pins s σ H Q I h;refine wpAny_Call_method_late hbase hfew hline rfl (thn (ho pins s σ H _ I h) λv s1 ⟨x,H1,I1,r1,ty,q1⟩=> ?_);obtain⟨h1,h2⟩:=ua I1 r1 ty;refine⟨T,id,pa,slot,hty,h1,h2,?_⟩;have hA:=ha cpos pins s1 σ H1 _ I1 q1;rw[hs] at hA ⊢;refine Calls.callWith_builtin (by show (false||(backTo cpos (starEach es X.env)).any (·.1))=false;rw[hplain]<;>rfl) (Calls.evalArgs_plain ?_);exact thn hA λus s2 ⟨vs,H2,I2,r2,q2⟩=>hm pins s2 σ H2 x vs v us Q I2 r1 r2 q2
end
def MtM(X:Cx)(id:String)(r:V->List V->Hp->VK->Prop):Prop:=
 ∀(pins:List (Addr×Obj)) (s:Shared) (σ:St) (H:Hp) (x:V) (xs:List V) (v:Value) (us:List Value) (Q:VK),Inv X pins σ H s->zB x v->zE xs us->r x xs H Q->
  wpAny (model X.prog X.w) X.A (call (.builtin id) (v::us)) (EP X pins σ Q) X.xe s
theorem zE.one: ∀{x:V} {us:List Value},zE [x] us-> ∃u,us= [u]/\zB x u
 |_,_, .cons r .nil=>⟨_,rfl,r⟩
theorem zE.eraseIdx: ∀{xs:List V} {us:List Value} (i:Nat),zE xs us->zE (xs.eraseIdx i) (us.eraseIdx i)
 |_,_,_, .nil=> .nil
 |_,_,0, .cons _ t=>t
 |_,_,i+1, .cons r t=> .cons r (zE.eraseIdx i t)
theorem zgc{α:Type}: ∀(l:List α) (i:Nat),(l.eraseIdx i).length<=l.length
 | [],_=>Je _
 |_::_,0=>Nat.le_succ _
 |_::r,i+1=>Nat.succ_le_succ (zgc r i)
section
variable {X:Cx} {pins:List (Addr×Obj)} {σ:St} {H:Hp} {s:Shared} {l b:Addr} {xs ys zs:List V}
theorem Inv.lset{its its':List Value}{n:Nat}{f:Array Value->Array Value}{t':Nat}(I:Inv X pins σ H s)(hH:H l=some (.lst xs))
  (e:s.heap.get? l=some {cls:= .type "list",data:= .seq its.toArray n}) (hf:f its.toArray=its'.toArray) (hv:zE ys its') (hz:ys.length<=sizeLine):
  Inv X pins σ (upd H l (.lst ys)) {s with heap:=s.heap.update l (Obj.mapSeq f),toks:=t'}:=by
 have q:=PySem.IsL.update e f;rw[hf] at q;refine I.write (x:=l) (e:=l) (by rw[hH];exact trivial) (.inl rfl) (λb' u hb hu=>(JW s.heap (Obj.mapSeq f) (Ne.symm hb)).trans hu) ⟨_,q⟩ ?_;exact⟨hz,its',_,hv,q⟩
theorem Inv.lnew{t':Nat}(I:Inv X pins σ H s)(hv:zE ys its)(hz:ys.length<=sizeLine):
  Inv X pins σ (upd H s.heap.objs.size (.lst ys)) {s with heap:=s.heap.push {cls:= .type "list",data:= .seq its.toArray},toks:=t'}:=
 I.laid (λ_ _ q=>JT _ q) (Je _) ⟨hz,its,0,hv,JV _ rfl⟩
theorem Inv.fresh(I:Inv X pins σ H s):H s.heap.objs.size=none:=I.hok.fresh (Je _)
theorem Inv.lstM(I:Inv X pins σ H s)(hH:H l=some (.lst xs)):xs.length<=sizeLine/\ ∃(its:List Value) (n:Nat),zE xs its/\xs.length=its.length/\s.heap.get? l=some {cls:= .type "list",data:= .seq its.toArray n}:=by
 obtain⟨z,its,n,r,e⟩:=I.hok l _ hH;exact⟨z,its,n,r,r.length,e⟩
theorem jN(h:n<=sizeLine):Builtin.List.listTooLong n=false:=by
 unfold Builtin.List.listTooLong;exact JM 'o'
end
section
variable {X:Cx}
def zh8:V->List V->Hp->VK->Prop:=λx vs H Q=> ∃l xs y,x= .ref l/\vs= [y]/\H l=some (.lst xs)/\xs.length<sizeLine/\Q .non (upd H l (.lst (xs++ [y])))
theorem wI:MtM X "list.append" zh8:=by
 intro pins s σ H x vs v us Q I rx rv h;obtain⟨l,xs,y,rfl,rfl,hH,hz,q⟩:=h;cases rx;obtain⟨u,rfl,ru⟩:=rv.one;obtain⟨z,its,n,r,hl,e⟩:=I.lstM hH;refine call_meets F.slot_list_append ⟨_,e,rfl⟩ F.entry_list_append (F.args_list_append_2 _ _) (PySem.list_append l its.toArray n u (by rw[Jn];omega)) ⟨e,?_⟩;refine⟨.non,_,I.lset (its':=its++ [u]) hH e (by simp) (r.append (.cons ru .nil)) ?_,rfl,q⟩;rw[Jj,List.length_singleton];omega
def zkE:V->List V->Hp->VK->Prop:=λx vs H Q=> ∃l b xs zs,x= .ref l/\vs= [.ref b]/\H l=some (.lst xs)/\H b=some (.lst zs)/\xs.length+zs.length<=sizeLine/\Q .non (upd H l (.lst (xs++zs)))
theorem ziE:MtM X "list.extend" zkE:=by
 intro pins s σ H x vs v us Q I rx rv h;obtain⟨l,b,xs,zs,rfl,rfl,hH,hB,hz,q⟩:=h;cases rx;obtain⟨u,rfl,ru⟩:=rv.one;cases ru;obtain⟨z,its,n,r,hl,e⟩:=I.lstM hH;obtain⟨z2,its2,n2,r2,hl2,e2⟩:=I.lstM hB;have hsz:its.toArray.size+its2.toArray.size<=sizeLine:=by rw[Jn,Jn];omega
 have hlong: ¬(!its.toArray.isEmpty && Builtin.List.listTooLong (its.toArray.size+its2.toArray.size))=true:=by
  rw[jN hsz,Bool.and_false];exact Ju
 refine call_meets F.slot_list_extend ⟨_,e,rfl⟩ F.entry_list_extend (F.args_list_extend_2 _ _)
  (AutoSeq1.list_extend_list_list_0 l its.toArray n b its2.toArray n2 hlong (by rw[Jn];omega) 'o') ⟨e,e2,?_⟩
 refine⟨.non,_,I.lset (its':=its++its2) hH e (by simp) (r.append r2) ?_,rfl,q⟩;rw[Jj];omega
def zjs:V->List V->Hp->VK->Prop:=λx vs H Q=> ∃l xs i k y,x= .ref l/\vs= [.int i]/\H l=some (.lst xs)/\ -(2 ^ 63)<=i/\i<2 ^ 63/\seqIndex? i xs.length=some k/\xs[k]? =some y/\Q y (upd H l (.lst (xs.eraseIdx k)))
theorem jO:MtM X "list.pop" zjs:=by
 intro pins s σ H x vs v us Q I rx rv h;obtain⟨l,xs,i,k,y,rfl,rfl,hH,h1,h2,hk,hy,q⟩:=h;cases rx;obtain⟨u,rfl,ru⟩:=rv.one;obtain⟨t,rfl⟩:=ru;obtain⟨z,its,n,r,hl,e⟩:=I.lstM hH;obtain⟨w,hw,rw'⟩:=r.get hy;refine call_meets F.slot_list_pop ⟨_,e,rfl⟩ F.entry_list_pop (F.args_list_pop_2 _ _)
  (MeetsSeq.list_pop_at l its.toArray n i t k w (fitsIndex_both h1 h2) (by rw[Jn,<-hl];exact hk) (by rw[<-JF];exact hw) (by rw[Jn];omega)) ⟨e,?_⟩
 refine⟨y,_,I.lset (its':=its.eraseIdx k) hH e ?_ (r.eraseIdx k) ?_,rw',q⟩
 ·show its.toArray.eraseIdxIfInBounds k=(its.eraseIdx k).toArray;rw[List.eraseIdxIfInBounds_toArray]
 ·have:=zgc xs k;omega
def znq:R2:=λx y H Q=> ∃l b xs zs,x= .ref l/\y= .ref b/\H l=some (.lst xs)/\H b=some (.lst zs)/\xs.length+zs.length<=sizeLine/\ ∀p,H p=none->Q (.ref p) (upd H p (.lst (xs++zs)))
theorem zlX:OpR X (binaryOp .Add) znq:=by
 intro pins s σ H x y v u Q I rx ry h;obtain⟨l,b,xs,zs,rfl,rfl,hH,hB,hz,q⟩:=h;cases rx;cases ry;obtain⟨z,its,n,r,hl,e⟩:=I.lstM hH;obtain⟨z2,its2,n2,r2,hl2,e2⟩:=I.lstM hB;refine PySem.P.add_list e e2 ?_ (by rw[Jn,Jn];omega);have ea:its.toArray++its2.toArray=(its++its2).toArray:=by simp
 rw[ea];exact⟨.ref _,_,I.lnew (t':=s.toks) (r.append r2) (by rw[Jj];omega),rfl,q _ I.fresh⟩
end
section
variable {prog:Program} {w:World} {A:Around} {E:Value->Shared->Prop} {s:Shared}
theorem zhF{a c:Nat}(hac:a<=c)(hc:c<=n):sliceBounds (some (a:Int)) (some (c:Int)) none n=((a:Int),(c:Int),1):=by
 simp only[sliceBounds,Option.getD_none];have h1: ¬((a:Int)<0):=by omega
 have h2: ¬((c:Int)<0):=by omega
 simp only[h1,h2,if_false,show (1:Int)>0 by decide,if_true];congr 1
 ·omega
 ·congr 1;omega
set_option maxRecDepth 100000 in
theorem zkv{l b sl:Addr}{items new:Array Value}{n n2:Nat}{vl vu:Value}{a c:Nat}{Q:Unit->Shared->Prop}
  (e:s.heap.get? l=some {cls:= .type "list",data:= .seq items n}) (e2:s.heap.get? b=some {cls:= .type "list",data:= .seq new n2}) (hne:l≠b)
  (hs:s.heap.IsSliceOf sl vl vu .none) (pl:IsPart vl (some (a:Int))) (pu:IsPart vu (some (c:Int))) (hac:a<=c) (hc:c<=items.size)
  (hsz:items.size+new.size<=sizeLine) (h:Q () {s with heap:=s.heap.update l (Obj.mapSeq λxs=>xs.extract 0 a++new++xs.extract c xs.size)}):
  wpAny (model prog w) A (setItem (.ref l) (.ref sl) (.ref b)) Q E s:=by
 have hl:s.heap.IsList l items:=PySem.IsL.isList e;have hb:s.heap.IsList b new:=PySem.IsL.isList e2;obtain⟨os,hos,hcs,hds⟩:=id hs;have hTs:s.TypeIs (.ref sl) "slice":=⟨os,hos,hcs⟩
 have hstep: ¬((rawPart none==rawInt 0)=true):=Ju;have hsame:Builtin.List.listSameRef (.ref l) (.ref b)=false:=by
  unfold Builtin.List.listSameRef;exact beq_eq_false_iff_ne.mpr hne
 have hmax:(max (a:Int) (c:Int)).toNat=c:=by omega
 have hz':((λxs:Array Value=>xs.extract 0 a++new++xs.extract c xs.size) items).size<=sizeLine+1:=by
  simp only[Array.size_append,Array.size_extract];omega
 unfold setItem;try with_reducible refine wpAny_holding ?_
 first|refine JR (JS ?_)|skip
 refine JR (wpAny_sequenceKey hl.typeIs 'd' ?_);refine JR (wpAny_callSpecial?_slot (name:=Str.ofString "__setitem__") hl.typeIs slot_list_setitem
  (wpAny_call_entry slot_list_setitem hl.typeIs entry_list_setitem ?_ (args_list_setitem _ _ _)))
 show wpAny _ _ (Builtin.List.listSubscript? (.ref sl)>>=_) _ _ s;refine JR ?_;unfold Builtin.List.listSubscript?;refine JR (wpAny_specialOf hTs slice_no_index ?_);simp only[Option.isNone_none,if_true];refine JS ?_;show wpAny _ _ (typeOf (.ref sl)>>=_) _ _ s;refine JR (wpAny_typeOf hTs ?_);first
  |rw[Jf 'd']
  |refine PySem.W.KFB.if_not 'd' ?_
 rw[listSliceParts_eq];refine JR (JR (wpAny_field hos hds (x:= .none) rfl (JR (wpAny_listPart .none ?_))));rw[Jf hstep];refine JR (wpAny_field hos hds (x:=vl) rfl (JR (wpAny_listPart pl ?_)));refine JR (wpAny_field hos hds (x:=vu) rfl (JR (wpAny_listPart pu (JS ?_))));first
  |simp only[hsame,Js,if_false]
  |refine PySem.W.KFB.if_not hsame ?_
  |(dsimp only
    rw[Jf (by rw[hsame];exact Ju)])
 refine JR (m:=Builtin.List.listAllItems (.ref b) "must assign iterable to extended slice") ?_;unfold Builtin.List.listAllItems;refine JR (wpAny_typeOf hb.typeIs ?_);first
  |refine PySem.W.KFB.if_so 'd' ?_
  |rw[Jg 'd']
  |simp only[beq_self_eq_true,Bool.true_or,if_true]
 unfold Builtin.List.listItems;refine JR (wpAny_seqItems e2 rfl (JS ?_));refine JR (JR (wpAny_seqItems e rfl (JS ?_)));refine JR (wpAny_of_eq ((sliceIndices_raw (some (a:Int)) (some (c:Int)) none items.size (by simp)).trans (congrArg (pure:Int×Int×Int->Sem (Int×Int×Int)) (zhF hac hc))) ?_);show wpAny _ _ (if ((1:Int)==1)=true then _ else _) _ _ s;rw[Jg 'd'];refine JR (wpAny_rule ?_);first
  |simp only[jN hsz,Js,if_false]
  |refine PySem.W.KFB.if_not (jN hsz) ?_
 first|refine JR (JS ?_)|skip
 show wpAny _ _ (updateSeq l (λxs=>xs.extract 0 ((a:Int)).toNat++new++xs.extract (max (a:Int) (c:Int)).toNat xs.size)>>=_) _ _ s;rw[hmax,JE];refine JR (wpAny_updateSeq (hz:=JD (Nat.le_add_right _ _) hsz) (_hz':=hz') e rfl ?_);refine JR (wpAny_letGo ?_);first
  |exact JR (JS (JS ⟨.none,rfl,JS h⟩))
  |exact JS ⟨.none,rfl,JS h⟩
end
section
variable {X:Cx}
end
end L2
namespace Att
open PySem PySem.W PySem.Calls PyProof.Rows
theorem zfa{P:Params}{h:Heap}: ∀(ns:List Int) (vs:List Value),WellAll P h vs (ns.map WData.int)->IntsAre vs ns:=by
 intro ns;induction ns with
 |nil=>
  intro vs w;rw[JN] at w;cases w;exact .nil
 |cons n ns ih=>
  intro vs w;rw[Jz] at w;cases w with
  |cons a b=>
   cases a;exact .cons _ _ (ih _ b)
theorem ziF{l:OpenLaw}{n:Nat}(hn:l.most=some n){P:Params}{h:Heap}{args:List WData}{vals:List Value}
  (hpre:l.row.toRowW.claim.pre args=true) (hwl:WellAll P h vals args):
  ∃a vs ns,vals= [Value.ref a]/\args= [WData.list (ns.map WData.int)]/\h.get? a=some {cls:= .type "list",data:= .seq vs.toArray}/\IntsAre vs ns/\ns.length<=n:=by
 have hsh:WShape.hasAll [] args [.list .int]=true:=(pre_splitW hpre).1;have hc:l.pre.holds [] {args:=args}=true:=(pre_splitW hpre).2;obtain⟨d,r,rfl,h1,h2⟩:=hasAllW_cons hsh;obtain rfl:=hasAllW_nil h2;obtain⟨xs,rfl,h3⟩:=hasW_list h1;obtain⟨ns,rfl⟩:=items_int h3;have hlen:ns.length<=n:=by
  unfold OpenLaw.pre at hc;have h4:(WTm.not (.lt (.lit (.int (n:Int))) (.len (.arg 0)))).holds [] {args:= [.list (ns.map .int)]}=true:=by
   have h4:=(holds_andW hc).1;rw[hn] at h4;exact h4
  have h5:=condW_of h4 (w_not (w_lt w_lit (w_len_list (w_arg rfl))));rw[Ja] at h5;refine Nat.le_of_not_lt λq=> ?_;have q':(n:Int)<((ns.length:Nat):Int):=by omega
  first
   |(rw[JL q'] at h5;exact absurd h5 'd')
   |(simp at h5;omega)
 cases hwl with
 |cons w1 w2=>
  cases w2;cases w1 with
  |list ho hall=>exact⟨_,_,ns,rfl,rfl,ho,zfa ns _ hall,hlen⟩
theorem ziG(l:OpenLaw)(args:List WData):l.row.toRowW.claim.post args (.bool true) args=true:=
 postW_of (r:=l.row.toRowW) (X:=(true==true))
  (show WShape.has [] (.bool true) .bool=true by first|rfl|decide|simp [WShape.has,WShape.arms,WShape.armsAll])
  (show (WTm.eq .res (.lit (.bool true))).value [] {args:=args,res:=some (.bool true),after:=args}=some (.bool (true==true)) from w_eq_bool (w_res rfl) w_lit) rfl
theorem attach_call{l:OpenLaw}{n:Nat}{q:Program}{loose:List Str}{XP:(Str->Option Value)->Heap->Prop}{YP:World->Heap->Prop}{d:DefRec}
  (hn:l.most=some n) (hdf:d.params.defaults= [])
  (call: ∀(w:World) (s₀ s₁:Shared) (mg mb:Str->Option Value) (fa:Addr) (o:Obj) (pm cd doc:Value) (a:Addr) (vs:List Value) (ns:List Int),
   Ground q loose [] XP w s₀ mg mb s₁.heap->YP w s₁.heap->
   s₁.heap.get? fa=some o->o.data= .func (docDef d.name d.params d.body d.scope pm cd doc)->s₁.heap.CodeRec cd d.name->mg d.name=some (.ref fa)->
   s₁.heap.get? a=some {cls:= .type "list",data:= .seq vs.toArray}->IntsAre vs ns->ns.length<=n->s₁.gens= #[]->
   codeAny (model l.prog w) callerA (.call (.ref fa) ⟨[.ref a], []⟩) (λr s'=>r= .ok (.ret (.bool true))/\OldK s₁.heap s'.heap/\s'.os=s₁.os/\AllBare s'.gens) s₁):
  WalkO q loose XP YP l.row.toRowW d [] (λf vs=>PySem.call f vs):=by
 intro w s₀ s₁ mg mb G Y fa o pm cd doc dV kV ho hd hcd hD hmg hg args vals as hpre hlay hrd hwl hlo;obtain rfl:dV= .none:=Dflts.none hD hdf;obtain rfl:kV= .none:=Dflts.noKw hD;obtain⟨a,vs,ns,rfl,rfl,hobj,hints,hlen⟩:=ziF hn hpre hwl;refine enter_call (codeAny_mono (call w s₀ s₁ mg mb fa o pm cd doc a vs ns G Y ho (fd_plain hd) hcd hmg hobj hints hlen hg) λr s' hq=> ?_);obtain⟨rfl,h2,h3,h4⟩:=hq;exact⟨.inl ⟨.bool true, .bool true, [],rfl,λ_=>rfl, .bool true,ziG l _,λ_=>⟨List.Pairwise.nil,λ_ hm=>(nomatch hm)⟩⟩,h2,h3,h4⟩
section
variable {prog:Program} {w:World} {A:Around} {E:Value->Shared->Prop} {s:Shared} {K:Frag}
end
end Att
namespace L2
open PySem PySem.Spec PyProof.Rows
variable{fd:FuncData}{x qual:Str}{st:Stmt}{f:Addr}{H:Hp}
theorem zgd: ∀{vs:List Value} {ns:List Int},IntsAre vs ns->zE (ns.map V.int) vs
 |_,_, .nil=> .nil
 |_,_, .cons n t h=> .cons ⟨t,rfl⟩ (zgd h)
def jP(H:Hp):Prop:= ∀b,H b=none\/ ∃o xs,H b=some (.frz o (.lst xs))
theorem zjt{P:Program}{w:World}{K:Fg}{mg mb:Str->Option Value}{CX:CXT}{k:Nat}{fa a:Addr}{fd:FuncData}{x:Str}{sp:Sp}{s₁:Shared}{vs:List Value}{ns:List Int}
  (KX:K.In s₁.heap) (hns:s₁.heap.Ns mainGlobals mg) (hb:s₁.heap.Ns builtinsNs mb) (hbb: ∀x:Str,x≠"__name__"->mb x=bootBuiltins x) (hlim:s₁.heap.NoLimit) (hg:s₁.gens= #[])
  (ha:s₁.heap.get? a=some {cls:= .type "list",data:= .seq vs.toArray}) (hi:IntsAre vs ns) (hl:ns.length<=sizeLine) (hr:Room k callerA)
  (F: ∀base:Heap,K.In base->base.Ns mainGlobals mg->FnOk P w K mg base CX k fa fd [x] sp) (hbind: ∀(s:Shared) (u:Value),BindsTo s fd ⟨[u], []⟩ [(x,u)])
  (hsp: ∀H:Hp,jP H->SqL K H a (ns.map V.int)->sp [.ref a] H (λv _=>v= .bl true) λ_ _ _=>False)
  (hCX: ∀H e s',CX [] H s₁ (λ_ _ _=>False) e s'->False):
  codeAny (model P w) callerA (.call (.ref fa) ⟨[.ref a], []⟩) (λr s'=>r= .ok (.ret (.bool true))/\OldK s₁.heap s'.heap/\s'.os=s₁.os/\AllBare s'.gens) s₁:=by
 have rv:=zgd hi;have lenV:=hi.length;have core: ∀H:Hp,jP H->SqL K H a (ns.map V.int)->HOk P w H s₁.heap->(∀b,H b≠none->b=a)->(H a≠none->K.lookup a=none)->
   codeAny (model P w) callerA (.call (.ref fa) ⟨[.ref a], []⟩) (λr s'=>r= .ok (.ret (.bool true))/\OldK s₁.heap s'.heap/\s'.os=s₁.os/\AllBare s'.gens) s₁:=by
  intro H hO hS hok hA hK;have base_of: ∀{b:Addr} {o:Obj},s₁.heap.get? b=some o->H b=none->(wu s₁.heap H).get? b=some o:=λe n=>zje e n;have noA: ∀{b:Addr} {o:Obj} {es:Array DictEntry} {ep:Nat},s₁.heap.get? b=some o->o.data= .dict es ep->H b=none:=fun {b o es ep} e d=>by
   cases q:H b with
   |none=>rfl
   |some u=>
    have e':b=a:=hA b (by rw[q];simp);subst e';rw[ha] at e;cases e;have d':Data.seq vs.toArray _=Data.dict es ep:=d;cases d'
  have nsK: ∀{b:Addr} {m:Str->Option Value},s₁.heap.Ns b m->(wu s₁.heap H).Ns b m:=fun {b m} ⟨o,es,ep,e,d,r⟩=>⟨o,es,ep,base_of e (noA e d),d,r⟩
  have hKb:K.In (wu s₁.heap H):=λb o e=>base_of (KX b o e) (by
   cases q:H b with
   |none=>rfl
   |some u=>
    have e':b=a:=hA b (by rw[q];simp);subst e';rw[hK (by rw[q];simp)] at e;cases e)
  have hM:Mod K mg (wu s₁.heap H):=⟨hKb,nsK hns,⟨mb,nsK hb,hbb⟩,let ⟨mc,h1,h2⟩:=hlim;⟨mc,nsK h1,h2⟩⟩
  have e0:Env0 P w K mg (wu s₁.heap H) callerA [] s₁ H:=⟨rfl,hM,λb o e=>zkw e,Nat.le_of_eq (zix _ _),trivial,λb hb=>absurd (show b∈([]:List Addr) from hb) (by simp),hok, .of_eq hg⟩
  refine codeAny_mono ((F _ hKb (nsK hns)).run callerA [] s₁ H ⟨[.ref a], []⟩ [.ref a] [.ref a] _ _ hr e0 (hbind s₁ (.ref a)) (.cons rfl .nil) (hsp H hO hS)) λr s' h=> ?_;cases r with
  |error e=>exact(hCX H e s' h).elim
  |ok fl=>
   cases fl with
   |next=>exact False.elim h
   |brk=>exact False.elim h
   |cont=>exact False.elim h
   |ret u=>
    obtain⟨v,H',os,bare,un,hok',r',q⟩:=h;have q':v= .bl true:=q;subst q';obtain rfl:u=Value.bool true:=r';refine⟨rfl,OldK.of_keep λb o e=> ?_,os,bare⟩;cases q:H b with
    |none=>exact un.keep b o e q (by intro z;exact absurd (show b∈([]:List Addr) from z) (by simp)) (by simp)
    |some u=>
     rcases hO b with z|⟨ob,xs,z⟩
     ·rw[q] at z;cases z
     ·have z2:=un.frzs b ob _ z;obtain⟨e1,_⟩:=hok b _ z;obtain⟨e2,_⟩:=hok' b _ z2;rw[e] at e1;cases e1;exact e2
 cases hk:K.lookup a with
 |some o=>
  have e:=KX a o hk;rw[ha] at e;cases e;refine core (λ_=>none) (λ_=> .inl rfl) (.inr ⟨_,vs.toArray,_,hk,rfl,rfl,rfl,by rw[Jn,lenV];exact hl,by simpa using rv⟩) (λb u z=>by have z':(none:Option HO)=some u:=z;cases z') (λb z=>absurd rfl z) λz=>absurd rfl z
 |none=>
  refine core (λb=>if b=a then some (.frz {cls:= .type "list",data:= .seq vs.toArray} (.lst (ns.map V.int))) else none) (λb=> ?_) (.inl (.inr ⟨{cls:= .type "list",data:= .seq vs.toArray},Jg rfl⟩)) (λb u z=> ?_) (λb z=> ?_) λ_=>hk
  ·by_cases hb:b=a
   ·exact .inr ⟨_,_,Jg hb⟩
   ·exact .inl (Jf hb)
  ·by_cases hb:b=a
   ·have z':=(Jg hb).symm.trans z;cases z';subst hb;exact⟨ha,by rw[Ja];exact hl,vs,_,rv,ha⟩
   ·have z':=(Jf hb).symm.trans z;cases z'
  ·by_cases hb:b=a
   ·exact hb
   ·exact absurd (Jf hb) z
abbrev KOf{K:Fg}{h:Heap}(_:K.In h):Fg:=K
theorem walk_of{l:PySem.W.OpenLaw}{n k:Nat}{q:Program}{loose:List Str}{XP:(Str->Option Value)->Heap->Prop}{YP:World->Heap->Prop}{d:DefRec}{K:Params->Fg}{CX:World->CXT}{sp:World->Sp}{x:Str}
  (hn:l.most=some n) (hn2:n<=sizeLine) (hdf:d.params.defaults= []) (hr:Room k callerA)
  (hY: ∀(w:World) (h:Heap),YP w h->(K w.params).In h)
  (F: ∀(w:World) (mg:Str->Option Value) (fa:Addr) (h:Heap),(K w.params).In h->h.Ns mainGlobals mg->mg d.name=some (.ref fa)->
   ∃fd:FuncData,(∀(s:Shared) (u:Value),BindsTo s fd ⟨[u], []⟩ [(x,u)])/\
    ∀base:Heap,(K w.params).In base->base.Ns mainGlobals mg->FnOk l.prog w (K w.params) mg base (CX w) k fa fd [x] (sp w))
  (hsp: ∀(w:World) (H:Hp) (a:Addr) (ns:List Int),ns.length<=n->jP H->SqL (K w.params) H a (ns.map V.int)->sp w [.ref a] H (λv _=>v= .bl true) λ_ _ _=>False)
  (hCX: ∀(w:World) (H:Hp) (s:Shared) (e:Value) (s':Shared),CX w [] H s (λ_ _ _=>False) e s'->False):
  PySem.W.WalkO q loose XP YP l.row.toRowW d [] (λf vs=>PySem.call f vs):=by
 refine Att.attach_call hn hdf λw s₀ s₁ mg mb fa o pm cd doc a vs ns G Y ho hd hcd hmg hobj hints hlen hg=> ?_;have KX:=hY w _ Y;obtain⟨fd,hb,hF⟩:=F w mg fa _ KX G.T.g hmg;exact zjt KX G.T.g G.T.b G.T.builtins G.T.nolimit hg hobj hints (JD hlen hn2) hr hF hb (λH hO hS=>hsp w H a ns hlen hO hS) λH e s'=>hCX w H s₁ e s'
def wJ(s:Stmt):Arguments:=match s with
 | .FunctionDef _ a _ _ _ _ _ _ _ _=>a
 |_=>{posonlyargs:= [],args:= [],vararg:=none,kwonlyargs:= [],kw_defaults:= [],kwarg:=none,defaults:= []}
def xy(s:Stmt):List Stmt:=match s with
 | .FunctionDef _ _ b _ _ _ _ _ _ _=>b
 |_=> []
def zC(s:Stmt):Scope:=match s with
 | .FunctionDef _ _ _ _ _ _ sc _ _ _=>sc
 |_=>{kind:= .function,names:= [],isGenerator:=false,isCoroutine:=false}
abbrev CX0:CXT:=λ_ _ _ _ _ _=>False
structure Fun (K:Fg) (x qual:Str) (st:Stmt) (f:Addr) (fd:FuncData):Prop where
 ex: ∃(oc:Value) (od:Option Addr) (kV doc pm:Value) (an:Option Addr) (cdv ct:Value) (osl:Array (Option Value)),
  fd=PySem.W.fnOf x qual (wJ st) (xy st) (zC st) .none kV doc pm an cdv ct/\K.lookup f=some ⟨oc,od, .func fd,osl⟩/\PySem.W.codeIn K cdv qual=true
 kp:PySem.W.keepIn K (.ref f)=true
section
variable {P:Program} {w:World} {K:Fg} {mg:Str->Option Value} {base:Heap}
theorem Fun.ok{N ps:List Str}{k:Nat}{sp:Sp}(F:Fun K x qual st f fd)(S:FnScope N ps (zC st))(len: ∀vs H Q E,sp vs H Q E->vs.length=ps.length)
  (hbody: ∀(cdv:Value) (A:Around) (outer:List Env) (s:Shared) (H:Hp) (vs:List V) (Q:VK) (E:XK),Room k (A.deeper (envOfC qual (zC st) s.heap.objs.size f cdv))->sp vs H Q E->
   ∃t,PSs (qt CX0 P w K mg base N qual (zC st) f cdv A outer s H E).nox (xy st) t/\t {nx:=λ_ H'=>Q .non H',rt:=Q} (start N vs) H):FnOk P w K mg base CX0 (k+1) f fd ps sp:=by
 obtain⟨oc,od,kV,doc,pm,an,cdv,ct,osl,rfl,lk,hcd⟩:=F.ex;refine jJ lk hcd S len λA outer s H vs Q E hr hsp=> ?_;obtain⟨t,h,q⟩:=hbody cdv A outer s H vs Q E hr hsp;exact⟨t,h.nox,q⟩
theorem Fun.binds{ps:List Str}(F:Fun K x qual st f fd)
  (h: ∀(kV doc pm:Value) (an:Option Addr) (cdv ct:Value) (us:List Value),us.length=ps.length->bindArgs (PySem.W.fnOf x qual (wJ st) (xy st) (zC st) .none kV doc pm an cdv ct) ⟨us, []⟩=pure (ps.zip us)):zN K fd ps []:=by
 obtain⟨oc,od,kV,doc,pm,an,cdv,ct,osl,rfl,lk,hcd⟩:=F.ex;exact .all (h kV doc pm an cdv ct)
theorem zx{oc:Value}{od an:Option Addr}{osl:Array (Option Value)}{kV doc pm cdv ct:Value}(l:K.lookup f=some ⟨oc,od, .func (PySem.W.fnOf x qual (wJ st) (xy st) (zC st) .none kV doc pm an cdv ct),osl⟩)
  (c:PySem.W.codeIn K cdv qual=true) (k:PySem.W.keepIn K (.ref f)=true):Fun K x qual st f (PySem.W.fnOf x qual (wJ st) (xy st) (zC st) .none kV doc pm an cdv ct):=⟨⟨oc,od,kV,doc,pm,an,cdv,ct,osl,rfl,l,c⟩,k⟩
end
theorem zlu{A:Around}{k:Nat}(hr:Room k A):A.units+1<cLine:=Nat.lt_of_le_of_lt (Nat.add_le_add_left (by decide:1<=64) _) hr.units
theorem ziH{n:Nat}(h:n<=1000):n<sizeLine:=Nat.lt_of_le_of_lt h 'd'
section
variable {X:Cx}
theorem pv(i:Nat){pos:Pos}(hN:X.N[i]? =some x:=by rfl)(hv:Vis X.env.scope x:=by first|exact Or.inl rfl|exact Or.inr (Or.inl rfl)|exact Or.inr (Or.inr rfl))(hd:(x==("__debug__":Str))=false:=by decide)
  (hcd:(x==("__classdict__":Str))=false:=by decide):PE X (.Name x pos) (zW i):=zlL hN hv hd hcd
end
def zq(H H':Hp):Prop:= ∀b o,H b=some o->H' b=some o
theorem zq.refl(H:Hp):zq H H:=λ_ _ h=>h
theorem zq.trans{H1 H2:Hp}(a:zq H H1)(b:zq H1 H2):zq H H2:=λc o h=>b c o (a c o h)
theorem zq.free{H':Hp}(e:zq H H'){l:Addr}(h:H' l=Option.none):H l=Option.none:=by
 cases q:H l with
 |none=>rfl
 |some o=>
  rw[e l o q] at h;cases h
theorem zq.seq{K:Fg}{H':Hp}{a:Addr}{xs:List V}(e:zq H H')(h:SqL K H a xs):SqL K H' a xs:=by
 rcases h with(h|⟨o,h⟩)|h
 ·exact .inl (.inl (e _ _ h))
 ·exact .inl (.inr ⟨o,e _ _ h⟩)
 ·exact .inr h
end L2
set_option maxHeartbeats 4000000
namespace L2
open PySem PySem.Spec PyProof.Rows
variable{P:Program}{w:World}{H H':Hp}{h base:Heap}{a f C ea p:Addr}{o:HO}{K:Fg}{mg:Str->Option Value}{N:List Str}{qual p0 p1:Str}{scope:Scope}{A:Around}{s:Shared}{pins:List (Addr×Obj)}{σ:St}{Q:VK}{M:Model}{i:Int}{n:Nat}{pos:Pos}{x v:V}{st:Stmt}{fd:FuncData}{X:Cx}{b:Bool}{xs ys:List V}{cs:List Nat}{tb:TS}{env:Env}{wi:TI}{ds:List D}{d e:D}
theorem yZ.is(x:yZ P w H h a o): ∃ob,h.get? a=some ob:=by
 cases o with
 |lst xs=>obtain⟨_,_,_,_,e⟩:=x;exact⟨_,e⟩
 |tup xs=>obtain⟨_,_,_,ob,e,_⟩:=x;exact⟨_,e⟩
 |dK kvs=>obtain⟨_,_,_,_,o,_,_,e,_⟩:=x;exact⟨_,e⟩
 |dT kvs=>obtain⟨_,_,_,_,o,_,_,e,_⟩:=x;exact⟨_,e⟩
 |set S n=>obtain⟨o,_,_,_,e,_⟩:=x;exact⟨_,e⟩
 |ins C dx fs=>obtain⟨_,_,_,e,_⟩:=x;exact⟨_,e⟩
 |own y=>obtain⟨_,e⟩:=x;exact⟨_,e⟩
 |xd fs=>obtain⟨_,⟨_,_,_,e,_⟩,_⟩:=x;exact⟨_,e⟩
 |rng lo hi=>obtain⟨_,_,_,e⟩:=x;exact⟨_,e⟩
 |frz ob u=>obtain⟨e,_⟩:=x;exact⟨_,e⟩
 |tbl ps=>exact⟨_,(show h.get? a=some _ from x)⟩
 |met f y=>exact⟨_,(show h.get? a=some _ from x)⟩
 |ext φ=>obtain⟨_,⟨_,e⟩,_⟩:=x;exact⟨_,e⟩
structure Fly (P:Program) (w:World) (l:List Env) (H:Hp) (s:Shared) (ea:Addr) (cls:Value) (H':Hp) (s':Shared):Prop where
 os:s'.os=s.os
 bare:AllBare s'.gens
 un:Un (frs l) [] H H' s.heap s'.heap
 ex: ∃B a0,Heap.FlyingW B l ea cls a0 s'.heap/\HOk P w H' B/\(∀b o,s.heap.get? b=some o->H b=none->b∉frs l->B.get? b=some o)/\
  ∀b o,s.heap.get? b=some o->b∉frs l-> ∃o',B.get? b=some o'
structure Cx.Own (X:Cx):Prop where
 stk:X.stack=X.env::X.outer
 fr:X.env.frame=some X.env.locals
 ex:X.ex= []
section
variable {X:Cx} {pins:List (Addr×Obj)} {σ:St} {H H':Hp} {s s':Shared} {ea:Addr} {cls a0:Value} {B h1 h2 h':Heap} {M:Model} {E:Value->Shared->Prop} {Q:Unit->Shared->Prop}
theorem Inv.fly_out(W:X.Own)(I:Inv X pins σ H s)(u:Un (frs X.stack) [] H H' s.heap h1)(up:h1.UpToSlots s'.heap)(ff:h1.FunFrames B X.stack)(fl:Heap.FlyingW B X.outer ea cls a0 s'.heap)(hok:HOk X.prog X.w H' B)
  (kp: ∀b o,s.heap.get? b=some o->H b=none->b∉frs X.stack->B.get? b=some o) (th: ∀b o,s.heap.get? b=some o->b∉frs X.stack-> ∃o',B.get? b=some o') (os:s'.os=s.os) (bare:AllBare s'.gens):
  Fly X.prog X.w X.outer X.H₀ X.s₀ ea cls H' s':=by
 have nst: ∀b o,X.s₀.heap.get? b=some o->b∉frs X.outer->b∉frs X.stack:=λb o e hb z=>by
  rcases JC.mp (I.stkSub b z) with q|q
  ·exact absurd q (JH (Jx (JU e) I.ok.above))
  ·exact hb q
 have nx: ∀b,b∉X.ex:=λb=>by rw[W.ex];simp
 have nn: ∀b:Addr,b∉([]:List Addr):=λb=>by simp
 have inS: ∀b,b∈frs X.outer->b∈frs X.stack:=λb hb=>by
  rw[W.stk];obtain⟨env,he,hf⟩:=List.mem_filterMap.mp hb;exact List.mem_filterMap.mpr ⟨env,Jl _ he,hf⟩
 have kpo: ∀b o,X.s₀.heap.get? b=some o->X.H₀ b=none->b∉frs X.outer->B.get? b=some o:=λb o e n hb=>
  kp b o (I.base.keep b o e n hb (nx b)) (I.base.free b o e n (nx b)) (nst b o e hb)
 refine⟨os.trans I.os,bare,⟨λb o e n hb _=>fl.1 b o (kpo b o e n hb),λb o e n hb _=> ?_,λb o e n _=> ?_,λb o e _=> ?_,λb xs e=>u.tups b xs (I.base.tups b xs e),λb o xs e=>u.frzs b o xs (I.base.frzs b o xs e),λb ps e=> ?_⟩,
  B,a0,fl,hok,kpo,λb o e hb=> ?_⟩
 ·obtain⟨sl,e1⟩:=I.base.slot b o e n hb (nx b);obtain⟨sl2,e2⟩:=u.any e1 (I.base.free b o e n (nx b)) (nn b);obtain⟨_,o',ho',hnf⟩:=ff.mem (inS b hb);rw[e2] at ho';cases ho';obtain⟨sl3,e3⟩:=up b _ e2 hnf;exact⟨sl3,e3⟩
 ·obtain⟨o',e1⟩:=I.base.there b o e (nx b);exact u.free b o' e1 (I.base.free b o e n (nx b)) (nn b)
 ·obtain⟨o1,e1⟩:=I.base.there b o e (nx b);by_cases hb:b∈frs X.stack
  ·obtain⟨_,o',ho',hnf⟩:=ff.mem hb;obtain⟨sl3,e3⟩:=up b _ ho' hnf;exact⟨_,e3⟩
  ·obtain⟨o2,e2⟩:=th b o1 e1 hb;exact⟨o2,fl.1 b o2 e2⟩
 ·obtain⟨m1,e1⟩:=I.base.tbls b ps e;obtain⟨m2,e2⟩:=u.tbls b _ e1;exact⟨m1++m2,by rw[e2,Array.append_assoc]⟩
 ·obtain⟨o1,e1⟩:=I.base.there b o e (nx b);exact th b o1 e1 (nst b o e hb)
theorem zlZ(W:X.Own)(I:Inv X pins σ H s)(F:Fly X.prog X.w X.stack H s ea cls H' s')
  (hQ: ∀h',Fly X.prog X.w X.outer X.H₀ X.s₀ ea cls H' {s' with heap:=h'}->Q () {s' with heap:=h'}):wpAny M X.A (leaving X.env (.ref ea)) Q E s':=by
 obtain⟨B,a0,fl,hok,kp,th⟩:=F.ex;have fl2:=fl;rw[W.stk] at fl2;refine wpAny_leaves_onW (by rw[I.ok.frames,W.stk]) W.fr fl2 λh' fl' up=>hQ h' ?_;exact I.fly_out W F.un up fl.2.2.1 fl' hok kp th F.os F.bare
theorem Inv.hide(I:Inv X pins σ H s):HOk X.prog X.w H (PySem.W.hideAll s.heap (frs X.stack))/\
  s.heap.FunFrames (PySem.W.hideAll s.heap (frs X.stack)) X.stack:=by
 refine⟨λa u e=>(I.hok a u e).stay (λb v hc q=>PySem.W.hideAll_get _ q λz=> ?_) (λ_ q=>q) λ_ _ q=>q,PySem.W.funFrames_hide I.stack λenv he a ha=>List.mem_filterMap.mpr ⟨env,he,ha⟩⟩;have n:=I.stkFree b z;rcases hc with rfl|hc
 ·rw[n] at e;cases e
 ·rw[n] at hc;cases hc
theorem zkF(W:X.Own)(I:Inv X pins σ H s){args:List Value}(hx:Heap.MadeExcOf s.heap h2 ea cls args)
  (hQ: ∀h',Fly X.prog X.w X.outer X.H₀ X.s₀ ea cls H {s with heap:=h'}->Q () {s with heap:=h'}):wpAny M X.A (leaving X.env (.ref ea)) Q E {s with heap:=h2}:=by
 obtain⟨hok,ff⟩:=I.hide;have ff2:=ff;rw[W.stk] at ff2;refine wpAny_leaves_madeW (s:={s with heap:=h2}) (base:=PySem.W.hideAll s.heap (frs X.stack)) (h:=s.heap) (by rw[I.ok.frames,W.stk]) W.fr (λb o q=>PySem.W.of_hideAll _ q) (by rw[<-W.stk];exact ff) hx λh' t fl tup bt up=>hQ h' ?_;exact I.fly_out (s':={s with heap:=h'}) W (Un.kept hx.keeps) up (ff.of_keeps λb o e _=>⟨o,hx.keeps b o e,rfl⟩) fl hok (λb o e _ hb=>PySem.W.hideAll_get _ e hb) (λb o e hb=>⟨o,PySem.W.hideAll_get _ e hb⟩) rfl I.bare
end
def CXE(P:Program)(w:World):CXT:=λl H s E e s'=> ∃ea cls H',e= .ref ea/\Fly P w l H s ea cls H' s'/\E cls none H'
structure Lv (X:Cx) (Ek:St->XK):Prop where
 call: ∀pins σ ea cls H H' s s',Inv X pins σ H s->Fly X.prog X.w X.stack H s ea cls H' s'->Ek σ cls none H'->X.xe (.ref ea) s'
structure LvR (X:Cx) (Ek:St->XK):Prop extends Lv X Ek where
 new: ∀pins σ ea cls args H s h2,Inv X pins σ H s->Heap.MadeExcOf s.heap h2 ea cls args->Ek σ cls none H->X.xe (.ref ea) {s with heap:=h2}
theorem uN{P:Program}{w:World}{K:Fg}{mg:Str->Option Value}{base:Heap}{N:List Str}{qual:Str}{scope:Scope}{f:Addr}{cd:Value}{A:Around}{outer:List Env}{s:Shared}{H:Hp}{E:XK}:
  LvR (qt (CXE P w) P w K mg base N qual scope f cd A outer s H E) (λ_=>E):=by
 have W:(qt (CXE P w) P w K mg base N qual scope f cd A outer s H E).Own:=⟨rfl,rfl,rfl⟩
 refine⟨⟨λpins σ ea cls H1 H' s1 s' I F q=> ?_⟩,λpins σ ea cls args H1 s1 h2 I hx q=> ?_⟩
 ·exact zlZ W I F λh' F=>⟨ea,cls,H',rfl,F,q⟩
 ·exact zkF W I hx λh' F=>⟨ea,cls,H1,rfl,F,q⟩
section
variable {X:Cx} {Ek:St->XK} {k:Nat} {f C:Addr} {fd:FuncData} {ps:List Str} {sp:Sp} {dvs:List V} {ds:List Value} {x:Str} {p pos:Pos} {e:Expr} {es:List Expr} {t:TA}
theorem zkG{pins:List (Addr×Obj)}{σ:St}{H:Hp}{s:Shared}{Q:VK}{us:List Value}{vs:List V}(L:Lv X Ek)(F:FnOk X.prog X.w X.K X.mg X.base (CXE X.prog X.w) k f fd ps sp)(hr:Room k X.A)(hb:zN X.K fd ps ds)(hd:zE dvs ds)
  (I:Inv X pins σ H s) (r:zE vs us) (h:sp (vs++dvs) H Q (Ek σ)):wpAny (model X.prog X.w) X.A (call (.ref f) us) (EP X pins σ Q) X.xe s:=by
 have r2:zE (vs++dvs) (us++ds):=r.append hd;have hl:(us++ds).length=ps.length:=by rw[<-r2.length];exact F.len _ _ _ _ h
 refine wpAny_call (codeAny_mono (F.run X.A X.stack s H ⟨us, []⟩ (us++ds) (vs++dvs) Q (Ek σ) hr I.env0 (hb s us I.kIn hl) r2 h) λr s' hq=> ?_);cases r with
 |error e=>
  obtain⟨ea,cls,H',rfl,fl,q⟩:=hq;exact L.call pins σ ea cls H H' s s' I fl q
 |ok fl=>
  cases fl with
  |ret u=>exact I.after hq
  |next=>exact False.elim hq
  |brk=>exact False.elim hq
  |cont=>exact False.elim hq
def z8(sp:Sp)(dvs:List V)(Ek:St->XK)(t:TA):TE:=λσ H Q=>t σ H λvs H1=>sp (vs++dvs) H1 Q (Ek σ)
theorem zu(L:Lv X Ek)(F:FnOk X.prog X.w X.K X.mg X.base (CXE X.prog X.w) k f fd ps sp)(hr:Room k X.A)(hg:Gl X x)(hm:X.mg x=some (.ref f))(hk:PySem.W.keepIn X.K (.ref f)=true)(hb:zN X.K fd ps ds)(hd:zE dvs ds)
  (ha:PA X (e::es) t) (hdb:(x==("__debug__":Str))=false:=by decide) (he:starEach (e::es) X.env=(false,eval e X.env)::starEach es X.env:=by rfl) (hpl:(backTo pos (starEach es X.env)).any (·.1)=false:=by rfl):
  PE X (.Call (.Name x p) (e::es) [] pos) (z8 sp dvs Ek t):=by
 intro pins s σ H Q I h;refine wpAny_Call_Name_kw (vA I hg hm ?_ hdb);refine PySem.W.callWith_K (h₀:=X.base) I.ok.mod.kin hk (thn (ha pos pins s σ H _ I h) λus s1 ⟨vs,H1,I1,r,q⟩=>⟨I1.kIn,?_⟩) he hpl;exact zkG L F hr hb hd I1 r q
structure Exc (K:Fg) (C:Addr):Prop where
 ok: ∃bmB newId initId,ExcBaseFacts "ValueError" newId initId bmB/\PySem.W.excIn K C bmB newId=true
theorem zkH{bmB:List Value}{newId:String}(X:K.In h)(q:PySem.W.excIn K C bmB newId=true):
  ∃bm N nm q bs hdct sn sub ab col dd k0 k1 k2 k3 k5 mN,h.get? C=some (excClassObj nm q C N bs bm hdct sn sub ab col dd k0 k1 k2 k3 k5 newId)/\h.Ns N mN/\mN "__init__"=none/\OwnTail h bmB bm:=by
 unfold PySem.W.excIn at q;split at q
 case h_2=>cases q
 case h_1 dd cd sl ho=>
  split at q
  case h_2=>cases q
  case h_1 C1 bm1 a0 a1 a2 a3 nw a5 hm hs=>
   simp only[Bool.and_eq_true,beq_iff_eq,Bool.not_eq_true'] at q;obtain⟨⟨⟨⟨⟨e1,e2⟩,e3⟩,e4⟩,e5⟩,e6⟩:=q;subst e1;subst e2;cases cd with
   |mk nm bs mro ns qn hd sn sub ab col del=>
    have m1:mro= .ref C1::bm1:=hm;have m2:del=false:=e3;subst m1;subst m2;have z:sl= #[a0,a1,a2,a3,some (.builtin nw),a5]:=Array.toList_inj.mp hs;subst z;exact⟨bm1,ns,nm,qn,bs,hd,sn,sub,ab,col,dd,a0,a1,a2,a3,a5,_,X _ _ ho,Heap.Ns.of_isNs (PySem.W.isNs_of_in X e5),PySem.W.nsMap_none_of_in X e5 e6,PySem.W.tail_of_in X e4⟩
def yp(C:Addr)(Ek:St->XK)(t:TA):TS:=λ_ σ H=>t σ H λvs H1=>vs.length<=sizeLine/\Ek σ (.ref C) none H1
theorem qZ(L:LvR X Ek)(O:Exc X.K C)(hc:X.calm=true)(hg:Gl X x)(hm:X.mg x=some (.ref C))(ha:PA X (e::es) t)(hdb:(x==("__debug__":Str))=false:=by decide)
  (he:starEach (e::es) X.env=(false,eval e X.env)::starEach es X.env:=by rfl) (hpl:(backTo pos (starEach es X.env)).any (·.1)=false:=by rfl) {rpos:Pos}:
  PS X (.Raise (some (.Call (.Name x p) (e::es) [] pos)) none rpos) (yp C Ek t):=by
 intro pins s σ H D I h;obtain⟨bmB,newId,initId,FB,q⟩:=O.ok;obtain⟨tl,N,nm,qn,bs,hdct,sn,sub,ab,col,dd,k0,k1,k2,k3,k5,mN,hC,hN,hni,T⟩:=zkH I.ok.mod.kin q;refine wpAny_Raise_call_subT (C:=C) (nm:=nm) (q:=qn) (N:=N) (bs:=bs) (bm:=tl) (hdct:=hdct) (sn:=sn) (sub:=sub) (ab:=ab) (col:=col) (dd:=dd) (k0:=k0) (k1:=k1) (k2:=k2) (k3:=k3) (k5:=k5)
  FB (mN:=mN) (T.hasType FB.hasBase) (I.ok.hd hc) (by rw[he];show (false||(backTo pos (starEach es X.env)).any (·.1))=false;rw[hpl];rfl) hni (vA I hg hm ⟨rfl,?_⟩ hdb)
 have ha':=ha pos pins s σ H _ I h;rw[he] at ha' ⊢;refine Calls.evalArgs_plain (wpAny_mono ha' (λus s2 hq=> ?_) λ_ _ y=>y);obtain⟨vs,H1,I1,r,hl,q1⟩:=hq;refine⟨rfl,by rw[<-r.length];exact hl,I1.bk _ _ hC,hN.keeps I1.bk,T.keeps I1.bk,λh' ea hm=> ?_⟩;exact L.new pins σ ea _ us H1 s2 h' I1 hm q1
end
def wx(ea:Addr)(cls:Value):HO:= .ext λh=> ∃o vs,h.get? ea=some o/\o.cls=cls/\o.data= .fields vs
theorem Un.flown{l:List Env}{h1 h2 B:Heap}(u:Un (frs l) [] H H' h h1)(ff:h1.FunFrames B l)(up:h1.UpToSlots h2)(st:B.StaysIn h2)
  (kp: ∀b o,h.get? b=some o->H b=none->b∉frs l->B.get? b=some o) (th: ∀b o,h.get? b=some o->b∉frs l-> ∃o',B.get? b=some o'):Un (frs l) [] H H' h h2:=by
 refine⟨λb o e n hb _=>st b o (kp b o e n hb),λb o e n hb hx=> ?_,u.free,λb o e _=> ?_,u.tups,u.frzs,u.tbls⟩
 ·obtain⟨sl2,e2⟩:=u.slot b o e n hb hx;obtain⟨_,o',ho',hnf⟩:=ff.mem hb;rw[e2] at ho';cases ho';obtain⟨sl3,e3⟩:=up b _ e2 hnf;exact⟨sl3,e3⟩
 ·by_cases hb:b∈frs l
  ·obtain⟨_,o',ho',hnf⟩:=ff.mem hb;obtain⟨sl3,e3⟩:=up b _ ho' hnf;exact⟨_,e3⟩
  ·obtain⟨o2,e2⟩:=th b o e hb;exact⟨o2,st b o2 e2⟩
section
variable {X:Cx} {pins:List (Addr×Obj)} {σ:St} {H H':Hp} {s s':Shared}
abbrev Cx.other(X:Cx)(pn:List (Addr×Obj))(xe:Value->Shared->Prop):Cx:={X with pn:=pn,xe:=xe}
abbrev Cx.suite(X:Cx)(ea:Addr):Cx:={X with A:=X.A.mark (some (.ref ea)),calm:=false,xe:=λ_ _=>False}
theorem Cx.Ok.other(ok:X.Ok)(pn:List (Addr×Obj))(xe:Value->Shared->Prop):(X.other pn xe).Ok:=
 ⟨ok.mod,ok.kind,ok.glob,ok.blt,ok.above,ok.inj,ok.has,ok.cab,ok.hd,ok.frames,ok.stk,ok.exf,ok.bs,ok.bsz,ok.noex,ok.exfs,ok.funs,ok.frf⟩
theorem Cx.Ok.unother{pn:List (Addr×Obj)}{xe:Value->Shared->Prop}(ok:(X.other pn xe).Ok):X.Ok:=
 ⟨ok.mod,ok.kind,ok.glob,ok.blt,ok.above,ok.inj,ok.has,ok.cab,ok.hd,ok.frames,ok.stk,ok.exf,ok.bs,ok.bsz,ok.noex,ok.exfs,ok.funs,ok.frf⟩
theorem Cx.Ok.suite(ok:X.Ok)(ea:Addr):(X.suite ea).Ok:=
 ⟨ok.mod,ok.kind,ok.glob,ok.blt,ok.above,ok.inj,ok.has,ok.cab,λh=>(by cases h),ok.frames,ok.stk,ok.exf,ok.bs,ok.bsz,ok.noex,ok.exfs,ok.funs,ok.frf⟩
theorem Inv.other(I:Inv X pins σ H s)(xe:Value->Shared->Prop):Inv (X.other (X.pn++pins) xe) [] σ H s:=
 ⟨I.ok.other _ _,I.os,I.bare,I.base,I.loc,I.cell,I.free,I.freeC,λp hp=>I.pin p (by simpa using hp),I.hok,I.len⟩
theorem Inv.unother{xe:Value->Shared->Prop}{pins':List (Addr×Obj)}(I:Inv (X.other (X.pn++pins) xe) pins' σ H s):Inv X pins σ H s:=
 ⟨I.ok.unother,I.os,I.bare,I.base,I.loc,I.cell,I.free,I.freeC,λp hp=>I.pin p (List.mem_append_left _ hp),I.hok,I.len⟩
theorem Inv.suite(I:Inv X pins σ H s)(ea:Addr):Inv (X.suite ea) pins σ H s:=
 ⟨I.ok.suite ea,I.os,I.bare,I.base,I.loc,I.cell,I.free,I.freeC,I.pin,I.hok,I.len⟩
theorem Inv.unsuite(ok:X.Ok)(I:Inv (X.suite ea) pins σ H s):Inv X pins σ H s:=
 ⟨ok,I.os,I.bare,I.base,I.loc,I.cell,I.free,I.freeC,I.pin,I.hok,I.len⟩
theorem Inv.track{φ:Heap->Prop}(I:Inv X pins σ H s)(hn:H ea=none)(ne: ∀b o,X.s₀.heap.get? b=some o->b≠ea)(nl:X.env.locals≠ea)(nc: ∀x c,X.env.cells.lookup x=some c->c≠ea)
  (np: ∀p∈X.pn++pins,p.1≠ea) (new:yZ X.prog X.w (upd H ea (.ext φ)) s.heap ea (.ext φ)):Inv X pins σ (upd H ea (.ext φ)) s:=by
 have nt: ∀b u,H b=some u->b≠ea:=λb u e z=>by rw[z,hn] at e;cases e
 refine⟨I.ok,I.os,I.bare,⟨I.base.keep,I.base.slot,λb o e n hx=> ?_,I.base.there,λb xs e=> ?_,λb o xs e=> ?_,λb ps e=> ?_⟩,I.loc,I.cell,?_,λx c e=> ?_,λp hp=> ?_,λb u e=> ?_,I.len⟩
 ·rw[zT (ne b o e)];exact I.base.free b o e n hx
 ·have q:=I.base.tups b xs e;rw[zT (nt b _ q)];exact q
 ·have q:=I.base.frzs b o xs e;rw[zT (nt b _ q)];exact q
 ·obtain⟨m,q⟩:=I.base.tbls b ps e;exact⟨m,by rw[zT (nt b _ q)];exact q⟩
 ·rw[zT nl];exact I.free
 ·rw[zT (nc x c e)];exact I.freeC x c e
 ·obtain⟨e,n,r⟩:=I.pin p hp;exact⟨e,by rw[zT (np p hp)];exact n,r⟩
 ·by_cases hb:b=ea
  ·subst hb;rw[zP] at e;cases e;exact new
  ·rw[zT hb] at e;exact(I.hok b u e).stay (λ_ _ _ q=>q) (λc q=>by rw[zT (nt c _ q)];exact q) λc xs q=>by rw[zT (nt c _ q)];exact q
theorem Inv.unbind{M:Model}{A:Around}{E:Value->Shared->Prop}{i:Nat}{n:Str}{pos:Pos}{Q:Unit->Shared->Prop}(I:Inv X pins σ H s)(hN:X.N.Nodup)(hi:X.N[i]? =some n)(hk:X.env.scope.names.lookup n=some .local)
  (h: ∀s',Inv X pins (σ.set i none) H s'->Q () s'):wpAny M A (do bindName X.env n .none;unbindBehindTheSuite X.env n pos) Q E s:=by
 obtain⟨m,hn,hl⟩:=id I.loc;have hcls:(X.env.scope.kind== .class||(X.env.scope.kind== .module && X.env.locals !=X.env.globals))=false:=by rw[I.ok.kind];rfl
 have cne:=I.cne;refine wpAny_nameGoes_keeps hk hn hcls λh' v hn' hs=> ?_;obtain⟨oL,_,_,hoL,_⟩:=id hn;refine h _ ⟨I.ok,I.os,I.bare,⟨λb o e n hb hx=> ?_,λb o e n hb hx=> ?_,I.base.free,λb o e hx=> ?_,I.base.tups,I.base.frzs,I.base.tbls⟩,⟨_,hn',λj y v' e1 e2 e3=> ?_⟩,λy c e=> ?_,I.free,I.freeC,λp hp=> ?_,λb ob e=> ?_,by simpa using I.len⟩
 ·exact(hs.2 b (JH (Jx (JU e) I.ok.above))).trans (I.base.keep b o e n hb hx)
 ·obtain⟨sl,e1⟩:=I.base.slot b o e n hb hx;exact⟨sl,(hs.2 b (JH (Jx (JU e) I.ok.above))).trans e1⟩
 ·obtain⟨o',e1⟩:=I.base.there b o e hx;exact⟨o',(hs.2 b (JH (Jx (JU e) I.ok.above))).trans e1⟩
 ·by_cases hj:j=i
  ·subst hj;rw[List.getElem?_set] at e2;simp at e2
  ·rw[List.getElem?_set_ne (Ne.symm hj)] at e2;obtain⟨u',r',q⟩:=hl j y v' e1 e2 e3;refine⟨u',r',?_⟩;rcases q with⟨k,e⟩|⟨k,c,e,z⟩
   ·refine .inl ⟨k,?_⟩
    have:y≠n:=λe=>hj (jy hN e1 (e ▸ hi));simp [this,e]
   ·exact .inr ⟨k,c,e,z.sameBut hs (cne y c e)⟩
 ·obtain⟨w',z⟩:=I.cell y c e;exact⟨w',z.sameBut hs (cne y c e)⟩
 ·obtain⟨e,n,ne,nf,d⟩:=I.pin p hp;exact⟨(hs.2 p.1 ne).trans e,n,ne,nf,d⟩
 ·refine(I.hok b ob e).stay (λc w' hc q=>(hs.2 c ?_).trans q) (λ_ q=>q) λ_ _ q=>q;rintro rfl;rcases hc with rfl|hc
  ·rw[I.free] at e;cases e
  ·rw[I.free] at hc;cases hc
theorem Inv.landed{cls a0:Value}{B h5:Heap}{g':Array GenState}{d':Drawn}{t':Nat}(W:X.Own)(I:Inv X pins σ H s)(u:Un (frs X.stack) [] H H' s.heap h5)(fl:Heap.FlyingW B X.stack ea cls a0 h5)(hok:HOk X.prog X.w H' B)
  (th: ∀b o,s.heap.get? b=some o->b∉frs X.stack-> ∃o',B.get? b=some o') (hg:AllBare g'):
  H' ea=none/\Inv X pins σ H' {s with heap:=h5,gens:=g',drawn:=d',toks:=t'}/\Inv X pins σ (upd H' ea (wx ea cls)) {s with heap:=h5,gens:=g',drawn:=d',toks:=t'}:=by
 have J:Inv X pins σ H' {s with heap:=h5,gens:=g',drawn:=d',toks:=t'}:=I.call (ch:= []) u (hok.kept fl.1) hg (λb z=>absurd z (by simp));obtain⟨oe,vs,he,hc,hd,_⟩:=fl.first;have ne: ∀b o,s.heap.get? b=some o->b≠ea:=λb o e z=>by
  subst z;by_cases hb:b∈frs X.stack
  ·obtain⟨_,o',ho',hnf⟩:=fl.2.2.1.mem hb;rw[he] at ho';cases ho';exact hnf vs hd
  ·obtain⟨o2,e2⟩:=th b o e hb;rw[fl.2.1] at e2;cases e2
 have hn:H' ea=none:=by
  cases q:H' ea with
  |none=>rfl
  |some u=>
   obtain⟨ob,e⟩:=(hok ea u q).is;rw[fl.2.1] at e;cases e
 refine⟨hn,J,J.track hn (λb o e=> ?_) ?_ (λx c e=> ?_) (λp hp=> ?_) ?_⟩
 ·obtain⟨o1,e1⟩:=I.base.there b o e (by rw[W.ex];simp);exact ne b o1 e1
 ·obtain⟨m,⟨oL,_,_,hoL,_⟩,_⟩:=I.loc;exact ne _ oL hoL
 ·obtain⟨v,o,ho,_⟩:=I.cell x c e;exact ne c o ho
 ·obtain⟨e,_⟩:=I.pin p hp;exact ne p.1 p.2 e
 ·exact⟨⟨oe,vs,he,hc,hd⟩,⟨oe,he⟩,λh1 h2 ⟨o,vs,e,r⟩ k=>⟨o,vs,k o e,r⟩⟩
end
section
variable {X:Cx} {body suite:List Stmt} {b₀:Stmt} {n xn:Str} {i:Nat} {C:Addr} {tb:(St->XK)->TS} {ts:TS} {np hpos pos:Pos}
def zmQ(K:Fg)(C:Addr)(i:Nat)(tb:(St->XK)->TS)(ts:TS):TS:=λD σ H=>
 tb (λσ' cls _ H'=>PySem.W.exmOne K cls (.ref C)=some true/\ ∀ea,H' ea=none->
  ts {nx:=λσ2 H2=>D.nx (σ2.set i none) H2,rt:=D.rt,bk:=λσ2 H2=>D.bk (σ2.set i none) H2,ct:=λσ2 H2=>D.ct (σ2.set i none) H2} (σ'.set i (some (.ref ea))) (upd H' ea (wx ea cls))) D σ H
end
theorem Fun.okX{P:Program}{w:World}{mg:Str->Option Value}{base:Heap}{x:Str}{ps:List Str}{k:Nat}{sp:Sp}(F:Fun K x qual st f fd)(S:FnScope N ps (zC st))(len: ∀vs H Q E,sp vs H Q E->vs.length=ps.length)
  (hbody: ∀(cdv:Value) (A:Around) (outer:List Env) (s:Shared) (H:Hp) (vs:List V) (Q:VK) (E:XK),LvR (qt (CXE P w) P w K mg base N qual (zC st) f cdv A outer s H E) (λ_=>E)->Room k (A.deeper (envOfC qual (zC st) s.heap.objs.size f cdv))->sp vs H Q E->
   ∃t,PSs (qt (CXE P w) P w K mg base N qual (zC st) f cdv A outer s H E) (xy st) t/\t {nx:=λ_ H'=>Q .non H',rt:=Q} (start N vs) H):FnOk P w K mg base (CXE P w) (k+1) f fd ps sp:=by
 obtain⟨oc,od,kV,doc,pm,an,cdv,ct,osl,rfl,lk,hcd⟩:=F.ex;exact jJ lk hcd S len λA outer s H vs Q E hr hsp=>hbody cdv A outer s H vs Q E uN hr hsp
theorem yR:bootBuiltins "len"=some (.builtin "len"):=by decide+kernel
theorem zju:bootBuiltins "min"=some (.builtin "min"):=by decide+kernel
theorem zl0:bootBuiltins "any"=some (.builtin "any"):=by decide+kernel
theorem zge:bootBuiltins "divmod"=some (.builtin "divmod"):=by decide+kernel
theorem xk:bootBuiltins "isinstance"=some (.builtin "isinstance"):=by decide+kernel
theorem q0:bootBuiltins "int"=some (.type "int"):=by decide+kernel
theorem wy:bootBuiltins "str"=some (.type "str"):=by decide+kernel
theorem zkI:bootBuiltins "bool"=some (.type "bool"):=by decide+kernel
theorem zfX:bootBuiltins "ValueError"=some (.type "ValueError"):=by decide+kernel
open PySem.Builtin PySem.Builtin.ObjectAttr PySem.Builtin.Getset_descriptor
structure ExcCls (K:Fg) (D:Addr):Prop where
 cls:(PySem.W.clsIn K D).isSome=true
 ga:PySem.W.findIn K (.ref D) "__getattribute__"=some (some (.builtin "BaseException.__getattribute__"))
 gt:PySem.W.findIn K (.ref D) "__getattr__"=some none
 cl:PySem.W.findIn K (.ref D) "__class__"=some (some (.builtin "object.__class__"))
 mo:PySem.W.mroIn K D (.type "object")=some true
 mb:PySem.W.mroIn K D (.type "BaseException")=some true
section
variable {prog:Program} {w:World} {A:Around} {E:Value->Shared->Prop} {h:Heap} {g:Array GenState} {d:Drawn} {t:Nat} {os:OsState} {K:Fg} {a D:Addr} {o:Obj}
theorem ub(hx:h.get? a=some o)(hc:o.cls= .ref D):PySem.W.Looks M h (typeOf (.ref a)) (.ref D):=hc ▸ (PySem.W.Looks.ld hx).andThen .now
theorem zfY{R:Result->Shared->Prop}(X:K.In h)(C:ExcCls K D)(hx:h.get? a=some o)(hc:o.cls= .ref D)(hq:R (.ok (.ret (.ref D))) ⟨h,g,d,t,os⟩):
  codeAny (model prog w) A (.call (.builtin "getset_descriptor.__get__") ⟨[.builtin "object.__class__", .ref a, .ref D], []⟩) R ⟨h,g,d,t,os⟩:=by
 have L0:=ub (M:=model prog w) hx hc;have L1:=PySem.W.looks_mroIn (M:=model prog w) X C.mo;have T5:(⟨h,g,d,t,os⟩:Shared).TypeIs (.builtin "object.__class__") "getset_descriptor":=F.typeOf_object_class;refine codeAny_call_builtin F.slot_gs_get.plain F.entry_gs_get (F.slot_gs_get.check _ _ _ _ _ _ _ _ T5 (F.args_gs_get _ _ _) ?_);unfold Builtin.«getset_descriptor.__get__» descrGet;rw[PySem.W.dga_obj];refine JR (JS ?_);unfold descrGetter descrCheckInstance descrNameAndClass;unfold isInstance;simp only[PySem.W.KF.owner_class];repeat lk
 refine⟨Code.quiet_builtin _ (by decide+kernel),codeAny_builtin F.entry_object_class ?_⟩;unfold Builtin.«object.__class__»;unfold shownTypeOf;repeat lk
 exact hq
theorem zfb{tk:Tok}{Q:Fin->Shared->Prop}(X:K.In h)(C:ExcCls K D)(hx:h.get? a=some o)(hc:o.cls= .ref D)(hq:Q (.done (.ret (.ref D))) ⟨h,g,d,t,os⟩):
  wpAny (model prog w) A (Builtin.«object.__getattribute__» ⟨[.ref a, .str "__class__" tk], []⟩) Q E ⟨h,g,d,t,os⟩:=by
 have L0:=ub (M:=model prog w) hx hc;have L1:=PySem.W.looks_findIn (M:=model prog w) X C.cl;have T5:(⟨h,g,d,t,os⟩:Shared).TypeIs (.builtin "object.__class__") "getset_descriptor":=F.typeOf_object_class;have f5:=F.typeOf_object_class;have f6:=F.slot_gs_get.lookup;have f7:=F.slot_gs_set.lookup;repeat (any_goals (first|assumption|(with_reducible refine wpAny_loadPart_at hx ?_;rw[hc])|with_reducible refine PySem.W.Looks.at L1 ?_|wp_step))
 refine zfY X C hx hc ?_;repeat (any_goals (first|assumption|wp_step))
theorem zfu{tk:Tok}{R:Result->Shared->Prop}(X:K.In h)(C:ExcCls K D)(hx:h.get? a=some o)(hc:o.cls= .ref D)(hq:R (.ok (.ret (.ref D))) ⟨h,g,d,t,os⟩)
  (hk: ∀(Q:Unit->Shared->Prop) (E:Value->Shared->Prop) (A:Around) (nameV:Value),Q () ⟨h,g,d,t,os⟩->wpAny (model prog w) A (checkBuiltinCall "BaseException.__getattribute__" ⟨[.ref a,nameV], []⟩) Q E ⟨h,g,d,t,os⟩):
  codeAny (model prog w) A (.call (.builtin "BaseException.__getattribute__") ⟨[.ref a, .str "__class__" tk], []⟩) R ⟨h,g,d,t,os⟩:=
 codeAny_call_builtin F.excAttr_ValueError.ga.plain F.entry_bexc_ga (hk _ _ _ _ (zfb X C hx hc hq))
theorem ziI{M:Model}{nameV:Value}{Q:Unit->Shared->Prop}(X:K.In h)(C:ExcCls K D)(hx:h.get? a=some o)(hc:o.cls= .ref D)(hq:Q () ⟨h,g,d,t,os⟩):
  wpAny M A (checkBuiltinCall "BaseException.__getattribute__" ⟨[.ref a,nameV], []⟩) Q E ⟨h,g,d,t,os⟩:=by
 have k1:builtinKind "BaseException.__getattribute__"=some .slot:=by decide+kernel
 have k2:splitId "BaseException.__getattribute__"=some ("BaseException","__getattribute__"):=by decide+kernel
 have L0:=ub (M:=M) hx hc;have L1:=PySem.W.looks_mroIn (M:=M) X C.mb;have k3:=F.args_bexc_ga (.ref a) nameV;simp only[checkBuiltinCall,k1,k2];refine JR ?_;unfold isInstance;repeat (any_goals (first|assumption|(with_reducible refine wpAny_loadPart_at hx ?_;rw[hc])|with_reducible refine PySem.W.Looks.at L1 ?_|wp_step))
theorem zfv{Q:Option Value->Shared->Prop}(X:K.In h)(C:ExcCls K D)(hx:h.get? a=some o)(hc:o.cls= .ref D)(hq:Q (some (.ref D)) ⟨h,g,d,t+1,os⟩):
  wpAny (model prog w) A (getAttr? (.ref a) "__class__") Q E ⟨h,g,d,t,os⟩:=by
 have L0:=ub (M:=model prog w) hx hc;have L1:=PySem.W.looks_findIn (M:=model prog w) X C.ga;have L2:=PySem.W.looks_findIn (M:=model prog w) X C.gt;have f3:=F.excAttr_ValueError.ga.bind (.ref a);have x2:(Value.builtin "BaseException.__getattribute__"==Value.builtin "object.__getattribute__")=false:=by decide+kernel
 have x1:(onTheHeap (Value.ref D) && Value.builtin "BaseException.__getattribute__"==Value.builtin "object.__getattribute__")=false:=by rw[x2];rfl
 have x0:(false && onTheHeap (Value.builtin "BaseException.__getattribute__"))=false:=rfl;unfold getAttr? getAttrBy?;repeat (any_goals (first|assumption|(with_reducible refine wpAny_loadPart_at hx ?_;rw[hc])|with_reducible refine PySem.W.Looks.at L1 ?_|with_reducible refine PySem.W.Looks.at L2 ?_|wp_step))
 refine zfu X C hx hc ?_ (λQ E A n q=>ziI X C hx hc q);repeat (any_goals (first|assumption|wp_step))
end
theorem zjv{D:Addr}(C:ExcCls K D):PySem.W.KitX K (.ref a) (.ref D) (λh=> ∃o vs,h.get? a=some o/\o.cls= .ref D/\o.data= .fields vs) where
 ty:=λ_ _ _ ⟨_,_,h1,h2,_⟩=>ub h1 h2
 it:=λ_ _ X _=>by
  obtain⟨cd,hc⟩:=Option.isSome_iff_exists.mp C.cls;unfold PySem.W.clsIn at hc;split at hc
  case h_2=>cases hc
  case h_1 ho=>
   intro A' Q' E' s' k q;unfold isType loadHead;exact JR (wpAny_loadPart (k _ _ (X _ _ ho)) (JS q))
 ne:=λh tp dd its n sl X htp=>by
  obtain⟨cd,hc⟩:=Option.isSome_iff_exists.mp C.cls;unfold PySem.W.clsIn at hc;refine Bool.eq_false_iff.mpr λq=> ?_;obtain rfl:D=tp:=Value.ref.inj (beq_iff_eq.mp q);split at hc
  case h_2=>cases hc
  case h_1 ho=>cases (X _ _ ho).symm.trans htp
 ca:=fun {_ _ _ _ _ s} X ⟨_,_,h1,h2,_⟩ k=>by
  obtain⟨h,g,d,t,os⟩:=s;exact zfv X C h1 h2 k
inductive TyX (K:Fg) (H:Hp):V->Value->Prop where
 |old {x:V} {t:Value} (h:TyOf K H x t):TyX K H x t
 |exc {a D:Addr} (e:H a=some (wx a (.ref D))) (C:ExcCls K D):TyX K H (.ref a) (.ref D)
theorem xm:ql X (.builtin "isinstance") (λxs H Q=> ∃x c t cv b,xs= [x,c]/\TyX X.K H x t/\zB c cv/\PySem.W.kitOne X.K t cv=some b/\Q (.bl b) H):=by
 intro pins s σ H xs us Q I r h;obtain⟨x,c,t,cv,b,rfl,ty,rc,e,q⟩:=h;obtain⟨u,u2,rfl,r1,r2⟩:=jI r;have e2:u2=cv:=by
  cases c<;>first
   |exact r2.trans rc.symm
   |(exfalso
     obtain⟨t2,z⟩:=rc;subst z;revert e
     unfold PySem.W.kitOne PySem.W.kitCls;cases ty with
     |exc e C=>simp
     |old h=>cases h<;>simp)
 subst e2;cases ty with
 |old h=>exact ziD I r1 h e λtk=>⟨.bl b,H,I.tok tk,rfl,q⟩
 | @exc a D ea C=>
  cases (show u=Value.ref a from r1);obtain⟨p,_⟩:=(show yZ X.prog X.w H s.heap a (wx a (.ref D)) from I.hok a _ ea)
  exact PySem.W.kia_one (zjv C) I.kIn p e (λz=>nomatch z) λtk=>⟨.bl b,H,I.tok tk,rfl,q⟩
structure ClsOk (K:Fg) (C:Addr):Prop where
 cls:(PySem.W.clsIn K C).isSome=true
 ty:PySem.W.typeIn K (.ref C)=some (.type "type")
 me:PySem.W.mroIn K C (.ref C)=some true
theorem yT{D:Addr}(hC:ClsOk K C)(e:PySem.W.mroIn K D (.ref C)=some b):PySem.W.kitOne K (.ref D) (.ref C)=some b:=by
 unfold PySem.W.kitOne;by_cases q:(Value.ref D==Value.ref C)=true
 ·rw[Jg q];obtain rfl:D=C:=Value.ref.inj (beq_iff_eq.mp q);rw[hC.me] at e;exact e
 ·rw[Jf q];unfold PySem.W.kitCls PySem.W.subIn;simp only[hC.cls,hC.ty,beq_self_eq_true,Bool.and_self,if_true];exact e
theorem uO{D:Addr}{T:String}(h:PySem.W.kitMeta T=true)(e:PySem.W.mroIn K D (.type T)=some b):PySem.W.kitOne K (.ref D) (.type T)=some b:=by
 unfold PySem.W.kitOne;rw[Jf (by intro q;cases beq_iff_eq.mp q)];unfold PySem.W.kitCls PySem.W.subIn;simp only[h,if_true];exact e
theorem vE{D:Addr}(hC:ClsOk K C)(hb:PySem.W.mroIn K C (.type "BaseException")=some true)(e:PySem.W.mroIn K D (.ref C)=some b):PySem.W.exmOne K (.ref D) (.ref C)=some b:=by
 unfold PySem.W.exmOne PySem.W.kitCls PySem.W.subIn;simp only[hb,hC.cls,hC.ty,beq_self_eq_true,Bool.and_self,if_true];exact e
theorem zg9:PySem.W.kitOne K (.type "int") (.type "int")=some true:=by
 unfold PySem.W.kitOne;rw[Jg 'd']
theorem zgK:PySem.W.kitOne K (.type "int") (.type "bool")=some false:=by
 unfold PySem.W.kitOne;rw[Jf 'd'];kernel_rfl
section
variable {X:Cx}
theorem ziJ(bs:List Bool):(List.range bs.length).any (λi=>bs.getD i false)=bs.any id:=by
 rw[Bool.eq_iff_iff,List.any_eq_true,List.any_eq_true];constructor
 ·rintro⟨i,hi,h⟩;have hl:i<bs.length:=List.mem_range.mp hi;refine⟨bs[i],List.getElem_mem hl,?_⟩;rw[Jo,Jb hl] at h;exact h
 ·rintro⟨b,hb,h⟩;obtain⟨i,hl,rfl⟩:=List.getElem_of_mem hb;refine⟨i,List.mem_range.mpr hl,?_⟩;rw[Jo,Jb hl];exact h
theorem zjw(hc:X.calm=true):ql X (.builtin "any") (λxs H Q=> ∃(p:Addr) (bs:List Bool),xs= [.ref p]/\SqL X.K H p (bs.map V.bl)/\Q (.bl (bs.any id)) H):=by
 intro pins s σ H xs us Q I r h;obtain⟨p,bs,rfl,hq,q⟩:=h;obtain⟨u,rfl,ru⟩:=qK r;obtain rfl:u=Value.ref p:=ru;obtain⟨its,rv,pl,hz⟩:=I.list hq;have hl:bs.length=its.length:=by rw[<-rv.length,Ja]
 obtain⟨o0,n0,e0,_⟩:=id pl;have ne:p≠s.heap.objs.size:=JH (JU e0);refine call_any_walk (wpAny_pyIter_list pl.isList ?_);refine⟨s.heap.objs.size,_,_,_,_,_,λi=>bs.getD i false,rfl,Walks.list (show X.A.in1.handled=none from I.ok.hd hc) s.heap.objs.size p ne its.toArray,⟨⟨_,JV _ rfl,rfl,rfl⟩,?_⟩,?_,λh' tk hk=> ?_⟩
 ·exact pl.isList.at λo e=>JT _ e
 ·intro i v s' Q' E' hv hQ;have hi:its[i]? =some v:=by simpa using hv
  obtain⟨hlt,_⟩:=Jc.mp hi;have hb:(bs.map V.bl)[i]? =some (.bl bs[i]):=by rw[Jh,Jb 'o'];rfl
  obtain⟨u',e',r'⟩:=rv.get hb;rw[hi] at e';cases e';obtain rfl:v=Value.bool bs[i]:=r';refine wpAny_truthy_bool ?_;have z:bs.getD i false=bs[i]:=by rw[Jo,Jb 'o'];rfl
  rw[<-z];exact hQ
 ·have e:((List.range its.toArray.size).any λi=>bs.getD i false)=bs.any id:=by rw[Jn,<-hl,ziJ]
  rw[e];refine⟨.bl _,H,I.kept (t':=tk) λb o hb=>hk b o (λz=> ?_) (JT _ hb),rfl,q⟩;have z':b=s.heap.objs.size:=by simpa using z
  exact absurd (z' ▸ JU hb) (Nat.lt_irrefl _)
end
section
variable {X:Cx}
theorem wz{x:Str}{pos:Pos}(hg:Gl X x)(hm:X.mg x=some (.ref a))(hd:(x==("__debug__":Str))=false:=by decide):PE X (.Name x pos) (tC (.ref a)):=qr (v:= .ref a) hg hm rfl hd
theorem uc{x:Str}{n:String}{pos:Pos}(hg:Gl X x)(hm:X.mg x=none)(hv:bootBuiltins x=some (.type n))(hn:x≠"__name__":=by decide)(hd:(x==("__debug__":Str))=false:=by decide):PE X (.Name x pos) (tC (.ty n)):=
 zky (v:= .ty n) hg hm hv rfl hn hd
end
theorem yy{CX:CXT}{P:Program}{w:World}{K:Fg}{mg:Str->Option Value}{base:Heap}{N:List Str}{qual:Str}{scope:Scope}{f:Addr}{cd:Value}{A:Around}{outer:List Env}{s:Shared}{H:Hp}{E:XK}:
  (qt CX P w K mg base N qual scope f cd A outer s H E).K=K:=rfl
theorem slT(h:n<=1000):(n<=sizeLine)=True:=eq_true (JD h 'd')
theorem ixL(h:SqL K H p xs)(e:atI xs i=some v)(q:Q v H):vf K (.ref p) (.int i) H Q:=⟨p,xs,i,v,rfl,rfl,h,e,q⟩
theorem ixT(h:SqT K H p xs)(e:atI xs i=some v)(q:Q v H):zmO K (.ref p) (.int i) H Q:=⟨p,xs,i,v,rfl,rfl,h,e,q⟩
theorem wA{xs:List Int}(h0:0<=i)(h1:i<xs.length):atI (xs.map V.int) i=some (.int (xs.getD i.toNat 0)):=by
 obtain⟨k,rfl⟩:=Int.eq_ofNat_of_zero_le h0;have hk:k<xs.length:=by omega
 refine yP ?_;rw[Jh,Jb hk,JE,Jo,Jb hk];rfl
theorem xo(h:H p=none)(o:HO):zq H (upd H p o):=λb u q=>by rw[zT (xw q h)];exact q
theorem yA(a b:Int):(vd (.int a) (.int b)=true)=True:=eq_true rfl
theorem yB(a b:Bool):(vd (.bl a) (.bl b)=true)=True:=eq_true rfl
theorem yC(a b:Str):(vd (.str a) (.str b)=true)=True:=eq_true rfl
theorem yD(b:Int):(vd .non (.int b)=true)=True:=eq_true rfl
theorem yE(a:Int):(vd (.int a) .non=true)=True:=eq_true rfl
section
variable {X:Cx}
end
theorem vF(s:zq H H')(h:H p=none):zq H (upd H' p o):=λb u q=>by
 rw[zT (xw q h)];exact s b u q
theorem zq.sqT(e:zq H H')(h:SqT K H a xs):SqT K H' a xs:=by
 rcases h with(h|⟨o,h⟩)|h
 ·exact .inl (.inl (e _ _ h))
 ·exact .inl (.inr ⟨o,e _ _ h⟩)
 ·exact .inr h
def znr(t:TS):TS:=λD σ H=> ∃R:St->Hp->Prop,t {D with nx:=R} σ H/\ ∀σ' H',R σ' H'->D.nx σ' H'
theorem qv{t:TS}(h:PS X st t):PS X st (znr t):=by
 intro pins s σ H D I q;obtain⟨R,q1,q2⟩:=q;refine thn (h pins s σ H {D with nx:=R} I q1) λf s1 z=> ?_;cases f with
 |next=>
  obtain⟨σ',H',I',z⟩:=z;exact⟨σ',H',I',q2 _ _ z⟩
 |ret v=>exact z
 |brk=>exact z
 |cont=>exact z
section
variable {X:Cx} {Ek:St->XK} {k:Nat} {f:Addr} {fd:FuncData} {ps:List Str} {sp:Sp} {x:Str} {p pos:Pos} {e:Expr} {es:List Expr} {t:TA}
def yF(i:Nat)(f:Addr)(sp:Sp)(Ek:St->XK)(t:TA):TE:=λσ H Q=>σ[i]? =some (some (.ref f))/\t σ H λvs H1=>sp vs H1 Q (Ek σ)
end
section
variable {X:Cx} {K:Fg}
theorem ud(e:X.K=K):IxR X (vf K):=e ▸ zy
end
def SL(cs:List Nat):Str:=⟨cs.toArray⟩
theorem vG(z:Str):z=SL z.cps.toList:=by cases z;rfl
theorem qo(cs:List Nat):(SL cs).length=cs.length:=by show cs.toArray.size=_;simp
theorem jQ(a b:List Nat):SL a++SL b=SL (a++b):=by
 show (⟨a.toArray++b.toArray⟩:Str)=⟨(a++b).toArray⟩;simp
theorem zO(a b:List Nat):(SL a=SL b)=(a=b):=by
 refine propext ⟨λh=> ?_,λh=>by rw[h]⟩
 have:=congrArg (λz:Str=>z.cps.toList) h;exact this
def Its(x:Str):It:=⟨λi _=>i<x.cps.size,λi H v H'=>H'=H/\ ∃c,x.cps[i]? =some c/\v= .str ⟨#[c]⟩,λi _=>i=x.cps.size⟩
theorem zhb{P:Program}{w:World}{K:Fg}{tg:Expr}(it:Addr)(x:Str)(t:Tok)(ty:String)(hn: ["enumerate","zip","dict_itemiterator","dict_reverseitemiterator","odict_iterator","itertools.zip_longest","itertools.pairwise"].contains ty=false)
  (W: ∀A:Around,A.handled=none->Walks P w A it [it] [it] x.cps.size (SignAt x) (λi h=>h.IsStrIter it ty x t i)) (Sf: ∀(A:Around) (i:Nat) (s:Shared) (Q:Value->Shared->Prop) (E:Value->Shared->Prop),s.heap.IsStrIter it ty x t i->Q (.ref it) s->wpAny (model P w) A (pyIter (.ref it)) Q E s):
  Turn P w K tg (Its x) [it] it (λi h=>h.IsStrIter it ty x t i) where
 mem:=by simp
 obj:=λi h st b hb=>by
  have e:b=it:=by simpa using hb
  subst e;obtain⟨o,e,c,d⟩:=st;exact⟨o,e,λv z=>by rw[d] at z;cases z⟩
 keep:=λi h h' st k=>let ⟨o,ho,r⟩:=st;⟨o,k it (by simp) o ho,r⟩
 item:=by
  intro X hP hw hK hc i pins s σ H E I hf st hg;subst hP hw hK;obtain⟨f0,f1,f2,f3,f4,f5⟩:=hf it (by simp);refine(W X.A (I.ok.hd hc)).item i s _ _ hg st λv h' tk hv st' kk=> ?_;obtain⟨c,u,hcx,rfl⟩:=hv;have I1:Inv X pins σ H {s with heap:=h',toks:=tk}:=I.turned (λb o hb e=>kk b o (by simpa using hb) e) f0 f1 f3 f4 f5;obtain⟨o,e,cc,d⟩:=id st';exact⟨_,rfl,jD (s:={s with heap:=h',toks:=tk}) e cc d hn ⟨.str ⟨#[c]⟩,H,I1,⟨u,rfl⟩,⟨rfl,c,hcx,rfl⟩,st',λb hb=>(hf b hb).1⟩⟩
 done:=by
  intro X hP hw hK hc i pins s σ H E I hf st hg;subst hP hw hK;obtain⟨f0,f1,f2,f3,f4,f5⟩:=hf it (by simp);have e:i=x.cps.size:=hg;rw[e] at st;exact(W X.A (I.ok.hd hc)).done s _ _ st λh' tk kk=>⟨rfl,I.turned (λb o hb e=>kk b o (by simpa using hb) e) f0 f1 f3 f4 f5⟩
 self:=Sf
section
variable {X:Cx} {tg:Expr}
def yq(tl:TE):TI:=λσ H R=>tl σ H λx H1=> ∃z,x= .str z/\R (Its z) H1
theorem vH{l:Expr}{tl:TE}(hl:PE X l tl):PI X tg l (yq tl):=by
 intro pins s σ H R I h;refine thn (hl pins s σ H _ I h) λv s1 ⟨x,H1,I1,r1,q1⟩=> ?_;obtain⟨z,e,q⟩:=q1;subst e;obtain⟨t,rfl⟩:=r1;have fin: ∀(ty:String) (T:Turn X.prog X.w X.K tg (Its z) [s1.heap.objs.size] s1.heap.objs.size (λi h=>h.IsStrIter s1.heap.objs.size ty z t i)),
   PIE X pins σ tg R (.ref s1.heap.objs.size) {s1 with heap:=s1.heap.push {cls:= .type ty,data:= .fields #[.str z t, .int 0 0]} }:=λty T=>
  ⟨s1.heap.objs.size, [s1.heap.objs.size],_,_,H1,rfl,I1.kept (t':=s1.toks) λb o e=>JT _ e,T,⟨_,JV _ rfl,rfl,rfl⟩,λb hb=>by
   have e:b=s1.heap.objs.size:=by simpa using hb
   subst e;exact I1.fpOk (Je _) (I1.hok.fresh (Je _)),q⟩
 cases ha:z.cps.all (· <128)
 ·exact wpAny_pyIter_wide ha (fin "str_iterator" (zhb _ z t _ 'd' (λA hh=>Walks.strWide hh _ z t) λA i s Q E st h=>wpAny_pyIter_striter_wide st h))
 ·exact wpAny_pyIter_ascii ha (fin "str_ascii_iterator" (zhb _ z t _ 'd' (λA hh=>Walks.strAscii hh _ z t) λA i s Q E st h=>wpAny_pyIter_striter_ascii st h))
end
theorem ue{cs:List Nat}{g:TG}{tb:TS}{D:Ends}(Pv:Nat->St->Hp->Prop)(h0:Pv 0 σ H)
  (hs: ∀i c σ H,cs[i]? =some c->Pv i σ H->g (.str (SL [c])) σ H λσ2 H2=>tb {D with nx:=Pv (i+1),ct:=Pv (i+1),bk:=D.nx} σ2 H2) (hd: ∀σ H,Pv cs.length σ H->D.nx σ H):
  ∃W:Nat->Nat->St->Hp->Prop,(∃m,W 0 m σ H)/\ ∀i m σ H,W i m σ H->
   ((Its (SL cs)).stop i H/\D.nx σ H)\/((Its (SL cs)).go i H/\ ∃N:St->Hp->Prop,(∀σ' H',N σ' H'-> ∃m',m'<m/\W (i+1) m' σ' H')/\ ∀x H',(Its (SL cs)).yld i H x H'->g x σ H' λσ2 H2=>tb {D with nx:=N,ct:=N,bk:=D.nx} σ2 H2):=by
 have hsz:(SL cs).cps.size=cs.length:=by show cs.toArray.size=_;simp
 refine⟨λi m σ H=>m=cs.length - i/\i<=cs.length/\Pv i σ H,⟨cs.length,by simp,Jv _,h0⟩,?_⟩;rintro i m σ H ⟨rfl,hi,p⟩;by_cases hlt:i<cs.length
 ·refine .inr ⟨show i<(SL cs).cps.size by omega,Pv (i+1),λσ' H' p'=>⟨cs.length - (i+1),'o',rfl,hlt,p'⟩,λx H' y=> ?_⟩;obtain⟨e,c,hc,rfl⟩:=y;subst e;exact hs i c σ _ (by simpa [SL] using hc) p
 ·have e:i=cs.length:=by omega
  subst e;exact .inl ⟨hsz.symm,hd σ H p⟩
def xa(cs:List Nat)(lo hi:Option Int):List Nat:=(cs.drop (HT.sIx cs.length 0 lo)).take (HT.sIx cs.length cs.length hi - HT.sIx cs.length 0 lo)
theorem zkJ(lo hi:Option Int)(n:Nat):Builtin.Str.strSliceIndices lo hi 1 n=(List.range (HT.sIx n n hi - HT.sIx n 0 lo)).map (HT.sIx n 0 lo+ ·):=by
 have cl: ∀(o:Option Int) (d:Nat),(match o with|none=>(d:Int)|some i=>if (1:Int)>0 then max 0 (min (if i<0 then i+(n:Int) else i) (n:Int)) else max (-1) (min (if i<0 then i+(n:Int) else i) ((n:Int) - 1)))=((match o with|none=>d|some i=>HT.sIx n d (some i):Nat):Int):=by
  intro o d;cases o with
  |none=>rfl
  |some i=>
   simp only[HT.sIx,show (1:Int)>0 by decide,if_true];by_cases h:i<0
   ·simp only[h,if_true];omega
   ·simp only[h,if_false];omega
 unfold Builtin.Str.strSliceIndices;have e1:HT.sIx n 0 lo=(match lo with|none=>0|some i=>HT.sIx n 0 (some i)):=by cases lo<;>rfl
 have e2:HT.sIx n n hi=(match hi with|none=>n|some i=>HT.sIx n n (some i)):=by cases hi<;>rfl
 rw[e1,e2,<-sliceRange_one,<-cl lo 0,<-cl hi n];rfl
theorem zjx(cs:List Nat)(lo hi:Option Int):Txt.slice (SL cs) lo hi=SL (xa cs lo hi):=by
 have hl:(SL cs).length=cs.length:=qo cs;have ha:=HT.sIx_le cs.length 0 (Jv _) lo;have hb:=HT.sIx_le cs.length cs.length (Je _) hi;unfold Txt.slice xa;rw[hl,zkJ,Ja,List.length_range];split
 ·rename_i h;have h2:HT.sIx cs.length cs.length hi - HT.sIx cs.length 0 lo=cs.length:=by simpa using h
  by_cases z:cs= []
  ·subst z;rw[List.drop_nil,List.take_nil]
  ·have hp:0<cs.length:=List.length_pos_iff.mpr z;have e0:HT.sIx cs.length 0 lo=0:=by omega
   rw[h2,e0,List.drop_zero,JB]
 ·rw[pick_run];rfl
def dg(n:Nat):List Nat:=(Nat.toDigits 10 n).map Char.toNat
def sI(i:Int):List Nat:=if i<0 then 45::dg (-i).toNat else dg i.toNat
theorem zkK(n:Nat):Str.ofString (toString (n:Int))=SL (dg n):=by
 rw[vG (Str.ofString (toString (n:Int))),PySem.W.KIN.signs_num];rfl
section
variable {X:Cx}
theorem zj{x:Str}{j pos}(e:x=SL cs):PE X (.Constant (.str x) j pos) (tC (.str (SL cs))):=e ▸ qR
theorem qw:OpR X (binaryOp .Add) (λx y H Q=> ∃a b,x= .str (SL a)/\y= .str (SL b)/\a.length+b.length<=sizeLine/\Q (.str (SL (a++b))) H):=by
 intro pins s σ H x y v u Q I rx ry h;obtain⟨a,b,rfl,rfl,hz,q⟩:=h;exact zhy pins s σ H _ _ v u Q I rx ry ⟨_,_,rfl,rfl,by rw[qo,qo];exact hz,by rw[jQ];exact q⟩
theorem uP:IxR X (λx y H Q=> ∃cs i c,x= .str (SL cs)/\y= .int i/\cs.length<=sizeLine/\atI cs i=some c/\Q (.str (SL [c])) H):=by
 intro value slice pins s σ H x y v u Q I rx ry h hs;obtain⟨cs,i,c,rfl,rfl,hz,he,q⟩:=h;exact zlV value slice pins s σ H _ _ v u Q I rx ry ⟨_,i,c,rfl,rfl,by rw[qo];exact hz,he,q⟩ hs
theorem vI:SlR X (λx lo hi H Q=> ∃cs,x= .str (SL cs)/\cs.length<=sizeLine/\Q (.str (SL (xa cs lo hi))) H):=by
 intro pins s σ H x v vl vu lo hi sl Q I rx hs pl pu h;obtain⟨cs,rfl,hz,q⟩:=h;obtain⟨t,rfl⟩:=rx;rw[<-zjx] at q;have fin: ∀t' k,EP X pins σ Q (.str (Txt.slice (SL cs) lo hi) t') {s with toks:=k}:=λt' k=>⟨.str (Txt.slice (SL cs) lo hi),H,I.tok _,⟨_,rfl⟩,q⟩
 have hl:(Txt.slice (SL cs) lo hi).length<=sizeLine:=JD (Txt.slice_le (SL cs) lo hi) (by rw[qo];exact hz);refine⟨"str",_,F.slot_str_getitem.lookup,typeIs_str _ _ _,?_⟩;cases pl with
 |none=>
  cases pu with
  |none=>exact wpAny_getItem_str_slice (l:=none) (u:=none) (st:=none) hs rfl (post_val_or_str ⟨hl,fin⟩)
  |int j uj=>exact wpAny_getItem_str_slice (l:=none) (u:=some (j,uj)) (st:=none) hs rfl (post_val_or_str ⟨hl,fin⟩)
 |int i ui=>
  cases pu with
  |none=>exact wpAny_getItem_str_slice (l:=some (i,ui)) (u:=none) (st:=none) hs rfl (post_val_or_str ⟨hl,fin⟩)
  |int j uj=>exact wpAny_getItem_str_slice (l:=some (i,ui)) (u:=some (j,uj)) (st:=none) hs rfl (post_val_or_str ⟨hl,fin⟩)
theorem xZ:ql X (.builtin "len") (λxs H Q=> ∃cs,xs= [.str (SL cs)]/\cs.length<=sizeLine/\Q (.int cs.length) H):=by
 intro pins s σ H xs us Q I r h;obtain⟨cs,rfl,hz,q⟩:=h;exact zgI pins s σ H _ us Q I r ⟨SL cs,rfl,by rw[qo];exact hz,by rw[qo];exact q⟩
theorem uf:OpR X (compareOp .NotIn) (λx y H Q=> ∃c cs,x= .str (SL [c])/\y= .str (SL cs)/\Q (.bl (!decide (c∈cs))) H):=by
 intro pins s σ H x y v u Q I rx ry h;obtain⟨c,cs,rfl,rfl,q⟩:=h;refine zgD pins s σ H _ _ v u Q I rx ry ⟨_,_,rfl,rfl,?_⟩;have e:=StrLaws.found_one (SL cs) c;rw[show (!(Builtin.Str.occurrences (SL cs) (SL [c]) 0 (SL cs).length 1).isEmpty)=decide (c∈cs) from e];exact q
theorem xD:ql X (.type "int") (λxs H Q=> ∃cs,xs= [.str (SL cs)]/\PySem.NumText.AllDigits cs/\cs≠ []/\cs.length<=640/\Q (.int (PySem.NumText.digitsVal cs:Nat)) H):=by
 intro pins s σ H xs us Q I r h;obtain⟨cs,rfl,hd,hne,hl,q⟩:=h;obtain⟨u,rfl,t,rfl⟩:=qK r;have e:=PySem.intText_digits (x:=SL cs) hd hne (by rw[qo];exact JD hl 'd');exact PySem.W.KIN.call_text e (by rw[qo];exact hl) ⟨.int _,H,I.tok _,⟨_,rfl⟩,q⟩
theorem vg:ql X (.type "str") (λxs H Q=> ∃i,xs= [.int i]/\0<=i/\i.natAbs.log2<1920/\Q (.str (SL (dg i.toNat))) H):=by
 intro pins s σ H xs us Q I r h;obtain⟨i,rfl,h0,hz,q⟩:=h;refine zgE pins s σ H _ us Q I r ⟨i,rfl,hz,?_⟩;obtain⟨n,rfl⟩:=Int.eq_ofNat_of_zero_le h0;rw[show (toString ((n:Nat):Int):Str)=SL (dg n) from zkK n];exact q
theorem zkM{ys:List (List Nat)}: ∀{us:List Value},zE (ys.map λy=>V.str (SL y)) us->StrsAre us (ys.map SL):=by
 induction ys with
 |nil=>intro us r;rw[JN] at r;cases r;exact .nil
 |cons n ns ih=>
  intro us r;rw[Jz] at r;cases r with
  |cons r1 r2=>
   obtain⟨t,e⟩:=r1;subst e;exact .cons _ t (ih r2)
end
def jn(sep:List Nat):List (List Nat)->List Nat
 | []=> []
 | [x]=>x
 |x::y::r=>x++sep++jn sep (y::r)
theorem jR(sep:List Nat): ∀yss:List (List Nat),Str.join (SL sep) (yss.map SL)=SL (jn sep yss)
 | []=>rfl
 | [x]=>rfl
 |x::y::r=>by
  have e:=jR sep (y::r);rw[Jz] at e;show SL x++SL sep++Str.join (SL sep) (SL y::r.map SL)=_;rw[e,jQ,jQ];rfl
def zf(cs:List Nat)(n:Nat):List Nat:=List.replicate (n - cs.length) 48++cs
theorem zjy(h: ∀c r,cs=c::r->c≠43/\c≠45):Txt.zfill (SL cs) (n:Int)=SL (zf cs n):=by
 unfold Txt.zfill zf;rw[qo];by_cases c:(n:Int)<=(cs.length:Nat)
 ·rw[Jg c,show n - cs.length=0 by omega];rfl
 ·rw[Jf c,JE];have e:Builtin.Str.padded (SL cs) (n - cs.length) 0 48=SL (List.replicate (n - cs.length) 48++cs):=by
   rw[vG (Builtin.Str.padded (SL cs) (n - cs.length) 0 48),padded_list];rw[List.replicate_zero,Jt];rfl
  rw[<-e];unfold PySem.zfilled;cases cs with
  |nil=>rfl
  |cons a r=>
   have q:=h a r rfl;show (match (some a:Option Nat) with|some 43|some 45=>_|_=>_)=_;split
   ·rename_i z;exact absurd (JQ z) q.1
   ·rename_i z;exact absurd (JQ z) q.2
   ·rfl
section
variable {X:Cx}
theorem uQ:MtR X "str.zfill" (λx vs H Q=> ∃cs n,x= .str (SL cs)/\vs= [.int ((n:Nat):Int)]/\n<=1000/\(∀c r,cs=c::r->c≠43/\c≠45)/\Q (.str (SL (zf cs n))) H):=by
 intro pins s σ H x vs v us Q I rx rv h;obtain⟨cs,n,rfl,rfl,hn,hc,q⟩:=h;obtain⟨t,rfl⟩:=rx;obtain⟨u,rfl,t',rfl⟩:=qK rv;rw[<-zjy hc] at q;refine SC.zfill ?_ λt' k=>⟨.str _,H,I.tok _,⟨_,rfl⟩,q⟩
 exact padOk_of 'o' 'o'
theorem ug:MtR X "str.join" (λx vs H Q=> ∃sep p ys,x= .str (SL sep)/\vs= [.ref p]/\SqL X.K H p (List.map (λy=>V.str (SL y)) ys)/\sep.length<=16/\(ys.map List.length).sum+ys.length<=1048576/\Q (.str (SL (jn sep ys))) H):=by
 intro pins s σ H x vs v us Q I rx rv h;obtain⟨sep,p,ys,rfl,rfl,hS,hs,hw,q⟩:=h;obtain⟨t,rfl⟩:=rx;obtain⟨u,rfl,ru⟩:=qK rv;obtain rfl:u=Value.ref p:=ru;obtain⟨its,r,pl,hz⟩:=I.list hS;have e:Txt.join (SL sep) (ys.map SL)=SL (jn sep ys):=(StrLaws.glued_eq_join _ _).trans (jR sep ys);refine join_listW pl.isList (zkM r) (by rw[qo];exact hs) ?_ λt' k=>⟨.str _,H,I.tok _,⟨_,rfl⟩,by rw[e];exact q⟩
 rw[List.map_map,Ja,show ((λx:Str=>x.length) ∘ SL)=List.length from funext λcs=>qo cs];exact hw
end
theorem jS:PySem.W.kitOne K (.type "str") (.type "str")=some true:=by
 unfold PySem.W.kitOne;rw[Jg 'd']
open PySem PySem.NumText
def fig:Nat->Int->List Nat
 |0,_=> []
 |k+1,n=>(48+(n / 10 ^ k % 10).toNat)::fig k n
theorem vh: ∀(k:Nat) (n:Int),(fig k n).length=k
 |0,_=>rfl
 |k+1,n=>by show (fig k n).length+1=k+1;rw[vh k n]
theorem uR: ∀(k:Nat) (n:Int),fig (k+1) n=fig k (n / 10)++ [48+(n % 10).toNat]
 |0,n=>by
  show [48+(n / 10 ^ 0 % 10).toNat]= [48+(n % 10).toNat];rw[Int.pow_zero,Int.ediv_one]
 |k+1,n=>by
  have e:n / 10 / 10 ^ k=n / 10 ^ (k+1):=by
   rw[Int.pow_succ,Int.mul_comm,Int.ediv_ediv_of_nonneg 'd']
  show (48+(n / 10 ^ (k+1) % 10).toNat)::fig (k+1) n=((48+(n / 10 / 10 ^ k % 10).toNat)::fig k (n / 10))++_;rw[uR k n,e];rfl
theorem uS: ∀(k:Nat) (n:Int),AllDigits (fig k n)
 |0,_=>λc h=>by cases h
 |k+1,n=>λc h=>by
  rcases JC.mp h with rfl|h
  ·have:=JI (n / 10 ^ k) (show (0:Int)<10 by decide);omega
  ·exact uS k n c h
theorem zhc: ∀k,fig k 0=List.replicate k 48
 |0=>rfl
 |k+1=>by
  show (48+((0:Int) / 10 ^ k % 10).toNat)::fig k 0=_;rw[zhc k,Int.zero_ediv];rfl
theorem zfw: ∀d:Nat,d<10->(Nat.digitChar d).toNat=48+d:=by decide
theorem wK(h:n<10):dg n= [48+n]:=by
 unfold dg;rw[Nat.toDigits_of_lt_base h,Jz,JN,zfw n h]
theorem vJ(h:10<=n):dg n=dg (n / 10)++ [48+n % 10]:=by
 have hm:n % 10<10:=Nat.mod_lt n 'd';have t:Nat.toDigits 10 (n / 10)++Nat.toDigits 10 (n % 10)=Nat.toDigits 10 (10*(n / 10)+n % 10):=Nat.toDigits_append_toDigits 'd' 'o' hm;rw[Nat.div_add_mod] at t;unfold dg;rw[<-t,Jd,Nat.toDigits_of_lt_base hm,Jz,JN,zfw _ hm]
theorem uT(n:Nat):AllDigits (dg n):=by
 induction n using Nat.strongRecOn with
 |_ n ih=>
  by_cases h:n<10
  ·rw[wK h];intro c hc;rw[Jm] at hc;omega
  ·rw[vJ 'o'];intro c hc;rcases Jr.mp hc with hc|hc
   ·exact ih (n / 10) 'o' c hc
   ·rw[Jm] at hc;omega
theorem uU{c:Nat}{r:List Nat}(h:dg n=c::r):c≠43/\c≠45:=by
 have:=uT n c (by rw[h];exact Jq ..);omega
theorem uV(n:Nat):0<(dg n).length:=by
 by_cases h:n<10
 ·rw[wK h];exact Nat.one_pos
 ·rw[vJ 'o',Jj];exact Nat.succ_pos _
theorem zlv: ∀(k n:Nat),n<10 ^ (k+1)->zf (dg n) (k+1)=fig (k+1) (n:Int)
 |0,n,h=>by
  have h':n<10:=h;rw[wK h'];show [48+n]= [48+((n:Int) / 10 ^ 0 % 10).toNat];rw[Int.pow_zero,Int.ediv_one];congr 2;omega
 |k+1,n,h=>by
  rw[uR];have e:((n:Int) / 10)=((n / 10:Nat):Int):=by omega
  have e2:((n:Int) % 10).toNat=n % 10:=by omega
  rw[e,e2];rw[Nat.pow_succ] at h;by_cases c:n<10
  ·rw[wK c,show n / 10=0 by omega,show ((0:Nat):Int)=0 from rfl,zhc,show n % 10=n by omega];rfl
  ·rw[<-zlv k (n / 10) 'o',vJ 'o'];unfold zf;rw[Jj,JJ];congr 2;simp
theorem zh9(h:n<2 ^ 1000):n.log2<1920:=by
 by_cases z:n=0
 ·subst z;decide
 ·exact(Nat.log2_lt z).mpr (Nat.lt_trans h (Nat.pow_lt_pow_right 'd' 'd'))
theorem vK(h0: -1000000000<=i)(h1:i<=1000000000):i.natAbs.log2<1920:=
 zh9 (Jx (show i.natAbs<2 ^ 30 by omega) (Nat.pow_le_pow_right 'd' 'd'))
theorem xK{xs:List Int}{lo hi:Int}(h: ∀x∈xs,lo<=x/\x<=hi)(h0:0<=i)(h1:i<xs.length):lo<=xs.getD i.toNat 0/\xs.getD i.toNat 0<=hi:=by
 have hl:i.toNat<xs.length:=by omega
 rw[Jo,Jb hl];exact h _ (List.getElem_mem hl)
theorem vL(c:Nat):c∈ [48,49,50,51,52,53,54,55,56,57]↔48<=c/\c<=57:=by
 simp only[JC,List.not_mem_nil,or_false];omega
theorem zl1(h:cs.length=10): ∃c0 c1 c2 c3 c4 c5 c6 c7 c8 c9,cs= [c0,c1,c2,c3,c4,c5,c6,c7,c8,c9]:=
 match cs,h with
 | [c0,c1,c2,c3,c4,c5,c6,c7,c8,c9],_=>⟨c0,c1,c2,c3,c4,c5,c6,c7,c8,c9,rfl⟩
section
variable {prog:Program} {w:World} {A:Around} {E:Value->Shared->Prop}
end
section
variable {X:Cx} {pos:Pos}
end
def PEt(X:Cx)(e:Expr)(t:TE):Prop:=
 ∀(pins:List (Addr×Obj)) (s:Shared) (σ:St) (H:Hp) (Q:VK),0<s.toks->Inv X pins σ H s->t σ H Q->wpAny (model X.prog X.w) X.A (eval e X.env) (EP X pins σ Q) X.xe s
def PAt(X:Cx)(es:List Expr)(t:TA):Prop:=
 ∀(pos:Pos) (pins:List (Addr×Obj)) (s:Shared) (σ:St) (H:Hp) (Q:List V->Hp->Prop),0<s.toks->Inv X pins σ H s->t σ H Q->wpAny (model X.prog X.w) X.A (spliced (backTo pos (starEach es X.env))) (AP X pins σ Q) X.xe s
def PSst(X:Cx)(st:List Stmt)(t:TS):Prop:=
 ∀(pins:List (Addr×Obj)) (s:Shared) (σ:St) (H:Hp) (D:Ends),0<s.toks->Inv X pins σ H s->t D σ H->wpAny (model X.prog X.w) X.A (execs st X.env) (SP X pins D) X.xe s
section
variable {X:Cx} {a b e o:Expr} {es:List Expr} {te ta tb to:TE} {t:TA} {pos apos cpos:Pos}
end
theorem at_strs{ys:List (List Nat)}(h0:0<=i)(h1:i<ys.length): ∃y,y∈ys/\atI (ys.map λy=>V.str (SL y)) i=some (.str (SL y)):=by
 obtain⟨k,rfl⟩:=Int.eq_ofNat_of_zero_le h0;have hk:k<ys.length:=by omega
 refine⟨ys[k],List.getElem_mem hk,yP ?_⟩;rw[Jh,Jb hk];rfl
section
variable {prog:Program} {w:World} {A:Around} {R:Result->Shared->Prop} {s:Shared}
abbrev NoE:Value->Shared->Prop:=λ_ _=>False
theorem zhd{elt target iter:Expr}{ifs:List Expr}{scope:Scope}{pos:Pos}{it acc:Value}{env:Env}(I:Nat->Shared->Prop)
  (turn: ∀n s,I n s->wpAny (model prog w) A (pyNext it) (λr s₁=>match r with
   |none=>R (.ok .next) s₁
   |some v=>wpAny (model prog w) A (letOwnedTupleGo target it v) (λ_ s₁'=>wpAny (model prog w) A (assign target env v) (λ_ s₂=>
     wpAny (model prog w) A (forIn ifs true λc r=>if r=true then do let ok<-isTrue c env (eval c env);pure (ForInStep.yield ok) else pure (ForInStep.yield r)) (λok s₃=>
      if ok=true then wpAny (model prog w) A (eval elt env) (λx s₄=>
       wpAny (model prog w) A (call (.builtin "list.append") [acc,x]) (λ_ s₅=> ∃m,m<n/\I m s₅) NoE s₄) NoE s₃
      else∃m,m<n/\I m s₃) NoE s₂) NoE s₁') NoE s₁) NoE s)
  (n:Nat) (h:I n s):
  codeAny (model prog w) A (.compLoop (.ListComp elt [⟨target,iter,ifs,0⟩] scope pos) 0 it acc env) R s:=by
 refine codeAny_loop rfl I (λn s hI=> ?_) n h;show wpAny _ A ((compTurn (.ListComp elt [⟨target,iter,ifs,0⟩] scope pos) 0 it acc env).onRaise (λx=>do noteFrame x env;theTreesLotGoes x)) _ _ s;refine wpAny_noted ?_;rw[compTurn_list];refine JR (wpAny_standAt (JR (wpAny_mono (turn n s hI) (λr s₁ h₁=> ?_) λ_ _ h'=>h'.elim)));cases r with
 |none=>exact JS h₁
 |some v=>
  refine JR (wpAny_mono h₁ (λ_ s₁' h₁'=> ?_) λ_ _ h'=>h'.elim);refine JR (wpAny_mono h₁' (λ_ s₂ h₂=>JR (wpAny_mono h₂ (λok s₃ h₃=> ?_) λ_ _ h'=>h'.elim)) λ_ _ h'=>h'.elim);cases ok with
  |false=>exact JS ⟨rfl,h₃⟩
  |true=>
   exact JR (JR (wpAny_mono h₃ (λx s₄ h₄=>JR (wpAny_mono h₄ (λ_ s₅ h₅=>JS (JS ⟨rfl,h₅⟩)) λ_ _ h'=>h'.elim)) λ_ _ h'=>h'.elim))
end
structure CA where
 cl:List (Str×Addr)
 C:Addr
 s:Shared
 H:Hp
 fp:List Addr
def Cx.comp(X:Cx)(scope:Scope)(N:List Str)(a:CA):Cx:=
 {X with N:=N,s₀:=a.s,H₀:=a.H,env:=compEnvC scope a.cl a.C X.env,outer:=X.stack,ex:=a.fp,fn:=λ_=>false,pn:= [],xe:=NoE}
theorem yG{a:CA}:(X.comp scope N a).K=X.K:=rfl
theorem jT:Lv X (λ_ _ _ _=>False):=⟨λ_ _ _ _ _ _ _ _ _ _ q=>q.elim⟩
def wB(outer:List (Str×NameKind))(oN:List Str)(inner:List (Str×NameKind))(N:List Str)(n:Nat)(js:List Nat):Bool:=
 N.length==n+js.length &&
 (inner.all λp=>p.2 != .cell && (p.2 != .local||inner.lookup p.1==some .local) && (p.2 != .free||(inner.lookup p.1==some .free && (outer.lookup p.1==some .cell||outer.lookup p.1==some .free)))) &&
 (List.range js.length).all λk=>match js[k]?,N[n+k]? with
  |some j,some x=>oN[j]? ==some x && (outer.lookup x==some .cell||outer.lookup x==some .free) && inner.lookup x==some .free
  |_,_=>false
def zH(σ:St)(n:Nat)(js:List Nat):St:=List.replicate n none++js.map λj=>(σ[j]?).join
def Sub(σ τ:St):Prop:=σ.length=τ.length/\ ∀(i:Nat) v,σ[i]? =some (some v)->τ[i]? =some (some v)
theorem zJ:Sub [] []=True:=eq_true ⟨rfl,λi v h=>by simp at h⟩
theorem zK{τ:St}{x:Option V}:Sub (none::σ) (x::τ)=Sub σ τ:=by
 refine propext ⟨λh=>⟨by simpa using h.1,λi v e=>by simpa using h.2 (i+1) v (by simpa using e)⟩,λh=>⟨by simpa using h.1,λi v e=> ?_⟩⟩;cases i with
 |zero=>simp at e
 |succ i=>simpa using h.2 i v (by simpa using e)
theorem z9{τ:St}:Sub (some x::σ) (some x::τ)=Sub σ τ:=by
 refine propext ⟨λh=>⟨by simpa using h.1,λi v e=>by simpa using h.2 (i+1) v (by simpa using e)⟩,λh=>⟨by simpa using h.1,λi v e=> ?_⟩⟩;cases i with
 |zero=>simpa using e
 |succ i=>simpa using h.2 i v (by simpa using e)
theorem zhH(h: ∀p∈scope.names,p.2=NameKind.free-> ∃c,env.cells.lookup p.1=some c):
  ∃cl,closureFor scope env=pure cl/\(∀x c,cl.lookup x=some c->env.cells.lookup x=some c)/\ ∀p∈scope.names,p.2=NameKind.free-> ∃c,cl.lookup p.1=some c:=by
 have go: ∀(names:List (Str×NameKind)) (acc:List (Str×Addr)),(∀p∈names,p.2=NameKind.free-> ∃c,env.cells.lookup p.1=some c)->(∀x c,acc.lookup x=some c->env.cells.lookup x=some c)->
   ∃cl,(forIn names acc (λx r=>match x with|(name,kind)=>if (kind==NameKind.free)=true then do let c<-cellOf env name;pure (ForInStep.yield ((name,c)::r)) else pure (ForInStep.yield r)):Sem (List (Str×Addr)))=pure cl/\
    (∀x c,cl.lookup x=some c->env.cells.lookup x=some c)/\(∀p∈names,p.2=NameKind.free-> ∃c,cl.lookup p.1=some c)/\ ∀x,(∃c,acc.lookup x=some c)-> ∃c,cl.lookup x=some c:=by
  intro names;induction names with
  |nil=>intro acc _ ha;exact⟨acc,rfl,ha,λp hp=>absurd hp (by simp),λ_ q=>q⟩
  |cons p r ih=>
   intro acc hp ha;obtain⟨nm,k⟩:=p;by_cases hk:k=NameKind.free
   ·subst hk;obtain⟨c,hc⟩:=hp (nm, .free) Jq rfl;have ec:cellOf env nm=pure c:=by unfold cellOf;rw[hc]
    have ha': ∀x c',((nm,c)::acc).lookup x=some c'->env.cells.lookup x=some c':=λx c' e=>by
     rw[List.lookup_cons] at e;cases z:x==nm with
     |true=>rw[z] at e;cases e;rw[eq_of_beq z];exact hc
     |false=>rw[z] at e;exact ha x c' e
    obtain⟨cl,e,q1,q2,q3⟩:=ih ((nm,c)::acc) (λp hp'=>hp p (Jl _ hp')) ha';refine⟨cl,?_,q1,λp hp' hf=> ?_,λx hx=>q3 x ?_⟩
    ·rw[List.forIn_cons];simp only[beq_self_eq_true,if_true,ec];exact e
    ·rcases JC.mp hp' with rfl|hp'
     ·exact q3 nm ⟨c,by rw[List.lookup_cons,beq_self_eq_true]⟩
     ·exact q2 p hp' hf
    ·rw[List.lookup_cons];cases z:x==nm with
     |true=>exact⟨c,rfl⟩
     |false=>exact hx
   ·obtain⟨cl,e,q1,q2,q3⟩:=ih acc (λp hp'=>hp p (Jl _ hp')) ha;refine⟨cl,?_,q1,λp hp' hf=> ?_,q3⟩
    ·rw[List.forIn_cons];have z:(k==NameKind.free)=false:=by simpa using hk
     simp only[z,Js,if_false];exact e
    ·rcases JC.mp hp' with rfl|hp'
     ·exact absurd hf hk
     ·exact q2 p hp' hf
 obtain⟨cl,e,q1,q2,_⟩:=go scope.names [] h (λx c e=>by simp at e);refine⟨cl,?_,q1,q2⟩;unfold closureFor;simp only[pure_bind,bind_pure];exact e
theorem vi{outer:List (Str×NameKind)}{oN:List Str}{inner:List (Str×NameKind)}{js:List Nat}(h:wB outer oN inner N n js=true):
  N.length=n+js.length/\(∀p∈inner,p.2≠NameKind.cell)/\(∀p∈inner,p.2=NameKind.local->inner.lookup p.1=some .local)/\
  (∀p∈inner,p.2=NameKind.free->inner.lookup p.1=some .free/\(outer.lookup p.1=some .cell\/outer.lookup p.1=some .free))/\
  ∀k j x,js[k]? =some j->N[n+k]? =some x->oN[j]? =some x/\(outer.lookup x=some .cell\/outer.lookup x=some .free)/\inner.lookup x=some .free:=by
 unfold wB at h;simp only[Bool.and_eq_true,beq_iff_eq,List.all_eq_true,List.mem_range] at h;obtain⟨⟨h1,h2⟩,h3⟩:=h;refine⟨h1,λp hp=>by simpa using (h2 p hp).1.1,λp hp e=> ?_,λp hp e=> ?_,λk j x e1 e2=> ?_⟩
 ·have z:=(h2 p hp).1.2;rw[e] at z;simpa using z
 ·have z:=(h2 p hp).2;rw[e] at z;simpa using z
 ·have z:=h3 k (Jc.mp e1).1;rw[e1,e2] at z;simpa [and_assoc] using z
theorem zdL{x:Str}:(relabel scope env).names.lookup x=(scope.names.lookup x).map (λk=>if (k==NameKind.free && env.scope.kind== .function && env.kindOf x==some .cell)=true then NameKind.cell else k):=by
 show (scope.names.map λ(n,k)=>if (k==NameKind.free && env.scope.kind== .function && env.kindOf n==some .cell)=true then (n,NameKind.cell) else (n,k)).lookup x=_;induction scope.names with
 |nil=>rfl
 |cons p r ih=>
  obtain⟨nm,k⟩:=p;rw[Jz];dsimp only;cases z:x==nm with
  |true=>
   obtain rfl:=eq_of_beq z;by_cases c:(k==NameKind.free && env.scope.kind== .function && env.kindOf x==some .cell)=true
   ·simp only[c,if_true,List.lookup_cons,z,Option.map_some]
   ·rw[Jf c];simp only[List.lookup_cons,z,Option.map_some,Jf c]
  |false=>
   by_cases c:(k==NameKind.free && env.scope.kind== .function && env.kindOf nm==some .cell)=true
   ·rw[Jg c];simp only[List.lookup_cons,z];exact ih
   ·rw[Jf c];simp only[List.lookup_cons,z];exact ih
section
variable {X:Cx} {scope:Scope} {N:List Str} {n:Nat} {js:List Nat} {pins:List (Addr×Obj)} {σ:St} {H:Hp} {s₃:Shared} {cl:List (Str×Addr)} {fp:List Addr}
theorem zhe(cap:wB X.env.scope.names X.N scope.names N n js=true)(hkind:scope.kind= .function)(I:Inv X pins σ H s₃)(hc1: ∀x c,cl.lookup x=some c->X.env.cells.lookup x=some c)
  (hc2: ∀p∈scope.names,p.2=NameKind.free-> ∃c,cl.lookup p.1=some c) (hf: ∀b∈fp,qS X pins H b) (hlt: ∀b∈fp,b<s₃.heap.objs.size) {h₁:Heap} {t:Nat} {m:Str->Option Value}
  (hns:h₁.Ns s₃.heap.objs.size m) (hk: ∀b o,s₃.heap.get? b=some o->h₁.get? b=some o):
  Inv (X.comp scope N ⟨cl,s₃.heap.objs.size,s₃,H,fp⟩) [] (zH σ n js) H {s₃ with heap:=h₁,toks:=t}:=by
 obtain⟨k1,k2,k3,k4,k5⟩:=vi cap;have kf: ∀x,((relabel scope X.env).names.lookup x=some .cell\/(relabel scope X.env).names.lookup x=some .free)->scope.names.lookup x=some .free:=λx h=>by
  rw[zdL] at h;cases e:scope.names.lookup x with
  |none=>rw[e] at h;simp at h
  |some k=>
   rw[e,Option.map_some] at h;cases k with
   |free=>rfl
   |cell=>exact absurd rfl (k2 (x, .cell) (PySem.mem_of_lookup e))
   | «local» =>simp at h
   |_=>simp at h
 have bf: ∀x,scope.names.lookup x=some .free->(relabel scope X.env).names.lookup x=some .cell\/(relabel scope X.env).names.lookup x=some .free:=λx h=>by
  rw[zdL,h,Option.map_some];split
  ·exact .inl rfl
  ·exact .inr rfl
 have isC: ∀c v,s₃.heap.IsCell c v->h₁.IsCell c v:=λc v ⟨o,ho,r⟩=>⟨o,hk _ _ ho,r⟩
 refine⟨⟨I.ok.mod,hkind,I.ok.glob,I.ok.blt,Je _,λx y c e1 e2=>I.ok.inj x y c (hc1 x c e1) (hc1 y c e2),λx h=>hc2 (x, .free) (PySem.mem_of_lookup (kf x h)) rfl,λx c h=>absurd h Ju,I.ok.hd,I.ok.frames, .inl rfl,
   λb hb=>⟨JH (hlt b hb),λx c e=>(hf b hb).2.2.2.2.1 x c (hc1 x c e)⟩,I.bs,JD I.ok.bsz I.sz,λb o e hb=> ?_,λb hb hz=> ?_,I.stack,I.stkFree⟩,
  rfl,I.bare,Un.kept hk,⟨m,hns,λi x v e1 e2 e3=> ?_⟩,λx c e=> ?_,I.hok.fresh (Je _),λx c e=>I.freeC x c (hc1 x c e),λp hp=>absurd hp (by simp [Cx.comp]),I.hok.kept hk,?_⟩
 ·rcases (hf b hb).2.2.2.1 with z|z
  ·exact I.ok.noex b o e z
  ·exact absurd (Jx (JU e) (JD I.ok.bsz z)) (Nat.lt_irrefl _)
 ·rcases JC.mp (I.stkSub b hz) with z|z
  ·exact(hf b hb).2.1 z
  ·exact(hf b hb).2.2.1 z
 ·have e2':(zH σ n js)[i]? =some (some v):=e2;unfold zH at e2';by_cases hi:i<n
  ·rw[List.getElem?_append_left (by simpa using hi),List.getElem?_replicate,Jg hi] at e2';cases e2'
  ·rw[List.getElem?_append_right (by simpa using hi),List.length_replicate,Jh] at e2';cases ej:js[i - n]? with
   |none=>rw[ej] at e2';cases e2'
   |some j=>
    rw[ej,Option.map_some] at e2';have e4:(σ[j]?).join=some v:=JQ e2';have e5:σ[j]? =some (some v):=by
     cases q:σ[j]? with
     |none=>rw[q] at e4;cases e4
     |some w=>rw[q] at e4;rw[show w=some v from e4]
    have e1':N[n+(i - n)]? =some x:=by rw[show n+(i - n)=i by omega];exact e1
    obtain⟨c1,c2,c3⟩:=k5 (i - n) j x ej e1';obtain⟨m',hn',hl'⟩:=I.loc;obtain⟨u,ru,lk⟩:=hl' j x v c1 e5 (.inr c2);refine⟨u,ru,?_⟩;rcases lk with⟨hk',_⟩|⟨_,c,hc,hcell⟩
    ·have hk'':X.env.scope.names.lookup x=some .local:=hk';rcases c2 with c2|c2<;>(rw[hk''] at c2;cases c2)
    ·obtain⟨c',hc'⟩:=hc2 (x, .free) (PySem.mem_of_lookup c3) rfl
     have:=hc1 x c' hc';rw[hc] at this;cases this;exact .inr ⟨bf x c3,c,hc',isC _ _ hcell⟩
 ·obtain⟨v,z⟩:=I.cell x c (hc1 x c e);exact⟨v,isC _ _ z⟩
 ·show (zH σ n js).length=N.length;unfold zH;rw[Jj,List.length_replicate,Ja,k1]
end
def PIf(X:Cx)(ifs:List Expr)(t:TT):Prop:=
 ∀(pins:List (Addr×Obj)) (s:Shared) (σ:St) (H:Hp) (Q:Bool->Hp->Prop),Inv X pins σ H s->t σ H Q->
  wpAny (model X.prog X.w) X.A (forIn ifs true λc r=>if r=true then do let ok<-isTrue c X.env (eval c X.env);pure (ForInStep.yield ok) else pure (ForInStep.yield r)) (TP X pins σ Q) X.xe s
def zQ:TT:=λ_ H Q=>Q true H
theorem wa:PIf X [] zQ:=λ_ _ _ H _ I h=>wpAny_tests_nil ⟨H,I,h⟩
theorem jU{c:Expr}{t:TT}(hc:PT X c t):PIf X [c] t:=λpins s σ H Q I h=>wpAny_tests_one (hc pins s σ H Q I h)
def wC(J:It)(σ0:St)(g:TG)(tc:TT)(te:TE)(l:Addr)(Q:VK)(H1:Hp):Prop:=
 ∃W:Nat->Nat->List V->Hp->Prop,(∃m,W 0 m [] (upd H1 l (.lst [])))/\ ∀i m xs H,W i m xs H->H l=some (.lst xs)/\xs.length<sizeLine/\
  ((J.stop i H/\Q (.ref l) H)\/(J.go i H/\ ∀x H',J.yld i H x H'->g x σ0 H' λσ2 H2=>Sub σ0 σ2/\tc σ2 H2 λb H3=>
   if b=true then te σ2 H3 λv H4=>H4 l=some (.lst xs)/\ ∃m',m'<m/\W (i+1) m' (xs++ [v]) (upd H4 l (.lst (xs++ [v]))) else∃m',m'<m/\W (i+1) m' xs H3))
section
variable {X:Cx} {tg elt iter:Expr} {ifs:List Expr} {scope:Scope} {pos:Pos} {N:List Str} {n:Nat} {js:List Nat} {g:CA->TG} {tc:CA->TT} {te:CA->TE}
theorem zgh{pins:List (Addr×Obj)}{σ:St}{H₁:Hp}{s₂:Shared}{E:Value->Shared->Prop}(cap:wB X.env.scope.names X.N scope.names N n js=true)(hkind:scope.kind= .function)(hcalm:X.calm=true)
  (hg: ∀a,PG (X.comp scope N a) tg (g a)) (hc: ∀a,PIf (X.comp scope N a) ifs (tc a)) (he: ∀a,PE (X.comp scope N a) elt (te a))
  (I:Inv X pins σ H₁ s₂) {it:Addr} {fp:List Addr} {tn:Nat->Heap->Prop} {J:It} (T:Turn X.prog X.w X.K tg J fp it tn) (h0:tn 0 s₂.heap) (hf: ∀b∈fp,qS X pins H₁ b)
  {cl:List (Str×Addr)} (hc1: ∀x c,cl.lookup x=some c->X.env.cells.lookup x=some c) (hc2: ∀p∈scope.names,p.2=NameKind.free-> ∃c,cl.lookup p.1=some c)
  {Q:VK} (hq: ∀l,H₁ l=none-> ∀a,wC J (zH σ n js) (g a) (tc a) (te a) l Q H₁)
  {RR:Value->Addr->Result->Shared->Prop}
  (hRR: ∀l C H' s' m,Inv X pins σ H' s'->s'.heap.Ns C m->H' C=none->C≠X.env.locals->X.s₀.heap.objs.size<=C->(∀x c,X.env.cells.lookup x=some c->c≠C)->(∀p∈X.pn++pins,p.1≠C)->C∉X.fs->Q (.ref l) H'->RR (.ref l) C (.ok .next) s'):
  wpAny (model X.prog X.w) X.A (newList []) (λacc s₃=>wpAny (model X.prog X.w) X.A (newFunctionEnv scope X.env.globals cl [] X.env.qual none .none (some X.env)) (λcenv s₄=>
   codeAny (model X.prog X.w) X.A (.compStart (.ListComp elt [⟨tg,iter,ifs,0⟩] scope pos) 0 (.ref it) acc {cenv with scope:=relabel scope X.env}) (RR acc cenv.locals) s₄) E s₃) E s₂:=by
 obtain⟨k1,k2,k3,k4,k5⟩:=vi cap;refine wpAny_newObj_type (wpAny_newFunctionEnv k2 (by intro y hy;simp at hy) (λh₁ hns₁ hsb₁=> ?_) hkind);dsimp only at hns₁ hsb₁ ⊢;obtain⟨s3,hs3⟩: ∃s3:Shared,s3={s₂ with heap:=s₂.heap.push {cls:= .type "list",dict:=none,data:= .seq ([]:List Value).toArray} }:=⟨_,rfl⟩
 have eh:s₂.heap.push {cls:= .type "list",dict:=none,data:= .seq ([]:List Value).toArray}=s3.heap:=by rw[hs3]
 rw[eh] at hns₁ hsb₁ ⊢;have kp3: ∀b o,s₂.heap.get? b=some o->s3.heap.get? b=some o:=λb o e=>by rw[<-eh];exact JT _ e
 have hl0:H₁ s₂.heap.objs.size=none:=I.hok.fresh (Je _);have I3:Inv X pins σ (upd H₁ s₂.heap.objs.size (.lst [])) s3:=by
  rw[hs3];exact I.laid (t':=s₂.toks) (λb u e=>JT _ e) (Je _) ⟨Jv _, [],0, .nil,JV _ rfl⟩
 have fpo: ∀b∈fp,∃o,s₂.heap.get? b=some o:=λb hb=>let ⟨o,e,_⟩:=T.obj _ _ h0 b hb;⟨o,e⟩;have fpl: ∀b∈fp,b≠s₂.heap.objs.size:=λb hb z=>let ⟨o,e⟩:=fpo b hb;Nat.lt_irrefl _ (z ▸ JU e);have hf3: ∀b∈fp,qS X pins (upd H₁ s₂.heap.objs.size (.lst [])) b:=λb hb=>⟨by rw[zT (fpl b hb)];exact(hf b hb).1,(hf b hb).2⟩
 have hlt3: ∀b∈fp,b<s3.heap.objs.size:=λb hb=>let ⟨o,e⟩:=fpo b hb;JU (kp3 b o e);have kp1: ∀b o,s3.heap.get? b=some o->h₁.get? b=some o:=λb o e=>hsb₁.extBut b o (JH (JU e)) (JT _ e);have IC:=zhe (t:=s3.toks) cap hkind I3 hc1 hc2 hf3 hlt3 hns₁ kp1;have hCl:X.env.locals<s3.heap.objs.size:=I3.lt;obtain⟨a,ha⟩: ∃a:CA,a=⟨cl,s3.heap.objs.size,s3,upd H₁ s₂.heap.objs.size (.lst []),fp⟩:=⟨_,rfl⟩
 rw[<-ha] at IC;have aC:a.C=s3.heap.objs.size:=by rw[ha]
 obtain⟨W,⟨m0,w0⟩,turn⟩:=hq _ hl0 a;have tn1:tn 0 h₁:=T.keep _ _ _ h0 λb _ o e=>kp1 b o (kp3 b o e);have stat: ∀{H':Hp},(∀b∈fp,H' b=none)-> ∀b∈fp,qS (X.comp scope N a) [] H' b:=fun {H'} hn b hb=>
  ⟨hn b hb,by show b≠a.C;rw[aC];exact JH (hlt3 b hb),λhz=>by
    rcases JC.mp (I3.stkSub b hz) with z|z
    ·exact(hf b hb).2.1 z
    ·exact(hf b hb).2.2.1 z, .inl (by show b∈a.fp;rw[ha];exact hb),λx c e=>(hf b hb).2.2.2.2.1 x c (hc1 x c (by rw[ha] at e;exact e)),λp hp=>absurd hp (by simp [Cx.comp])⟩
 have loop: ∀s4:Shared,s4={s3 with heap:=h₁,toks:=s3.toks}->
   codeAny (model X.prog X.w) X.A (.compLoop (.ListComp elt [⟨tg,iter,ifs,0⟩] scope pos) 0 (.ref it) (.ref s₂.heap.objs.size) (X.comp scope N a).env) (RR (.ref s₂.heap.objs.size) s3.heap.objs.size) s4:=by
  rintro s4 rfl;refine zhd (λk s'=> ∃i xs H',Inv (X.comp scope N a) [] (zH σ n js) H' s'/\tn i s'.heap/\(∀b∈fp,H' b=none)/\W i k xs H') ?_ m0 ⟨0, [],_,IC,tn1,λb hb=>(hf3 b hb).1,w0⟩;rintro k s5 ⟨i,xs,H5,I5,t5,f5,w5⟩;obtain⟨hl5,hz5,alt⟩:=turn i k xs H5 w5;rcases alt with⟨stop,qn⟩|⟨go,step⟩
  ·refine thn (T.done (X.comp scope N a) rfl rfl rfl hcalm i [] s5 _ H5 NoE I5 (stat f5) t5 stop) λr s6 ⟨hr,I6⟩=> ?_;subst hr;obtain⟨m6,hn6,_⟩:=I6.loc;have hn6':s6.heap.Ns s3.heap.objs.size m6:=by rw[<-aC];exact hn6
   have u6:Un (frs X.stack) fp (upd H₁ s₂.heap.objs.size (.lst [])) H5 s3.heap s6.heap:=by
    have z:=I6.base;rw[ha] at z;exact z
   have os6:s6.os=s3.os:=by
    have z:=I6.os;rw[ha] at z;exact z
   have I7:Inv X pins σ H5 s6:=I3.call' os6 u6 I6.hok I6.bare λb hb=>⟨(hf b hb).2.2.2.1,(hf b hb).2.1,(hf b hb).2.2.2.2.1,(hf b hb).2.2.2.2.2⟩
   refine hRR _ _ H5 s6 m6 I7 hn6' (by have z:=I6.free;rw[show (X.comp scope N a).env.locals=s3.heap.objs.size from aC] at z;exact z) (Nat.ne_of_gt hCl) I3.sz (λx c e z=> ?_) (λp hp z=> ?_) (I3.nofs (Je _)) qn
   ·obtain⟨v,q⟩:=I3.cell x c e;exact Nat.lt_irrefl _ (z ▸ q.lt)
   ·exact Nat.lt_irrefl _ (z ▸ JU (I3.pin p hp).1)
  ·refine thn (T.item (X.comp scope N a) rfl rfl rfl hcalm i [] s5 _ H5 NoE I5 (stat f5) t5 go) λr s6 ⟨u,hr,h6⟩=> ?_;subst hr;refine thn h6 λ_ s7 ⟨x,H7,I7,r7,y7,t7,f7⟩=> ?_;have I7':=I7.pinned (stat f7) (T.obj _ _ t7);rw[List.nil_append] at I7';refine thn (hg a _ s7 _ H7 x u _ I7' r7 (step x H7 y7)) λ_ s8 ⟨σ8,H8,I8,sub8,q8⟩=> ?_;refine thn (hc a _ s8 σ8 H8 _ I8 q8) λok s9 ⟨H9,I9,q9⟩=> ?_;have back: ∀{σ':St} {H':Hp} {s':Shared},Inv (X.comp scope N a) (ww fp s7.heap) σ' H' s'->Sub (zH σ n js) σ'->Inv (X.comp scope N a) [] (zH σ n js) H' s'/\tn (i+1) s'.heap/\ ∀b∈fp,H' b=none:=fun {σ' H' s'} I' sb=>by
    refine⟨(I'.pins_of λp hp=>absurd hp (by simp)).weak sb.1 sb.2,T.keep _ _ _ t7 λb hb o e=>(I'.pin (b,o) (List.mem_append_right _ (wH hb e))).1,λb hb=> ?_⟩;obtain⟨o,e,d⟩:=T.obj _ _ t7 b hb;exact(I'.pin (b,o) (List.mem_append_right _ (wH hb e))).2.1
   cases ok with
   |false=>
    obtain⟨m',lt,w'⟩:=q9;obtain⟨b1,b2,b3⟩:=back I9 sub8;exact⟨m',lt,i+1,xs,H9,b1,b2,b3,w'⟩
   |true=>
    refine thn (he a _ s9 σ8 H9 _ I9 q9) λy s10 ⟨v,H10,I10,r10,hl10,m',lt,w'⟩=> ?_;refine thn (wI (X:=X.comp scope N a) _ s10 σ8 H10 (.ref s₂.heap.objs.size) [v] _ [y] (λ_ H'=>H'=upd H10 s₂.heap.objs.size (.lst (xs++ [v]))) I10 rfl (.cons r10 .nil) ⟨_,xs,v,rfl,rfl,hl10,hz5,rfl⟩) λ_ s11 ⟨_,H11,I11,_,e11⟩=> ?_;subst e11;obtain⟨b1,b2,b3⟩:=back I11 sub8;exact⟨m',lt,i+1,_,_,b1,b2,b3,w'⟩
 have eE:{newEnv scope s3.heap.objs.size X.env.globals cl X.env.qual none Value.none (some X.env) builtinsNs with scope:=relabel scope X.env}=(X.comp scope N a).env:=by rw[ha];rfl
 have lp:=loop _ rfl;rw[<-eE] at lp;have sf:=T.self X.A 0 {s3 with heap:=h₁,toks:=s3.toks} (λit' s'=>codeAny (model X.prog X.w) X.A (.compLoop (.ListComp elt [⟨tg,iter,ifs,0⟩] scope pos) 0 it' (.ref s₂.heap.objs.size) {newEnv scope s3.heap.objs.size X.env.globals cl X.env.qual none Value.none (some X.env) builtinsNs with scope:=relabel scope X.env}) (RR (.ref s₂.heap.objs.size) s3.heap.objs.size) s')
  (notedBy (model X.prog X.w) X.A {newEnv scope s3.heap.objs.size X.env.globals cl X.env.qual none Value.none (some X.env) builtinsNs with scope:=relabel scope X.env} λx s'=>RR (.ref s₂.heap.objs.size) s3.heap.objs.size (.error x) s') tn1 lp
 have fin:=codeAny_compStart_list lp sf;rw[hs3] at fin ⊢;exact fin
def xE(n:Nat)(js:List Nat)(wi:TI)(g:CA->TG)(tc:CA->TT)(te:CA->TE):TE:=λσ H Q=>wi σ H λJ H1=> ∀l,H1 l=none-> ∀a:CA,wC J (zH σ n js) (g a) (tc a) (te a) l Q H1
theorem jV(cap:wB X.env.scope.names X.N scope.names N n js=true)(I:Inv X pins σ H s):
  ∃cl,closureFor scope X.env=pure cl/\(∀x c,cl.lookup x=some c->X.env.cells.lookup x=some c)/\ ∀p∈scope.names,p.2=NameKind.free-> ∃c,cl.lookup p.1=some c:=
 zhH λp hp e=>I.ok.has p.1 ((vi cap).2.2.2.1 p hp e).2
theorem wD(cap:wB X.env.scope.names X.N scope.names N n js=true)(hkind:scope.kind= .function)(hcalm:X.calm=true)(hi:PI X tg iter wi)
  (hg: ∀a,PG (X.comp scope N a) tg (g a)) (hc: ∀a,PIf (X.comp scope N a) ifs (tc a)) (he: ∀a,PE (X.comp scope N a) elt (te a))
  (hs: ∀x,foldedSetIterable iter X.env x=pure x:=by intro _;rfl):PE X (.ListComp elt [⟨tg,iter,ifs,0⟩] scope pos) (xE n js wi g tc te):=by
 intro pins s σ H Q I h;obtain⟨cl,hclos,hc1,hc2⟩:=jV cap I;rw[eval_ListComp];refine wpAny_comprehension_free (use:=none) rfl hs hclos hkind (vi cap).2.2.1 (thn (hi pins s σ H _ I h) λv s1 h1=>thn h1 λitv s2 h2=> ?_);obtain⟨it,fp,tn,J,H2,rfl,I2,T,st2,f2,q⟩:=h2;refine zgh (RR:=λacc C=>compPost (model X.prog X.w) X.A X.xe none (EP X pins σ Q) acc C) cap hkind hcalm hg hc he I2 T st2 f2 hc1 hc2 q ?_;intro l C H' s' m I' hn hC hL hs0 hcell hpin hfs hq;exact⟨m,hn,λh' hsb=>⟨.ref l,H',I'.turned (t':=s'.toks) (λb o hb e=>(hsb.2 b hb).trans e) hC hL (.inr hs0) hcell hpin,rfl,hq⟩⟩
theorem jW{i:Nat}{y:Str}{py spos:Pos}(hN:X.N.Nodup)(hi:X.N[i]? =some y)(hy:X.env.scope.names.lookup y=some .local)(cap:wB X.env.scope.names X.N scope.names N n js=true)(hkind:scope.kind= .function)(hcalm:X.calm=true)(hw:PI X tg iter wi)
  (hg: ∀a,PG (X.comp scope N a) tg (g a)) (hc: ∀a,PIf (X.comp scope N a) ifs (tc a)) (he: ∀a,PE (X.comp scope N a) elt (te a))
  (hsw:swapsWith (.ListComp elt [⟨tg,iter,ifs,0⟩] scope pos) (some (.Name y py)) spos.line X.env=pure true:=by rfl)
  (hs: ∀x,foldedSetIterable iter X.env x=pure x:=by intro _;rfl):PS X (.Assign [.Name y py] (.ListComp elt [⟨tg,iter,ifs,0⟩] scope pos) spos) (zS (xE n js wi g tc te) (zL i)):=by
 intro pins s σ H D I h;obtain⟨cl,hclos,hc1,hc2⟩:=jV cap I;rw[exec_Assign_Name_used _ _ _ _ hsw];refine JR (wpAny_standAt (JR ?_));show wpAny _ X.A (do let _<-comprehension (.ListComp elt [⟨tg,iter,ifs,0⟩] scope pos) scope X.env _ (newList []) false (eval iter X.env) (some (assign (.Name y py) X.env))) _ _ s;refine JR (wpAny_mono (wpAny_comprehension_free (use:=some (assign (.Name y py) X.env)) (Q:=λ_ s'=>SP X pins D .next s') rfl hs hclos hkind (vi cap).2.2.1
  (thn (hw pins s σ H _ I h) λv s1 h1=>thn h1 λitv s2 h2=> ?_)) (λ_ s' hq=>JS (JS hq)) λ_ _ e=>e)
 obtain⟨it,fp,tn,J,H2,rfl,I2,T,st2,f2,q⟩:=h2;refine zgh (Q:=λx H1=>D.nx (σ.set i (some x)) H1) (RR:=λacc C=>compPost (model X.prog X.w) X.A X.xe (some (assign (.Name y py) X.env)) (λ_ s'=>SP X pins D .next s') acc C) cap hkind hcalm hg hc he I2 T st2 f2 hc1 hc2 q ?_;intro l C H' s' m I' hn hC hL hs0 hcell hpin hfs hq;show wpAny _ X.A (assign (.Name y py) X.env (.ref l)) _ _ _;refine wpAny_assign_Name (zf3 I' hN hi (.inl hy) (v:= .ref l) rfl (λs3 I3 hsb=> ?_) (.inr hy));obtain⟨b,hsb,hb⟩:=hsb;have nb:C≠b:=by
  rcases hb with rfl|hb
  ·exact hL
  ·exact λz=>hcell y b hb z.symm
 refine⟨m,hn.sameBut hsb nb,λh' hsb'=> ?_⟩;exact⟨σ.set i (some (.ref l)),H',I3.turned (t':=s3.toks) (λc o hc e=>(hsb'.2 c hc).trans e) hC hL (.inr hs0) hcell hpin,hq⟩
end
structure Lists (J:It) (H1:Hp) (ys:List V):Prop where
 go: ∀i H,zq H1 H->i<ys.length->J.go i H
 stop: ∀H,zq H1 H->J.stop ys.length H
 yld: ∀i H x H',zq H1 H->J.yld i H x H'->i<ys.length->H'=H/\ys[i]? =some x
theorem xL{H1:Hp}(h:SqL K H1 a ys):Lists (Itl K a) H1 ys where
 go:=λi H sm hi=>⟨ys,ys[i],sm.seq h,Jb hi⟩
 stop:=λH sm=>⟨ys,sm.seq h,Je _⟩
 yld:=λi H x H' sm ⟨e,y⟩ _=>⟨e,y ys (sm.seq h)⟩
def rng(lo:Int)(n:Nat):List V:=(List.range n).map λ(i:Nat)=>V.int (lo+i)
theorem ziK(cs:List Nat)(H1:Hp):Lists (Its (SL cs)) H1 (cs.map λc=>V.str (SL [c])) where
 go:=λi H _ hi=>by rw[Ja] at hi;show i<cs.toArray.size;simpa using hi
 stop:=λH _=>by rw[Ja];show cs.length=cs.toArray.size;simp
 yld:=λi H x H' _ ⟨e,c,hc,y⟩ hi=>⟨e,by
  have hc':cs[i]? =some c:=by simpa [SL] using hc
  rw[Jh,hc',y];rfl⟩
def Sm(i:Int):Prop:=i.natAbs<2 ^ 3000
theorem Sm.bits(h:Sm i):Builtin.Int.intBits i<=2 ^ 20:=by
 unfold Builtin.Int.intBits;by_cases z:i.natAbs=0
 ·obtain rfl:i=0:=by omega
  decide
 ·have q:i.natAbs.log2<3000:=(Nat.log2_lt z).mpr h;have e:(2:Nat) ^ 20=1048576:=by decide
  split<;>omega
theorem Sm.log(h:Sm i):i.natAbs.log2<9000:=by
 by_cases z:i.natAbs=0
 ·rw[z];decide
 ·have q:i.natAbs.log2<3000:=(Nat.log2_lt z).mpr h;omega
theorem Sm.pow10{k:Nat}(hk:k<=700)(h:i.natAbs<=10 ^ k):Sm i:=by
 refine Nat.lt_of_le_of_lt h ?_;refine Nat.lt_of_le_of_lt (Nat.pow_le_pow_left (show 10<=2 ^ 4 by decide) k) ?_;rw[<-Nat.pow_mul];exact Nat.pow_lt_pow_right 'd' 'o'
theorem Sm.small(h0: -1000000000000000000<=i)(h1:i<=1000000000000000000):Sm i:=by
 refine Sm.pow10 (k:=18) 'd' ?_;have e:(10:Nat) ^ 18=1000000000000000000:=by decide
 omega
section
variable {X:Cx}
theorem vM:OpR X (binaryOp .Mult) (rI (λi j=>uL i j\/(Sm i/\Sm j)) λi j=> .int (i*j)):=opI λ_ _ _ _ _ _ _ hc q=>mul_int q (by
 rcases hc with hc|⟨h1,h2⟩
 ·exact hc.ok
 ·exact IntMulOk.of_bits h1.bits h2.bits)
theorem jX:OpR X (binaryOp .FloorDiv) (rI (λ_ j=>0<j/\Sm j) λi j=> .int (i / j)):=opI λi j _ _ _ _ _ hc q=>by
 have h1:(0:Int)<j:=hc.1;exact floordiv_int 'o' (by rw[Int.fdiv_eq_ediv_of_nonneg i 'o'];exact q) (.inl (PyProof.noPylong_of_log2 hc.2.log))
theorem jY:bootBuiltins "all"=some (.builtin "all"):=by decide+kernel
theorem zl2:bootBuiltins "abs"=some (.builtin "abs"):=by decide+kernel
theorem ziL(bs:List Bool):(List.range bs.length).all (λi=>bs.getD i false)=bs.all id:=by
 rw[Bool.eq_iff_iff,List.all_eq_true,List.all_eq_true];constructor
 ·intro h b hb;obtain⟨i,hl,rfl⟩:=List.getElem_of_mem hb
  have:=h i (List.mem_range.mpr hl);rw[Jo,Jb hl] at this;exact this
 ·intro h i hi;have hl:i<bs.length:=List.mem_range.mp hi;rw[Jo,Jb hl];exact h _ (List.getElem_mem hl)
theorem jZ(hc:X.calm=true):ql X (.builtin "all") (λxs H Q=> ∃(p:Addr) (bs:List Bool),xs= [.ref p]/\SqL X.K H p (bs.map V.bl)/\Q (.bl (bs.all id)) H):=by
 intro pins s σ H xs us Q I r h;obtain⟨p,bs,rfl,hq,q⟩:=h;obtain⟨u,rfl,ru⟩:=qK r;obtain rfl:u=Value.ref p:=ru;obtain⟨its,rv,pl,hz⟩:=I.list hq;have hl:bs.length=its.length:=by rw[<-rv.length,Ja]
 obtain⟨o0,n0,e0,_⟩:=id pl;have ne:p≠s.heap.objs.size:=JH (JU e0);refine call_all_walk (wpAny_pyIter_list pl.isList ?_);refine⟨s.heap.objs.size,_,_,_,_,_,λi=>bs.getD i false,rfl,Walks.list (show X.A.in1.handled=none from I.ok.hd hc) s.heap.objs.size p ne its.toArray,⟨⟨_,JV _ rfl,rfl,rfl⟩,?_⟩,?_,λh' tk hk=> ?_⟩
 ·exact pl.isList.at λo e=>JT _ e
 ·intro i v s' Q' E' hv hQ;have hi:its[i]? =some v:=by simpa using hv
  obtain⟨hlt,_⟩:=Jc.mp hi;have hb:(bs.map V.bl)[i]? =some (.bl bs[i]):=by rw[Jh,Jb 'o'];rfl
  obtain⟨u',e',r'⟩:=rv.get hb;rw[hi] at e';cases e';obtain rfl:v=Value.bool bs[i]:=r';refine wpAny_truthy_bool ?_;have z:bs.getD i false=bs[i]:=by rw[Jo,Jb 'o'];rfl
  rw[<-z];exact hQ
 ·have e:((List.range its.toArray.size).all λi=>bs.getD i false)=bs.all id:=by rw[Jn,<-hl,ziL]
  rw[e];refine⟨.bl _,H,I.kept (t':=tk) λb o hb=>hk b o (λz=> ?_) (JT _ hb),rfl,q⟩;have z':b=s.heap.objs.size:=by simpa using z
  exact absurd (z' ▸ JU hb) (Nat.lt_irrefl _)
end
inductive D where
 |non
 |bl (b:Bool)
 |int (i:Int)
 |str (cs:List Nat)
 |tup (ds:List D)
 |lst (ds:List D)
def qp(f:D->V->Prop):List D->List V->Prop
 | [], []=>True
 |d::ds,x::xs=>f d x/\qp f ds xs
 |_,_=>False
def Dp(K:Fg)(H:Hp):Nat->D->V->Prop
 |_, .non,v=>v= .non
 |_, .bl b,v=>v= .bl b
 |_, .int i,v=>v= .int i
 |_, .str cs,v=>v= .str (SL cs)
 |n+1, .tup ds,v=> ∃a xs,v= .ref a/\SqT K H a xs/\qp (Dp K H n) ds xs
 |n+1, .lst ds,v=> ∃a xs,v= .ref a/\SqL K H a xs/\qp (Dp K H n) ds xs
 |0, .tup _,_=>False
 |0, .lst _,_=>False
def xM(f:D->D->Bool):List D->List D->Bool
 | [], []=>true
 |a::r,b::t=>f a b && xM f r t
 |_,_=>false
def eqb:Nat->D->D->Bool
 |_, .non, .non=>true
 |_, .bl a, .bl b=>a==b
 |_, .bl a, .int b=>(if a then 1 else 0)==b
 |_, .int a, .bl b=>a==(if b then 1 else 0)
 |_, .int a, .int b=>a==b
 |_, .str a, .str b=>a==b
 |n+1, .tup a, .tup b=>xM (eqb n) a b
 |n+1, .lst a, .lst b=>xM (eqb n) a b
 |_,_,_=>false
def vN:D->Bool
 | .tup _=>true
 | .lst _=>true
 |_=>false
def xp:Nat->D->D->Prop
 |n+1, .tup a, .tup b=> ∀(j:Nat) (x y:D),a[j]? =some x->b[j]? =some y->xp n x y
 |n+1, .lst a, .lst b=> ∀(j:Nat) (x y:D),a[j]? =some x->b[j]? =some y->xp n x y
 |_,a,b=>vN a=false/\vN b=false
theorem xq{f:D->V->Prop}: ∀{ds:List D} {xs:List V},qp f ds xs->ds.length=xs.length
 | [], [],_=>rfl
 |_::_,_::_,h=>by rw[Jp,Jp,xq h.2]
 | [],_::_,h=>h.elim
 |_::_, [],h=>h.elim
theorem uW{f:D->V->Prop}: ∀{ds:List D} {xs:List V} {j:Nat} {d:D} {x:V},qp f ds xs->ds[j]? =some d->xs[j]? =some x->f d x
 | [], [],_,_,_,_,h,_=>by simp at h
 |a::r,b::t,0,d,x,h,h1,h2=>by
  simp at h1 h2;rw[<-h1,<-h2];exact h.1
 |a::r,b::t,j+1,d,x,h,h1,h2=>uW h.2 (by simpa using h1) (by simpa using h2)
 | [],_::_,_,_,_,h,_,_=>h.elim
 |_::_, [],_,_,_,h,_,_=>h.elim
theorem uh{f g:D->V->Prop}: ∀{ds:List D} {xs:List V},(∀d∈ds,∀x,f d x->g d x)->qp f ds xs->qp g ds xs
 | [], [],_,_=>trivial
 |d::r,x::t,h,q=>⟨h d Jq x q.1,uh (λd hd=>h d (Jl _ hd)) q.2⟩
 | [],_::_,_,h=>h.elim
 |_::_, [],_,h=>h.elim
theorem Dp.same{K:Fg}{H H':Hp}(sm:zq H H'): ∀{n:Nat} {d:D} {v:V},Dp K H n d v->Dp K H' n d v
 |_, .non,_,h=>by unfold Dp at h ⊢;exact h
 |_, .bl _,_,h=>by unfold Dp at h ⊢;exact h
 |_, .int _,_,h=>by unfold Dp at h ⊢;exact h
 |_, .str _,_,h=>by unfold Dp at h ⊢;exact h
 |n+1, .tup ds,v,h=>by
  unfold Dp at h ⊢;obtain⟨a,xs,e,hq,hs⟩:=h;exact⟨a,xs,e,sm.sqT hq,uh (λd _ x q=>Dp.same sm q) hs⟩
 |n+1, .lst ds,v,h=>by
  unfold Dp at h ⊢;obtain⟨a,xs,e,hq,hs⟩:=h;exact⟨a,xs,e,sm.seq hq,uh (λd _ x q=>Dp.same sm q) hs⟩
 |0, .tup _,_,h=>by unfold Dp at h;exact h.elim
 |0, .lst _,_,h=>by unfold Dp at h;exact h.elim
theorem j0{f:D->D->Bool}: ∀{ds:List D},(∀d∈ds,f d d=true)->xM f ds ds=true
 | [],_=>rfl
 |d::r,h=>by
  unfold xM;rw[h d Jq,j0 λx hx=>h x (Jl _ hx)];rfl
theorem uX{f:D->V->Prop}(h:qp f ds xs)(hd:d∈ds): ∃x,f d x:=by
 obtain⟨j,hj,rfl⟩:=List.getElem_of_mem hd;have hl:=xq h;exact⟨xs[j],uW h (Jb hj) (Jb 'o')⟩
theorem uY{K:Fg}{H:Hp}: ∀{n:Nat} {d:D} {v:V},Dp K H n d v->eqb n d d=true
 |_, .non,_,_=>by unfold eqb;rfl
 |_, .bl _,_,_=>by unfold eqb;simp
 |_, .int _,_,_=>by unfold eqb;simp
 |_, .str _,_,_=>by unfold eqb;simp
 |n+1, .tup ds,v,h=>by
  unfold Dp at h;obtain⟨a,xs,e,hq,hs⟩:=h;unfold eqb;exact j0 λd hd=>let ⟨x,hx⟩:=uX hs hd;uY hx
 |n+1, .lst ds,v,h=>by
  unfold Dp at h;obtain⟨a,xs,e,hq,hs⟩:=h;unfold eqb;exact j0 λd hd=>let ⟨x,hx⟩:=uX hs hd;uY hx
 |0, .tup _,_,h=>by unfold Dp at h;exact h.elim
 |0, .lst _,_,h=>by unfold Dp at h;exact h.elim
theorem j3{K:Fg}{H:Hp}: ∀{n:Nat} {d:D} {v:V},Dp K H n d v->xp n d d
 |0, .non,_,_=>⟨rfl,rfl⟩
 |0, .bl _,_,_=>⟨rfl,rfl⟩
 |0, .int _,_,_=>⟨rfl,rfl⟩
 |0, .str _,_,_=>⟨rfl,rfl⟩
 |_+1, .non,_,_=>⟨rfl,rfl⟩
 |_+1, .bl _,_,_=>⟨rfl,rfl⟩
 |_+1, .int _,_,_=>⟨rfl,rfl⟩
 |_+1, .str _,_,_=>⟨rfl,rfl⟩
 |n+1, .tup ds,v,h=>by
  unfold Dp at h;obtain⟨a,xs,e,hq,hs⟩:=h;intro j x y h1 h2;rw[h1] at h2;cases h2;obtain⟨z,hz⟩:=uX hs (Ji h1);exact j3 hz
 |n+1, .lst ds,v,h=>by
  unfold Dp at h;obtain⟨a,xs,e,hq,hs⟩:=h;intro j x y h1 h2;rw[h1] at h2;cases h2;obtain⟨z,hz⟩:=uX hs (Ji h1);exact j3 hz
 |0, .tup _,_,h=>by unfold Dp at h;exact h.elim
 |0, .lst _,_,h=>by unfold Dp at h;exact h.elim
def sc:D->Option V
 | .non=>some .non
 | .bl b=>some (.bl b)
 | .int i=>some (.int i)
 | .str cs=>some (.str (SL cs))
 |_=>none
theorem Dp.sc{K:Fg}{H:Hp}{n:Nat}{d:D}{v x:V}(h:sc d=some x):Dp K H n d v=(v=x):=by
 cases d with
 |non=>cases h;unfold Dp;rfl
 |bl b=>cases h;unfold Dp;rfl
 |int i=>cases h;unfold Dp;rfl
 |str cs=>cases h;unfold Dp;rfl
 |tup ds=>cases h
 |lst ds=>cases h
theorem Dp.flat(h:Dp K H 0 d v): ∃x,L2.sc d=some x:=by
 cases d with
 |tup ds=>unfold Dp at h;exact h.elim
 |lst ds=>unfold Dp at h;exact h.elim
 |_=>exact⟨_,rfl⟩
theorem Dp.isRef(h:L2.sc d=none)(p:Dp K H n d v): ∃a,v= .ref a:=by
 cases d with
 |tup ds=>
  cases n with
  |zero=>unfold Dp at p;exact p.elim
  |succ n=>unfold Dp at p;obtain⟨a,_,e,_⟩:=p;exact⟨a,e⟩
 |lst ds=>
  cases n with
  |zero=>unfold Dp at p;exact p.elim
  |succ n=>unfold Dp at p;obtain⟨a,_,e,_⟩:=p;exact⟨a,e⟩
 |non=>cases h
 |bl _=>cases h
 |int _=>cases h
 |str _=>cases h
theorem sc_ref(h:sc d=some x):x≠ .ref a:=by
 cases d<;>cases h<;>(intro z;cases z)
theorem sc_flat(h:sc d=some x):xY x=true:=by
 cases d<;>cases h<;>rfl
theorem sc_inj(h:sc d=some x)(g:sc e=some x):d=e:=by
 cases d<;>cases h<;>cases e<;>first
  |rfl
  |(cases g;rfl)
  |cases g
  |(have z:=V.str.inj (JQ g)
    rw[zO] at z;rw[z])
theorem zjA(h:sc d=some x)(g:sc e=none): ¬xp n d e:=by
 intro c;cases n<;>cases d<;>cases h<;>cases e<;>first
  |(unfold xp at c;obtain⟨_,z⟩:=c;cases z;done)
  |(cases g;done)
theorem zjB(h:sc d=none)(g:sc e=some x): ¬xp n d e:=by
 intro c;cases n<;>cases e<;>cases g<;>cases d<;>first
  |(unfold xp at c;obtain⟨z,_⟩:=c;cases z;done)
  |(cases h;done)
theorem zl3(a b:List Nat):(SL a==SL b)=(a==b):=by
 rw[Bool.eq_iff_iff,beq_iff_eq,beq_iff_eq,zO]
theorem zjC{y:V}(h:sc d=some x)(g:sc e=some y):eqb n d e=eqV x y:=by
 cases d<;>cases h<;>cases e<;>cases g<;>(unfold eqb eqV)<;>first
  |rfl
  |exact(zl3 _ _).symm
section
variable {X:Cx} {pins:List (Addr×Obj)} {σ:St} {H:Hp} {s:Shared}
theorem zhf(I:Inv X pins σ H s)(h:SqT X.K H a xs)(g:SqL X.K H a ys):False:=by
 obtain⟨i1,_,⟨o1,e1,c1,_⟩,_⟩:=I.tuple h;obtain⟨i2,_,⟨o2,n2,e2,c2,_⟩,_⟩:=I.list g;rw[e1] at e2;cases e2;rw[c1] at c2;revert c2
 simp
theorem j5{f g:D->V->Prop}: ∀{ds es:List D} {xs:List V},(∀d∈ds,∀e x,f d x->g e x->d=e)->qp f ds xs->qp g es xs->ds=es
 | [], [], [],_,_,_=>rfl
 |d::r,e::t,x::z,h,p,q=>by rw[h d Jq e x p.1 q.1,j5 (λd hd=>h d (Jl _ hd)) p.2 q.2]
 | [],_::_, [],_,_,q=>q.elim
 | [],_::_,_::_,_,p,_=>p.elim
 |_::_, [], [],_,p,_=>p.elim
 |_::_, [],_::_,_,_,q=>q.elim
 |_::_,_::_, [],_,p,_=>p.elim
 | [], [],_::_,_,p,_=>p.elim
theorem Dp.det(I:Inv X pins σ H s): ∀{n:Nat} {d e:D} {v:V},Dp X.K H n d v->Dp X.K H n e v->d=e:=by
 intro n;induction n with
 |zero=>
  intro d e v p q;obtain⟨x,hx⟩:=Dp.flat p;obtain⟨y,hy⟩:=Dp.flat q;rw[Dp.sc hx] at p;rw[Dp.sc hy] at q;exact sc_inj hx (by rw[hy,<-q,p])
 |succ n ih=>
  intro d e v p q;cases hx:L2.sc d with
  |some x=>
   rw[Dp.sc hx] at p;cases hy:L2.sc e with
   |some y=>
    rw[Dp.sc hy] at q;exact sc_inj hx (by rw[hy,<-q,p])
   |none=>
    obtain⟨a,e2⟩:=Dp.isRef hy q;exact absurd (p.symm.trans e2) (sc_ref hx)
  |none=>
   cases hy:L2.sc e with
   |some y=>
    rw[Dp.sc hy] at q;obtain⟨a,e2⟩:=Dp.isRef hx p;exact absurd (q.symm.trans e2) (sc_ref hy)
   |none=>
    cases d with
    |tup ds=>
     unfold Dp at p;obtain⟨a,xs,rfl,h1,p⟩:=p;cases e with
     |tup es=>
      unfold Dp at q;obtain⟨b,ys,eb,h2,q⟩:=q;cases eb;have exy:=I.tuple_inj h1 h2;subst exy;exact congrArg D.tup (j5 (f:=Dp X.K H n) (g:=Dp X.K H n) (λd _ e x p q=>ih p q) p q)
     |lst es=>
      unfold Dp at q;obtain⟨b,ys,eb,h2,q⟩:=q;cases eb;exact(zhf I h1 h2).elim
     |non=>cases hy
     |bl _=>cases hy
     |int _=>cases hy
     |str _=>cases hy
    |lst ds=>
     unfold Dp at p;obtain⟨a,xs,rfl,h1,p⟩:=p;cases e with
     |lst es=>
      unfold Dp at q;obtain⟨b,ys,eb,h2,q⟩:=q;cases eb;have exy:=I.list_inj h1 h2;subst exy;exact congrArg D.lst (j5 (f:=Dp X.K H n) (g:=Dp X.K H n) (λd _ e x p q=>ih p q) p q)
     |tup es=>
      unfold Dp at q;obtain⟨b,ys,eb,h2,q⟩:=q;cases eb;exact(zhf I h2 h1).elim
     |non=>cases hy
     |bl _=>cases hy
     |int _=>cases hy
     |str _=>cases hy
    |non=>cases hx
    |bl _=>cases hx
    |int _=>cases hx
    |str _=>cases hx
theorem uZ: ∀(ds es:List D),((List.range (min ds.length es.length)).all (λj=>eqb n (ds.getD j .non) (es.getD j .non)) && ds.length==es.length)=xM (eqb n) ds es:=by
 intro ds es;rw[Bool.eq_iff_iff,Bool.and_eq_true,List.all_eq_true,beq_iff_eq];induction ds generalizing es with
 |nil=>
  cases es with
  |nil=>simp [xM]
  |cons e t=>simp [xM]
 |cons d r ih=>
  cases es with
  |nil=>simp [xM]
  |cons e t=>
   unfold xM;rw[Bool.and_eq_true,<-ih t];constructor
   ·rintro⟨h,hl⟩;refine⟨by simpa using h 0 (List.mem_range.mpr (by simp)),λj hj=> ?_,by simpa using hl⟩
    have:=h (j+1) (List.mem_range.mpr (by rw[Jp,Jp];have:=List.mem_range.mp hj;omega));simpa using this
   ·rintro⟨h0,h,hl⟩;refine⟨λj hj=> ?_,by simpa using hl⟩;cases j with
    |zero=>simpa using h0
    |succ j=>
     have hj':=List.mem_range.mp hj;rw[Jp,Jp] at hj';simpa using h j (List.mem_range.mpr 'o')
theorem wL{its:List Value}(h:qp (Dp X.K H n) ds xs)(r:zE xs its)(j:Nat)(hj:j<its.toArray.size): ∃x,ds[j]? =some (ds.getD j .non)/\Dp X.K H n (ds.getD j .non) x/\zB x its.toArray[j]:=by
 have hl:=xq h;have hr:=r.length;have hj':j<its.length:=by simpa using hj
 have e1:ds[j]? =some (ds.getD j .non):=by
  rw[Jo,Jb 'o'];rfl
 have e2:xs[j]? =some xs[j]:=Jb 'o';obtain⟨u,eu,ru⟩:=r.get e2;refine⟨xs[j],e1,uW h e1 e2,?_⟩;rw[Jb hj'] at eu;rw[List.getElem_toArray];rw[JQ eu];exact ru
theorem zgj(I:Inv X pins σ H s): ∀{n:Nat} {d e:D} {v w:V} {u u':Value} {A:Around},xp n d e->Dp X.K H n d v->Dp X.K H n e w->zB v u->zB w u'->A.units+n<cLine->SeqAt.EqAt A s u u' (eqb n d e):=by
 intro n;induction n with
 |zero=>
  intro d e v w u u' A c p q rv rw' hu;obtain⟨x,hx⟩:=Dp.flat p;obtain⟨y,hy⟩:=Dp.flat q;rw[Dp.sc hx] at p;rw[Dp.sc hy] at q;subst p q;rw[zjC hx hy];exact jM rv rw' (sc_flat hx) (sc_flat hy)
 |succ n ih=>
  intro d e v w u u' A c p q rv rw' hu;cases hx:L2.sc d with
  |some x=>
   cases hy:L2.sc e with
   |some y=>
    rw[Dp.sc hx] at p;rw[Dp.sc hy] at q;subst p q;rw[zjC hx hy];exact jM rv rw' (sc_flat hx) (sc_flat hy)
   |none=>exact absurd c (zjA hx hy)
  |none=>
   cases hy:L2.sc e with
   |some y=>exact absurd c (zjB hx hy)
   |none=>
    by_cases same:v=w
    ·subst same;have ed:=Dp.det I p q;subst ed;rw[uY p];have eu:u=u':=by
      obtain⟨a,rfl⟩:=Dp.isRef hx p;cases rv;cases rw';rfl
     subst eu;exact SeqAt.EqAt.same _
    ·cases d with
     |tup ds=>
      cases e with
      |tup es=>
       unfold Dp at p q;obtain⟨a,xs,rfl,h1,p⟩:=p;obtain⟨b,ys,rfl,h2,q⟩:=q;cases rv;cases rw';obtain⟨i1,r1,t1,_⟩:=I.tuple h1;obtain⟨i2,r2,t2,_⟩:=I.tuple h2;have l1:=xq p;have l2:=xq q;have l3:=r1.length;have l4:=r2.length;refine SeqAt.EqAt.of_refs (λz=>same (by rw[z])) ?_;have fin:=SeqAt.RcAt.tuples (A:=A) (e:=λj=>eqb n (ds.getD j .non) (es.getD j .non)) t1 t2 'o' (λj j1 j2=> ?_)
       ·rw[Jn,Jn,show i1.length=ds.length by omega,show i2.length=es.length by omega,uZ] at fin;unfold eqb;exact fin
       ·obtain⟨x,g1,d1,f1⟩:=wL p r1 j j1;obtain⟨y,g2,d2,f2⟩:=wL q r2 j j2;exact ih (c j _ _ g1 g2) d1 d2 f1 f2 (by show A.units+1+n<cLine;omega)
      |lst es=>exact absurd c (by unfold xp;simp [vN])
      |non=>cases hy
      |bl _=>cases hy
      |int _=>cases hy
      |str _=>cases hy
     |lst ds=>
      cases e with
      |lst es=>
       unfold Dp at p q;obtain⟨a,xs,rfl,h1,p⟩:=p;obtain⟨b,ys,rfl,h2,q⟩:=q;cases rv;cases rw';obtain⟨i1,r1,t1,_⟩:=I.list h1;obtain⟨i2,r2,t2,_⟩:=I.list h2;have l1:=xq p;have l2:=xq q;have l3:=r1.length;have l4:=r2.length;refine SeqAt.EqAt.of_refs (λz=>same (by rw[z])) ?_;have r0:=uZ (n:=n) ds es;unfold eqb;by_cases hs:i1.length=i2.length
       ·have fin:=SeqAt.RcAt.lists (A:=A) (e:=λj=>eqb n (ds.getD j .non) (es.getD j .non)) t1.isList t2.isList (by simpa using hs) 'o' (λj j1 j2=> ?_)
        ·have e1:ds.length=es.length:=by omega
         rw[<-e1,Nat.min_self,beq_self_eq_true,Bool.and_true] at r0;rw[Jn,show i1.length=ds.length by omega,r0] at fin;exact fin
        ·obtain⟨x,g1,d1,f1⟩:=wL p r1 j j1;obtain⟨y,g2,d2,f2⟩:=wL q r2 j j2;exact ih (c j _ _ g1 g2) d1 d2 f1 f2 (by show A.units+1+n<cLine;omega)
       ·have fin:=SeqAt.RcAt.lists_lengths (A:=A) t1.isList t2.isList (by simpa using hs) 'o';have z:(ds.length==es.length)=false:=by
         rw[beq_eq_false_iff_ne];omega
        rw[z,Bool.and_false] at r0;rw[<-r0];exact fin
      |tup es=>exact absurd c (by unfold xp;simp [vN])
      |non=>cases hy
      |bl _=>cases hy
      |int _=>cases hy
      |str _=>cases hy
     |non=>cases hx
     |bl _=>cases hx
     |int _=>cases hx
     |str _=>cases hx
theorem zgk(I:Inv X pins σ H s){w:V}{u u':Value}(c:xp (n+1) d e)(p:Dp X.K H (n+1) d v)(q:Dp X.K H (n+1) e w)(hx:sc d=none)(hy:sc e=none)(rv:zB v u)(rw':zB w u')(hu:A.units+(n+1)<cLine):
  SeqAt.RcAt A s u u' (eqb (n+1) d e)/\SeqAt.RcNeAt A s u u' (!eqb (n+1) d e):=by
 cases d with
 |tup ds=>
  cases e with
  |tup es=>
   unfold Dp at p q;obtain⟨a,xs,rfl,h1,p⟩:=p;obtain⟨b,ys,rfl,h2,q⟩:=q;cases rv;cases rw';obtain⟨i1,r1,t1,_⟩:=I.tuple h1;obtain⟨i2,r2,t2,_⟩:=I.tuple h2;have l1:=xq p;have l2:=xq q;have l3:=r1.length;have l4:=r2.length;have el: ∀j (j1:j<i1.toArray.size) (j2:j<i2.toArray.size),SeqAt.EqAt A.in1 s i1.toArray[j] i2.toArray[j] (eqb n (ds.getD j .non) (es.getD j .non)):=λj j1 j2=>by
    obtain⟨x,g1,d1,f1⟩:=wL p r1 j j1;obtain⟨y,g2,d2,f2⟩:=wL q r2 j j2;exact zgj I (c j _ _ g1 g2) d1 d2 f1 f2 (by show A.units+1+n<cLine;omega)
   have f1:=SeqAt.RcAt.tuples (A:=A) (e:=λj=>eqb n (ds.getD j .non) (es.getD j .non)) t1 t2 'o' el;have f2:=SeqAt.RcNeAt.tuples (A:=A) (e:=λj=>eqb n (ds.getD j .non) (es.getD j .non)) t1 t2 'o' el;rw[Jn,Jn,show i1.length=ds.length by omega,show i2.length=es.length by omega,uZ] at f1 f2;unfold eqb;exact⟨f1,f2⟩
  |lst es=>exact absurd c (by unfold xp;simp [vN])
  |non=>cases hy
  |bl _=>cases hy
  |int _=>cases hy
  |str _=>cases hy
 |lst ds=>
  cases e with
  |lst es=>
   unfold Dp at p q;obtain⟨a,xs,rfl,h1,p⟩:=p;obtain⟨b,ys,rfl,h2,q⟩:=q;cases rv;cases rw';obtain⟨i1,r1,t1,_⟩:=I.list h1;obtain⟨i2,r2,t2,_⟩:=I.list h2;have l1:=xq p;have l2:=xq q;have l3:=r1.length;have l4:=r2.length;have el: ∀j (j1:j<i1.toArray.size) (j2:j<i2.toArray.size),SeqAt.EqAt A.in1 s i1.toArray[j] i2.toArray[j] (eqb n (ds.getD j .non) (es.getD j .non)):=λj j1 j2=>by
    obtain⟨x,g1,d1,f1⟩:=wL p r1 j j1;obtain⟨y,g2,d2,f2⟩:=wL q r2 j j2;exact zgj I (c j _ _ g1 g2) d1 d2 f1 f2 (by show A.units+1+n<cLine;omega)
   have r0:=uZ (n:=n) ds es;unfold eqb;by_cases hs:i1.length=i2.length
   ·have f1:=SeqAt.RcAt.lists (A:=A) (e:=λj=>eqb n (ds.getD j .non) (es.getD j .non)) t1.isList t2.isList (by simpa using hs) 'o' el;have f2:=SeqAt.RcNeAt.lists (A:=A) (e:=λj=>eqb n (ds.getD j .non) (es.getD j .non)) t1.isList t2.isList (by simpa using hs) 'o' el;have e1:ds.length=es.length:=by omega
    rw[<-e1,Nat.min_self,beq_self_eq_true,Bool.and_true] at r0;rw[Jn,show i1.length=ds.length by omega,r0] at f1 f2;exact⟨f1,f2⟩
   ·have f1:=SeqAt.RcAt.lists_lengths (A:=A) t1.isList t2.isList (by simpa using hs) 'o';have f2:=SeqAt.RcNeAt.lists_lengths (A:=A) t1.isList t2.isList (by simpa using hs) 'o';have z:(ds.length==es.length)=false:=by
     rw[beq_eq_false_iff_ne];omega
    rw[z,Bool.and_false] at r0;rw[<-r0];exact⟨f1,f2⟩
  |tup es=>exact absurd c (by unfold xp;simp [vN])
  |non=>cases hy
  |bl _=>cases hy
  |int _=>cases hy
  |str _=>cases hy
 |non=>cases hx
 |bl _=>cases hx
 |int _=>cases hx
 |str _=>cases hx
end
section
variable {X:Cx}
def u3(K:Fg)(neg:Bool):R2:=λx y H Q=> ∃n d e,Dp K H (n+1) d x/\Dp K H (n+1) e y/\sc d=none/\sc e=none/\n<=50/\xp (n+1) d e/\Q (.bl (if neg then !eqb (n+1) d e else eqb (n+1) d e)) H
theorem zjD{k:Nat}(hr:Room k X.A):OpR X (compareOp .Eq) (u3 X.K false):=by
 intro pins s σ H x y v u Q I rx ry h;obtain⟨n,d,e,p,q,hx,hy,hn,c,hq⟩:=h;have hu:=hr.units;exact(zgk I (A:=X.A) c p q hx hy rx ry 'o').1 X.prog X.w _ _ ⟨.bl _,H,I,rfl,hq⟩
theorem j6{k:Nat}(hr:Room k X.A):OpR X (compareOp .NotEq) (u3 X.K true):=by
 intro pins s σ H x y v u Q I rx ry h;obtain⟨n,d,e,p,q,hx,hy,hn,c,hq⟩:=h;have hu:=hr.units;exact(zgk I (A:=X.A) c p q hx hy rx ry 'o').2 X.prog X.w _ _ ⟨.bl _,H,I,rfl,hq⟩
end
theorem xN(h:SqT K H a xs)(q:qp (Dp K H n) ds xs):Dp K H (n+1) (.tup ds) (.ref a):=by
 unfold Dp;exact⟨a,xs,rfl,h,q⟩
theorem uk(h:SqL K H a xs)(q:qp (Dp K H n) ds xs):Dp K H (n+1) (.lst ds) (.ref a):=by
 unfold Dp;exact⟨a,xs,rfl,h,q⟩
theorem xO:Dp K H n (.int i) (.int i):=by unfold Dp;rfl
theorem wE:Dp K H n (.str cs) (.str (SL cs)):=by unfold Dp;rfl
theorem zl4:Dp K H n .non .non:=by unfold Dp;rfl
def New(H:Hp)(o:HO)(Q:VK):Prop:= ∀p H',H p=none->zq H H'->H' p=some o->Q (.ref p) H'
theorem New.at(h:New H o Q)(hp:H p=none):Q (.ref p) (upd H p o):=h p _ hp (xo hp o) zP
section
variable {X:Cx} {es:List Expr} {t:TA} {pos:Pos}
def ya(t:TA):TE:=λσ H Q=>t σ H λxs H1=>xs.length<=sizeLine/\New H1 (.tup xs) Q
def yr(t:TA):TE:=λσ H Q=>t σ H λxs H1=>xs.length<=sizeLine/\New H1 (.lst xs) Q
theorem qx{x1}(h:PA X es t):PE X (.Tuple es x1 pos) (ya t):=by
 intro pins s σ H Q I hq;refine wpAny_Tuple_spliced (thn (h pos pins s σ H _ I hq) λus s1 ⟨xs,H1,I1,r,z,q⟩=>⟨by rw[<-r.length];exact z,?_⟩);have hf:H1 s1.heap.objs.size=none:=I1.hok.fresh (Je _);refine⟨.ref s1.heap.objs.size,upd H1 s1.heap.objs.size (.tup xs),I1.laid (t':=s1.toks) (λb u e=>JT _ e) (Je _) ?_,rfl,q.at hf⟩;exact⟨z,us,r,⟨_,JV _ rfl,rfl,_,rfl⟩⟩
theorem yS(h:PA X es t):PE X (.List es pos) (yr t):=by
 intro pins s σ H Q I hq;refine wpAny_List_spliced (thn (h pos pins s σ H _ I hq) λus s1 ⟨xs,H1,I1,r,z,q⟩=>⟨by rw[<-r.length];exact z,?_⟩);have hf:H1 s1.heap.objs.size=none:=I1.hok.fresh (Je _);refine⟨.ref s1.heap.objs.size,upd H1 s1.heap.objs.size (.lst xs),I1.laid (t':=s1.toks) (λb u e=>JT _ e) (Je _) ?_,rfl,q.at hf⟩;exact⟨z,us,0,r,JV _ rfl⟩
theorem OpR.imp{f:Value->Value->Sem Value}{r r':R2}(h:OpR X f r)(i: ∀x y H Q,r' x y H Q->r x y H Q):OpR X f r':=λpins s σ H x y v u Q I rx ry q=>h pins s σ H x y v u Q I rx ry (i _ _ _ _ q)
theorem SlR.imp{r r':V->Option Int->Option Int->Hp->VK->Prop}(h:SlR X r)(i: ∀x lo hi H Q,r' x lo hi H Q->r x lo hi H Q):SlR X r':=
 λpins s σ H x v vl vu lo hi sl Q I rx hs pl pu q=>h pins s σ H x v vl vu lo hi sl Q I rx hs pl pu (i _ _ _ _ _ q)
theorem ql.imp{f:Value}{r r':List V->Hp->VK->Prop}(h:ql X f r)(i: ∀xs H Q,r' xs H Q->r xs H Q):ql X f r':=λpins s σ H xs us Q I rx q=>h pins s σ H xs us Q I rx (i _ _ _ q)
def zmR:R2:=λx y H Q=> ∃p q xs ys,x= .ref p/\y= .ref q/\H p=some (.lst xs)/\H q=some (.lst ys)/\xs.length+ys.length<=sizeLine/\New H (.lst (xs++ys)) Q
theorem u4:OpR X (binaryOp .Add) zmR:=zlX.imp λ_ _ _ _ ⟨p,q,xs,ys,e1,e2,h1,h2,hz,hq⟩=>⟨p,q,xs,ys,e1,e2,h1,h2,hz,λ_ hp=>hq.at hp⟩
def zmS(K:Fg):V->Option Int->Option Int->Hp->VK->Prop:=λx lo hi H Q=> ∃a xs,x= .ref a/\SqL K H a xs/\New H (.lst (ve xs lo hi)) Q
theorem wb:SlR X (zmS X.K):=zkD.imp λ_ _ _ _ _ ⟨a,xs,e,h,q⟩=>⟨a,xs,e,h,λ_ hp=>q.at hp⟩
end
theorem ziM(h:n<=1000):n<sizeLine:=Nat.lt_of_le_of_lt h 'd'
theorem qj(h:n<=1000):n<=sizeLine:=Nat.le_of_lt (ziM h)
def yH(t u:TE):TE:=λσ H Q=>t σ H Q\/u σ H Q
def zmT(g:TG)(tb:TS)(D:Ends)(σ:St)(J:It)(H1:Hp):Prop:= ∃W:Nat->Nat->St->Hp->Prop,(∃m,W 0 m σ H1)/\ ∀i m σ H,W i m σ H->
 (J.stop i H/\D.nx σ H)\/(J.go i H/\ ∃N:St->Hp->Prop,(∀σ' H',N σ' H'-> ∃m',m'<m/\W (i+1) m' σ' H')/\ ∀x H',J.yld i H x H'->g x σ H' λσ2 H2=>tb {D with nx:=N,ct:=N,bk:=D.nx} σ2 H2)
theorem wM{g:TG}{D:Ends}(k: ∀R:It->Hp->Prop,(∀J H1,zmT g tb D σ J H1->R J H1)->wi σ H R):jF wi g tb D σ H:=k _ λ_ _ h=>h
def Itz(K:Fg)(a b:Addr):It:=
 ⟨λi H=> ∃xs ys x y,SqL K H a xs/\SqL K H b ys/\xs[i]? =some x/\ys[i]? =some y,
  λi H v H'=> ∃p,v= .ref p/\H p=none/\zq H H'/\ ∃x y,H' p=some (.tup [x,y])/\(∀xs,SqL K H a xs->xs[i]? =some x)/\ ∀ys,SqL K H b ys->ys[i]? =some y,
  λi H=> ∃xs ys,SqL K H a xs/\SqL K H b ys/\(xs.length<=i\/ys.length<=i)⟩
section
variable {X:Cx} {pins:List (Addr×Obj)} {σ:St} {H:Hp} {s:Shared} {h':Heap} {ch:List Addr} {t':Nat}
theorem Inv.turnedL(I:Inv X pins σ H s)(hf: ∀b∈ch,qS X pins H b)(k: ∀b o,b∉ch->s.heap.get? b=some o->h'.get? b=some o):Inv X pins σ H {s with heap:=h',toks:=t'}:=by
 have nit: ∀b u,H b=some u->b∉ch:=λb u e z=>by rw[(hf b z).1] at e;cases e
 refine I.step (g':=s.gens) (d':=s.drawn) (ch:=ch) (λb hb=> ?_) (λb o _ _ hc e _=>k b o hc e) (λb o _ _ hc e _=>⟨o.slots,k b o hc e⟩) (λ_ _ _ _ n=>n)
  (λb o hc e=>⟨o,k b o hc e⟩) (λ_ _ e=>e) (λ_ _ _ e=>e) (λb ps e=>⟨#[],by rw[e];simp⟩) (λm hm=> ?_) (λb u e=> ?_) I.bare
 ·obtain⟨_,f1,_,f3,f4,f5⟩:=hf b hb;exact⟨f3,f1,f4,f5⟩
 ·obtain⟨o,es,ep,ho,r⟩:=hm;exact⟨o,es,ep,k _ o (λz=>(hf _ z).2.1 rfl) ho,r⟩
 ·refine(I.hok b u e).stay (λc v hc q=>k c v ?_ q) (λ_ q=>q) λ_ _ q=>q;rcases hc with z|z
  ·rw[z];exact nit b u e
  ·exact nit c _ z
theorem Inv.laidL(I:Inv X pins σ H s)(hf: ∀b∈ch,qS X pins H b)(k: ∀b o,b∉ch->s.heap.get? b=some o->h'.get? b=some o)(hp:s.heap.objs.size<=a)(new:yZ X.prog X.w (upd H a o) h' a o):
  Inv X pins σ (upd H a o) {s with heap:=h',toks:=t'}:=by
 have hn:=I.hok.fresh hp;have nit: ∀b u,H b=some u->b∉ch:=λb u e z=>by rw[(hf b z).1] at e;cases e
 refine I.step (g':=s.gens) (d':=s.drawn) (ch:=ch) (λb hb=> ?_) (λb o _ _ hc e _=>k b o hc e) (λb o _ _ hc e _=>⟨o.slots,k b o hc e⟩)
  (λb u _ e n=>by rw[zT (JH (Jx (JU e) hp))];exact n)
  (λb o hc e=>⟨o,k b o hc e⟩) (λb xs e=>by rw[zT (xw e hn)];exact e) (λb o u e=>by rw[zT (xw e hn)];exact e) (λb ps e=>⟨#[],by rw[zT (xw e hn),e];simp⟩) (λm hm=> ?_) (λb u e=> ?_) I.bare
 ·obtain⟨_,f1,_,f3,f4,f5⟩:=hf b hb;exact⟨f3,f1,f4,f5⟩
 ·obtain⟨o,es,ep,ho,r⟩:=hm;exact⟨o,es,ep,k _ o (λz=>(hf _ z).2.1 rfl) ho,r⟩
 ·by_cases hb:b=a
  ·subst hb;rw[zP] at e;cases e;exact new
  ·rw[zT hb] at e;refine(I.hok b u e).stay (λc v hc q=>k c v ?_ q) (λc q=>by rw[zT (xw q hn)];exact q) λc xs q=>by rw[zT (xw q hn)];exact q
   rcases hc with z|z
   ·rw[z];exact nit b u e
   ·exact nit c _ z
end
theorem zjE{P:Program}{w:World}{K:Fg}{es:List Expr}{n:Nat}{ps:Pos}(z TI TO i1 i2 l1 l2:Addr)(D:ZipApart z TI TO i1 i2 l1 l2):
  Turn P w K (.Tuple es n ps) (Itz K l1 l2) [z,TI,TO,i1,i2] z (λi h=>IsZip h z TI TO .none/\IsPair h TI (.ref i1) (.ref i2)/\(∃a b,IsPair h TO a b)/\h.IsListIter i1 l1 i/\h.IsListIter i2 l2 i) where
 mem:=by simp
 obj:=λi h st b hb=>by
  obtain⟨hz,hTI,⟨a,c,hTO⟩,⟨o1,e1,_,d1⟩,⟨o2,e2,_,d2⟩⟩:=st;have hb':b=z\/b=TI\/b=TO\/b=i1\/b=i2:=by simpa using hb
  rcases hb' with rfl|rfl|rfl|rfl|rfl
  ·exact⟨_,hz,λv q=>by
    have q':Data.fields _=Data.cell v:=q;cases q'⟩
  ·exact⟨_,hTI,λv q=>by
    have q':Data.seq _ _=Data.cell v:=q;cases q'⟩
  ·exact⟨_,hTO,λv q=>by
    have q':Data.seq _ _=Data.cell v:=q;cases q'⟩
  ·exact⟨_,e1,λv q=>by rw[d1] at q;cases q⟩
  ·exact⟨_,e2,λv q=>by rw[d2] at q;cases q⟩
 keep:=λi h h' st k=>by
  obtain⟨hz,hTI,⟨a,c,hTO⟩,h1,h2⟩:=st;exact⟨k z (by simp) _ hz,k TI (by simp) _ hTI,⟨a,c,k TO (by simp) _ hTO⟩,h1.at λo e=>k i1 (by simp) o e,h2.at λo e=>k i2 (by simp) o e⟩
 item:=by
  intro X hP hw hK hc i pins s σ H E I hf st hg;subst hP hw hK;obtain⟨xs,ys,x,y,hx,hy,ex,ey⟩:=hg;obtain⟨hz,hTI,⟨a,c,hTO⟩,h1,h2⟩:=st;obtain⟨us,rv,p,_⟩:=I.list hx;obtain⟨vs,rw',p',_⟩:=I.list hy;obtain⟨u,hu,ru⟩:=rv.get ex;obtain⟨v,hv,rv'⟩:=rw'.get ey;refine wpAny_pyNext_zip_item D hz hTI hTO h1 h2 p.isList p'.isList (x:=u) (y:=v) (by simpa using hu) (by simpa using hv) λh' a1 a2 a3 a4 a5 a6 hk=> ?_;refine⟨_,rfl,wpAny_letOwnedTupleGo_zip (s:={s with heap:=h'}) a1 λh2' hz' sb=> ?_⟩;have lt: ∀{c o},s.heap.get? c=some o->s.heap.objs.size≠c:=λe=>Nat.ne_of_gt (JU e);have hp:=I.hok.fresh (Je s.heap.objs.size);have pr:IsPair h2' s.heap.objs.size u v:=sb.extBut _ _ (lt hz) a5;have I1:Inv X pins σ (upd H s.heap.objs.size (.tup [x,y])) {s with heap:=h2'}:=by
   refine I.laidL (ch:= [z,TO,i1,i2]) (t':=s.toks) (λb hb=>hf b ?_) (λb o hb e=> ?_) (Je _) ⟨qj (by simp), [u,v], .cons ru (.cons rv' .nil),⟨_,pr,rfl,_,rfl⟩⟩
   ·have hb':b=z\/b=TO\/b=i1\/b=i2:=by simpa using hb
    rcases hb' with rfl|rfl|rfl|rfl<;>simp
   ·have hb': ¬(b=z\/b=TO\/b=i1\/b=i2):=λq=>hb (by simpa using q);exact sb.extBut _ _ (λq=>hb' (.inl q)) (hk b o (λq=>hb' (.inl q)) (λq=>hb' (.inr (.inl q))) (λq=>hb' (.inr (.inr (.inl q)))) (λq=>hb' (.inr (.inr (.inr q)))) e)
  refine⟨.ref s.heap.objs.size,_,I1,rfl,⟨_,rfl,hp,xo hp _,x,y,zP,λws hw=> ?_,λws hw=> ?_⟩,⟨hz',sb.extBut _ _ D.TIz (hk _ _ D.TIz D.TITO D.TIi1 D.TIi2 hTI),⟨_,_,sb.extBut _ _ D.TOz a2⟩,a3.extBut sb.extBut D.i1z,a4.extBut sb.extBut D.i2z⟩,λb hb=> ?_⟩
  ·rw[I.list_inj hw hx];exact ex
  ·rw[I.list_inj hw hy];exact ey
  ·have hb':b=z\/b=TI\/b=TO\/b=i1\/b=i2:=by simpa using hb
   have hs: ∃o,s.heap.get? b=some o:=by
    rcases hb' with rfl|rfl|rfl|rfl|rfl
    ·exact⟨_,hz⟩
    ·exact⟨_,hTI⟩
    ·exact⟨_,hTO⟩
    ·exact⟨_,h1.choose_spec.1⟩
    ·exact⟨_,h2.choose_spec.1⟩
   obtain⟨o,e⟩:=hs;rw[zT (lt e).symm];exact(hf b hb).1
 done:=by
  intro X hP hw hK hc i pins s σ H E I hf st hg;subst hP hw hK;obtain⟨xs,ys,hx,hy,hl⟩:=hg;obtain⟨hz,hTI,⟨a,c,hTO⟩,h1,h2⟩:=st;obtain⟨us,rv,p,_⟩:=I.list hx;obtain⟨vs,rw',p',_⟩:=I.list hy;have e1:=rv.length;have e2:=rw'.length;refine wpAny_pyNext_zip_end (I.ok.hd hc) D hz hTI hTO h1 h2 p.isList p'.isList ?_ λh' hk=>⟨rfl,?_⟩
  ·rcases hl with q|q
   ·exact .inl (by simp;omega)
   ·exact .inr (by simp;omega)
  ·refine I.turnedL (ch:= [z,TO,i1,i2]) (t':=s.toks) (λb hb=>hf b ?_) (λb o hb e=> ?_)
   ·have hb':b=z\/b=TO\/b=i1\/b=i2:=by simpa using hb
    rcases hb' with rfl|rfl|rfl|rfl<;>simp
   ·have hb': ¬(b=z\/b=TO\/b=i1\/b=i2):=λq=>hb (by simpa using q);exact hk b o (λq=>hb' (.inl q)) (λq=>hb' (.inr (.inl q))) (λq=>hb' (.inr (.inr (.inl q)))) (λq=>hb' (.inr (.inr (.inr q)))) e
 self:=λ_ _ _ _ _ st h=>wpAny_pyIter_zip st.1 h
def vj(K:Fg)(ta:TA):TI:=λσ H R=>ta σ H λvs H1=> ∃a b,vs= [.ref a, .ref b]/\(∃xs,SqL K H1 a xs)/\(∃ys,SqL K H1 b ys)/\R (Itz K a b) H1
theorem zl5{es:List Expr}{n:Nat}{ps:Pos}{a b:Expr}{ta:TA}{p pos:Pos}(hg:Gl X "zip")(hm:X.mg "zip"=none)(ha:PA X [a,b] ta)(hs:starEach [a,b] X.env= [(false,eval a X.env),(false,eval b X.env)]:=by rfl)(hs2:starEach [b] X.env= [(false,eval b X.env)]:=by rfl):
  PI X (.Tuple es n ps) (.Call (.Name "zip" p) [a,b] [] pos) (vj X.K ta):=by
 intro pins s σ H R I h;refine Call_ (w6 I hg hm boot_zip (PyProof.Rows.callWith_type1 (thn (ha pos pins s σ H _ I h) λus s1 ⟨vs,H1,I1,r1,q1⟩=> ?_) (by rw[hs,hs2]) (by rw[hs2];rfl)));obtain⟨i,j,e,⟨xs,hx⟩,⟨ys,hy⟩,q⟩:=q1;subst e;cases r1 with
 |cons r rr=>
  cases rr with
  |cons r' rr=>
   cases rr;cases r;cases r';obtain⟨us,rv,pl,_⟩:=I1.list hx;obtain⟨vs,rw',pl',_⟩:=I1.list hy;have lt1:i<s1.heap.objs.size:=by
    obtain⟨o,_,e,_⟩:=pl;exact JU e
   have lt2:j<s1.heap.objs.size:=by
    obtain⟨o,_,e,_⟩:=pl';exact JU e
   refine call_zip_2 pl.isList pl'.isList λh' hz hTI hTO hi1 hi2 hsz hk=>wpAny_pyIter_zip hz ?_;have D:ZipApart (s1.heap.objs.size+4) (s1.heap.objs.size+2) (s1.heap.objs.size+3) s1.heap.objs.size (s1.heap.objs.size+1) i j:=zipApart_new lt1 lt2;refine⟨_, [s1.heap.objs.size+4,s1.heap.objs.size+2,s1.heap.objs.size+3,s1.heap.objs.size,s1.heap.objs.size+1],_,_,H1,rfl,I1.kept (t':=s1.toks) hk,zjE _ _ _ _ _ _ _ D,⟨hz,hTI,⟨_,_,hTO⟩,hi1,hi2⟩,λb hb=> ?_,q⟩;have hb':b=s1.heap.objs.size+4\/b=s1.heap.objs.size+2\/b=s1.heap.objs.size+3\/b=s1.heap.objs.size\/b=s1.heap.objs.size+1:=by simpa using hb
   have le:s1.heap.objs.size<=b:=by
    rcases hb' with rfl|rfl|rfl|rfl|rfl
    ·exact Nat.le_add_right _ _
    ·exact Nat.le_add_right _ _
    ·exact Nat.le_add_right _ _
    ·exact Je _
    ·exact Nat.le_add_right _ _
   exact I1.fpOk le (I1.hok.fresh le)
theorem zkO{b:Addr}{j k:Nat}{tb:TS}{D:Ends}(Pv:Nat->St->Hp->Prop)(hlen:xs.length<=ys.length)(h0:Pv 0 σ H)(hl: ∀i σ H,i<=xs.length->Pv i σ H->SqL K H a xs/\SqL K H b ys)
  (hp: ∀i σ H H',Pv i σ H->zq H H'->Pv i σ H')
  (hs: ∀i x y σ H,xs[i]? =some x->ys[i]? =some y->Pv i σ H->tb {D with nx:=Pv (i+1),ct:=Pv (i+1),bk:=D.nx} ((σ.set j (some x)).set k (some y)) H) (hd: ∀σ H,Pv xs.length σ H->D.nx σ H):
  zmT (jC K 2 (zR (zL j) (zR (zL k) zV))) tb D σ (Itz K a b) H:=by
 refine⟨λi m σ H=>m=xs.length - i/\i<=xs.length/\Pv i σ H,⟨xs.length,by simp,Jv _,h0⟩,?_⟩;rintro i m σ H ⟨rfl,hi,p⟩;obtain⟨q1,q2⟩:=hl i σ H hi p;by_cases hlt:i<xs.length
 ·refine .inr ⟨⟨xs,ys,xs[i],ys[i],q1,q2,by simp [hlt],by simp⟩,Pv (i+1),λσ' H' p'=>⟨xs.length - (i+1),'o',rfl,hlt,p'⟩,λv H' yl=> ?_⟩;obtain⟨pp,rfl,_,sm,x,y,e,ex,ey⟩:=yl;exact⟨pp, [x,y],rfl,SqT.of e,rfl,x, [y],rfl,y, [],rfl,rfl,hs i x y σ H' (ex xs q1) (ey ys q2) (hp i σ H H' p sm)⟩
 ·have e:i=xs.length:=by omega
  subst e;exact .inl ⟨⟨xs,ys,q1,q2, .inl (Je _)⟩,hd σ H p⟩
theorem wc(xs:List V){k:Int}(h0:0<=k)(h1:k<=xs.length):ve xs (some k) none=xs.drop k.toNat:=by
 obtain⟨j,rfl⟩:=Int.eq_ofNat_of_zero_le h0;unfold ve;rw[HT.sIx_none,HT.sIx_nat,JE,Nat.min_eq_left 'o',List.take_of_length_le (by rw[List.length_drop];omega)]
section
variable {X:Cx}
end
section
variable {X:Cx} {Ek:St->XK} {k:Nat} {f:Addr} {fd:FuncData} {ps ks:List Str} {sp:Sp} {x:Str} {p pos:Pos} {e:Expr} {es:List Expr} {kws:List Keyword} {t tk:TA} {g:List Value->List Value->List Value} {gV:List V->List V->List V}
def yI(sp:Sp)(gV:List V->List V->List V)(Ek:St->XK)(t tk:TA):TE:=λσ H Q=>t σ H λvs H1=>tk σ H1 λzs H2=>sp (gV vs zs) H2 Q (Ek σ)
end
structure FunD (K:Fg) (x qual:Str) (st:Stmt) (f:Addr) (fd:FuncData):Prop where
 ex: ∃(dV oc:Value) (od:Option Addr) (kV doc pm:Value) (an:Option Addr) (cdv ct:Value) (osl:Array (Option Value)),
  fd=PySem.W.fnOf x qual (wJ st) (xy st) (zC st) dV kV doc pm an cdv ct/\K.lookup f=some ⟨oc,od, .func fd,osl⟩/\PySem.W.codeIn K cdv qual=true
 kp:PySem.W.keepIn K (.ref f)=true
theorem FunD.okX{P:Program}{w:World}{mg:Str->Option Value}{base:Heap}{x:Str}{ps:List Str}{k:Nat}{sp:Sp}(F:FunD K x qual st f fd)(S:FnScope N ps (zC st))(len: ∀vs H Q E,sp vs H Q E->vs.length=ps.length)
  (hbody: ∀(cdv:Value) (A:Around) (outer:List Env) (s:Shared) (H:Hp) (vs:List V) (Q:VK) (E:XK),LvR (qt (CXE P w) P w K mg base N qual (zC st) f cdv A outer s H E) (λ_=>E)->Room k (A.deeper (envOfC qual (zC st) s.heap.objs.size f cdv))->sp vs H Q E->
   ∃t,PSs (qt (CXE P w) P w K mg base N qual (zC st) f cdv A outer s H E) (xy st) t/\t {nx:=λ_ H'=>Q .non H',rt:=Q} (start N vs) H):FnOk P w K mg base (CXE P w) (k+1) f fd ps sp:=by
 obtain⟨dV,oc,od,kV,doc,pm,an,cdv,ct,osl,rfl,lk,hcd⟩:=F.ex;exact jJ lk hcd S len λA outer s H vs Q E hr hsp=>hbody cdv A outer s H vs Q E uN hr hsp
theorem zia{x:Str}{oc dV:Value}{od an:Option Addr}{osl:Array (Option Value)}{kV doc pm cdv ct:Value}(l:K.lookup f=some ⟨oc,od, .func (PySem.W.fnOf x qual (wJ st) (xy st) (zC st) dV kV doc pm an cdv ct),osl⟩)
  (c:PySem.W.codeIn K cdv qual=true) (k:PySem.W.keepIn K (.ref f)=true):FunD K x qual st f (PySem.W.fnOf x qual (wJ st) (xy st) (zC st) dV kV doc pm an cdv ct):=⟨⟨dV,oc,od,kV,doc,pm,an,cdv,ct,osl,rfl,l,c⟩,k⟩
def kwG{α:Type}(us ws:List α):List α:=match us,ws with
 | [a], [b]=> [a,b]
 |_,_=> []
theorem yJ{α:Type}(a b:α):kwG [a] [b]= [a,b]:=rfl
theorem zfB(h: ∀(s:Shared) (u v:Value),K.In s.heap->BindsTo s fd ⟨[u], [(p1,v)]⟩ [(p0,u),(p1,v)]):KBinds K fd [p0,p1] [p1] kwG kwG where
 to:=λs us ws hk hl=>by
  match us,ws,hl with
  | [u], [v],_=>exact h s u v hk
  | [], [],hl=>cases hl
  | [],_::_,hl=>cases hl
  | [_], [],hl=>cases hl
  | [_],_::_::_,hl=>cases hl
  |_::_::_, [],hl=>cases hl
  |_::_::_,_::_,hl=>cases hl
 rel:=λr q=>by
  cases r with
  |nil=>exact .nil
  |cons r rr=>
   cases rr with
   |nil=>
    cases q with
    |nil=>exact .nil
    |cons q qq=>
     cases qq with
     |nil=>exact .cons r (.cons q .nil)
     |cons _ _=>exact .nil
   |cons _ _=>exact .nil
theorem zgl(h: ∀(s:Shared) (u v:Value),K.In s.heap->BindsTo s fd ⟨[u,v], []⟩ [(p0,u),(p1,v)]):zN K fd [p0,p1] []:=λs us hk hl=>by
 match us,hl with
 | [u,v],_=>exact h s u v hk
 | [],hl=>cases hl
 | [_],hl=>cases hl
 |_::_::_::_,hl=>simp at hl
theorem zfC{d:Value}(h: ∀(s:Shared) (u:Value),K.In s.heap->BindsTo s fd ⟨[u], []⟩ [(p0,u),(p1,d)]):zN K fd [p0,p1] [d]:=λs us hk hl=>by
 match us,hl with
 | [u],_=>exact h s u hk
 | [],hl=>cases hl
 |_::_::_,hl=>simp at hl
end L2
namespace Parts
variable {A s:Int}
theorem sum_le{b:Int}: ∀(ws:List Int),(∀w∈ws,w<=b)->ws.sum<=ws.length*b
 | [],_=>by
  show (0:Int)<=((0:Nat):Int)*b;rw[Int.natCast_zero,Int.zero_mul];exact Jy 0
 |x::r,h=>by
  have h1:=sum_le r λw hw=>h w (Jl _ hw);have h2:=h x Jq;show x+r.sum<=((r.length+1:Nat):Int)*b;rw[Int.natCast_add,Int.add_mul];show x+r.sum<=(r.length:Int)*b+1*b;omega
end Parts
namespace L2
open PySem
variable{c j i n p:Nat}{x:Str}{a l l1 l2:Addr}{b:Bool}{xs:Array Value}{s:Shared}{X:Cx}{y:V}{P:Program}{w:World}{K:Fg}{H H' H1:Hp}{Q:Value->Shared->Prop}{cs:List Nat}{u:Value}{kvs:List (List Key×V)}{h' h:Heap}{pos:Pos}{ds:List D}{g:TG}{J:It}{ys:List V}{σ0:St}{te:TE}{es:List Expr}
section
variable {env:Env} {es:List Expr} {p:Pos}
theorem zi{c:Const}:starEach (.Constant c j p::es) env=(false,eval (.Constant c j p) env)::starEach es env:=rfl
theorem zk:starEach (.Name x p::es) env=(false,eval (.Name x p) env)::starEach es env:=rfl
theorem qD{a b:Expr}{o:Operator}:starEach (.BinOp a o b p::es) env=(false,eval (.BinOp a o b p) env)::starEach es env:=rfl
theorem u7{xs:List Expr}{k}:starEach (.Tuple xs k p::es) env=(false,eval (.Tuple xs k p) env)::starEach es env:=rfl
theorem y9{a b:Expr}:starEach (.Subscript a b p::es) env=(false,eval (.Subscript a b p) env)::starEach es env:=rfl
theorem qh{f:Expr}{xs:List Expr}{ks:List Keyword}:starEach (.Call f xs ks p::es) env=(false,eval (.Call f xs ks p) env)::starEach es env:=rfl
end
open PySem PySem.Spec PyProof.Rows
theorem qA{α:Type}{t:Sem α}{Q Q':α->Shared->Prop}{M:Model}{A:Around}{E:Value->Shared->Prop}(h0:0<s.toks)(h:wpAny M A t Q E s)(hQ: ∀a s,0<s.toks->Q a s->Q' a s):wpAny M A t Q' E s:=
 wpAny_mono (wpAny_toks_of (n:=1) h0 h) (λa s x=>hQ a s x.1 x.2) λ_ _ x=>x.2
def PSt(X:Cx)(st:Stmt)(t:TS):Prop:=
 ∀(pins:List (Addr×Obj)) (s:Shared) (σ:St) (H:Hp) (D:Ends),0<s.toks->Inv X pins σ H s->t D σ H->wpAny (model X.prog X.w) X.A (exec st X.env) (SP X pins D) X.xe s
def PTt(X:Cx)(e:Expr)(t:TT):Prop:=
 ∀(pins:List (Addr×Obj)) (s:Shared) (σ:St) (H:Hp) (Q:Bool->Hp->Prop),0<s.toks->Inv X pins σ H s->t σ H Q->wpAny (model X.prog X.w) X.A (isTrue e X.env (eval e X.env)) (TP X pins σ Q) X.xe s
def PWt(X:Cx)(e:Expr)(t:TT):Prop:=
 ∀(whole:Sem Value) (pins:List (Addr×Obj)) (s:Shared) (σ:St) (H:Hp) (Q:Bool->Hp->Prop),0<s.toks->Inv X pins σ H s->t σ H Q->wpAny (model X.prog X.w) X.A (isTrue e X.env whole) (TP X pins σ Q) X.xe s
theorem PWt.pt{e:Expr}{t:TT}(h:PWt X e t):PTt X e t:=h _
section
variable {X:Cx} {st:Stmt} {sts rest:List Stmt} {e a b:Expr} {es:List Expr} {u v:TS} {te ta tb to:TE} {tc tA tB':TT} {tl:TA} {pos:Pos}
theorem PE.t(h:PE X e te):PEt X e te:=λpins s σ H Q _ I q=>h pins s σ H Q I q
theorem PA.t(h:PA X es tl):PAt X es tl:=λps pins s σ H Q _ I q=>h ps pins s σ H Q I q
theorem PS.t(h:PS X st u):PSt X st u:=λpins s σ H D _ I q=>h pins s σ H D I q
theorem PSs.t(h:PSs X sts u):PSst X sts u:=λpins s σ H D _ I q=>h pins s σ H D I q
theorem PT.t(h:PT X e tc):PTt X e tc:=λpins s σ H Q _ I q=>h pins s σ H Q I q
theorem PW.t(h:PW X e tc):PWt X e tc:=λwh pins s σ H Q _ I q=>h wh pins s σ H Q I q
theorem qF(h1:PSt X st u)(h2:PSst X rest v):PSst X (st::rest) (zU u v):=by
 intro pins s σ H D h0 I h;refine wpAny_execs_cons (qA h0 (h1 pins s σ H {D with nx:=v D} h0 I h) λf s1 l1 q=> ?_);cases f with
 |next=>
  obtain⟨σ',H',I',q⟩:=q;exact h2 pins s1 σ' H' D l1 I' q
 |ret v=>exact q
 |brk=>exact q
 |cont=>exact q
theorem um(h1:PSt X st u):PSst X [st] u:=by
 intro pins s σ H D h0 I h;refine wpAny_execs_cons (thn (h1 pins s σ H D h0 I h) λf s1 q=> ?_);cases f with
 |next=>exact wpAny_execs_nil q
 |ret v=>exact q
 |brk=>exact q
 |cont=>exact q
theorem zib(he:PEt X e te):PSt X (.Return (some e) pos) (zZ te):=by
 intro pins s σ H D h0 I h;exact wpAny_Return_some (thn (he pins s σ H _ h0 I h) λv s1 ⟨x,H1,I1,r1,q1⟩=>⟨x,σ,H1,I1,r1,q1⟩)
theorem uo{pos':Pos}(hN:X.N.Nodup)(hi:X.N[i]? =some x)(hx:Loc X.env.scope x)(he:PEt X e te)(hs:swapsWith e (some (.Name x pos')) pos.line X.env=pure false:=by rfl)(hf:X.fn x=true\/X.env.scope.names.lookup x=some .local:=by first|exact .inl rfl|exact .inr rfl|assumption):
  PSt X (.Assign [.Name x pos'] e pos) (zS te (zL i)):=by
 intro pins s σ H D h0 I h;refine wpAny_Assign_Name (thn (he pins s σ H _ h0 I h) λv s1 ⟨y,H1,I1,r1,q1⟩=> ?_) hs;exact vz I1 hN hi hx r1 (λs2 I2=>⟨_,H1,I2,q1⟩) hf
theorem u9(ha:PEt X e te)(hr:PAt X es tl)(hs:starEach (e::es) X.env=(false,eval e X.env)::starEach es X.env:=by rfl):PAt X (e::es) (z7 te tl):=by
 intro pos pins s σ H Q h0 I h;rw[hs];show wpAny _ _ (spliced ((false,eval e X.env)::backTo pos (starEach es X.env))) _ _ s;refine Calls.spliced_cons (qA h0 (ha pins s σ H _ h0 I h) λu s1 l1 ⟨x,H1,I1,r1,q1⟩=> ?_);exact thn (hr pos pins s1 σ H1 _ l1 I1 q1) λus s2 ⟨xs,H2,I2,r2,q2⟩=>⟨x::xs,H2,I2, .cons r1 r2,q2⟩
def yt(c:Nat)(to:TE):TE:=λσ H Q=>to σ H λx H1=> ∃cs,x= .str (SL cs)/\cs.length<=sizeLine/\Q (.str (SL (cs.filter (· !=c)))) H1
theorem zhL(cs:List Nat)(c:Nat):Txt.replace (SL cs) (SL [c]) (SL [])=SL (cs.filter (· !=c)):=by
 rw[vG (Txt.replace (SL cs) (SL [c]) (SL []))];exact congrArg SL (replace_strikes (SL cs) c)
theorem zfD{o:Expr}{y z:Str}{j k:Nat}{p1 p2 apos cpos:Pos}(hy:y=SL [c])(hz:z=SL [])(ho:PEt X o to)
  (hbase:attributeBase o "replace" X.env (eval o X.env)=eval o X.env:=by rfl)
  (hfew:((backTo cpos (starEach [.Constant (.str y) j p1, .Constant (.str z) k p2] X.env)).all (λx=> !x.1) && (backToKw cpos (keywordEach [] X.env)).all (λx=>x.1.isSome)
   && decide (([.Constant (.str y) j p1, .Constant (.str z) k p2]:List Expr).length+([]:List Keyword).length+(if ([]:List Keyword).isEmpty then 0 else 1)<30))=true:=by rfl)
  (hline:(apos.endLine==cpos.line)=true:=by rfl)
  (hs:starEach [.Constant (.str y) j p1, .Constant (.str z) k p2] X.env= [(false,eval (.Constant (.str y) j p1) X.env),(false,eval (.Constant (.str z) k p2) X.env)]:=by rfl):
  PEt X (.Call (.Attribute o "replace" apos) [.Constant (.str y) j p1, .Constant (.str z) k p2] [] cpos) (yt c to):=by
 intro pins s σ H Q h0 I h;refine wpAny_Call_method_late hbase hfew hline rfl (wpAny_mono (wpAny_toks_of (n:=1) h0 (ho pins s σ H _ h0 I h)) (λv s1 hv=> ?_) λ_ _ z=>z.2);obtain⟨l1,x,H1,I1,r1,cs,rfl,hl,q1⟩:=hv;have ty:tyV X.K "str" (.str (SL cs)) H1:=rfl;obtain⟨h1,h2⟩:=ua I1 r1 ty;refine⟨"str","str.replace",PySem.F.plainAttrs_str,PySem.F.slot_str_replace,PySem.F.type_str_replace,h1,h2,?_⟩;obtain⟨t,rfl⟩:=r1;rw[hs];refine Calls.callWith_builtin rfl (Calls.evalArgs_plain ?_);refine Calls.spliced_cons (Calls.Constant_str (k:=j) (pos:=p1) ?_);refine Calls.spliced_cons (Calls.Constant_str (k:=k) (pos:=p2) ?_);refine Calls.spliced_nil ?_;have hyz:(y==z)=false:=by
  rw[hy,hz];refine Bool.eq_false_iff.mpr λq=> ?_;have e:=eq_of_beq q;rw[zO] at e;cases e
 have hb:(SL cs).length+((SL cs).length+1)*z.length<=16777216:=by
  rw[hz,qo,qo];simp only[List.length_nil,Nat.mul_zero,Nat.add_zero];rw[<-sizeLine_eq];exact hl
 refine SC.replace (by show s1.toks≠0;omega) (by show s1.toks+1≠0;omega) (by show s1.toks≠s1.toks+1;omega) hyz hb λt' k=> ?_;rw[hy,hz,zhL];exact⟨.str _,H1,I1.tok _,⟨t',rfl⟩,q1⟩
end
def PEm(X:Cx)(e:Expr)(t:TE):Prop:=
 ∀(pins:List (Addr×Obj)) (s:Shared) (σ:St) (H:Hp) (Q:VK),Inv X pins σ H s->t σ H Q->wpAny (model X.prog X.w) X.A (eval e X.env) (λv s'=>0<s'.toks/\EP X pins σ Q v s') X.xe s
def PSm(X:Cx)(st:Stmt)(t:TS):Prop:=
 ∀(pins:List (Addr×Obj)) (s:Shared) (σ:St) (H:Hp) (D:Ends),Inv X pins σ H s->t D σ H->wpAny (model X.prog X.w) X.A (exec st X.env) (λf s'=>0<s'.toks/\SP X pins D f s') X.xe s
section
variable {X:Cx} {st:Stmt} {rest:List Stmt} {e a:Expr} {t u:TS} {te ta:TE} {pos cp:Pos}
theorem zkP{pos':Pos}(hN:X.N.Nodup)(hi:X.N[i]? =some x)(hx:Loc X.env.scope x)(he:PEm X e te)(hs:swapsWith e (some (.Name x pos')) pos.line X.env=pure false:=by rfl)(hf:X.fn x=true\/X.env.scope.names.lookup x=some .local:=by first|exact .inl rfl|exact .inr rfl|assumption):
  PSm X (.Assign [.Name x pos'] e pos) (zS te (zL i)):=by
 intro pins s σ H D I h;refine wpAny_Assign_Name (thn (he pins s σ H _ I h) λv s1 ⟨l1,y,H1,I1,r1,q1⟩=> ?_) hs;exact wpAny_mono (wpAny_toks_of (n:=1) l1 (vz (Q:=λ_ s2=>SP X pins D .next s2) I1 hN hi hx r1 (λs2 I2=>⟨_,H1,I2,q1⟩) hf)) (λ_ _ z=>z) λ_ _ z=>z.2
theorem ziN(h1:PSm X st t)(h2:PSst X rest u):PSs X (st::rest) (zU t u):=by
 intro pins s σ H D I h;refine wpAny_execs_cons (thn (h1 pins s σ H {D with nx:=u D} I h) λf s1 q=> ?_);obtain⟨l1,q⟩:=q;cases f with
 |next=>
  obtain⟨σ',H',I',q⟩:=q;exact h2 pins s1 σ' H' D l1 I' q
 |ret v=>exact q
 |brk=>exact q
 |cont=>exact q
end
structure FnOkT (P:Program) (w:World) (K:Fg) (mg:Str->Option Value) (base:Heap) (CX:CXT) (k:Nat) (f:Addr) (fd:FuncData) (ps:List Str) (sp:Sp):Prop where
 len: ∀vs H Q E,sp vs H Q E->vs.length=ps.length
 run: ∀(A:Around) (outer:List Env) (s:Shared) (H:Hp) (args:Args) (us:List Value) (vs:List V) (Q:VK) (E:XK),0<s.toks->Room k A->Env0 P w K mg base A outer s H->BindsTo s fd args (ps.zip us)->zE vs us->sp vs H Q E->
  codeAny (model P w) A (.call (.ref f) args) (CR CX outer P w H s Q E) s
theorem zjF{CX:CXT}{P:Program}{w:World}{K:Fg}{mg:Str->Option Value}{base:Heap}{k:Nat}{f:Addr}{name qual:Str}{params:Arguments}{body:List Stmt}{scope:Scope}{dV kV doc pm cdv ct oc:Value}{an od:Option Addr}
  {osl:Array (Option Value)} {N ps:List Str} {sp:Sp} (lk:K.lookup f=some ⟨oc,od, .func (PySem.W.fnOf name qual params body scope dV kV doc pm an cdv ct),osl⟩) (hcd:PySem.W.codeIn K cdv qual=true) (S:FnScope N ps scope)
  (len: ∀vs H Q E,sp vs H Q E->vs.length=ps.length)
  (hbody: ∀(A:Around) (outer:List Env) (s:Shared) (H:Hp) (vs:List V) (Q:VK) (E:XK),Room k (A.deeper (envOfC qual scope s.heap.objs.size f cdv))->sp vs H Q E->
   ∃t,PSst (qt CX P w K mg base N qual scope f cdv A outer s H E) body t/\t {nx:=λ_ H'=>Q .non H',rt:=Q} (start N vs) H):
  FnOkT P w K mg base CX (k+1) f (PySem.W.fnOf name qual params body scope dV kV doc pm an cdv ct) ps sp:=by
 refine⟨len,λA outer s H args us vs Q E h0 hr e0 hb r hsp=> ?_⟩;have hl:=len _ _ _ _ hsp;have KX:K.In s.heap:=e0.mod.kin.keeps λb o e=>(e0.bs b o e).1;have lim:s.heap.NoLimit:=e0.mod.nolimit.keeps λb o e=>(e0.bs b o e).1;have hkind: ∀y∈ps.zip us,scope.names.lookup y.1=some .local\/(scope.names.lookup y.1=some .cell/\((cellsFrom (s.heap.objs.size+1) scope.names []).lookup y.1).isSome=true):=λ⟨n,v⟩ hy=>by
  rcases S.par n (List.of_mem_zip hy).1 with q|q
  ·exact .inl q
  ·exact .inr ⟨q,PySem.W.cellsFrom_some _ _ _ (.inl q)⟩
 refine codeAny_call_function hr.depth (KX _ _ lk) rfl S.co S.gen rfl (PySem.W.codeRec_of KX hcd) (hb _ _ _ _ ?_);refine wpAny_with_toks (n:=1) h0 (wpAny_newFunctionEnv_cells S.kind hkind λenv he s1 x l1=> ?_);subst he;refine⟨lim.keeps x.toInCall.keep,codeAny_func ?_⟩;obtain⟨t,ht,hq⟩:=hbody A outer s H vs Q E (hr.deeper _) hsp;have I:Inv (qt CX P w K mg base N qual scope f cdv A outer s H E) [] (start N vs) H s1:=zgb S hr.hd e0 hl r x;refine wpAny_mono (ht [] s1 (start N vs) H _ l1 I hq) (λfl s' hs=> ?_) λe s' hs=>hs;have fin: ∀{σ':St} {H':Hp} {v:V} {u:Value},Inv (qt CX P w K mg base N qual scope f cdv A outer s H E) [] σ' H' s'->zB v u->Q v H'->CE outer P w H s Q u s':=
  fun {σ' H' v u} J rv q=>⟨v,H',J.os,J.bare,J.base,J.hok,rv,q⟩
 cases fl with
 |ret u=>
  obtain⟨v,σ',H',J,rv,q⟩:=hs;exact fin J rv q
 |next=>
  obtain⟨σ',H',J,q⟩:=hs;exact fin (v:=V.non) (u:=Value.none) J rfl q
 |brk=>
  obtain⟨_,_,_,q⟩:=hs;exact False.elim q
 |cont=>
  obtain⟨_,_,_,q⟩:=hs;exact False.elim q
section
variable {P:Program} {w:World} {K:Fg} {mg:Str->Option Value} {base:Heap} {x qual:Str} {st:Stmt} {f:Addr} {fd:FuncData} {N ps:List Str} {k:Nat} {sp:Sp}
theorem Fun.okXT(F:Fun K x qual st f fd)(S:FnScope N ps (zC st))(len: ∀vs H Q E,sp vs H Q E->vs.length=ps.length)
  (hbody: ∀(cdv:Value) (A:Around) (outer:List Env) (s:Shared) (H:Hp) (vs:List V) (Q:VK) (E:XK),LvR (qt (CXE P w) P w K mg base N qual (zC st) f cdv A outer s H E) (λ_=>E)->Room k (A.deeper (envOfC qual (zC st) s.heap.objs.size f cdv))->sp vs H Q E->
   ∃t,PSst (qt (CXE P w) P w K mg base N qual (zC st) f cdv A outer s H E) (xy st) t/\t {nx:=λ_ H'=>Q .non H',rt:=Q} (start N vs) H):FnOkT P w K mg base (CXE P w) (k+1) f fd ps sp:=by
 obtain⟨oc,od,kV,doc,pm,an,cdv,ct,osl,rfl,lk,hcd⟩:=F.ex;exact zjF lk hcd S len λA outer s H vs Q E hr hsp=>hbody cdv A outer s H vs Q E uN hr hsp
theorem FunD.okXT(F:FunD K x qual st f fd)(S:FnScope N ps (zC st))(len: ∀vs H Q E,sp vs H Q E->vs.length=ps.length)
  (hbody: ∀(cdv:Value) (A:Around) (outer:List Env) (s:Shared) (H:Hp) (vs:List V) (Q:VK) (E:XK),LvR (qt (CXE P w) P w K mg base N qual (zC st) f cdv A outer s H E) (λ_=>E)->Room k (A.deeper (envOfC qual (zC st) s.heap.objs.size f cdv))->sp vs H Q E->
   ∃t,PSst (qt (CXE P w) P w K mg base N qual (zC st) f cdv A outer s H E) (xy st) t/\t {nx:=λ_ H'=>Q .non H',rt:=Q} (start N vs) H):FnOkT P w K mg base (CXE P w) (k+1) f fd ps sp:=by
 obtain⟨dV,oc,od,kV,doc,pm,an,cdv,ct,osl,rfl,lk,hcd⟩:=F.ex;exact zjF lk hcd S len λA outer s H vs Q E hr hsp=>hbody cdv A outer s H vs Q E uN hr hsp
end
section
variable {X:Cx} {Ek:St->XK} {k:Nat} {f:Addr} {fd:FuncData} {ps ks:List Str} {sp:Sp} {x:Str} {p pos:Pos} {e:Expr} {es:List Expr} {kws:List Keyword} {t tk:TA} {g:List Value->List Value->List Value} {gV:List V->List V->List V} {dvs:List V} {ds:List Value}
theorem zjG{pins:List (Addr×Obj)}{σ:St}{H:Hp}{Q:VK}{us:List Value}{vs:List V}(L:Lv X Ek)(F:FnOkT X.prog X.w X.K X.mg X.base (CXE X.prog X.w) k f fd ps sp)(hr:Room k X.A)(hb:zN X.K fd ps ds)(hd:zE dvs ds)(h0:0<s.toks)
  (I:Inv X pins σ H s) (r:zE vs us) (h:sp (vs++dvs) H Q (Ek σ)):wpAny (model X.prog X.w) X.A (call (.ref f) us) (EP X pins σ Q) X.xe s:=by
 have r2:zE (vs++dvs) (us++ds):=r.append hd;have hl:(us++ds).length=ps.length:=by rw[<-r2.length];exact F.len _ _ _ _ h
 refine wpAny_call (codeAny_mono (F.run X.A X.stack s H ⟨us, []⟩ (us++ds) (vs++dvs) Q (Ek σ) h0 hr I.env0 (hb s us I.kIn hl) r2 h) λr s' hq=> ?_);cases r with
 |error e=>
  obtain⟨ea,cls,H',rfl,fl,q⟩:=hq;exact L.call pins σ ea cls H H' s s' I fl q
 |ok fl=>
  cases fl with
  |ret u=>exact I.after hq
  |next=>exact False.elim hq
  |brk=>exact False.elim hq
  |cont=>exact False.elim hq
theorem wN(L:Lv X Ek)(F:FnOkT X.prog X.w X.K X.mg X.base (CXE X.prog X.w) k f fd ps sp)(hr:Room k X.A)(hg:Gl X x)(hm:X.mg x=some (.ref f))(hk:PySem.W.keepIn X.K (.ref f)=true)(hb:zN X.K fd ps ds)(hd:zE dvs ds)
  (ha:PAt X (e::es) t) (hdb:(x==("__debug__":Str))=false:=by decide) (he:starEach (e::es) X.env=(false,eval e X.env)::starEach es X.env:=by rfl) (hpl:(backTo pos (starEach es X.env)).any (·.1)=false:=by rfl):
  PEt X (.Call (.Name x p) (e::es) [] pos) (z8 sp dvs Ek t):=by
 intro pins s σ H Q h0 I h;refine wpAny_Call_Name_kw (vA I hg hm ?_ hdb);refine PySem.W.callWith_K (h₀:=X.base) I.ok.mod.kin hk (qA h0 (ha pos pins s σ H _ h0 I h) λus s1 l1 ⟨vs,H1,I1,r,q⟩=>⟨I1.kIn,?_⟩) he hpl;exact zjG L F hr hb hd l1 I1 r q
end
section
variable {X:Cx} {body suite:List Stmt} {b₀:Stmt} {n xn:Str} {i:Nat} {C:Addr} {tb:(St->XK)->TS} {ts:TS} {np hpos pos:Pos}
theorem zkQ(W:X.Own)(hb: ∀(Ek:St->XK) (pn:List (Addr×Obj)) (xe:Value->Shared->Prop),Lv (X.other pn xe) Ek->PSst (X.other pn xe) body (tb Ek))(hs: ∀ea,PSs (X.suite ea) (b₀::suite) ts)
  (hg:Gl X xn) (hm:X.mg xn=some (.ref C)) (hN:X.N.Nodup) (hi:X.N[i]? =some n) (hk:X.env.scope.names.lookup n=some .local) (hd:(xn==("__debug__":Str))=false:=by decide):
  PSt X (.Try body [.ExceptHandler (some (.Name xn np)) (some n) (b₀::suite) hpos] [] [] pos) (zmQ X.K C i tb ts):=by
 intro pins s σ H D h0 I h;refine wpAny_Try_except ?_;refine wpAny_mono (hb _ (X.pn++pins) _ ?L [] s σ H D h0 (I.other _) h) (λf s1 hf=> ?_) (λe s1 hx=>hx)
 case L=>
  refine⟨λpins' σ' ea cls H1 H2 s1 s2 J F q=> ?_⟩;have J0:Inv X pins σ' H1 s1:=J.unother;obtain⟨B,a0,fl,hok,kp,th⟩:=F.ex;obtain⟨q1,q2⟩:=q;obtain⟨hh,g2,d2,t2,os2⟩:=s2;have eo:os2=s1.os:=F.os;subst eo;have fl1:Heap.FlyingW B X.stack ea cls a0 hh:=fl;have fl2:=fl1;rw[W.stk] at fl2;refine wpAny_looks_onW (by rw[I.ok.frames,W.stk]) W.fr fl2 λh4 held up4=> ?_;refine wpAny_landsW held λh5 fl5 up5=> ?_;have u5:=F.un.flown fl1.2.2.1 (up4.trans up5) fl5.1 kp th;obtain⟨hn,J5,_⟩:=J0.landed (g':=g2) (d':=d2) (t':=t2) W u5 (by rw[W.stk];exact fl5) hok th F.bare;refine wpAny_handleBy_cons (codeAny_handlers_test ?_) (by intro q;cases q);refine vA (X:=X.suite ea) (J5.suite ea) hg hm ?_ hd;have LT:PySem.W.Looks (model X.prog X.w) h5 (typeOf (.ref ea)) cls:=by
   obtain⟨ob,e1,e2⟩:=fl5.there;exact e2 ▸ (PySem.W.Looks.ld e1).andThen .now
  refine PySem.W.Looks.here (s:={s1 with heap:=h5,gens:=g2,drawn:=d2,toks:=t2}) (PySem.W.exm_one J5.kIn LT q1) ?_;show codeAny _ _ _ _ _;refine codeAny_handlers_suite_as ?_;refine lands_againW fl5 λh6 fl6 up6=> ?_;have u6:=F.un.flown fl1.2.2.1 ((up4.trans up5).trans up6) fl6.1 kp th;obtain⟨_,_,J6⟩:=J0.landed (g':=g2) (d':=d2) (t':=t2) W u6 (by rw[W.stk];exact fl6) hok th F.bare;refine vz (X:=X.suite ea) (v:= .ref ea) (J6.suite ea) hN hi (Or.inl hk) rfl (λs7 J7=> ?_) (Or.inr hk);refine wpAny_mono (hs ea pins s7 _ _ _ J7 (q2 ea hn)) (λf s8 hf=> ?_) (λ_ _ z=>z.elim);cases f with
  |next=>
   obtain⟨σ8,H8,J8,q8⟩:=hf;exact(J8.unsuite J5.ok).unbind hN hi hk λs9 J9=>⟨_,_,J9,q8⟩
  |brk=>
   obtain⟨σ8,H8,J8,q8⟩:=hf;exact(J8.unsuite J5.ok).unbind hN hi hk λs9 J9=>⟨_,_,J9,q8⟩
  |cont=>
   obtain⟨σ8,H8,J8,q8⟩:=hf;exact(J8.unsuite J5.ok).unbind hN hi hk λs9 J9=>⟨_,_,J9,q8⟩
  |ret u=>
   obtain⟨v,σ8,H8,J8,r8,q8⟩:=hf;exact(J8.unsuite J5.ok).unbind hN hi hk λs9 J9=>⟨v,_,_,J9,r8,q8⟩
 cases f with
 |next=>
  obtain⟨σ8,H8,J8,q8⟩:=hf;exact wpAny_execs_nil ⟨σ8,H8,J8.unother,q8⟩
 |brk=>
  obtain⟨σ8,H8,J8,q8⟩:=hf;exact⟨σ8,H8,J8.unother,q8⟩
 |cont=>
  obtain⟨σ8,H8,J8,q8⟩:=hf;exact⟨σ8,H8,J8.unother,q8⟩
 |ret u=>
  obtain⟨v,σ8,H8,J8,r8,q8⟩:=hf;exact⟨v,σ8,H8,J8.unother,r8,q8⟩
end
theorem ziO(cs:List Nat)(c:Nat):Txt.startswith (SL cs) (SL [c])=decide (cs.head? =some c):=by
 unfold Txt.startswith Builtin.Str.subAt;rw[qo,qo];cases cs with
 |nil=>rfl
 |cons a r=>
  have e:(SL (a::r)).cps.extract 0 (0+ [c].length)= #[a]:=by
   show (a::r).toArray.extract 0 1= #[a];simp
  rw[e];have l:decide (0+ [c].length<=(a::r).length)=true:=JL (by simp);rw[l,Bool.true_and];show (#[a]== #[c])=decide ((a::r).head? =some c);rw[List.head?_cons,Bool.eq_iff_iff,beq_iff_eq,decide_eq_true_eq];constructor
  ·intro h
   have:=congrArg Array.toList h;simpa using this
  ·intro h;rw[JQ h]
section
variable {X:Cx}
theorem zee:MtR X "str.startswith" (λx vs H Q=> ∃cs c,x= .str (SL cs)/\vs= [.str (SL [c])]/\Q (.bl (decide (cs.head? =some c))) H):=by
 intro pins s σ H x vs v us Q I rx rv h;obtain⟨cs,c,rfl,rfl,q⟩:=h;obtain⟨t,rfl⟩:=rx;obtain⟨u,rfl,t',rfl⟩:=qK rv;refine SC.startswith ?_;rw[ziO];exact⟨.bl _,H,I,rfl,q⟩
end
open PySem PySem.NumText
theorem wO: ∀(p m:Nat),zf (dg m) (p+1)=dg (m / 10 ^ p)++fig p (m:Int)
 |0,m=>by
  rw[Nat.pow_zero,Nat.div_one];unfold zf
  have:=uV m;rw[show 0+1 - (dg m).length=0 by omega];show dg m=dg m++ [];rw[Jt]
 |p+1,m=>by
  rw[uR];have e:((m:Int) / 10)=((m / 10:Nat):Int):=by omega
  have e2:((m:Int) % 10).toNat=m % 10:=by omega
  have e3:m / 10 ^ (p+1)=m / 10 / 10 ^ p:=by rw[Nat.pow_succ,Nat.mul_comm,Nat.div_div_eq_div_mul]
  rw[e,e2,e3,<-JJ,<-wO p (m / 10)];by_cases c:m<10
  ·rw[wK c,show m / 10=0 by omega,show m % 10=m by omega,wK (show 0<10 by decide)];unfold zf;rw[List.length_singleton,List.length_singleton,Nat.add_sub_cancel,Nat.add_sub_cancel,List.replicate_succ']
  ·rw[vJ (n:=m) 'o'];unfold zf;rw[Jj,List.length_singleton,<-JJ];congr 3;omega
def qk(n:Int)(p:Nat):List Nat:=
 (if n<0 then [45] else [])++(dg (n.natAbs / 10 ^ p)++(if p=0 then [] else 46::fig p (n.natAbs:Int)))
def wP(n:Int)(p:Nat):Nat:=(dg (n.natAbs / 10 ^ p)).length+p
theorem zjH: ∀(k n:Nat),0<k->n<10 ^ k->(dg n).length<=k
 |0,_,h,_=>absurd h 'd'
 |k+1,n,_,h=>by
  by_cases c:n<10
  ·rw[wK c,List.length_singleton];omega
  ·rw[vJ 'o',Jj,List.length_singleton];have k0:0<k:=by
    rcases k with _|k
    ·simp at h;omega
    ·omega
   have:=zjH k (n / 10) k0 (by rw[Nat.pow_succ] at h;omega);omega
theorem ja(h:AllDigits cs)(c:Nat)(hc:c<48):cs.filter (· !=c)=cs:=by
 rw[List.filter_eq_self];intro a ha
 have:=h a ha;simp;omega
theorem j7(n:Int)(p:Nat):((qk n p).filter (· !=45)).filter (· !=46)=zf (dg n.natAbs) (p+1):=by
 rw[wO];have d1:=uT (n.natAbs / 10 ^ p);have d2:=uS p (n.natAbs:Int);unfold qk;rw[JO,JO,JO,JO];rw[ja d1 45 'd',ja d1 46 'd'];have e1:(List.filter (· !=46) (List.filter (· !=45) (if n<0 then [45] else [])))= []:=by split<;>rfl
 rw[e1,List.nil_append];congr 1;by_cases z:p=0
 ·subst z;rfl
 ·rw[Jf z,JP,Jg 'd',JP,Jf 'd',ja d2 45 'd',ja d2 46 'd']
theorem j8(n:Int)(p:Nat):(qk n p).head? =some 45↔n<0:=by
 unfold qk;by_cases h:n<0
 ·rw[Jg h];simp [h]
 ·rw[Jf h,List.nil_append];have d1:=uT (n.natAbs / 10 ^ p);cases e:dg (n.natAbs / 10 ^ p) with
  |nil=>have:=uV (n.natAbs / 10 ^ p);rw[e] at this;cases this
  |cons c r=>
   rw[e] at d1
   have:=d1 c Jq;simp only[List.cons_append,List.head?_cons,Option.some.injEq];constructor
   ·intro z;omega
   ·intro z;exact absurd z h
theorem zl6(n:Nat):digitsVal (dg n)=n:=by
 induction n using Nat.strongRecOn with
 |_ n ih=>
  by_cases h:n<10
  ·rw[wK h]
   have:=digitsVal_snoc [] (48+n);simp at this;rw[this];simp [digitsVal]
  ·rw[vJ 'o',digitsVal_snoc,ih (n / 10) 'o'];omega
theorem zjI(m:Nat): ∀k,digitsVal (zf (dg m) (k+1))=m:=by
 intro k;induction k generalizing m with
 |zero=>rw[wO,Nat.pow_zero,Nat.div_one];show digitsVal (dg m++ [])=m;rw[Jt,zl6]
 |succ k ih=>
  rw[wO,uR];have e:((m:Int) / 10)=((m / 10:Nat):Int):=by omega
  have e2:((m:Int) % 10).toNat=m % 10:=by omega
  have e3:m / 10 ^ (k+1)=m / 10 / 10 ^ k:=by rw[Nat.pow_succ,Nat.mul_comm,Nat.div_div_eq_div_mul]
  rw[e,e2,e3,<-JJ,<-wO k (m / 10),digitsVal_snoc,ih (m / 10)];omega
theorem zgm(m k:Nat):AllDigits (zf (dg m) (k+1)):=by
 rw[wO];intro c hc;rcases Jr.mp hc with h|h
 ·exact uT _ c h
 ·exact uS _ _ c h
theorem jb(m k:Nat):(zf (dg m) (k+1)).length=(dg (m / 10 ^ k)).length+k:=by
 rw[wO,Jj,vh]
def xb(cs:List Nat)(p:Nat)(n:Int):Prop:=cs=qk n p/\wP n p<=60
theorem zjJ{n n':Int}(h:qk n p=qk n' p):n=n':=by
 have h1:=congrArg (λcs=>digitsVal ((cs.filter (· !=45)).filter (· !=46))) h;simp only[j7,zjI] at h1;have h2:=j8 n p;have h3:=j8 n' p;rw[h,h3] at h2;omega
theorem zic{n:Int}(hn:n.natAbs<10 ^ 60)(hp:p<=6):wP n p<=60:=by
 unfold wP;have h:n.natAbs / 10 ^ p<10 ^ (60 - p):=by
  refine Nat.div_lt_of_lt_mul ?_;rw[<-Nat.pow_add,show p+(60 - p)=60 by omega];exact hn
 have:=zjH (60 - p) _ 'o' h;omega
theorem zjK(n:Int)(p:Nat):(qk n p).length<=wP n p+2:=by
 unfold qk wP;rw[Jj,Jj];have e1:(if n<0 then [45] else ([]:List Nat)).length<=1:=by split<;>simp
 have e2:(if p=0 then [] else 46::fig p (n.natAbs:Int)).length<=p+1:=by
  split
  ·simp
  ·rw[Jp,vh];exact Je _
 omega
theorem zgn(cs:List Nat){k:Int}(h0:0<=k)(h1:k<=cs.length):xa cs none (some k)=cs.take k.toNat:=by
 obtain⟨j,rfl⟩:=Int.eq_ofNat_of_zero_le h0;unfold xa;rw[HT.sIx_none,HT.sIx_nat,JE,List.drop_zero,Nat.sub_zero,Nat.min_eq_left 'o']
theorem ziP(cs:List Nat){k:Int}(h0:0<=k)(h1:k<=cs.length):xa cs (some k) none=cs.drop k.toNat:=by
 obtain⟨j,rfl⟩:=Int.eq_ofNat_of_zero_le h0;unfold xa;rw[HT.sIx_none,HT.sIx_nat,JE,Nat.min_eq_left 'o',List.take_of_length_le (by rw[List.length_drop];omega)]
theorem xb.one{n n':Int}(h:xb cs p n)(g:xb cs p n'):n=n':=zjJ (h.1.symm.trans g.1)
theorem uq{n:Int}(hn:n.natAbs<10 ^ 60)(hp:p<=6):(qk n p).length<=62:=by
 have:=zjK n p
 have:=zic hn hp;omega
theorem zkR{i:Int}(h:i.natAbs<10 ^ 60):i.natAbs.log2<1920:=zh9 (Nat.lt_trans h 'd')
theorem zkS{P:List Nat->Prop}(h0:P [])(h1: ∀r c,P r->P (r++ [c]))(cs:List Nat):P cs:=by
 have: ∀n (cs:List Nat),cs.length=n->P cs:=by
  intro n;induction n with
  |zero=>
   intro cs e;rw[List.length_eq_zero_iff.mp e];exact h0
  |succ n ih=>
   intro cs e;have ne:cs≠ []:=λz=>by rw[z] at e;cases e
   rw[<-List.dropLast_concat_getLast ne];exact h1 _ _ (ih _ (by rw[List.length_dropLast,e];rfl))
 exact this _ cs rfl
theorem zhM{a b:List Nat}:AllDigits (a++b)↔AllDigits a/\AllDigits b:=
 ⟨λh=>⟨λc hc=>h c (List.mem_append_left _ hc),λc hc=>h c (List.mem_append_right _ hc)⟩,λh c hc=>(Jr.mp hc).elim (h.1 c) (h.2 c)⟩
def Sh(r:List Nat)(pt:Option Nat)(num fg:Nat):Prop:=
 match pt with
 |none=>AllDigits r/\num=digitsVal r/\fg=r.length
 |some a=> ∃A B,r=A++46::B/\A.length=a/\AllDigits A/\AllDigits B/\num=digitsVal (A++B)/\fg=A.length+B.length
theorem Sh.nil:Sh [] none 0 0:=⟨(λc h=>nomatch h),rfl,rfl⟩
theorem ziQ(cs:List Nat):AllDigits cs->digitsVal cs<10 ^ cs.length:=by
 refine zkS (P:=λcs=>AllDigits cs->digitsVal cs<10 ^ cs.length) (λ_=>by decide) (λr c ih hB=> ?_) cs;obtain⟨h1,h2⟩:=zhM.mp hB;have hc:=h2 c Jq
 have:=ih h1;rw[digitsVal_snoc,Jj,List.length_singleton,Nat.pow_succ];omega
theorem zgQ(cs:List Nat)(h:AllDigits cs)(hl:cs.length<=60):digitsVal cs<10 ^ 60:=
 Jx (ziQ cs h) (Nat.pow_le_pow_right 'd' hl)
theorem zjL(n:Int)(p:Nat):1<=(qk n p).length:=by
 have:=uV (n.natAbs / 10 ^ p);unfold qk;rw[Jj,Jj];omega
theorem zA{c A B:Prop}[Decidable c](h1:c->A)(h2: ¬c->B):if c then A else B:=by
 by_cases h:c
 ·rw[Jg h];exact h1 h
 ·rw[Jf h];exact h2 h
section
variable {κ:Type} [DecidableEq κ]
def xr(kvs:List (κ×V))(k:κ):Option V:=(kvs.find? λkv=>decide (kv.1=k)).map (·.2)
def xt(kvs:List (κ×V))(k:κ)(v:V):List (κ×V):=
 if (kvs.any λkv=>decide (kv.1=k))=true then kvs.map (λkv=>if kv.1=k then (kv.1,v) else kv) else kvs++ [(k,v)]
def j9(kvs:List (κ×V))(k:κ):List (κ×V):=kvs.filter λkv=>decide (kv.1≠k)
theorem jc{p:κ×V}{r:List (κ×V)}{k:κ}(e:p.1=k):xr (p::r) k=some p.2:=by simp [xr,List.find?_cons,e]
theorem jd{p:κ×V}{r:List (κ×V)}{k:κ}(e: ¬p.1=k):xr (p::r) k=xr r k:=by simp [xr,List.find?_cons,e]
theorem kg(k:κ): ∀kvs:List (κ×V),(kvs.any λkv=>decide (kv.1=k))=(xr kvs k).isSome
 | []=>rfl
 |p::r=>by
  rw[List.any_cons];by_cases e:p.1=k
  ·simp only[jc e,JL e,Bool.true_or,Option.isSome_some]
  ·rw[jd e,JM e,Bool.false_or];exact kg k r
theorem ze4(kvs:List (κ×V))(k:κ)(v:V):(xt kvs k v).length<=kvs.length+1:=by
 unfold xt;split
 ·rw[Ja];omega
 ·rw[Jj,Jp,List.length_nil];omega
theorem xH.isSome_eq{o:Option V}{u:Option Value}(r:xH o u):o.isSome=u.isSome:=by
 cases o with
 |none=>cases u with
  |none=>rfl
  |some _=>exact(show False from r).elim
 |some _=>cases u with
  |none=>exact(show False from r).elim
  |some _=>rfl
theorem xH.getD{o:Option V}{u:Option Value}{d:V}{d':Value}(r:xH o u)(rd:zB d d'):zB (o.getD d) (u.getD d'):=by
 cases o with
 |none=>cases u with
  |none=>exact rd
  |some _=>exact(show False from r).elim
 |some _=>cases u with
  |none=>exact(show False from r).elim
  |some _=>exact r
theorem KV.val{kvs:List (κ×V)}{vs:List (κ×Value)}(r:KV kvs vs)(k:κ):xH (xr kvs k) (valueAt vs k):=by
 unfold KV at r;induction r with
 |nil=>exact True.intro
 | @cons p q ps qs h t ih=>
  obtain⟨h1,h2⟩:=h;by_cases e:p.1=k
  ·have e':q.1=k:=h1.symm.trans e;have b:valueAt (q::qs) k=some q.2:=by simp [valueAt,List.find?_cons,e']
   rw[jc e,b];exact h2
  ·have e': ¬q.1=k:=λz=>e (h1.trans z);have b:valueAt (q::qs) k=valueAt qs k:=by simp [valueAt,List.find?_cons,e']
   rw[jd e,b];exact ih
theorem KV.any{kvs:List (κ×V)}{vs:List (κ×Value)}(r:KV kvs vs)(k:κ):(kvs.any λkv=>decide (kv.1=k))=vs.any λkv=>decide (kv.1=k):=by
 unfold KV at r;induction r with
 |nil=>rfl
 |cons h t ih=>rw[List.any_cons,List.any_cons,ih,h.1]
theorem KV.repl{kvs:List (κ×V)}{vs:List (κ×Value)}(r:KV kvs vs)(k:κ)(ry:zB y u):
  KV (kvs.map λkv=>if kv.1=k then (kv.1,y) else kv) (vs.map λkv=>if kv.1=k then (kv.1,u) else kv):=by
 unfold KV at r ⊢;induction r with
 |nil=>exact .nil
 | @cons p q ps qs h t ih=>
  rw[Jz,Jz];refine .cons ?_ ih;obtain⟨h1,h2⟩:=h;by_cases e:p.1=k
  ·rw[Jg e,Jg (h1.symm.trans e)];exact⟨h1,ry⟩
  ·rw[Jf e,Jf (λz=>e (h1.trans z))];exact⟨h1,h2⟩
theorem KV.put{kvs:List (κ×V)}{vs:List (κ×Value)}(r:KV kvs vs)(k:κ)(ry:zB y u):KV (xt kvs k y) (stored vs k u):=by
 unfold xt stored;rw[r.any k];by_cases e:(vs.any λkv=>decide (kv.1=k))=true
 ·rw[Jg e,Jg e];exact r.repl k ry
 ·rw[Jf e,Jf e];exact Paired.snoc r ⟨rfl,ry⟩
theorem KV.drop{kvs:List (κ×V)}{vs:List (κ×Value)}(r:KV kvs vs)(k:κ):KV (j9 kvs k) (without vs k):=by
 unfold KV at r ⊢;unfold j9 without;induction r with
 |nil=>exact .nil
 | @cons p q ps qs h t ih=>
  obtain⟨h1,h2⟩:=h;rw[JP,JP];by_cases e:p.1=k
  ·have a: ¬decide (p.1≠k)=true:=by simp [e]
   have b: ¬decide (q.1≠k)=true:=by simp [h1.symm.trans e]
   rw[Jf a,Jf b];exact ih
  ·have e': ¬q.1=k:=λz=>e (h1.trans z);have a:decide (p.1≠k)=true:=by simp [e]
   have b:decide (q.1≠k)=true:=by simp [e']
   rw[Jg a,Jg b];exact .cons ⟨h1,h2⟩ ih
theorem KV.length{kvs:List (κ×V)}{vs:List (κ×Value)}(r:KV kvs vs):kvs.length=vs.length:=Paired.length r
end
theorem kh{k:Key}(r:zB (kV k) u):(xv P w).is k u=true:=by
 cases k with
 |inl i=>obtain⟨t,e⟩:=(show∃t,u=Value.int i t from r);subst e;exact zg3 P w i t
 |inr x=>obtain⟨t,e⟩:=(show∃t,u=Value.str x t from r);subst e;exact zg4 P w x t
theorem zgo{P:Program}{w:World}: ∀{ks:List Key} {us:List Value},zE (ks.map kV) us->ItemsAre (xv P w) ks us
 | [],_,r=>by rw[JN] at r;cases r;exact .nil
 |k::ks,_,r=>by
  rw[Jz] at r;cases r with
  |cons h t=>exact .cons (kh h) (zgo t)
abbrev KT(H:Hp):List (List Key×V)->List (List Key×Addr×Value)->Prop:=Paired λp q=>p.1=q.1/\H q.2.1=some (.tup (p.1.map kV))/\zB p.2 q.2.2
theorem KT.val{xs:List (List Key×Addr×Value)}(r:KT H kvs xs)(k:List Key):xH (xr kvs k) ((atKey xs k).map (·.2)):=by
 induction r with
 |nil=>exact True.intro
 | @cons p q ps qs h t ih=>
  obtain⟨h1,_,h2⟩:=h;by_cases e:p.1=k
  ·have e':q.1=k:=h1.symm.trans e;have b:atKey (q::qs) k=some q.2:=by simp [atKey,List.find?_cons,e']
   rw[jc e,b];exact h2
  ·have e': ¬q.1=k:=λz=>e (h1.trans z);have b:atKey (q::qs) k=atKey qs k:=by simp [atKey,List.find?_cons,e']
   rw[jd e,b];exact ih
theorem KT.repl{xs:List (List Key×Addr×Value)}(r:KT H kvs xs)(k:List Key)(ry:zB y u):
  KT H (kvs.map λkv=>if kv.1=k then (kv.1,y) else kv) (xs.map (putAt k u)):=by
 induction r with
 |nil=>exact .nil
 | @cons p q ps qs h t ih=>
  rw[Jz,Jz];refine .cons ?_ ih;obtain⟨h1,h2,h3⟩:=h;unfold putAt;by_cases e:p.1=k
  ·rw[Jg e,Jg (h1.symm.trans e)];exact⟨h1,h2,ry⟩
  ·rw[Jf e,Jf (λz=>e (h1.trans z))];exact⟨h1,h2,h3⟩
theorem KT.put{xs:List (List Key×Addr×Value)}(r:KT H kvs xs)(k:List Key){b:Addr}(hb:H b=some (.tup (k.map kV)))(ry:zB y u):
  KT H (xt kvs k y) (storedH xs k b u):=by
 have e:(kvs.any λkv=>decide (kv.1=k))=(atKey xs k).isSome:=by
  rw[kg,(r.val k).isSome_eq,Option.isSome_map]
 unfold xt storedH;rw[e];by_cases q:(atKey xs k).isSome=true
 ·rw[Jg q,Jg q];exact r.repl k ry
 ·rw[Jf q,Jf q];exact Paired.snoc r ⟨rfl,hb,ry⟩
theorem KT.keeps{xs:List (List Key×Addr×Value)}(r:KT H kvs xs)(ht: ∀b ys,H b=some (.tup ys)->H' b=some (.tup ys)):KT H' kvs xs:=
 Paired.mapP r λ_ _ z=>⟨z.1,ht _ _ z.2.1,z.2.2⟩
section
variable {P:Program} {w:World} {H:Hp} {h:Heap} {a:Addr}
theorem zlw{u:HO}(ok:HOk P w H h)(e:Rd H a u):yZ P w H h a u:=e.ok ok
theorem zlx{kvs:List (Key×V)}(ok:HOk P w H h)(e:Rd H a (.dK kvs)):kvs.length<=sizeLine/\(a==sysModules)=false/\ ∃vs,KV kvs vs/\h.DictOf (xv P w) a vs:=
 show yZ P w H h a (.dK kvs) from zlw ok e
theorem zmU{kvs:List (Key×V)}(ok:HOk P w H h)(e:H a=some (.dK kvs)):kvs.length<=sizeLine/\(a==sysModules)=false/\ ∃vs,KV kvs vs/\h.DictOf (xv P w) a vs:=zlx ok (.inl e)
theorem ki{ks:List Key}(ok:HOk P w H h)(e:H a=some (.tup (ks.map kV))):(tupleKind (xv P w)).is h ks a:=by
 obtain⟨_,its,r,o,h1,h2,n,h3⟩:=(show yZ P w H h a (.tup (ks.map kV)) from ok a _ e)
 exact⟨o,its.toArray,n,h1,h2,h3,by simpa using zgo r⟩
theorem zly(ok:HOk P w H h)(e:Rd H a (.dT kvs)):kvs.length<=sizeLine/\(a==sysModules)=false/\
  ∃xs,KT H kvs xs/\h.DictOfH (tupleKind (xv P w)) a xs:=by
 obtain⟨z,y,xs,r,o,es,ep,h1,h2,h3,h4,h5⟩:=(show yZ P w H h a (.dT kvs) from zlw ok e)
 refine⟨z,y,xs,r,o,es,ep,h1,h2,h3,h4,λx hx=> ?_,h5⟩;have all: ∀{l:List (List Key×V)} {m:List (List Key×Addr×Value)},KT H l m-> ∀x∈m,(tupleKind (xv P w)).is h x.1 x.2.1:=by
  intro l m q;induction q with
  |nil=>intro x hx;exact nomatch hx
  | @cons p q ps qs hq t ih=>
   intro x hx;rcases JC.mp hx with e|hx
   ·subst e;exact ki ok (by rw[<-hq.1];exact hq.2.1)
   ·exact ih x hx
 exact all r x hx
theorem zmV(ok:HOk P w H h)(e:H a=some (.dT kvs)):kvs.length<=sizeLine/\(a==sysModules)=false/\
  ∃xs,KT H kvs xs/\h.DictOfH (tupleKind (xv P w)) a xs:=zly ok (.inl e)
end
def we(H:Hp)(a:Addr)(y:V)(r:Option V):Prop:=
 (∃kvs k,Rd H a (.dK kvs)/\y=kV k/\r=xr kvs k)\/ ∃kvs k b,Rd H a (.dT kvs)/\y= .ref b/\H b=some (.tup (k.map kV))/\r=xr kvs k
def vk(H:Hp)(a:Addr)(y v:V)(H':Hp):Prop:=
 (∃kvs k,H a=some (.dK kvs)/\y=kV k/\kvs.length<sizeLine/\H'=upd H a (.dK (xt kvs k v)))\/
 ∃kvs k b,H a=some (.dT kvs)/\y= .ref b/\H b=some (.tup (k.map kV))/\kvs.length<sizeLine/\H'=upd H a (.dT (xt kvs k v))
theorem we.k{H:Hp}{a:Addr}{kvs:List (Key×V)}{k:Key}(e:H a=some (.dK kvs)):we H a (kV k) (xr kvs k):= .inl ⟨kvs,k, .inl e,rfl,rfl⟩
theorem we.t{b:Addr}{k:List Key}(e:H a=some (.dT kvs))(eb:H b=some (.tup (k.map kV))):we H a (.ref b) (xr kvs k):= .inr ⟨kvs,k,b, .inl e,rfl,eb,rfl⟩
theorem vk.k{H:Hp}{a:Addr}{kvs:List (Key×V)}{k:Key}{v:V}(e:H a=some (.dK kvs))(hl:kvs.length<sizeLine):vk H a (kV k) v (upd H a (.dK (xt kvs k v))):= .inl ⟨kvs,k,e,rfl,hl,rfl⟩
theorem vk.t{b:Addr}{k:List Key}{v:V}(e:H a=some (.dT kvs))(eb:H b=some (.tup (k.map kV)))(hl:kvs.length<sizeLine):
  vk H a (.ref b) v (upd H a (.dT (xt kvs k v))):= .inr ⟨kvs,k,b,e,rfl,eb,hl,rfl⟩
section
variable {X:Cx} {pins:List (Addr×Obj)} {σ:St} {H:Hp} {s:Shared} {a:Addr} {y v:V} {u r:Value} {o:Option V} {A:Around} {E:Value->Shared->Prop}
theorem Inv.big(I:Inv X pins σ H s):sysModules<s.heap.objs.size:=by
 have h:mainGlobals<s.heap.objs.size:=(I.mod.glob.keeps I.bk).lt;exact Nat.lt_trans 'd' h
theorem zns(hu:A.units+1<cLine)(I:Inv X pins σ H s)(g:we H a y o)(ry:zB y u)(h: ∀s',Inv X pins σ H s'->Q (.bool o.isSome) s'):
  wpAny (model X.prog X.w) A (compareOp .In u (.ref a)) Q E s:=by
 rcases g with⟨kvs,k,e,ey,l⟩|⟨kvs,k,b,e,ey,eb,l⟩
 ·subst ey;obtain⟨z,hd,vs,rel,dd⟩:=zlx I.hok e;refine wpAny_in_of (kh ry) hd dd.mapOf ?_;rw[<-(rel.val k).isSome_eq,<-l];exact h _ (I.tok _)
 ·subst ey;cases (show u=Value.ref b from ry);obtain⟨z,hd,xs,rel,dd⟩:=zly I.hok e;refine wpAny_in_heap (tupleKind_room_in1 hu) (ki I.hok eb) hd dd ?_;have q:=(rel.val k).isSome_eq;rw[Option.isSome_map] at q;rw[<-q,<-l];exact h _ (I.tok _)
theorem zid{t':Nat}{ob:HO}(I:Inv X pins σ H s)(mu:Mut (H a))(hs:Heap.SameBut a s.heap h')(he: ∃q,h'.get? a=some q)(new:yZ X.prog X.w (upd H a ob) h' a ob):
  Inv X pins σ (upd H a ob) {s with heap:=h',toks:=t'}:=
 I.write (x:=a) (e:=a) mu (.inl rfl) (λb q hb z=>(hs.2 b hb).trans z) he new
theorem zl7{H':Hp}{kvs:List (Key×V)}{vs:List (Key×Value)}(z:kvs.length<=sizeLine)(hd:(a==sysModules)=false)(rel:KV kvs vs)(dd:h'.DictOf (xv P w) a vs):
  yZ P w H' h' a (.dK kvs):=⟨z,hd,vs,rel,dd⟩
theorem ziR{Q:Unit->Shared->Prop}(hu:A.units+1<cLine)(I:Inv X pins σ H s)(g:vk H a y v H')(ry:zB y u)(rv:zB v r)(h: ∀s',Inv X pins σ H' s'->Q () s'):
  wpAny (model X.prog X.w) A (setItem (.ref a) u r) Q E s:=by
 rcases g with⟨kvs,k,e,ey,l,eH⟩|⟨kvs,k,b,e,ey,eb,l,eH⟩
 ·subst ey eH;obtain⟨z,hd,vs,rel,dd⟩:=zmU I.hok e;have hz:vs.length<=sizeLine:=by rw[<-rel.length];exact z
  have hl:(xt kvs k v).length<=sizeLine:=by have:=ze4 kvs k v;omega
  refine wpAny_setItem_pairs (hsz:=hz) (kh ry) dd λh' dd' hs=>h _ ?_;have he: ∃q,h'.get? a=some q:=let ⟨q,_,_,hq,_⟩:=dd';⟨q,hq⟩;exact zid I (by rw[e];exact True.intro) hs he (zl7 hl hd (rel.put k rv) dd')
 ·subst ey eH;cases (show u=Value.ref b from ry);obtain⟨z,hd,xs,rel,dd⟩:=zmV I.hok e;have hz:xs.length<=sizeLine:=by rw[<-Paired.length rel];exact z
  have hl:(xt kvs k v).length<=sizeLine:=by have:=ze4 kvs k v;omega
  refine wpAny_setItem_heap (hsz:=hz) (tupleKind_room_in1 hu) (ki I.hok eb) dd λh' dd' hs=>h _ ?_;obtain⟨q,es,ep,hq,h2,h3,h4,_,h5⟩:=dd';refine zid I (by rw[e];exact True.intro) hs ⟨q,hq⟩ ⟨hl,hd,_,(rel.put k eb rv).keeps λc ys ec=> ?_,q,es,ep,hq,h2,h3,h4,h5⟩;rw[zT (zmJ ec e (λz=>nomatch z))];exact ec
end
section
variable {X:Cx} {pins:List (Addr×Obj)} {σ:St} {H:Hp} {s:Shared} {a:Addr} {kvs:List (Key×V)} {k:Key} {u:Value} {A:Around} {E:Value->Shared->Prop}
end
def yK(td ty:TE):TE:=λσ H Q=>td σ H λx H1=>ty σ H1 λy H2=> ∃a v,x= .ref a/\we H2 a y (some v)/\Q v H2
def yu(ty td:TE):TE:=λσ H Q=>ty σ H λy H1=>td σ H1 λx H2=> ∃a o,x= .ref a/\we H2 a y o/\Q (.bl o.isSome) H2
def yL(ty td:TE):TE:=λσ H Q=>ty σ H λy H1=>td σ H1 λx H2=> ∃a o,x= .ref a/\we H2 a y o/\Q (.bl (!o.isSome)) H2
def yv(td ty tv:TE):TS:=λD σ H=>tv σ H λv H1=>td σ H1 λx H2=>ty σ H2 λy H3=> ∃a H4,x= .ref a/\vk H3 a y v H4/\D.nx σ H4
section
variable {X:Cx} {o i e value:Expr} {pos pos' tpos:Pos} {td ty tv:TE}
theorem zl8(hu:X.A.units+1<cLine)(hi:PE X i ty)(ho:PE X o td):PC X .In i o (yu ty td):=by
 intro pins s σ H Q I h;refine thn (hi pins s σ H _ I h) λiv s1 ⟨y,H1,I1,ry,q1⟩=>thn (ho pins s1 σ H1 _ I1 q1) λu s2 ⟨x,H2,I2,rx,a,ov,ex,g,q2⟩=> ?_;subst ex;obtain rfl:u=Value.ref a:=rx;exact zns hu I2 g ry λs3 I3=>⟨.bl ov.isSome,H2,I3,rfl,q2⟩
theorem zkT(hu:X.A.units+1<cLine)(ho:PE X o td)(hi:PE X i ty)(hv:PE X value tv)(hs:swapsWith value (some (.Subscript o i pos')) pos.line X.env=pure false):
  PS X (.Assign [.Subscript o i pos'] value pos) (yv td ty tv):=by
 intro pins s σ H D I h;refine wpAny_Assign_Subscript (thn (hv pins s σ H _ I h) λr s1 ⟨v,H1,I1,rv,q1⟩=>thn (ho pins s1 σ H1 _ I1 q1) λu s2 ⟨x,H2,I2,rx,q2⟩=>thn (hi pins s2 σ H2 _ I2 q2) λiv s3 ⟨y,H3,I3,ry,a,H4,ex,g,q3⟩=> ?_) hs;subst ex;obtain rfl:u=Value.ref a:=rx;exact ziR hu I3 g ry rv λs4 I4=>⟨σ,H4,I4,q3⟩
end
theorem zjO(h:Heap)(hb:sysModules<h.objs.size):yZ P w H (h.push {cls:= .type "dict",data:= .dict #[]}) h.objs.size (.dK []):=
 ⟨Jv _,beq_eq_false_iff_ne.mpr (Ne.symm (JH hb)), [], .nil,Heap.DictOf.new h⟩
def zl9:TE:=λ_ H Q=> ∀p,H p=none->Q (.ref p) (upd H p (.dK []))
section
variable {X:Cx} {pos:Pos}
theorem zjP:PE X (.Dict [] [] pos) zl9:=λpins s σ H Q I h=>
 wpAny_Dict_empty ⟨.ref s.heap.objs.size,_,I.laid (a:=s.heap.objs.size) (o:= .dK []) (t':=s.toks) (λ_ _ q=>JT _ q) (Je _) (zjO s.heap I.big),rfl,h _ (I.hok.fresh (Je _))⟩
end
structure M1 (X:Cx) (o:Expr) (m:Str) (apos:Pos) (e:Expr) (cpos:Pos):Prop where
 base:attributeBase o m X.env (eval o X.env)=eval o X.env
 few:((backTo cpos (starEach [e] X.env)).all (λx=> !x.1) && (backToKw cpos (keywordEach [] X.env)).all (λx=>x.1.isSome)
  && decide (([e]:List Expr).length+([]:List Keyword).length+(if ([]:List Keyword).isEmpty then 0 else 1)<30))=true
 line:(apos.endLine==cpos.line)=true
 trees:backTo cpos (starEach [e] X.env)= [(false,eval e X.env)]
structure M2 (X:Cx) (o:Expr) (m:Str) (apos:Pos) (e f:Expr) (cpos:Pos):Prop where
 base:attributeBase o m X.env (eval o X.env)=eval o X.env
 few:((backTo cpos (starEach [e,f] X.env)).all (λx=> !x.1) && (backToKw cpos (keywordEach [] X.env)).all (λx=>x.1.isSome)
  && decide (([e,f]:List Expr).length+([]:List Keyword).length+(if ([]:List Keyword).isEmpty then 0 else 1)<30))=true
 line:(apos.endLine==cpos.line)=true
 trees:backTo cpos (starEach [e,f] X.env)= [(false,eval e X.env),(false,eval f X.env)]
def IsD(H:Hp)(a:Addr):Prop:=(∃kvs,Rd H a (.dK kvs))\/ ∃kvs,Rd H a (.dT kvs)
section
variable {X:Cx} {pins:List (Addr×Obj)} {σ:St} {H:Hp} {s:Shared} {a:Addr} {y d:V} {u r:Value} {o:Option V} {A:Around} {E:Value->Shared->Prop}
end
def yM(td ty tx:TE):TE:=λσ H Q=>td σ H λx H1=> ∃a,x= .ref a/\IsD H1 a/\ty σ H1 λy H2=>tx σ H2 λz H3=> ∃o,we H3 a y o/\Q (o.getD z) H3
def yN(td ty:TE):TE:=λσ H Q=>td σ H λx H1=> ∃a,x= .ref a/\IsD H1 a/\ty σ H1 λy H2=> ∃kvs k v,H2 a=some (.dK kvs)/\y=kV k/\xr kvs k=some v/\Q v (upd H2 a (.dK (j9 kvs k)))
section
variable {X:Cx} {o e f:Expr} {apos cpos:Pos} {td ty tx:TE}
end
def yw:TE:=λ_ H Q=>New H (.dK []) Q
theorem zjQ:PE X (.Dict [] [] pos) yw:=λpins s σ H Q I h=>zjP pins s σ H Q I λp hp=>h.at hp
def znt(ns:List (List Nat)):HO:= .dK (ns.map λnm=>(Sum.inr (SL nm),V.bl true))
theorem kj(x:List Nat): ∀ns:List (List Nat),(xr (ns.map λnm=>((Sum.inr (SL nm):Key),V.bl true)) (Sum.inr (SL x))).isSome=decide (x∈ns)
 | []=>rfl
 |n::r=>by
  rw[Jz];by_cases e:n=x
  ·subst e;rw[jc rfl,JL Jq];rfl
  ·have ne: ¬((Sum.inr (SL n):Key)=Sum.inr (SL x)):=λz=>by
    have:=Sum.inr.inj z;rw[zO] at this;exact e this
   rw[jd ne,kj x r,Bool.eq_iff_iff,decide_eq_true_eq,decide_eq_true_eq,JC];constructor
   ·exact .inr
   ·rintro(z|z)
    ·exact absurd z.symm e
    ·exact z
theorem zkU{x:List Nat}{ns:List (List Nat)}(h:x∉ns):xt (ns.map λnm=>((Sum.inr (SL nm):Key),V.bl true)) (Sum.inr (SL x)) (.bl true)=(ns++ [x]).map λnm=>((Sum.inr (SL nm):Key),V.bl true):=by
 unfold xt;rw[kg,kj,JM h,Jd];rfl
theorem zhh:PySem.W.kitOne K (.type "str") (.type "int")=some false:=by
 unfold PySem.W.kitOne;rw[Jf 'd'];kernel_rfl
theorem zhi:PySem.W.kitOne K (.type "int") (.type "str")=some false:=by
 unfold PySem.W.kitOne;rw[Jf 'd'];kernel_rfl
def sv:D->V
 | .int i=> .int i
 | .str cs=> .str (SL cs)
 |_=> .non
def xF(d:D):Prop:=(∃i,d= .int i)\/ ∃cs:List Nat,d= .str cs/\cs.length<=sizeLine
theorem kl{K:Fg}{H:Hp}{n:Nat}: ∀{ds:List D} {xs:List V},qp (Dp K H n) ds xs->(∀d∈ds,xF d)->xs=ds.map sv
 | [], [],_,_=>rfl
 |d::r,x::t,h,q=>by
  rw[Jz,kl h.2 λe he=>q e (Jl _ he)];congr 1;have h1:=h.1;rcases q d Jq with⟨i,rfl⟩|⟨cs,rfl,_⟩
  ·unfold Dp at h1;exact h1
  ·unfold Dp at h1;exact h1
 | [],_::_,h,_=>h.elim
 |_::_, [],h,_=>h.elim
def isI:D->Bool
 | .int _=>true
 |_=>false
def btw(lo hi:Int):D->Bool
 | .int i=>decide (lo<=i) && decide (i<=hi)
 |_=>false
def vO:D->Bool
 | .str cs=>decide (1<=cs.length) && decide (cs.length<=8) && cs.all λc=>decide (97<=c/\c<=122)
 |_=>false
def wf:List D->Bool
 | [n,p,c]=>vO n && (btw 0 (10 ^ 30 - 1) p && btw 0 400 c)
 |_=>false
def vm:List D->Bool
 | [.str w,m]=>if w= [100,97,121,115] then btw 1 400 m else if w= [109,111,110,116,104,115] then btw 1 12 m else false
 |_=>false
def wQ:List D->List Nat
 | .str cs::_=>cs
 |_=> []
def ur(dss:List (List D)):Prop:=1<=dss.length/\dss.length<=8/\(∀ds∈dss,wf ds=true)/\(dss.map wQ).Nodup
def wR(dss:List (List D))(f:Int)(cds:List D):Prop:=ur dss/\0<=f/\f<=3500000/\vm cds=true
theorem zeM(h:wf ds=true): ∃nm p c,ds= [.str nm,p,c]:=by
 match ds,h with
 | [.str nm,p,c],_=>exact⟨nm,p,c,rfl⟩
 | [.int _,_,_],h=>cases h
 | [.bl _,_,_],h=>cases h
 | [.non,_,_],h=>cases h
 | [.tup _,_,_],h=>cases h
 | [.lst _,_,_],h=>cases h
theorem zjS{f:D->V->Prop}{g:List D->D}: ∀{dss:List (List D)} {xs:List V},qp f (dss.map g) xs-> ∀{i:Nat} {x:V},xs[i]? =some x-> ∃ds,dss[i]? =some ds/\f (g ds) x:=by
 intro dss xs h i x e;have hl:=xq h;rw[Ja] at hl;have hi:i<dss.length:=by rw[hl];exact(Jc.mp e).1
 refine⟨dss[i],Jb hi,?_⟩;exact uW h (by rw[Jh,Jb hi];rfl) e
theorem km{σ0:St}{g:TG}{tc:TT}{te:TE}{Q:VK}(Pv:Nat->List V->Hp->Prop)(L:Lists J H1 ys)(hl:H1 l=none)(hz:ys.length<sizeLine)
  (h0: ∀H,zq H1 H->Pv 0 [] H)
  (hs: ∀i x xs H (K1:VK) (K0:Hp->Prop),ys[i]? =some x->zq H1 H->Pv i xs H->H l=some (.lst xs)->
   (∀v H4,zq H H4->(∀H5,(∀b o,b≠l->H4 b=some o->H5 b=some o)->Pv (i+1) (xs++ [v]) H5)->K1 v H4)->(∀H3,zq H H3->Pv (i+1) xs H3->K0 H3)->
   g x σ0 H λσ2 H2=>Sub σ0 σ2/\tc σ2 H2 λb H3=>if b=true then te σ2 H3 K1 else K0 H3)
  (hd: ∀xs H,zq H1 H->Pv ys.length xs H->xs.length<=ys.length->H l=some (.lst xs)->Q (.ref l) H):wC J σ0 g tc te l Q H1:=by
 refine⟨λi m xs H=>i<=ys.length/\m=ys.length - i/\zq H1 H/\Pv i xs H/\xs.length<=i/\H l=some (.lst xs),⟨ys.length,Jv _,'o',xo hl _,h0 _ (xo hl _),Je _,zP⟩,?_⟩;rintro i m xs H ⟨hi,rfl,sm,pv,hx,e⟩;refine⟨e,Nat.lt_of_le_of_lt hx 'o',?_⟩;by_cases hlt:i<ys.length
 ·refine .inr ⟨L.go i H sm hlt,λx H' y=> ?_⟩;obtain⟨rfl,hx'⟩:=L.yld i H x H' sm y hlt;refine hs i x xs H' _ _ hx' sm pv e (λv H4 s4 p4=> ?_) (λH3 s3 p3=> ?_)
  ·exact⟨s4 _ _ e,ys.length - (i+1),'o',hlt,rfl,vF (sm.trans s4) hl,p4 _ λb o hb q=>by rw[zT hb];exact q,by rw[Jj];simp only[Jp,List.length_nil];omega,zP⟩
  ·exact⟨ys.length - (i+1),'o',hlt,rfl,sm.trans s3,p3,'o',s3 _ _ e⟩
 ·have ei:i=ys.length:=by omega
  subst ei;exact .inl ⟨L.stop H sm,hd xs H sm pv hx e⟩
abbrev azL:List Nat:= [97,98,99,100,101,102,103,104,105,106,107,108,109,110,111,112,113,114,115,116,117,118,119,120,121,122]
theorem at_az{r:Int}(h0:0<=r)(h1:r<26):atI azL r=some (97+r.toNat):=by
 obtain⟨n,rfl⟩:=Int.eq_ofNat_of_zero_le h0
 have: ∀n:Nat,n<26->atI azL (n:Int)=some (97+n):=by decide
 exact this n 'o'
theorem je(c:Nat):c∈azL↔97<=c/\c<=122:=by
 have e:azL=(List.range 26).map (97+ ·):=by decide
 rw[e,Jw];exact⟨λ⟨a,h1,h2⟩=>by have:=List.mem_range.mp h1;omega,λh=>⟨c - 97,List.mem_range.mpr 'o','o'⟩⟩
abbrev Pl:=List Nat×Int×Int
def plD(x:Pl):List D:= [.str x.1, .int x.2.1, .int x.2.2]
def jf(w:List Nat):Prop:=1<=w.length/\w.length<=8/\ ∀c∈w,97<=c/\c<=122
def wF(x:Pl):Prop:=jf x.1/\0<=x.2.1/\x.2.1<10 ^ 30/\0<=x.2.2/\x.2.2<=400
def ko(xs:List Pl):Prop:=1<=xs.length/\xs.length<=8/\(∀x∈xs,wF x)/\(xs.map (·.1)).Nodup
def jg(K:Fg)(H:Hp)(z:V×Pl):Prop:= ∃p,z.1= .ref p/\SqT K H p [.str (SL z.2.1), .int z.2.2.1, .int z.2.2.2]
def kr(K:Fg)(H:Hp)(zs:List (V×Pl)):Prop:= ∀z∈zs,jg K H z
theorem jg.same{z:V×Pl}(h:jg K H z)(s:zq H H'):jg K H' z:=let ⟨p,e,q⟩:=h;⟨p,e,s.sqT q⟩
theorem kr.same{K:Fg}{H H':Hp}{zs:List (V×Pl)}(h:kr K H zs)(s:zq H H'):kr K H' zs:=λz hz=>(h z hz).same s
theorem wF.len{x:Pl}(h:wF x):x.1.length<=sizeLine:=qj (by have:=h.1.2.1;omega)
theorem wF.ok{x:Pl}(h:wF x):wf (plD x)=true:=by
 obtain⟨⟨h1,h2,h3⟩,h4,h5,h6,h7⟩:=h;show (vO (.str x.1) && (btw 0 (10 ^ 30 - 1) (.int x.2.1) && btw 0 400 (.int x.2.2)))=true;have e1:vO (.str x.1)=true:=by
  show (decide (1<=x.1.length) && decide (x.1.length<=8) && x.1.all λc=>decide (97<=c/\c<=122))=true;rw[JL h1,JL h2,List.all_eq_true.mpr λc hc=>JL (h3 c hc)];rfl
 have e2:btw 0 (10 ^ 30 - 1) (.int x.2.1)=true:=by
  show (decide (0<=x.2.1) && decide (x.2.1<=10 ^ 30 - 1))=true;rw[JL h4,JL 'o'];rfl
 have e3:btw 0 400 (.int x.2.2)=true:=by
  show (decide (0<=x.2.2) && decide (x.2.2<=400))=true;rw[JL h6,JL h7];rfl
 rw[e1,e2,e3];rfl
theorem ko.ok{xs:List Pl}(h:ko xs):ur (xs.map plD):=by
 obtain⟨h1,h2,h3,h4⟩:=h;refine⟨by rw[Ja];exact h1,by rw[Ja];exact h2,λds hd=> ?_,?_⟩
 ·obtain⟨x,hx,rfl⟩:=Jw.mp hd;exact(h3 x hx).ok
 ·rw[List.map_map];exact h4
theorem ut(w:List Nat): ∀ws:List (List Nat),inV (.str (SL w)) (ws.map λx=>V.str (SL x))=decide (w∈ws)
 | []=>rfl
 |x::r=>by
  have ih:=ut w r;unfold inV at ih ⊢;rw[Jz,List.any_cons,ih];show ((SL x==SL w)||decide (w∈r))=decide (w∈x::r);have e:(SL x==SL w)=decide (x=w):=by
   rw[Bool.eq_iff_iff,beq_iff_eq,decide_eq_true_eq,zO]
  rw[e,Bool.eq_iff_iff,Bool.or_eq_true,decide_eq_true_eq,decide_eq_true_eq,decide_eq_true_eq,JC];constructor
  ·rintro(h|h)
   ·exact .inl h.symm
   ·exact .inr h
  ·rintro(h|h)
   ·exact .inl h.symm
   ·exact .inr h
theorem ziT(h:ds.length≠2):vm ds=false:=by
 match ds,h with
 | [],_=>rfl
 | [_],_=>cases ‹D› <;>rfl
 | [.str _,_],h=>exact absurd rfl h
 | [.int _,_],h=>exact absurd rfl h
 | [.bl _,_],h=>exact absurd rfl h
 | [.non,_],h=>exact absurd rfl h
 | [.tup _,_],h=>exact absurd rfl h
 | [.lst _,_],h=>exact absurd rfl h
 |a::_::_::_,_=>cases a<;>rfl
theorem zhP{f:D->V->Prop}{d e g:D}: ∀{xs:List V},qp f [d,e,g] xs-> ∃x y z,xs= [x,y,z]/\f d x/\f e y/\f g z
 | [x,y,z],⟨h1,h2,h3,_⟩=>⟨x,y,z,rfl,h1,h2,h3⟩
def spl(c:Nat):List Nat->List (List Nat)
 | []=> [[]]
 |x::r=>if x=c then []::spl c r else (x::(spl c r).headD [])::(spl c r).tail
theorem jh(c:Nat): ∀cs,spl c cs≠ []
 | []=>nofun
 |x::r=>by
  unfold spl;split<;>exact List.cons_ne_nil _ _
theorem zhk{c:Nat}: ∀{w:List Nat},c∉w->spl c w= [w]
 | [],_=>rfl
 |x::r,h=>by
  rw[JC,not_or] at h;rw[spl,Jf (λe=>h.1 e.symm),zhk h.2];rfl
theorem zif{c:Nat}: ∀{w:List Nat} (r:List Nat),c∉w->spl c (w++c::r)=w::spl c r
 | [],r,_=>by rw[List.nil_append,spl,Jg rfl]
 |x::w,r,h=>by
  rw[JC,not_or] at h;rw[List.cons_append,spl,Jf (λe=>h.1 e.symm),zif r h.2];rfl
theorem kt{c:Nat}: ∀{ys:List (List Nat)},ys≠ []->(∀y∈ys,c∉y)->spl c (jn [c] ys)=ys
 | [],h,_=>absurd rfl h
 | [y],_,h=>zhk (h y Jq)
 |y::z::r,_,h=>by
  have e:jn [c] (y::z::r)=y++c::jn [c] (z::r):=by rw[jn,JJ];rfl
  rw[e,zif _ (h y Jq),kt (List.cons_ne_nil _ _) λw hw=>h w (Jl _ hw)]
theorem zjV(cs:List Nat)(c:Nat):Txt.split (SL cs) (SL [c])=(spl c cs).map SL:=by
 have e: ∀ps:List Str,ps=(ps.map λp=>p.cps.toList).map SL:=λps=>by
  rw[List.map_map];exact((List.map_congr_left λp _=>(vG p).symm).trans (List.map_id ps)).symm
 have h1:=StrLaws.join_split (SL cs) (SL [c]);have h2:=StrLaws.split_free (SL cs) c;have h3:Txt.split (SL cs) (SL [c])≠ []:=by
  unfold Txt.split;split
  ·exact List.cons_ne_nil _ _
  ·split
   ·exact List.cons_ne_nil _ _
   ·intro q
    have:=congrArg List.length q;simp [Builtin.Str.partsBetween] at this
 generalize hp:Txt.split (SL cs) (SL [c])=ps at h1 h3;rw[show (⟨#[c]⟩:Str)=SL [c] from rfl,hp] at h2;rw[e ps,jR,zO] at h1;rw[<-h1,kt (λq=>h3 (List.map_eq_nil_iff.mp q)) (λy hy=> ?_)]
 ·exact e ps
 ·obtain⟨p,hp',rfl⟩:=Jw.mp hy;exact h2 p hp'
theorem wS(c:Nat): ∀cs:List Nat,(spl c cs).length<=cs.length+1
 | []=>Je _
 |x::r=>by
  have:=wS c r;unfold spl;split
  ·rw[Jp,Jp];omega
  ·rw[Jp,List.length_tail,Jp]
   have:=List.length_pos_iff.mpr (jh c r);omega
theorem ku: ∀{ws:List (List Nat)} {l:List (Str×Tok)},l.map (·.1)=ws.map SL->zE (ws.map λw=>V.str (SL w)) (strValues l)
 | [], [],_=> .nil
 |w::ws,p::l,h=>by
  rw[Jz,Jz] at h;injection h with h1 h2
  exact .cons ⟨p.2,by rw[<-h1]⟩ (ku h2)
section
variable {X:Cx}
open Builtin Builtin.Str in
theorem zfG{prog:Program}{w:World}{A:Around}{E:Value->Shared->Prop}{s:Shared}{x y:Str}{t u:Tok}{Q:Value->Shared->Prop}(hy:(y.length==0)=false)
  (hq: ∀l k,l.map (·.1)=Txt.split x y->Q (.ref s.heap.objs.size) {s with heap:=s.heap.push {cls:= .type "list",data:= .seq (strValues l).toArray},toks:=k})
  (hsz:x.length<=sizeLine) (hsz2:(partsBetween x (occurrences x y 0 x.length (x.length+1)) y.length).length<=sizeLine):
  wpAny (model prog w) A (call (.builtin "str.split") [.str x t, .str y u]) Q E s:=by
 cases h1:(decide (x.length<y.length)||decide (strKind x<strKind y))
 ·cases hf:(occurrences x y 0 x.length (x.length+1)).isEmpty
  ·refine call_meets F.slot_str_split (typeIs_str _ _ _) F.entry_str_split (F.args_str_split_2 _ _) (meets_str_split_sep x y t u h1 hy hf hsz hsz2) ?_;show wants Q E _ {s with toks:=_,heap:=s.heap.push {cls:= .type "list",data:= .seq (strsFrom s.toks (partsBetween x (occurrences x y 0 x.length (x.length+1)) y.length)).toArray} };rw[strsFrom_eq];exact hq (numbered s.toks _) _ ((numbered_texts _ _).trans ((Jf (ne_true_of_eq_false h1)).trans (Jf (ne_true_of_eq_false hf))).symm)
  ·exact call_meets F.slot_str_split (typeIs_str _ _ _) F.entry_str_split (F.args_str_split_2 _ _) (meets_str_split_not_found x y t u h1 hy hf)
    (hq [(x,t)] s.toks ((Jf (ne_true_of_eq_false h1)).trans (Jg hf)).symm)
 ·exact call_meets F.slot_str_split (typeIs_str _ _ _) F.entry_str_split (F.args_str_split_2 _ _) (meets_str_split_cannot_occur x y t u h1) (hq [(x,t)] s.toks (Jg h1).symm)
theorem zgp(x y:Str)(h:x.length<=100000):(Builtin.Str.partsBetween x (Builtin.Str.occurrences x y 0 x.length (x.length+1)) y.length).length<=sizeLine:=by
 have h1:=StrLaws.occ_length_le x y 0 x.length (x.length+1);rw[sizeLine_eq];simp only[Builtin.Str.partsBetween,Ja,List.length_zip,Jj,Jp,List.length_nil];omega
theorem wT:MtR X "str.split" (λx vs H Q=> ∃cs c,x= .str (SL cs)/\vs= [.str (SL [c])]/\cs.length<=100000/\New H (.lst ((spl c cs).map λw=>V.str (SL w))) Q):=by
 intro pins s σ H x vs v us Q I rx rv h;obtain⟨cs,c,rfl,rfl,hz,q⟩:=h;obtain⟨t,rfl⟩:=rx;obtain⟨u,rfl,t',rfl⟩:=qK rv;refine zfG rfl (λl k hl=> ?_) (by rw[qo,sizeLine_eq];omega) (zgp _ _ (by rw[qo];exact hz));rw[zjV] at hl;refine⟨.ref s.heap.objs.size,_,I.laid (t':=k) (o:= .lst ((spl c cs).map λw=>V.str (SL w))) (λb ob q=>JT _ q) (Je _) ?_,rfl,q.at (I.hok.fresh (Je _))⟩;refine⟨?_,_,0,ku hl,JV _ rfl⟩
 have:=wS c cs;rw[Ja,sizeLine_eq];omega
theorem zhR:MtR X "str.isupper" (λx vs H Q=> ∃cs,x= .str (SL cs)/\vs= []/\Q (.bl (PySem.Txt.isupper (SL cs))) H):=by
 intro pins s σ H x vs v us Q I rx rv h;obtain⟨cs,rfl,rfl,q⟩:=h;obtain⟨t,rfl⟩:=rx;cases rv;exact SC.isupper ⟨.bl _,H,I,rfl,q⟩
inductive PEs (X:Cx):List Expr->List TE->Prop
 |nil:PEs X [] []
 |cons {e:Expr} {t:TE} {es:List Expr} {ts:List TE} (h:PE X e t) (r:PEs X es ts):PEs X (e::es) (t::ts)
end
section
variable {X:Cx} {tg elt iter:Expr} {ifs:List Expr} {scope:Scope} {pos:PySem.Pos} {N:List Str} {n:Nat} {js:List Nat} {g:CA->TG} {tc:CA->TT} {te:CA->TE}
end
theorem FnOk.t{mg:Str->Option Value}{base:Heap}{CX:CXT}{k:Nat}{f:Addr}{fd:FuncData}{ps:List Str}{sp:Sp}(h:FnOk P w K mg base CX k f fd ps sp):FnOkT P w K mg base CX k f fd ps sp:=⟨h.len,λA outer s H args us vs Q E _ r e b v q=>h.run A outer s H args us vs Q E r e b v q⟩
section
variable {X:Cx} {a b c:Expr} {ta:TE} {tA tB' tc:TT} {u v:TS} {pos:PySem.Pos} {rest:List Expr}
theorem zhl{tl:TA}{x1}(h:PAt X es tl):PEt X (.Tuple es x1 pos) (ya tl):=by
 intro pins s σ H Q h0 I hq;refine wpAny_Tuple_spliced (thn (h pos pins s σ H _ h0 I hq) λus s1 ⟨xs,H1,I1,r,z,q⟩=>⟨by rw[<-r.length];exact z,?_⟩);have hf:H1 s1.heap.objs.size=none:=I1.hok.fresh (Je _);refine⟨.ref s1.heap.objs.size,upd H1 s1.heap.objs.size (.tup xs),I1.laid (t':=s1.toks) (λb u e=>JT _ e) (Je _) ?_,rfl,q.at hf⟩;exact⟨z,us,r,⟨_,JV _ rfl,rfl,_,rfl⟩⟩
end
def ItK(b:Bool)(h:Heap)(i l:Addr)(k:Nat):Prop:= ∃o,h.get? i=some o/\o.cls= .type (cond b "tuple_iterator" "list_iterator")/\o.data= .fields #[.ref l, .int k 0]
def SeK(b:Bool)(h:Heap)(l:Addr)(xs:Array Value):Prop:= ∃o,h.get? l=some o/\o.cls= .type (cond b "tuple" "list")/\ ∃n,o.data= .seq xs n
theorem ItK.at(x:ItK b h a l i)(e: ∀o,h.get? a=some o->h'.get? a=some o):ItK b h' a l i:=let ⟨o,ho,r⟩:=x;⟨o,e _ ho,r⟩
theorem SeK.at(x:SeK b h a xs)(e: ∀o,h.get? a=some o->h'.get? a=some o):SeK b h' a xs:=let ⟨o,ho,r⟩:=x;⟨o,e _ ho,r⟩
theorem SeK.push{b:Bool}{h:Heap}{a:Addr}{xs:Array Value}(x:SeK b h a xs)(o:Obj):SeK b (h.push o) a xs:=x.at λ_ e=>JT o e
theorem ItK.lt(x:ItK b h a l i):a<h.objs.size:=let ⟨_,e,_⟩:=x;JU e
section
variable {prog:Program} {w:World} {A:Around} {E:Value->Shared->Prop} {s:Shared} {b:Bool}
theorem zlz{Q:Value->Shared->Prop}(hl:SeK b s.heap l xs)
  (hQ:Q (.ref s.heap.objs.size) {s with heap:=s.heap.push {cls:= .type (cond b "tuple_iterator" "list_iterator"),data:= .fields #[.ref l, .int 0 0]} }):wpAny (model prog w) A (pyIter (.ref l)) Q E s:=by
 cases b with
 |true=>exact wpAny_pyIter_tuple hl hQ
 |false=>exact wpAny_pyIter_list hl hQ
theorem zfH{it:Addr}{x:Value}{Q:Value->Shared->Prop}(hit:ItK b s.heap it l i)(hl:SeK b s.heap l xs)(hx:xs[i]? =some x)
  (hQ: ∀h',ItK b h' it l (i+1)->Heap.SameBut it s.heap h'->Q x {s with heap:=h'}):wpAny (model prog w) A (Builtin.SmallTypes.nextOf (.ref it)) Q E s:=by
 cases b with
 |false=>exact wpAny_nextOf_list_item hit hl hx hQ
 |true=>
  have ty:s.TypeIs (.ref it) "tuple_iterator":=Heap.IsTupleIter.typeIs hit;obtain⟨o,ho,hc,hd⟩:=id hit;obtain⟨ol,hol,_,nl,hdl⟩:=hl;unfold Builtin.SmallTypes.nextOf;refine JR (wpAny_callSpecial?_slot (name:=Str.ofString "__next__") ty F.slot_tuple_iterator_next (wpAny_call_entry F.slot_tuple_iterator_next ty F.entry_tuple_iterator_next ?_ (F.args_tuple_iterator_next_1 _)));show wpAny _ _ (field (.ref it) 0>>=_) _ _ s;refine JR (wpAny_field ho hd (x:= .ref l) rfl ?_);show wpAny _ _ (if (Value.ref l==Value.none)=true then _ else _) _ _ s;rw[Jf (show¬((Value.ref l==Value.none)=true) from Ju)];show wpAny _ _ (field (.ref it) 1>>=_) _ _ s;refine JR (wpAny_field ho hd (x:= .int i 0) rfl ?_);show wpAny _ _ (seqItems? (.ref l)>>=_) _ _ s;refine JR (wpAny_seqItems hol hdl ?_);simp only[JE,hx];refine JR (wpAny_setField ho hd (by simp) (JS ⟨x,rfl,JS (hQ _ ?_ (Heap.SameBut.update ..))⟩));exact⟨_,Heap.get?_update_self _ ho (Obj.isFreed_of_fields (Obj.data_mapFields hd _)),(Obj.cls_mapFields ..).trans hc,by rw[Obj.data_mapFields hd];simp [rawInt]⟩
theorem ziU{it:Addr}{Q:Value->Shared->Prop}(hh:A.handled=none)(hit:ItK b s.heap it l i)(hl:SeK b s.heap l xs)(hx:xs[i]? =none)
  (hE: ∀h' e,Heap.ExtBut it s.heap h'->(∃o,h'.get? e=some o/\o.cls= .type "StopIteration")->E (.ref e) {s with heap:=h'}):wpAny (model prog w) A (Builtin.SmallTypes.nextOf (.ref it)) Q E s:=by
 cases b with
 |false=>exact wpAny_nextOf_list_end hh hit hl hx hE
 |true=>
  have ty:s.TypeIs (.ref it) "tuple_iterator":=Heap.IsTupleIter.typeIs hit;obtain⟨o,ho,hc,hd⟩:=id hit;obtain⟨ol,hol,_,nl,hdl⟩:=hl;unfold Builtin.SmallTypes.nextOf;refine JR (wpAny_callSpecial?_slot (name:=Str.ofString "__next__") ty F.slot_tuple_iterator_next (wpAny_call_entry F.slot_tuple_iterator_next ty F.entry_tuple_iterator_next ?_ (F.args_tuple_iterator_next_1 _)));show wpAny _ _ (field (.ref it) 0>>=_) _ _ s;refine JR (wpAny_field ho hd (x:= .ref l) rfl ?_);show wpAny _ _ (if (Value.ref l==Value.none)=true then _ else _) _ _ s;rw[Jf (show¬((Value.ref l==Value.none)=true) from Ju)];show wpAny _ _ (field (.ref it) 1>>=_) _ _ s;refine JR (wpAny_field ho hd (x:= .int i 0) rfl ?_);show wpAny _ _ (seqItems? (.ref l)>>=_) _ _ s;refine JR (wpAny_seqItems hol hdl ?_);simp only[JE,hx];refine JR (wpAny_rule (JR (wpAny_setField ho hd (by simp) ?_)));show wpAny _ _ (newExc (.type "StopIteration") []>>=_) _ _ _;refine JR ?_;simp only[newExc,newTuple];refine JR (wpAny_newObj_type ?_ (by size_fits));refine JR (m:=firstArgMember _ _) (wpAny_of_eq (a:=Value.none) (by first|rfl|(simp only[firstArgMember];rfl)) ?_);refine wpAny_newObj_type ?_ (by size_fits);simp only[raiseNew];refine JR (wpAny_handled ?_);first|rw[show A.in1.handled=none from hh]|rw[hh]
  refine JR (JS (wpAny_throw ?_));exact hE _ _ (((Heap.SameBut.update ..).extBut.push _).push _) ⟨_,JV _ rfl,rfl⟩
theorem ziV{z TI TO i1 i2:Addr}{k:Nat}{xs ys:Array Value}{x y u v:Value}{Q:Value->Shared->Prop}(D:ZipApart z TI TO i1 i2 l1 l2)
  (hz:IsZip s.heap z TI TO .none) (hTI:IsPair s.heap TI (.ref i1) (.ref i2)) (hTO:IsPair s.heap TO u v)
  (h1:ItK b s.heap i1 l1 k) (h2:ItK b s.heap i2 l2 k) (hl1:SeK b s.heap l1 xs) (hl2:SeK b s.heap l2 ys) (hx:xs[k]? =some x) (hy:ys[k]? =some y)
  (hQ: ∀h',IsZip h' z TI TO (rawInt s.heap.objs.size)->IsPair h' TO x y->ItK b h' i1 l1 (k+1)->ItK b h' i2 l2 (k+1)->IsPair h' s.heap.objs.size x y->
   (∀c o,c≠z->c≠TO->c≠i1->c≠i2->s.heap.get? c=some o->h'.get? c=some o)->Q (.ref s.heap.objs.size) {s with heap:=h'}):
  wpAny (model prog w) A (Builtin.«zip.__next__» ⟨[.ref z], []⟩) (λfin s'=> ∃v,fin= .done (.ret v)/\Q v s') E s:=by
 show wpAny _ _ (field (.ref z) 2>>=_) _ _ _;refine JR (wpAny_field hz rfl (x:= .bool false) rfl ?_);show wpAny _ _ (field (.ref z) 3>>=_) _ _ _;refine JR (wpAny_field hz rfl (x:= .ref TI) rfl (JR (wpAny_seqItems hTI rfl ?_)));show wpAny _ _ (Builtin.SmallTypes.ownedTupleIsFree (.ref z)>>=_) _ _ _;refine JR ?_;unfold Builtin.SmallTypes.ownedTupleIsFree;refine JR (wpAny_field hz rfl (x:= .none) rfl (JS ?_));simp only[if_true];refine JR (wpAny_rule (JR (wpAny_field hz rfl (x:= .ref TO) rfl (JR (wpAny_setField_rec hz (by simp) λh₁ hz₁ hs₁=> ?_)))));replace hz₁:IsZip h₁ z TI TO .ellipsis:=hz₁;refine JR ?_;simp only[List.zipIdx_cons,List.zipIdx_nil,List.forIn_cons,List.forIn_nil];refine JR (JR (wpAny_onRaise ?_));show wpAny _ _ (Builtin.SmallTypes.nextOf (.ref i1)>>=_) _ _ _;refine JR (zfH (h1.at λo=>hs₁.extBut _ o D.i1z) (hl1.at λo=>hs₁.extBut _ o D.l1z) hx λh₂ h1₂ hs₂=>JS ?_);have hTO₂:IsPair h₂ TO u v:=hs₂.extBut _ _ D.TOi1 (hs₁.extBut _ _ D.TOz hTO);refine JR (wpAny_seqItems hTO₂ rfl (JR (wpAny_updateSeq_pair hTO₂ λh₃ hTO₃ hs₃=> ?_)));replace hTO₃:IsPair h₃ TO x v:=hTO₃;refine JR (wpAny_letGo (JS (JR (JR (wpAny_onRaise ?_)))));show wpAny _ _ (Builtin.SmallTypes.nextOf (.ref i2)>>=_) _ _ _;have up3: ∀c o,c≠z->c≠i1->c≠TO->s.heap.get? c=some o->h₃.get? c=some o:=λc o c1 c2 c3 e=>hs₃.extBut _ _ c3 (hs₂.extBut _ _ c2 (hs₁.extBut _ _ c1 e));refine JR (zfH (h2.at λo=>up3 _ o D.i2z D.i12.symm D.TOi2.symm) (hl2.at λo=>up3 _ o D.l2z D.l2i1 D.l2TO) hy λh₄ h2₄ hs₄=>JS ?_);have hTO₄:IsPair h₄ TO x v:=hs₄.extBut _ _ D.TOi2 hTO₃;refine JR (wpAny_seqItems hTO₄ rfl (JR (wpAny_updateSeq_pair hTO₄ λh₅ hTO₅ hs₅=> ?_)));replace hTO₅:IsPair h₅ TO x y:=hTO₅;refine JR (wpAny_letGo (JS (JS (JR (wpAny_seqItems hTO₅ rfl (JR (wpAny_newTuple ?_)))))));have hsz:h₅.objs.size=s.heap.objs.size:=by rw[hs₅.1,hs₄.1,hs₃.1,hs₂.1,hs₁.1]
 have hz₅:IsZip h₅ z TI TO .ellipsis:=hs₅.extBut _ _ D.TOz.symm (hs₄.extBut _ _ D.i2z.symm (hs₃.extBut _ _ D.TOz.symm (hs₂.extBut _ _ D.i1z.symm hz₁)));have hk₅: ∀c o,c≠z->c≠TO->c≠i1->c≠i2->s.heap.get? c=some o->h₅.get? c=some o:=λc o c1 c2 c3 c4 e=>hs₅.extBut _ _ c2 (hs₄.extBut _ _ c4 (up3 c o c1 c3 c2 e));have h1₅:ItK b h₅ i1 l1 (k+1):=h1₂.at λo e=>hs₅.extBut _ _ D.TOi1.symm (hs₄.extBut _ _ D.i12 (hs₃.extBut _ _ D.TOi1.symm e));have h2₅:ItK b h₅ i2 l2 (k+1):=h2₄.at λo e=>hs₅.extBut _ _ D.TOi2.symm e;have hzlt:z<h₅.objs.size:=JU hz₅;show wpAny _ _ (Builtin.SmallTypes.ownedTupleHandOut (.ref z) (.ref h₅.objs.size)>>=_) _ _ _;refine JR ?_;unfold Builtin.SmallTypes.ownedTupleHandOut;have hz₆:IsZip (h₅.push {cls:= .type "tuple",data:= .seq #[x,y]}) z TI TO .ellipsis:=JT _ hz₅;refine JR (wpAny_setField_rec hz₆ (by simp) λh₇ hz₇ hs₇=> ?_);replace hz₇:IsZip h₇ z TI TO (rawInt h₅.objs.size):=hz₇;refine wpAny_setField_rec hz₇ (by simp) λh₈ hz₈ hs₈=> ?_;replace hz₈:IsZip h₈ z TI TO (rawInt h₅.objs.size):=hz₈;have up: ∀c o,c≠z->h₅.get? c=some o->h₈.get? c=some o:=λc o c1 e=>hs₈.extBut _ _ c1 (hs₇.extBut _ _ c1 (JT _ e));have hT₈:IsPair h₈ h₅.objs.size x y:=hs₈.extBut _ _ (Nat.ne_of_gt hzlt) (hs₇.extBut _ _ (Nat.ne_of_gt hzlt) (JV _ rfl));rw[hsz] at hz₈ hT₈;refine JS ⟨_,rfl,?_⟩;show Q (.ref h₅.objs.size) _;rw[hsz];exact hQ h₈ hz₈ (up _ _ D.TOz hTO₅) (h1₅.at λo e=>up _ o D.i1z e) (h2₅.at λo e=>up _ o D.i2z e) hT₈ λc o c1 c2 c3 c4 e=>up c o c1 (hk₅ c o c1 c2 c3 c4 e)
theorem zjW{z TI TO i1 i2:Addr}{k:Nat}{xs:Array Value}{Q:Fin->Shared->Prop}(hh:A.handled=none)(D:ZipApart z TI TO i1 i2 l1 l2)
  (hz:IsZip s.heap z TI TO .none) (hTI:IsPair s.heap TI (.ref i1) (.ref i2)) (h1:ItK b s.heap i1 l1 k) (hl1:SeK b s.heap l1 xs) (hend:xs[k]? =none)
  (hE: ∀h' e,(∀c o,c≠z->c≠i1->s.heap.get? c=some o->h'.get? c=some o)->(∃o,h'.get? e=some o/\o.cls= .type "StopIteration")->E (.ref e) {s with heap:=h'}):
  wpAny (model prog w) A (Builtin.«zip.__next__» ⟨[.ref z], []⟩) Q E s:=by
 show wpAny _ _ (field (.ref z) 2>>=_) _ _ _;refine JR (wpAny_field hz rfl (x:= .bool false) rfl ?_);show wpAny _ _ (field (.ref z) 3>>=_) _ _ _;refine JR (wpAny_field hz rfl (x:= .ref TI) rfl (JR (wpAny_seqItems hTI rfl ?_)));show wpAny _ _ (Builtin.SmallTypes.ownedTupleIsFree (.ref z)>>=_) _ _ _;refine JR ?_;unfold Builtin.SmallTypes.ownedTupleIsFree;refine JR (wpAny_field hz rfl (x:= .none) rfl (JS ?_));simp only[if_true];refine JR (wpAny_rule (JR (wpAny_field hz rfl (x:= .ref TO) rfl (JR (wpAny_setField_rec hz (by simp) λh₁ hz₁ hs₁=> ?_)))));replace hz₁:IsZip h₁ z TI TO .ellipsis:=hz₁;refine JR ?_;simp only[List.zipIdx_cons,List.zipIdx_nil,List.forIn_cons,List.forIn_nil];refine JR (JR (wpAny_onRaise ?_));show wpAny _ _ (Builtin.SmallTypes.nextOf (.ref i1)>>=_) _ _ _;refine JR (ziU hh (h1.at λo=>hs₁.extBut _ o D.i1z) (hl1.at λo=>hs₁.extBut _ o D.l1z) hend λh₂ e hs₂ he=> ?_);obtain⟨oe,hoe,hce⟩:=he;have hz₂:IsZip h₂ z TI TO .ellipsis:=hs₂ _ _ D.i1z.symm hz₁;have hez:e≠z:=λx=>by subst x;rw[hz₂] at hoe;cases hoe;simp at hce
 exact wpAny_setField_rec hz₂ (by simp) λh₃ _ hs₃=>hE h₃ e (λc o c1 c3 x=>hs₃.extBut _ _ c1 (hs₂ _ _ c3 (hs₁.extBut _ _ c1 x))) ⟨oe,hs₃.extBut _ _ hez hoe,hce⟩
end
theorem zhS(b:Bool)(l1 l2:Addr)(xs ys:Array Value):
  Meets (Builtin.«zip.__new__» ⟨[.type "zip", .ref l1, .ref l2], []⟩) (λ_ R s=>SeK b s.heap l1 xs/\SeK b s.heap l2 ys/\
   ∀h',h'=((((s.heap.push {cls:= .type (cond b "tuple_iterator" "list_iterator"),data:= .fields #[.ref l1, .int 0 0]}).push {cls:= .type (cond b "tuple_iterator" "list_iterator"),data:= .fields #[.ref l2, .int 0 0]}).push {cls:= .type "tuple",data:= .seq #[.ref s.heap.objs.size, .ref (s.heap.objs.size+1)]}).push {cls:= .type "tuple",data:= .seq #[.none, .none]}).push {cls:= .type "zip",data:= .fields #[.none, .bool false, .bool false, .ref (s.heap.objs.size+2), .ref (s.heap.objs.size+3)]}->
    R (.ok (.ret (.ref (s.heap.objs.size+4)))) {s with heap:=h'}):=
 .of_wp λprog w A R s h=>by
  obtain⟨hp,g,d,tk,os⟩:=s;obtain⟨hl1,hl2,h⟩:=h;have hsub:=sub_zip;have hL1:SeK b (Shared.heap ⟨hp,g,d,tk,os⟩) l1 xs:=hl1;have hL2:SeK b (Shared.heap ⟨hp.push {cls:= .type (cond b "tuple_iterator" "list_iterator"),data:= .fields #[.ref l1, .int 0 0]},g,d,tk,os⟩) l2 ys:=hl2.push _;wp_walk using zlz hL1,zlz hL2
  refine⟨_,rfl,?_⟩;have z:=h _ rfl;simp only[Heap.size_push] at z ⊢;exact z
section
variable {prog:Program} {w:World} {A:Around} {E:Value->Shared->Prop} {s:Shared} {b:Bool}
theorem ziW{ys:Array Value}{Q:Value->Shared->Prop}(hl1:SeK b s.heap l1 xs)(hl2:SeK b s.heap l2 ys)
  (h: ∀h',IsZip h' (s.heap.objs.size+4) (s.heap.objs.size+2) (s.heap.objs.size+3) .none->IsPair h' (s.heap.objs.size+2) (.ref s.heap.objs.size) (.ref (s.heap.objs.size+1))->
   IsPair h' (s.heap.objs.size+3) .none .none->ItK b h' s.heap.objs.size l1 0->ItK b h' (s.heap.objs.size+1) l2 0->
   (∀c o,s.heap.get? c=some o->h'.get? c=some o)->Q (.ref (s.heap.objs.size+4)) {s with heap:=h'}):
  wpAny (model prog w) A (call (.type "zip") [.ref l1, .ref l2]) Q E s:=by
 refine callType_new F.called_zip 'd' (F.typeCall_zip_2 _ _) (F.newCall_zip_2 _ _) (λobj=>F.args_object_init_3 obj _ _) F.entry_zip_new (zhS b l1 l2 xs ys) ⟨hl1,hl2,λh' e=> ?_⟩;have at_: ∀{hh:Heap} {o:Obj} {n:Nat},hh.objs.size=n->o.isFreed=false->(hh.push o).get? n=some o:=fun {hh o n} e f=>by subst e;exact JV _ f
 obtain⟨ha,ea⟩: ∃ha,ha=s.heap.push {cls:= .type (cond b "tuple_iterator" "list_iterator"),data:= .fields #[.ref l1, .int 0 0]}:=⟨_,rfl⟩
 obtain⟨hb,eb⟩: ∃hb,hb=ha.push {cls:= .type (cond b "tuple_iterator" "list_iterator"),data:= .fields #[.ref l2, .int 0 0]}:=⟨_,rfl⟩
 obtain⟨hc,ec⟩: ∃hc,hc=hb.push {cls:= .type "tuple",data:= .seq #[.ref s.heap.objs.size, .ref (s.heap.objs.size+1)]}:=⟨_,rfl⟩
 obtain⟨hd,ed⟩: ∃hd,hd=hc.push {cls:= .type "tuple",data:= .seq #[.none, .none]}:=⟨_,rfl⟩
 rw[<-ea,<-eb,<-ec,<-ed] at e;have za:ha.objs.size=s.heap.objs.size+1:=by rw[ea,Heap.size_push]
 have zb:hb.objs.size=s.heap.objs.size+2:=by rw[eb,Heap.size_push,za]
 have zc:hc.objs.size=s.heap.objs.size+3:=by rw[ec,Heap.size_push,zb]
 have zd:hd.objs.size=s.heap.objs.size+4:=by rw[ed,Heap.size_push,zc]
 have kd: ∀c o,hd.get? c=some o->h'.get? c=some o:=λc o q=>by rw[e];exact JT _ q
 have kc: ∀c o,hc.get? c=some o->h'.get? c=some o:=λc o q=>kd c o (by rw[ed];exact JT _ q);have kb: ∀c o,hb.get? c=some o->h'.get? c=some o:=λc o q=>kc c o (by rw[ec];exact JT _ q);have ka: ∀c o,ha.get? c=some o->h'.get? c=some o:=λc o q=>kb c o (by rw[eb];exact JT _ q);have g5:IsZip h' (s.heap.objs.size+4) (s.heap.objs.size+2) (s.heap.objs.size+3) .none:=by rw[e];exact at_ zd rfl
 show _/\_;exact⟨⟨_,g5,rfl⟩,h h' g5 (kc _ _ (by rw[ec];exact at_ zb rfl)) (kd _ _ (by rw[ed];exact at_ zc rfl)) ⟨_,ka _ _ (by rw[ea];exact at_ rfl rfl),rfl,rfl⟩ ⟨_,kb _ _ (by rw[eb];exact at_ za rfl),rfl,rfl⟩
  λc o x=>ka c o (by rw[ea];exact JT _ x)⟩
end
def SqK(b:Bool)(K:Fg)(H:Hp)(a:Addr)(xs:List V):Prop:=(b=true/\SqT K H a xs)\/(b=false/\SqL K H a xs)
theorem SqK.same{xs:List V}(h:SqK b K H a xs)(s:zq H H'):SqK b K H' a xs:=h.imp (λq=>⟨q.1,s.sqT q.2⟩) λq=>⟨q.1,s.seq q.2⟩
section
variable {X:Cx} {pins:List (Addr×Obj)} {σ:St} {H:Hp} {s:Shared} {b:Bool} {a:Addr} {xs ys:List V}
theorem Inv.seqK(I:Inv X pins σ H s)(h:SqK b X.K H a xs): ∃its:List Value,zE xs its/\SeK b s.heap a its.toArray/\xs.length<=sizeLine:=by
 rcases h with⟨rfl,h⟩|⟨rfl,h⟩
 ·exact I.tuple h
 ·obtain⟨its,r,p,z⟩:=I.list h;exact⟨its,r,p.isList,z⟩
theorem Inv.seqK_inj(I:Inv X pins σ H s)(h:SqK b X.K H a xs)(h':SqK b X.K H a ys):xs=ys:=by
 rcases h with⟨rfl,h⟩|⟨rfl,h⟩<;>rcases h' with⟨e,h'⟩|⟨e,h'⟩
 ·exact I.tuple_inj h h'
 ·cases e
 ·cases e
 ·exact I.list_inj h h'
end
def ky(b:Bool)(K:Fg)(a c:Addr):It:=
 ⟨λi H=> ∃xs ys x y,SqK b K H a xs/\SqK b K H c ys/\xs[i]? =some x/\ys[i]? =some y,
  λi H v H'=> ∃p,v= .ref p/\H p=none/\zq H H'/\ ∃x y,H' p=some (.tup [x,y])/\(∀xs,SqK b K H a xs->xs[i]? =some x)/\ ∀ys,SqK b K H c ys->ys[i]? =some y,
  λi H=> ∃xs,SqK b K H a xs/\xs.length<=i⟩
theorem ziX{P:Program}{w:World}{K:Fg}{es:List Expr}{n:Nat}{ps:Pos}(b:Bool)(z TI TO i1 i2 l1 l2:Addr)(D:ZipApart z TI TO i1 i2 l1 l2):
  Turn P w K (.Tuple es n ps) (ky b K l1 l2) [z,TI,TO,i1,i2] z (λi h=>IsZip h z TI TO .none/\IsPair h TI (.ref i1) (.ref i2)/\(∃a b,IsPair h TO a b)/\ItK b h i1 l1 i/\ItK b h i2 l2 i) where
 mem:=by simp
 obj:=λi h st b hb=>by
  obtain⟨hz,hTI,⟨a,c,hTO⟩,⟨o1,e1,_,d1⟩,⟨o2,e2,_,d2⟩⟩:=st;have hb':b=z\/b=TI\/b=TO\/b=i1\/b=i2:=by simpa using hb
  rcases hb' with rfl|rfl|rfl|rfl|rfl
  ·exact⟨_,hz,λv q=>by
    have q':Data.fields _=Data.cell v:=q;cases q'⟩
  ·exact⟨_,hTI,λv q=>by
    have q':Data.seq _ _=Data.cell v:=q;cases q'⟩
  ·exact⟨_,hTO,λv q=>by
    have q':Data.seq _ _=Data.cell v:=q;cases q'⟩
  ·exact⟨_,e1,λv q=>by rw[d1] at q;cases q⟩
  ·exact⟨_,e2,λv q=>by rw[d2] at q;cases q⟩
 keep:=λi h h' st k=>by
  obtain⟨hz,hTI,⟨a,c,hTO⟩,h1,h2⟩:=st;exact⟨k z (by simp) _ hz,k TI (by simp) _ hTI,⟨a,c,k TO (by simp) _ hTO⟩,h1.at λo e=>k i1 (by simp) o e,h2.at λo e=>k i2 (by simp) o e⟩
 item:=by
  intro X hP hw hK hc i pins s σ H E I hf st hg;subst hP hw hK;obtain⟨xs,ys,x,y,hx,hy,ex,ey⟩:=hg;obtain⟨hz,hTI,⟨a,c,hTO⟩,h1,h2⟩:=st;obtain⟨us,rv,p,_⟩:=I.seqK hx;obtain⟨vs,rw',p',_⟩:=I.seqK hy;obtain⟨u,hu,ru⟩:=rv.get ex;obtain⟨v,hv,rv'⟩:=rw'.get ey;have ty:s.TypeIs (.ref z) "zip":=⟨_,hz,rfl⟩
  unfold pyNext;refine JR (wpAny_attempt (wpAny_callSpecial?_slot (name:=Str.ofString "__next__") ty F.slot_zip_next (wpAny_call_entry F.slot_zip_next ty F.entry_zip_next
   (ziV D hz hTI hTO h1 h2 p p' (x:=u) (y:=v) (by simpa using hu) (by simpa using hv) λh' a1 a2 a3 a4 a5 hk=>JS ?_) (F.args_zip_next_1 _))))
  refine⟨_,rfl,wpAny_letOwnedTupleGo_zip (s:={s with heap:=h'}) a1 λh2' hz' sb=> ?_⟩;have lt: ∀{c o},s.heap.get? c=some o->s.heap.objs.size≠c:=λe=>Nat.ne_of_gt (JU e);have hp:=I.hok.fresh (Je s.heap.objs.size);have pr:IsPair h2' s.heap.objs.size u v:=sb.extBut _ _ (lt hz) a5;have I1:Inv X pins σ (upd H s.heap.objs.size (.tup [x,y])) {s with heap:=h2'}:=by
   refine I.laidL (ch:= [z,TO,i1,i2]) (t':=s.toks) (λb hb=>hf b ?_) (λb o hb e=> ?_) (Je _) ⟨qj (by simp), [u,v], .cons ru (.cons rv' .nil),⟨_,pr,rfl,_,rfl⟩⟩
   ·have hb':b=z\/b=TO\/b=i1\/b=i2:=by simpa using hb
    rcases hb' with rfl|rfl|rfl|rfl<;>simp
   ·have hb': ¬(b=z\/b=TO\/b=i1\/b=i2):=λq=>hb (by simpa using q);exact sb.extBut _ _ (λq=>hb' (.inl q)) (hk b o (λq=>hb' (.inl q)) (λq=>hb' (.inr (.inl q))) (λq=>hb' (.inr (.inr (.inl q)))) (λq=>hb' (.inr (.inr (.inr q)))) e)
  refine⟨.ref s.heap.objs.size,_,I1,rfl,⟨_,rfl,hp,xo hp _,x,y,zP,λws hw=> ?_,λws hw=> ?_⟩,⟨hz',sb.extBut _ _ D.TIz (hk _ _ D.TIz D.TITO D.TIi1 D.TIi2 hTI),⟨_,_,sb.extBut _ _ D.TOz a2⟩,a3.at λo e=>sb.extBut _ _ D.i1z e,a4.at λo e=>sb.extBut _ _ D.i2z e⟩,λb hb=> ?_⟩
  ·rw[I.seqK_inj hw hx];exact ex
  ·rw[I.seqK_inj hw hy];exact ey
  ·have hb':b=z\/b=TI\/b=TO\/b=i1\/b=i2:=by simpa using hb
   have hs: ∃o,s.heap.get? b=some o:=by
    rcases hb' with rfl|rfl|rfl|rfl|rfl
    ·exact⟨_,hz⟩
    ·exact⟨_,hTI⟩
    ·exact⟨_,hTO⟩
    ·exact⟨_,h1.choose_spec.1⟩
    ·exact⟨_,h2.choose_spec.1⟩
   obtain⟨o,e⟩:=hs;rw[zT (lt e).symm];exact(hf b hb).1
 done:=by
  intro X hP hw hK hc i pins s σ H E I hf st hg;subst hP hw hK;obtain⟨xs,hx,hl⟩:=hg;obtain⟨hz,hTI,⟨a,c,hTO⟩,h1,h2⟩:=st;obtain⟨us,rv,p,_⟩:=I.seqK hx;have e1:=rv.length;have ty:s.TypeIs (.ref z) "zip":=⟨_,hz,rfl⟩
  unfold pyNext;refine JR (wpAny_attempt (wpAny_callSpecial?_slot (name:=Str.ofString "__next__") ty F.slot_zip_next (wpAny_call_entry F.slot_zip_next ty F.entry_zip_next
   (zjW (I.ok.hd hc) D hz hTI h1 p (by simp;omega) λh' e hk he=> ?_) (F.args_zip_next_1 _))))
  obtain⟨o,ho,hc'⟩:=he;refine JR (wpAny_isInstance (T:="StopIteration") (b:=true) ⟨o,ho,hc'⟩ isSubtype_stop (JS ⟨rfl,?_⟩));refine I.turnedL (ch:= [z,i1]) (t':=s.toks) (λb hb=>hf b ?_) (λb o hb e=> ?_)
  ·have hb':b=z\/b=i1:=by simpa using hb
   rcases hb' with rfl|rfl<;>simp
  ·have hb': ¬(b=z\/b=i1):=λq=>hb (by simpa using q);exact hk b o (λq=>hb' (.inl q)) (λq=>hb' (.inr q)) e
 self:=λ_ _ _ _ _ st h=>wpAny_pyIter_zip st.1 h
def zlA(K:Fg)(ta:TA):TI:=λσ H R=>ta σ H λvs H1=> ∃b a c,vs= [.ref a, .ref c]/\(∃xs,SqK b K H1 a xs)/\(∃ys,SqK b K H1 c ys)/\R (ky b K a c) H1
theorem zkX{es:List Expr}{n:Nat}{ps:Pos}{a b:Expr}{ta:TA}{p pos:Pos}(hg:Gl X "zip")(hm:X.mg "zip"=none)(ha:PA X [a,b] ta)(hs:starEach [a,b] X.env= [(false,eval a X.env),(false,eval b X.env)]:=by rfl)(hs2:starEach [b] X.env= [(false,eval b X.env)]:=by rfl):
  PI X (.Tuple es n ps) (.Call (.Name "zip" p) [a,b] [] pos) (zlA X.K ta):=by
 intro pins s σ H R I h;refine Call_ (w6 I hg hm boot_zip (PyProof.Rows.callWith_type1 (thn (ha pos pins s σ H _ I h) λus s1 ⟨vs,H1,I1,r1,q1⟩=> ?_) (by rw[hs,hs2]) (by rw[hs2];rfl)));obtain⟨b,i,j,e,⟨xs,hx⟩,⟨ys,hy⟩,q⟩:=q1;subst e;cases r1 with
 |cons r rr=>
  cases rr with
  |cons r' rr=>
   cases rr;cases r;cases r';obtain⟨us,rv,pl,_⟩:=I1.seqK hx;obtain⟨vs,rw',pl',_⟩:=I1.seqK hy;have lt1:i<s1.heap.objs.size:=by
    obtain⟨o,e,_⟩:=pl;exact JU e
   have lt2:j<s1.heap.objs.size:=by
    obtain⟨o,e,_⟩:=pl';exact JU e
   refine ziW pl pl' λh' hz hTI hTO hi1 hi2 hk=>wpAny_pyIter_zip hz ?_;have D:ZipApart (s1.heap.objs.size+4) (s1.heap.objs.size+2) (s1.heap.objs.size+3) s1.heap.objs.size (s1.heap.objs.size+1) i j:=zipApart_new lt1 lt2;refine⟨_, [s1.heap.objs.size+4,s1.heap.objs.size+2,s1.heap.objs.size+3,s1.heap.objs.size,s1.heap.objs.size+1],_,_,H1,rfl,I1.kept (t':=s1.toks) hk,ziX b _ _ _ _ _ _ _ D,⟨hz,hTI,⟨_,_,hTO⟩,hi1,hi2⟩,λb hb=> ?_,q⟩;have hb':b=s1.heap.objs.size+4\/b=s1.heap.objs.size+2\/b=s1.heap.objs.size+3\/b=s1.heap.objs.size\/b=s1.heap.objs.size+1:=by simpa using hb
   have le:s1.heap.objs.size<=b:=by
    rcases hb' with rfl|rfl|rfl|rfl|rfl
    ·exact Nat.le_add_right _ _
    ·exact Nat.le_add_right _ _
    ·exact Nat.le_add_right _ _
    ·exact Je _
    ·exact Nat.le_add_right _ _
   exact I1.fpOk le (I1.hok.fresh le)
theorem ziY{c:Addr}{xs:List V}{σ0:St}{j k:Nat}{te:TE}{Q:VK}(Pv:Nat->List V->Prop)(hq:SqK b K H1 a xs)(hq':SqK b K H1 c ys)(hlen:xs.length=ys.length)(hl:H1 l=none)(hz:xs.length<sizeLine)
  (hsub: ∀v w:V,Sub σ0 ((σ0.set j (some v)).set k (some w))) (h0:Pv 0 [])
  (hs: ∀i x y ws H (K1:VK),xs[i]? =some x->ys[i]? =some y->zq H1 H->Pv i ws->(∀v H4,zq H H4->Pv (i+1) (ws++ [v])->K1 v H4)->te ((σ0.set j (some x)).set k (some y)) H K1)
  (hd: ∀ws H,zq H1 H->Pv xs.length ws->H l=some (.lst ws)->Q (.ref l) H):wC (ky b K a c) σ0 (jC K 2 (zR (zL j) (zR (zL k) zV))) zQ te l Q H1:=by
 refine⟨λi m ws H=>i<=xs.length/\m=xs.length - i/\zq H1 H/\Pv i ws/\ws.length<=i/\H l=some (.lst ws),⟨xs.length,Jv _,'o',xo hl _,h0,Je _,zP⟩,?_⟩;rintro i m ws H ⟨hi,rfl,sm,pv,hx,e⟩;refine⟨e,Nat.lt_of_le_of_lt hx 'o',?_⟩;by_cases hlt:i<xs.length
 ·have hlt':i<ys.length:=by omega
  refine .inr ⟨⟨xs,ys,xs[i],ys[i],hq.same sm,hq'.same sm,by simp [hlt],by simp [hlt']⟩,λv H' yl=> ?_⟩;obtain⟨pp,rfl,_,s2,x,y,ep,ex,ey⟩:=yl;refine⟨pp, [x,y],rfl,SqT.of ep,rfl,x, [y],rfl,y, [],rfl,rfl,hsub _ _,?_⟩;refine hs i x y ws H' _ (ex xs (hq.same sm)) (ey ys (hq'.same sm)) (sm.trans s2) pv λv H4 s4 p4=> ?_;exact⟨s4 _ _ (s2 _ _ e),xs.length - (i+1),'o',hlt,rfl,vF ((sm.trans s2).trans s4) hl,p4,by rw[Jj];simp only[Jp,List.length_nil];omega,zP⟩
 ·obtain rfl:i=xs.length:=by omega
  exact .inl ⟨⟨xs,hq.same sm,Je _⟩,hd ws H sm pv e⟩
inductive TyV (H:Hp):V->String->Prop where
 |int (i:Int):TyV H (.int i) "int"
 |str (x:Str):TyV H (.str x) "str"
 |lst {a:Addr} {xs:List V} (e:H a=some (.lst xs)):TyV H (.ref a) "list"
 |tup {a:Addr} {xs:List V} (e:H a=some (.tup xs)):TyV H (.ref a) "tuple"
def Tk(H:Hp):Nat->D->V->Prop
 |0,_,_=>False
 |_+1, .int i,v=>v= .int i
 |_+1, .str cs,v=>v= .str (SL cs)
 |n+1, .tup ds,v=> ∃a xs,v= .ref a/\H a=some (.tup xs)/\xs.length<=100/\qp (Tk H n) ds xs
 |n+1, .lst ds,v=> ∃a xs,v= .ref a/\H a=some (.lst xs)/\xs.length<=100/\qp (Tk H n) ds xs
 |_+1,_,_=>False
theorem Tk.same: ∀{n:Nat} {H H':Hp} {d:D} {v:V},Tk H n d v->zq H H'->Tk H' n d v
 |n+1,H,H', .int _,_,h,_=>h
 |n+1,H,H', .str _,_,h,_=>h
 |n+1,H,H', .tup _,_,h,s=>let ⟨a,xs,e,q,z,r⟩:=h;⟨a,xs,e,s _ _ q,z,uh (λ_ _ _ k=>Tk.same k s) r⟩
 |n+1,H,H', .lst _,_,h,s=>let ⟨a,xs,e,q,z,r⟩:=h;⟨a,xs,e,s _ _ q,z,uh (λ_ _ _ k=>Tk.same k s) r⟩
theorem Tk.int{H:Hp}{n:Nat}{i:Int}:Tk H (n+1) (.int i) (.int i):=rfl
theorem Tk.str{H:Hp}{n:Nat}{cs:List Nat}:Tk H (n+1) (.str cs) (.str (SL cs)):=rfl
theorem Tk.tup{H:Hp}{n:Nat}{a:Addr}{ds:List D}{xs:List V}(h:H a=some (.tup xs))(z:xs.length<=100)(q:qp (Tk H n) ds xs):Tk H (n+1) (.tup ds) (.ref a):=⟨a,xs,rfl,h,z,q⟩
theorem Tk.lst{H:Hp}{n:Nat}{a:Addr}{ds:List D}{xs:List V}(h:H a=some (.lst xs))(z:xs.length<=100)(q:qp (Tk H n) ds xs):Tk H (n+1) (.lst ds) (.ref a):=⟨a,xs,rfl,h,z,q⟩
theorem vP{σ0:St}{g:TG}{te:TE}{Q:VK}(us:List V)(L:Lists J H1 ys)(hlen:us.length=ys.length)(hl:H1 l=none)(hz:ys.length<sizeLine)
  (hs: ∀(i:Nat) x u H (K1:VK),ys[i]? =some x->us[i]? =some u->zq H1 H->(∀H4,zq H H4->K1 u H4)->g x σ0 H λσ2 H2=>Sub σ0 σ2/\te σ2 H2 K1)
  (hd: ∀H,zq H1 H->H l=some (.lst us)->Q (.ref l) H):wC J σ0 g zQ te l Q H1:=by
 refine km (λi xs _=>xs=us.take i) L hl hz (λ_ _=>rfl) (λi x xs H K1 K0 hx sm pv _ k1 _=> ?_) (λxs H sm pv _ e=>hd H sm ?_)
 ·have hi:i<us.length:=by rw[hlen];exact(Jc.mp hx).1
  have hu:=Jb hi;have z:=hs i x us[i] H K1 hx hu sm λH4 s4=>k1 _ H4 s4 λ_ _=>by rw[pv,JG,hu];rfl
  simp only[zQ,if_true];exact z
 ·rw[e,pv,<-hlen,JB]
theorem kz{σ0:St}{g:TG}{te:TE}{Q:VK}(Φ:Nat->V->Hp->Prop)(L:Lists J H1 ys)(hl:H1 l=none)(hz:ys.length<sizeLine)
  (hs: ∀(i:Nat) x H (K1:VK),ys[i]? =some x->zq H1 H->(∀v H4,zq H H4->(∀H5,(∀b o,b≠l->H4 b=some o->H5 b=some o)->Φ i v H5)->K1 v H4)->H l≠none->g x σ0 H λσ2 H2=>Sub σ0 σ2/\te σ2 H2 K1)
  (hk: ∀i v H H5,Φ i v H->(∀b o,b≠l->H b=some o->H5 b=some o)->Φ i v H5)
  (hd: ∀vs H,zq H1 H->vs.length=ys.length->(∀(i:Nat) v,vs[i]? =some v->Φ i v H)->H l=some (.lst vs)->Q (.ref l) H):wC J σ0 g zQ te l Q H1:=by
 refine km (λi xs H=>xs.length=i/\ ∀(j:Nat) v,xs[j]? =some v->Φ j v H) L hl hz (λ_ _=>⟨rfl,λj v e=>by simp at e⟩) (λi x xs H K1 K0 hx sm pv el k1 _=> ?_) (λxs H sm pv _ e=>hd xs H sm pv.1 pv.2 e);have z:=hs i x H K1 hx sm (λv H4 s4 hv=>k1 v H4 s4 λH5 h5=>⟨by rw[Jj,pv.1];rfl,λj w ew=> ?_⟩) (by rw[el];exact λz=>nomatch z)
 ·simp only[zQ,if_true];exact z
 ·by_cases c:j<xs.length
  ·rw[List.getElem?_append_left c] at ew;exact hk j w H H5 (pv.2 j w ew) λb o hb e=>h5 b o hb (s4 b o e)
  ·have:j<(xs++ [v]).length:=(Jc.mp ew).1;rw[Jj] at this;obtain rfl:j=i:=by
    simp only[Jp,List.length_nil] at this;omega
   rw[<-pv.1,List.getElem?_concat_length] at ew;cases ew;exact hv H5 h5
section
variable {X:Cx}
def zig:V->List V->Hp->VK->Prop:=λx vs H Q=> ∃(l:Addr) (xs:List V) (i:Int) (y:V),x= .ref l/\vs= [.int i,y]/\H l=some (.lst xs)/\0<=i/\i<=xs.length/\xs.length<100000/\Q .non (upd H l (.lst (xs.take i.toNat++y::xs.drop i.toNat)))
theorem jj:MtM X "list.insert" zig:=by
 intro pins s σ H x vs v us Q I rx rv h;obtain⟨l,xs,i,y,rfl,rfl,hH,h0,h1,h2,q⟩:=h;cases rx;cases rv with
 |cons r1 rt=>
  obtain⟨u,rfl,ru⟩:=qK rt;obtain⟨t,rfl⟩:=r1;obtain⟨z,its,n,r,hl,e⟩:=I.lstM hH;refine call_meets F.slot_list_insert ⟨_,e,rfl⟩ F.entry_list_insert (F.args_list_insert_3 _ _ _) (AutoSeq1.list_insert_list_int_val_1 l its.toArray n i t u (by rw[fitsIndex_both 'o' 'o'];decide) (by rw[Jn];omega)) ⟨e,?_⟩;refine⟨.non,_,I.lset (its':=its.take i.toNat++u::its.drop i.toNat) hH e ?_ ((r.take _).append (.cons ru (r.drop _))) ?_,rfl,q⟩
  ·have e1:(if i<0 then (i+(its.toArray.size:Int)).toNat else min i.toNat its.toArray.size)=i.toNat:=by
    rw[Jf 'o',Jn];omega
   dsimp only;rw[e1];apply Array.toList_inj.mp;simp;exact List.take_of_length_le (by rw[List.length_drop];exact Je _)
  ·rw[Jj,Jp,JA,List.length_drop,sizeLine_eq];omega
theorem zgq:MtR X "str.split" (λx vs H Q=> ∃cs ys,x= .str (SL cs)/\vs= [.str (SL ys)]/\ys≠ []/\cs.length<=100000/\ ∀ws:List (List Nat),ws≠ []->(∀w∈ws,w.length<=cs.length)->New H (.lst (ws.map λw=>V.str (SL w))) Q):=by
 intro pins s σ H x vs v us Q I rx rv h;obtain⟨cs,ys,rfl,rfl,yn,hz,q⟩:=h;obtain⟨t,rfl⟩:=rx;obtain⟨u,rfl,t',rfl⟩:=qK rv;have pl:=zgp (SL cs) (SL ys) (by rw[qo];exact hz);refine zfG (by rw[qo];cases ys with|nil=>exact absurd rfl yn|cons a r=>rfl) (λl k hl=> ?_) (by rw[qo,sizeLine_eq];omega) pl;obtain⟨ws,hws⟩: ∃ws:List (List Nat),ws=(Txt.split (SL cs) (SL ys)).map λs=>s.cps.toList:=⟨_,rfl⟩
 have e1:Txt.split (SL cs) (SL ys)=ws.map SL:=by
  rw[hws,List.map_map]
  conv=>lhs;rw[<-List.map_id (Txt.split (SL cs) (SL ys))]
  exact List.map_congr_left λs _=>vG s
 have sh:(Txt.split (SL cs) (SL ys)).length<=sizeLine/\Txt.split (SL cs) (SL ys)≠ []/\ ∀s∈Txt.split (SL cs) (SL ys),s.length<=(SL cs).length:=by
  unfold Txt.split;split
  ·exact⟨by show 1<=sizeLine;decide,List.cons_ne_nil _ _,λs h=>by rw[Jm.mp h];exact Je _⟩
  ·split
   ·exact⟨by show 1<=sizeLine;decide,List.cons_ne_nil _ _,λs h=>by rw[Jm.mp h];exact Je _⟩
   ·refine⟨pl,?_,λs h=> ?_⟩
    ·unfold Builtin.Str.partsBetween;intro z
     have:=congrArg List.length z;simp at this
    ·unfold Builtin.Str.partsBetween at h;obtain⟨p,_,rfl⟩:=Jw.mp h;exact le_strSub _ _ _
 obtain⟨s1,s2,s3⟩:=sh;rw[e1] at hl s1 s2 s3;rw[Ja] at s1;refine⟨.ref s.heap.objs.size,_,I.laid (t':=k) (o:= .lst (ws.map λw=>V.str (SL w))) (λb ob q=>JT _ q) (Je _) ?_,rfl,(q ws (λz=>s2 (by rw[z];rfl)) λw hw=> ?_).at (I.hok.fresh (Je _))⟩
 ·exact⟨by rw[Ja];exact s1,_,0,ku hl,JV _ rfl⟩
 ·have:=s3 _ (List.mem_map_of_mem hw);rwa[qo,qo] at this
def isB(k:Bool):Value->Bool
 | .bool b=>b==k
 |_=>false
theorem zmW{bs:List Bool}{us:List Value}(r:zE (bs.map V.bl) us):us=bs.map Value.bool:=by
 induction bs generalizing us with
 |nil=>cases r;rfl
 |cons b bs ih=>
  cases r with
  |cons r1 rt=>rw[ih rt,show _=Value.bool b from r1];rfl
theorem eqB(bs:List Bool)(k:Bool): ∀y,y∈(bs.map Value.bool).toArray->PySem.MeetsSeq.EqGives y (.bool k) (isB k y):=λy hy=>by
 obtain⟨b,_,rfl⟩:=Jw.mp (List.mem_toArray.mp hy);exact λ_ _ _ _ _ _ h=>SeqAt.EqAt.bool_bool b k _ _ _ _ h
theorem ziZ:MtR X "list.count" (λx vs H Q=> ∃(l:Addr) (bs:List Bool) (k:Bool),x= .ref l/\vs= [.bl k]/\H l=some (.lst (bs.map V.bl))/\Q (.int ((bs.countP (· ==k):Nat):Int)) H):=by
 intro pins s σ H x vs v us Q I rx rv h;obtain⟨l,bs,k,rfl,rfl,hH,q⟩:=h;cases rx;obtain⟨u,rfl,ru⟩:=rv.one;obtain rfl:u= .bool k:=ru;obtain⟨z,its,n,r,hl,e⟩:=I.lstM hH;obtain rfl:=zmW r;refine call_meets F.slot_list_count ⟨_,e,rfl⟩ F.entry_list_count (F.args_list_count_2 _ _) (MeetsSeq.list_count l _ n (.bool k) (isB k) (eqB bs k)) ⟨e,?_⟩;refine⟨.int _,H,I.tok _,⟨_,rfl⟩,?_⟩;rw[show (bs.map Value.bool).toArray.toList=bs.map Value.bool from rfl,List.countP_map];exact q
theorem zi0:MtR X "list.index" (λx vs H Q=> ∃(l:Addr) (bs:List Bool) (k:Bool) (j:Nat),x= .ref l/\vs= [.bl k]/\H l=some (.lst (bs.map V.bl))/\bs[j]? =some k/\(∀m,m<j->bs[m]? ≠some k)/\j<1000/\Q (.int (j:Int)) H):=by
 intro pins s σ H x vs v us Q I rx rv h;obtain⟨l,bs,k,j,rfl,rfl,hH,hj,hno,h1,q⟩:=h;cases rx;obtain⟨u,rfl,ru⟩:=rv.one;obtain rfl:u= .bool k:=ru;obtain⟨z,its,n,r,hl,e⟩:=I.lstM hH;obtain rfl:=zmW r;obtain⟨jl,jk⟩:=Jc.mp hj;refine call_meets F.slot_list_index ⟨_,e,rfl⟩ F.entry_list_index (F.args_list_index_2 _ _) (MeetsSeq.list_index l _ n (.bool k) (isB k) (eqB bs k) j (by simpa using jl) 'o' ?_ (λm hm hlt=> ?_)) ⟨e,?_⟩
 ·simp [isB,jk]
 ·have ml:m<bs.length:=by simpa using hm
  have:=hno m hlt;rw[Jb ml] at this;simp only[List.getElem_toArray,List.getElem_map,isB];exact beq_eq_false_iff_ne.mpr λz=>this (by rw[z])
 ·exact⟨.int _,H,I.tok _,⟨_,rfl⟩,q⟩
end
section
variable {X:Cx} {e a b o tg:Expr} {es:List Expr} {te ta tb to:TE} {pos:Pos}
theorem zjX(he:PEt X e te)(hs:swapsWith e none pos.line X.env=pure false:=by rfl):PSt X (.Expr e pos) (zY te):=by
 intro pins s σ H D h0 I h;exact wpAny_Expr_any (thn (he pins s σ H _ h0 I h) λv s1 ⟨x,H1,I1,r1,q1⟩=>⟨σ,H1,I1,q1⟩) I.quiet hs
theorem zhm{op:CmpOp}{r:R2}(ho:OpR X (compareOp op) r)(ha:PEt X a ta)(hb:PE X b tb)(hm:behindInMarks op b=false):PEt X (.Compare a [op] [b] pos) (tOp r ta tb):=by
 intro pins s σ H Q h0 I h;exact wpAny_Compare1 (thn (ha pins s σ H _ h0 I h) λv s1 ⟨x,H1,I1,r1,q1⟩=>thn (hb pins s1 σ H1 _ I1 q1) λu s2 ⟨y,H2,I2,r2,q2⟩=>ho pins s2 σ H2 x y v u Q I2 r1 r2 q2) hm
theorem zkY{op}(h:PEt X a ta):PEt X (.BoolOp op [a] pos) ta:=λpins s σ H Q h0 I hw=>BoolOp_one (h pins s σ H Q h0 I hw)
theorem zkZ{rest:List Expr}(ha:PEt X a ta)(hb:PEt X (.BoolOp .And (b::rest) pos) tb):PEt X (.BoolOp .And (a::b::rest) pos) (zX ta tb):=by
 intro pins s σ H Q h0 I h;refine BoolOp_and (qA h0 (ha pins s σ H _ h0 I h) λv s1 l1 ⟨x,H1,I1,r1,q1⟩=> ?_);obtain⟨c,rfl,q1⟩:=q1;cases r1;refine wpAny_truthy_bool ?_;cases c with
 |true=>exact hb pins s1 σ H1 Q l1 I1 q1
 |false=>exact⟨.bl false,H1,I1,rfl,q1⟩
variable {t:TA} {name:Str} {apos cpos:Pos} {T id:String} {r:V->List V->Hp->VK->Prop}
theorem zk0(hK:X.K=K)(pa:PlainAttrs T)(slot:Slot T name id)(hty:typeOf (.builtin id)=pure (.type "method_descriptor"))(hm:MtR X id r)(ho:PE X o to)(ha:PAt X (e::es) t)
  (hbase:attributeBase o name X.env (eval o X.env)=eval o X.env:=by rfl)
  (hfew:((backTo cpos (starEach (e::es) X.env)).all (λx=> !x.1) && (backToKw cpos (keywordEach [] X.env)).all (λx=>x.1.isSome)
   && decide ((e::es).length+([]:List Keyword).length+(if ([]:List Keyword).isEmpty then 0 else 1)<30))=true:=by rfl)
  (hline:(apos.endLine==cpos.line)=true:=by rfl) (hs:starEach (e::es) X.env=(false,eval e X.env)::starEach es X.env:=by rfl) (hplain:(backTo cpos (starEach es X.env)).any (·.1)=false:=by rfl):
  PEt X (.Call (.Attribute o name apos) (e::es) [] cpos) (tBM K T r to t):=by
 subst hK;intro pins s σ H Q h0 I h;refine wpAny_Call_method_late hbase hfew hline rfl (qA h0 (ho pins s σ H _ I h) λv s1 l1 ⟨x,H1,I1,r1,ty,q1⟩=> ?_);obtain⟨h1,h2⟩:=ua I1 r1 ty;refine⟨T,id,pa,slot,hty,h1,h2,?_⟩;have hA:=ha cpos pins s1 σ H1 _ l1 I1 q1;rw[hs] at hA ⊢;refine Calls.callWith_builtin (by show (false||(backTo cpos (starEach es X.env)).any (·.1))=false;rw[hplain]<;>rfl) (Calls.evalArgs_plain ?_);exact thn hA λus s2 ⟨vs,H2,I2,r2,q2⟩=>hm pins s2 σ H2 x vs v us Q I2 r1 r2 q2
theorem zk1{j:Nat}{cp:Pos}(pa:PlainAttrs "str")(slot:Slot "str" name id)(hty:typeOf (.builtin id)=pure (.type "method_descriptor"))(hm:MtR X id r)(ex:x=SL cs)(ha:PA X (e::es) t)
  (hbase:attributeBase (.Constant (.str x) j cp) name X.env (eval (.Constant (.str x) j cp) X.env)=eval (.Constant (.str x) j cp) X.env:=by rfl)
  (hfew:((backTo cpos (starEach (e::es) X.env)).all (λx=> !x.1) && (backToKw cpos (keywordEach [] X.env)).all (λx=>x.1.isSome)
   && decide ((e::es).length+([]:List Keyword).length+(if ([]:List Keyword).isEmpty then 0 else 1)<30))=true:=by rfl)
  (hline:(apos.endLine==cpos.line)=true:=by rfl) (hs:starEach (e::es) X.env=(false,eval e X.env)::starEach es X.env:=by rfl) (hplain:(backTo cpos (starEach es X.env)).any (·.1)=false:=by rfl):
  PEm X (.Call (.Attribute (.Constant (.str x) j cp) name apos) (e::es) [] cpos) (tBM X.K "str" r (tC (.str (SL cs))) t):=by
 intro pins s σ H Q I h;refine wpAny_Call_method_late hbase hfew hline rfl (Calls.Constant_str (k:=j) (pos:=cp) ?_);have I1:Inv X pins σ H {s with toks:=s.toks+1}:=I.tok _;obtain⟨ty,q1⟩:tyV X.K "str" (.str (SL cs)) H/\_:=h;have r1:zB (.str (SL cs)) (.str x s.toks):=⟨_,by rw[ex]⟩
 obtain⟨h1,h2⟩:=ua I1 r1 ty;refine⟨"str",id,pa,slot,hty,h1,h2,?_⟩;have hA:=ha cpos pins _ σ H _ I1 q1;rw[hs] at hA ⊢;refine Calls.callWith_builtin (by show (false||(backTo cpos (starEach es X.env)).any (·.1))=false;rw[hplain]<;>rfl) (Calls.evalArgs_plain ?_);refine qA (show 0<s.toks+1 by omega) hA λus s2 l2 ⟨vs,H2,I2,r2,q2⟩=> ?_;exact wpAny_mono (wpAny_toks_of (n:=1) l2 (hm pins s2 σ H2 _ vs _ us Q I2 r1 r2 q2)) (λ_ _ z=>z) λ_ _ z=>z.2
theorem zk2{iter:Expr}{body:List Stmt}{wi:TI}{tb:TS}{pos:Pos}(hp:PassesOwn (model X.prog X.w) X.A X.env X.xe)(hc:X.calm=true)(hi:PI X tg iter wi)(hg:PG X tg g)(hb:PSst X body tb)
  (hs: ∀x,foldedSetIterable iter X.env x=pure x:=by intro _;rfl):PSt X (.For tg iter body [] pos) (jF wi g tb):=by
 intro pins s σ H D h0 I h;refine wpAny_For (qA h0 (hi pins s σ H _ I h) λv s1 l1 h1=>qA l1 h1 λitv s2 l2 h2=> ?_) hs;obtain⟨it,fp,tn,J,H2,e,I2,T,st2,f2,W,⟨m0,w0⟩,turn⟩:=h2;subst e;have stat: ∀{H':Hp},(∀b∈fp,H' b=none)-> ∀b∈fp,qS X pins H' b:=λhn b hb=>⟨hn b hb,(f2 b hb).2⟩
 refine codeAny_forLoop_any (λn s'=>0<s'.toks/\ ∃i σ' H',Inv X pins σ' H' s'/\tn i s'.heap/\(∀b∈fp,H' b=none)/\W i n σ' H') ?_ m0 ⟨l2,0,σ,H2,I2,st2,λb hb=>(f2 b hb).1,w0⟩;rintro n s3 ⟨l3,i,σ3,H3,I3,st3,fr3,w3⟩;rcases turn i n σ3 H3 w3 with⟨stop,qn⟩|⟨go,N,hN,step⟩
 ·refine wpAny_passesOwn hp (thn (T.done X rfl rfl rfl hc i pins s3 σ3 H3 X.xe I3 (stat fr3) st3 stop) λr s4 ⟨hr,I4⟩=> ?_);subst hr;exact wpAny_execs_nil ⟨σ3,H3,I4,qn⟩
 ·refine wpAny_passesOwn hp (qA l3 (T.item X rfl rfl rfl hc i pins s3 σ3 H3 X.xe I3 (stat fr3) st3 go) λr s4 l4 ⟨u,hr,h4⟩=> ?_);subst hr;refine wpAny_passesOwn hp (qA l4 h4 λ_ s5 l5 ⟨x,H5,I5,r5,y5,st5,fr5⟩=> ?_);have I5':=I5.pinned (stat fr5) (T.obj _ _ st5);refine wpAny_passesOwn hp (qA l5 (hg _ s5 σ3 H5 x u _ I5' r5 (step x H5 y5)) λ_ s6 l6 ⟨σ6,H6,I6,q6⟩=> ?_);refine wpAny_passesOwn hp (qA l6 (hb _ s6 σ6 H6 _ l6 I6 q6) λf s7 l7 q7=> ?_);have again: ∀{σ7:St} {H7:Hp},Inv X (pins++ww fp s5.heap) σ7 H7 s7->N σ7 H7-> ∃m,m<n/\0<s7.toks/\ ∃i σ' H',Inv X pins σ' H' s7/\tn i s7.heap/\(∀b∈fp,H' b=none)/\W i m σ' H':=fun {σ7 H7} I7 n7=>by
   obtain⟨m',hm,w7⟩:=hN σ7 H7 n7;refine⟨m',hm,l7,i+1,σ7,H7,I7.unpinned,T.keep _ _ _ st5 λb hb o e=>(I7.pin (b,o) (List.mem_append_right _ (List.mem_append_right _ (wH hb e)))).1,λb hb=> ?_,w7⟩;obtain⟨o,e,d⟩:=T.obj _ _ st5 b hb;exact(I7.pin (b,o) (List.mem_append_right _ (List.mem_append_right _ (wH hb e)))).2.1
  cases f with
  |next=>obtain⟨σ7,H7,I7,n7⟩:=q7;exact again I7 n7
  |cont=>obtain⟨σ7,H7,I7,n7⟩:=q7;exact again I7 n7
  |brk=>obtain⟨σ7,H7,I7,q7⟩:=q7;exact⟨σ7,H7,I7.unpinned,q7⟩
  |ret v=>obtain⟨x7,σ7,H7,I7,r7,q7⟩:=q7;exact⟨x7,σ7,H7,I7.unpinned,r7,q7⟩
end
section
variable {X:Cx} {body suite:List Stmt} {b₀:Stmt} {xn:Str} {C:Addr} {tb:(St->XK)->TS} {ts:TS} {np hpos pos:Pos}
def kA(K:Fg)(C:Addr)(tb:(St->XK)->TS)(ts:TS):TS:=λD σ H=>
 tb (λσ' cls _ H'=>PySem.W.exmOne K cls (.ref C)=some true/\ ∀ea,H' ea=none->ts D σ' (upd H' ea (wx ea cls))) D σ H
theorem zhn(W:X.Own)(hb: ∀(Ek:St->XK) (pn:List (Addr×Obj)) (xe:Value->Shared->Prop),Lv (X.other pn xe) Ek->PSst (X.other pn xe) body (tb Ek))(hs: ∀ea,PSs (X.suite ea) (b₀::suite) ts)
  (hg:Gl X xn) (hm:X.mg xn=some (.ref C)) (hd:(xn==("__debug__":Str))=false:=by decide):
  PSt X (.Try body [.ExceptHandler (some (.Name xn np)) none (b₀::suite) hpos] [] [] pos) (kA X.K C tb ts):=by
 intro pins s σ H D h0 I h;refine wpAny_Try_except ?_;refine wpAny_mono (hb _ (X.pn++pins) _ ?L [] s σ H D h0 (I.other _) h) (λf s1 hf=> ?_) (λe s1 hx=>hx)
 case L=>
  refine⟨λpins' σ' ea cls H1 H2 s1 s2 J F q=> ?_⟩;have J0:Inv X pins σ' H1 s1:=J.unother;obtain⟨B,a0,fl,hok,kp,th⟩:=F.ex;obtain⟨q1,q2⟩:=q;obtain⟨hh,g2,d2,t2,os2⟩:=s2;have eo:os2=s1.os:=F.os;subst eo;have fl1:Heap.FlyingW B X.stack ea cls a0 hh:=fl;have fl2:=fl1;rw[W.stk] at fl2;refine wpAny_looks_onW (by rw[I.ok.frames,W.stk]) W.fr fl2 λh4 held up4=> ?_;refine wpAny_landsW held λh5 fl5 up5=> ?_;have u5:=F.un.flown fl1.2.2.1 (up4.trans up5) fl5.1 kp th;obtain⟨hn,J5,_⟩:=J0.landed (g':=g2) (d':=d2) (t':=t2) W u5 (by rw[W.stk];exact fl5) hok th F.bare;refine wpAny_handleBy_cons (codeAny_handlers_test ?_) (by intro q;cases q);refine vA (X:=X.suite ea) (J5.suite ea) hg hm ?_ hd;have LT:PySem.W.Looks (model X.prog X.w) h5 (typeOf (.ref ea)) cls:=by
   obtain⟨ob,e1,e2⟩:=fl5.there;exact e2 ▸ (PySem.W.Looks.ld e1).andThen .now
  refine PySem.W.Looks.here (s:={s1 with heap:=h5,gens:=g2,drawn:=d2,toks:=t2}) (PySem.W.exm_one J5.kIn LT q1) ?_;show codeAny _ _ _ _ _;refine codeAny_handlers_suite ?_;refine lands_againW fl5 λh6 fl6 up6=> ?_;have u6:=F.un.flown fl1.2.2.1 ((up4.trans up5).trans up6) fl6.1 kp th;obtain⟨_,_,J6⟩:=J0.landed (g':=g2) (d':=d2) (t':=t2) W u6 (by rw[W.stk];exact fl6) hok th F.bare;refine wpAny_mono (hs ea pins _ _ _ _ (J6.suite ea) (q2 ea hn)) (λf s8 hf=> ?_) (λ_ _ z=>z.elim);cases f with
  |next=>
   obtain⟨σ8,H8,J8,q8⟩:=hf;exact⟨_,_,J8.unsuite J5.ok,q8⟩
  |brk=>
   obtain⟨σ8,H8,J8,q8⟩:=hf;exact⟨_,_,J8.unsuite J5.ok,q8⟩
  |cont=>
   obtain⟨σ8,H8,J8,q8⟩:=hf;exact⟨_,_,J8.unsuite J5.ok,q8⟩
  |ret u=>
   obtain⟨v,σ8,H8,J8,r8,q8⟩:=hf;exact⟨v,_,_,J8.unsuite J5.ok,r8,q8⟩
 cases f with
 |next=>
  obtain⟨σ8,H8,J8,q8⟩:=hf;exact wpAny_execs_nil ⟨σ8,H8,J8.unother,q8⟩
 |brk=>
  obtain⟨σ8,H8,J8,q8⟩:=hf;exact⟨σ8,H8,J8.unother,q8⟩
 |cont=>
  obtain⟨σ8,H8,J8,q8⟩:=hf;exact⟨σ8,H8,J8.unother,q8⟩
 |ret u=>
  obtain⟨v,σ8,H8,J8,r8,q8⟩:=hf;exact⟨v,σ8,H8,J8.unother,r8,q8⟩
end
theorem zk3{T name id:String}{r:V->List V->Hp->VK->Prop}{o e:Expr}{to:TE}{t:TA}{apos cpos:Pos}(hK:X.K=K)(pa:PlainAttrs T)(slot:Slot T name id)(hty:typeOf (.builtin id)=pure (.type "method_descriptor"))(hm:MtR X id r)(ho:PE X o to)(ha:PA X (e::es) t)
  (hbase:attributeBase o name X.env (eval o X.env)=eval o X.env:=by rfl)
  (hfew:((backTo cpos (starEach (e::es) X.env)).all (λx=> !x.1) && (backToKw cpos (keywordEach [] X.env)).all (λx=>x.1.isSome)
   && decide ((e::es).length+([]:List Keyword).length+(if ([]:List Keyword).isEmpty then 0 else 1)<30))=true:=by rfl)
  (hline:(apos.endLine==cpos.line)=true:=by rfl) (hs:starEach (e::es) X.env=(false,eval e X.env)::starEach es X.env:=by rfl) (hplain:(backTo cpos (starEach es X.env)).any (·.1)=false:=by rfl):
  PE X (.Call (.Attribute o name apos) (e::es) [] cpos) (tBM K T r to t):=by
 subst hK;exact yU pa slot hty hm ho ha hbase hfew hline hs hplain
end L2
namespace L2.Sx
open PySem PySem.Spec PyProof.Rows
def dd(ks:List (List Nat))(k:List Nat):List (List Nat):=if k∈ks then ks else ks++ [k]
def metOf(val:Nat->List Nat)(i:Nat):List (List Nat):=((List.range i).map val).foldl dd []
theorem met_succ(val:Nat->List Nat)(i:Nat):metOf val (i+1)=dd (metOf val i) (val i):=by
 unfold metOf;rw[List.range_succ,Jd,List.foldl_append];rfl
theorem met_len(val:Nat->List Nat): ∀i,(metOf val i).length<=i
 |0=>Je _
 |i+1=>by
  have:=met_len val i;rw[met_succ];unfold dd;split
  ·omega
  ·rw[Jj,List.length_singleton];omega
def uu(ks:List (List Nat)):Str->Bool:=λx=>decide (x.cps.toList∈ks)
theorem zmb{ks:List (List Nat)}{k:List Nat}(x:Str):uu (dd ks k) x=(uu ks x||decide (x=SL k)):=by
 unfold uu dd;rw[Bool.eq_iff_iff];simp only[decide_eq_true_eq,Bool.or_eq_true];have e:x=SL k↔x.cps.toList=k:=⟨λh=>by rw[h];rfl,λh=>by rw[vG x,h]⟩
 rw[e];split
 ·rename_i n;exact⟨.inl,λh=>h.elim id λe=>e ▸ n⟩
 ·rw[Jr,Jm]
section
variable {prog:Program} {w:World} {A:Around} {R:Result->Shared->Prop} {I:Addr} {fp wr:List Addr} {G:Array GenState->Array GenState->Prop} {n:Nat} {P:Nat->Value->Prop} {St:Nat->Shared->Prop}
def SI(prog:Program)(w:World)(a:Addr)(ks:List (List Nat))(h:Heap):Prop:=h.SetOf (strKind prog w) a (uu ks) ks.length
theorem SI.at{a:Addr}{ks:List (List Nat)}{h h':Heap}(x:SI prog w a ks h)(e: ∀o,h.get? a=some o->h'.get? a=some o):SI prog w a ks h':=by
 obtain⟨o,es,ep,t,ho,r⟩:=x;exact⟨o,es,ep,t,e _ ho,r⟩
theorem zj0(W:WalksS prog w A.in1 I fp wr G n P St)(S:Addr)(hSf:S∉fp)(val:Nat->List Nat)(hval: ∀i v,P i v-> ∃t,v= .str (SL (val i)) t)(hb:n+1<scanBound):
  ∀(k i:Nat) (s:Shared),n - i=k->i<=n->St i s->SI prog w S (metOf val i) s.heap->(∀s',Moved (S::wr) G s s'->SI prog w S (metOf val n) s'.heap->R (.ok (.ret .none)) s')->
   codeAny (model prog w) A (.builtin "set.update.loop" ⟨[.ref S, .ref I], []⟩) R s:=by
 have nw:S∉wr:=λh=>hSf (W.sub _ h);have sub: ∀b∈wr,b∈S::wr:=λb hb=>Jl _ hb;intro k;induction k with
 |zero=>
  intro i s hk hi hst hS hR;obtain rfl:i=n:=by omega
  refine codeAny_builtin PyProof.Rows.F.entry_set_update_loop ?_;rw[Around.under_plainId PyProof.Rows.F.plain_set_update_loop _];show wpAny _ A.in1 (pyNext (.ref I)>>=_) _ _ s;exact JR (W.done s _ _ hst λs' hm=>JS (hR s' (hm.mono sub) (hS.at λo e=>hm.heap S o nw e)))
 |succ k ih=>
  intro i s hk hi hst hS hR;have hlt:i<n:=by omega
  refine codeAny_builtin PyProof.Rows.F.entry_set_update_loop ?_;rw[Around.under_plainId PyProof.Rows.F.plain_set_update_loop _];show wpAny _ A.in1 (pyNext (.ref I)>>=_) _ _ s;refine JR (W.item i s _ _ hlt hst λv s' hP hst' hm=> ?_);obtain⟨t,rfl⟩:=hval i v hP;have hS':=hS.at λo e=>hm.heap S o nw e;show wpAny _ A.in1 (holding [Value.str (SL (val i)) t] (setAdd S (.str (SL (val i)) t))>>=_) _ _ s';refine JR (wpAny_holding ?_);unfold setAdd;refine wpAny_holding (JR ((strKind prog w).pyHash (k:=SL (val i)) (strKind_is _ _ _ _) ?_));have ml:=met_len val i;refine wpAny_setAddHashed_of (knd:=strKind prog w) (s:={s' with toks:=s'.toks+1}) (strKind_is _ _ _ _) rfl hS' 'o' λh' sb s2=> ?_;have si:SI prog w S (metOf val (i+1)) h':=by
   refine SetOf_congr s2 (λx=> ?_) ?_
   ·rw[met_succ,zmb]
   ·rw[met_succ];unfold dd uu;rw[show (SL (val i)).cps.toList=val i from rfl];by_cases z:val i∈metOf val i
    ·rw[Jg z,Jg (JL z)]
    ·rw[Jf z,Jf (λh=>z (of_decide_eq_true h)),Jj];rfl
  refine JS ⟨plainId_quiet PyProof.Rows.F.plain_set_update_loop _,ih (i+1) _ 'o' hlt (W.frame _ s' _ _ hst' (Nat.le_succ _) λb hb o e=> ?_) si λs'' hm'' hS''=> ?_⟩
  ·rw[sb.2 b (λh:b=S=>hSf (by rw[<-h];exact hb))];exact e
  ·refine hR s'' (Moved.trans W.gtrans ((hm.mono sub).then_heap (Nat.le_succ _) λb o hb e=> ?_) hm'') hS'';rw[sb.2 b (λh:b=S=>hb (by rw[h];exact Jq))];exact e
end
section
variable {prog:Program} {w:World} {A:Around} {E:Value->Shared->Prop} {s:Shared}
theorem set_list{l:Addr}{its:Array Value}{val:Nat->List Nat}{Q:Value->Shared->Prop}(hh:A.handled=none)(hl:s.heap.IsList l its)(hval: ∀(i:Nat) (v:Value),its[i]? =some v-> ∃t,v= .str (SL (val i)) t)(hb:its.size+1<scanBound)
  (h: ∀(h':Heap) (tk:Nat),SI prog w s.heap.objs.size (metOf val its.size) h'->(∀b o,b<s.heap.objs.size->s.heap.get? b=some o->h'.get? b=some o)->Q (.ref s.heap.objs.size) {s with heap:=h',toks:=tk}):
  wpAny (model prog w) A (call (.type "set") [.ref l]) Q E s:=by
 obtain⟨c,tl,hmro⟩:=PySem.F.called_set.mro;have hmade:=PySem.F.called_set.made;have hsub:=PySem.F.called_set.sub;refine wpAny_call (codeAny_of_tree ?_);show wpAny _ _ (callAny (.type "set") _) _ _ _;refine JS ⟨Code.quiet_builtin _ (by decide+kernel),codeAny_builtin PySem.F.entry_type_call ?_⟩;rw[Around.under_plain (weight_type_call_type "set" [.ref l] []) rfl];have h1:=PySem.F.called_set.notType;have h2:=PySem.F.called_set.canCreate;have hct:=PySem.F.typeCall_set_1 (.ref l);repeat (any_goals (first|assumption|wp_step))
 refine codeAny_mono (code_set_new_1 (.ref l) (E:=E) (Q₁:=λv s₁=>v= .ref s.heap.objs.size/\ ∃led:Bool,s₁={s with heap:=s.heap.push {cls:= .type "set",dict:=none,data:= .set #[] 0 (.fresh 0 0 led)} }) λled=>⟨rfl,led,rfl⟩) λr s₁ hr=> ?_;cases r with
 |error e=>exact hr
 |ok fl=>
  cases fl with
  |ret obj=>
   obtain⟨e1,led,e2⟩:=hr;obtain⟨o0,ho0⟩: ∃o0:Obj,o0={cls:= .type "set",dict:=none,data:= .set #[] 0 (.fresh 0 0 led)}:=⟨_,rfl⟩
   rw[<-ho0] at e2;subst e1 e2;have hS:(s.heap.push o0).get? s.heap.objs.size=some {cls:= .type "set",dict:=none,data:= .set #[] 0 (.fresh 0 0 led)}:=by rw[ho0];exact JV _ rfl
   have hT:Shared.TypeIs {s with heap:=s.heap.push o0} (.ref s.heap.objs.size) "set":=⟨_,hS,rfl⟩
   have hli:=PySem.F.called_set.init.lookup;have hbi:=PySem.F.called_set.init.bind (.ref s.heap.objs.size);repeat (any_goals (first|assumption|wp_step))
   refine codeAny_mono (codeAny_call_builtin (R:=wants (λr s₂=>r= .none/\ ∃h' tk,s₂={s with heap:=h',toks:=tk}/\SI prog w s.heap.objs.size (metOf val its.size) h'/\(∀b o,b<s.heap.objs.size->s.heap.get? b=some o->h'.get? b=some o)) E) PySem.F.called_set.init.plain PySem.F.entry_set_init (PySem.check_set_init_1 hT ?_)) λr₂ s₂ hr₂=> ?_
   ·obtain⟨ol,hol,hcl,nl,hdl⟩:=hl;obtain⟨ocls,odict,odata,oslots⟩:=ol;simp only at hcl hdl;subst hcl hdl;have hol':(s.heap.push o0).get? l=some {cls:= .type "list",dict:=odict,data:= .seq its nl,slots:=oslots}:=JT _ hol;have hsls:=PySem.F.sub_list_set;have hslf:=PySem.F.sub_list_frozenset;have hne:(Value.type "list"==Value.type "dict")=false:=by decide
    have hl1:(s.heap.push o0).IsList l its:=⟨_,hol',rfl,nl,rfl⟩
    unfold Builtin.«set.__init__» noKeywords Builtin.Frozenset.updateFrom;generalize hPI:pyIter=PI;wp_walk
    subst hPI;refine wpAny_pyIter_list hl1 (JR (wpAny_runValue ?_));have hlS:l<s.heap.objs.size:=JU hol;have hh3:A.in1.in1.in1.handled=none:=by simp [hh]
    have zp:(s.heap.push o0).objs.size=s.heap.objs.size+1:=Heap.size_push ..;have nI:l≠(s.heap.push o0).objs.size:=λq=>by rw[zp] at q;exact absurd q (JH (Nat.lt_succ_of_lt hlS))
    have nS:s.heap.objs.size∉ [(s.heap.push o0).objs.size,l]:=by
     rw[zp];simp only[JC,List.not_mem_nil,or_false,not_or];exact⟨JH (Nat.lt_succ_self _),Nat.ne_of_gt hlS⟩
    refine zj0 ((Walks.list hh3 _ l nI its).toS) s.heap.objs.size nS val hval hb (its.size - 0) 0 _ 'o' (Jv _) ⟨⟨_,JV _ rfl,rfl,rfl⟩,hl1.push _⟩ ?hS0 ?hR
    case hS0=>
     exact SetOf_congr ((setObjOf_fresh (knd:=strKind prog w) led).setOf (JT _ hS) (by unfold scanBound;omega)) (λ_=>rfl) rfl
    case hR=>
     intro s' hm hS';obtain⟨h',g',d',tk',os'⟩:=s';have eg:g'=s.gens:=hm.gens;have ed:d'=s.drawn:=hm.drawn;have eo:os'=s.os:=hm.os;subst eg ed eo;show wpAny _ _ _ _ _ _;refine JS ?_;show wpAny _ _ (ret Value.none) _ _ _;refine JS ⟨rfl,h',tk',rfl,hS',λb o hb e=> ?_⟩;refine hm.heap b o ?_ (JT _ (JT _ e));rw[zp];simp only[JC,List.not_mem_nil,or_false,not_or];exact⟨JH hb,JH (Nat.lt_succ_of_lt hb)⟩
   ·cases r₂ with
    |error e=>exact hr₂
    |ok fl₂=>
     cases fl₂ with
     |ret r=>
      obtain⟨rfl,h',tk,rfl,hS',hk'⟩:=hr₂;repeat (any_goals (first|assumption|wp_step))
      exact h _ _ hS' hk'
     |_=>exact hr₂.elim
  |_=>exact hr.elim
end
end L2.Sx
namespace L2
open PySem PySem.Spec PyProof.Rows
variable{env:Env}{outer:List Env}
theorem zk4:bootBuiltins "set"=some (.type "set"):=by decide+kernel
def kB(P:Program)(w:World)(q:Addr)(ks:List (List Nat)):HO:= .ext (Sx.SI P w q ks)
def kC(ws:List (List Nat)):Nat:=(Sx.metOf (λi=>ws.getD i []) ws.length).length
theorem zih(val:Nat->List Nat): ∀(i:Nat) (k:List Nat),k∈Sx.metOf val i↔ ∃j,j<i/\val j=k
 |0,k=>⟨λh=>absurd h List.not_mem_nil,λ⟨j,h,_⟩=>absurd h (Nat.not_lt_zero _)⟩
 |i+1,k=>by
  have e:k∈Sx.dd (Sx.metOf val i) (val i)↔k∈Sx.metOf val i\/k=val i:=by
   unfold Sx.dd;split
   ·rename_i n;exact⟨.inl,λh=>h.elim id λe=>e ▸ n⟩
   ·rw[Jr,Jm]
  rw[Sx.met_succ,e,zih val i k];refine⟨λh=> ?_,λ⟨j,h,q⟩=> ?_⟩
  ·rcases h with⟨j,h,q⟩|q
   ·exact⟨j,'o',q⟩
   ·exact⟨i,'o',q.symm⟩
  ·by_cases z:j=i
   ·rw[z] at q;exact .inr q.symm
   ·exact .inl ⟨j,'o',q⟩
theorem zho(val:Nat->List Nat): ∀i,(Sx.metOf val i).length=i↔ ∀a b,a<b->b<i->val a≠val b
 |0=>⟨λ_ a b _ h=>absurd h (Nat.not_lt_zero _),λ_=>rfl⟩
 |i+1=>by
  have ih:=zho val i;have ml:=Sx.met_len val i;have mh:=zih val i (val i);rw[Sx.met_succ];unfold Sx.dd;split
  ·rename_i n;obtain⟨j,hj,e⟩:=mh.mp n;exact⟨λh=>by omega,λh=>absurd e (h j i hj 'o')⟩
  ·rename_i n;rw[Jj,List.length_singleton];refine⟨λh a b ab bi=> ?_,λh=> ?_⟩
   ·by_cases z:b=i
    ·rw[z];exact λq=>n (mh.mpr ⟨a,'o',q⟩)
    ·exact ih.mp 'o' a b ab 'o'
   ·rw[ih.mpr λa b ab bi=>h a b ab 'o']
theorem zme(ws:List (List Nat)):kC ws<ws.length↔ ¬ws.Nodup:=by
 have ml:=Sx.met_len (λi=>ws.getD i []) ws.length;have mf:=zho (λi=>ws.getD i []) ws.length;have e:(∀a b,a<b->b<ws.length->ws.getD a []≠ws.getD b [])↔ws.Nodup:=by
  refine(Iff.trans ?_ List.pairwise_iff_getElem.symm);refine⟨λh a b ha hb ab=> ?_,λh a b ab hb=> ?_⟩
  ·have:=h a b ab hb;rwa[Jo,Jo,Jb ha,Jb hb] at this
  ·have ha:a<ws.length:=by omega
   rw[Jo,Jo,Jb ha,Jb hb];exact h a b ha hb ab
 rw[<-e,<-mf];unfold kC;omega
theorem zi1{X:Cx}(hc:X.calm=true):ql X (.type "set") (λxs H Q=> ∃(p:Addr) (ws:List (List Nat)),xs= [.ref p]/\SqL X.K H p (ws.map λw=>V.str (SL w))/\ws.length<=1000/\ ∀q H',H q=none->zq H H'->H' q=some (kB X.prog X.w q (Sx.metOf (λi=>ws.getD i []) ws.length))->Q (.ref q) H'):=by
 intro pins s σ H xs us Q I r h;obtain⟨p,ws,rfl,hq,hz,q⟩:=h;obtain⟨u,rfl,ru⟩:=qK r;obtain rfl:u=Value.ref p:=ru;obtain⟨its,rv,pl,_⟩:=I.list hq;have hl:ws.length=its.length:=by rw[<-rv.length,Ja]
 refine Sx.set_list (val:=λi=>ws.getD i []) (I.ok.hd hc) pl.isList (λi v hv=> ?_) (by rw[Jn,<-hl];unfold scanBound;omega) λh' tk si k=> ?_
 ·have hi:i<ws.length:=by
   rw[hl];simpa using (Array.getElem?_eq_some_iff.mp hv).1
  obtain⟨u,hu,t,rfl⟩:=rv.get (i:=i) (x:= .str (SL ws[i])) (by rw[Jh,Jb hi];rfl);rw[<-JF] at hv;rw[show its.toArray.toList=its from rfl,hu] at hv;cases hv;exact⟨t,by rw[Jo,Jb hi];rfl⟩
 have hf:H s.heap.objs.size=none:=I.hok.fresh (Je _);rw[show its.toArray.size=ws.length by rw[Jn,hl]] at si;refine⟨.ref s.heap.objs.size,upd H s.heap.objs.size (kB X.prog X.w s.heap.objs.size _),I.laid (t':=tk) (λb u e=>k b u (JU e) e) (Je _) ⟨si,?_,λh1 h2 a b=>a.at b⟩,rfl,q _ _ hf (xo hf _) zP⟩;obtain⟨o,es,ep,t,ho,_⟩:=si;exact⟨_,ho⟩
theorem zi2{X:Cx}:ql X (.builtin "len") (λxs H Q=> ∃(p:Addr) (ks:List (List Nat)),xs= [.ref p]/\H p=some (kB X.prog X.w p ks)/\Q (.int (ks.length:Int)) H):=by
 intro pins s σ H xs us Q I r h;obtain⟨p,ks,rfl,hp,q⟩:=h;obtain⟨u,rfl,ru⟩:=qK r;obtain rfl:u=Value.ref p:=ru;have si:Sx.SI X.prog X.w p ks s.heap:=(I.hok _ _ hp).1;obtain⟨o,es,ep,t,ho,ex,hd,_,_,hb,hf,hn⟩:=si;refine call_len_set ho ex hd hf (by unfold scanBound at hb;omega) ⟨.int _,H,I.tok _,⟨_,rfl⟩,?_⟩;rw[hn];exact q
section
variable {prog:Program} {w:World} {A:Around} {R:Result->Shared->Prop} {s:Shared}
theorem zgW{elt target iter:Expr}{ifs:List Expr}{scope:Scope}{pos:Pos}{it acc:Value}{env:Env}(I:Nat->Shared->Prop)
  (turn: ∀n s,I n s->wpAny (model prog w) A (pyNext it) (λr s₁=>match r with
   |none=>R (.ok .next) s₁
   |some v=>wpAny (model prog w) A (letOwnedTupleGo target it v) (λ_ s₁'=>wpAny (model prog w) A (assign target env v) (λ_ s₂=>
     wpAny (model prog w) A (forIn ifs true λc r=>if r=true then do let ok<-isTrue c env (eval c env);pure (ForInStep.yield ok) else pure (ForInStep.yield r)) (λok s₃=>
      if ok=true then wpAny (model prog w) A (eval elt env) (λx s₄=>
       wpAny (model prog w) A (call (.builtin "list.append") [acc,x]) (λ_ s₅=> ∃m,m<n/\I m s₅) NoE s₄) (notedBy (model prog w) A env λx s'=>R (.error x) s') s₃
      else∃m,m<n/\I m s₃) NoE s₂) NoE s₁') NoE s₁) NoE s)
  (n:Nat) (h:I n s):
  codeAny (model prog w) A (.compLoop (.ListComp elt [⟨target,iter,ifs,0⟩] scope pos) 0 it acc env) R s:=by
 refine codeAny_loop rfl I (λn s hI=> ?_) n h;show wpAny _ A ((compTurn (.ListComp elt [⟨target,iter,ifs,0⟩] scope pos) 0 it acc env).onRaise (λx=>do noteFrame x env;theTreesLotGoes x)) _ _ s;refine wpAny_noted ?_;rw[compTurn_list];refine JR (wpAny_standAt (JR (wpAny_mono (turn n s hI) (λr s₁ h₁=> ?_) λ_ _ h'=>h'.elim)));cases r with
 |none=>exact JS h₁
 |some v=>
  refine JR (wpAny_mono h₁ (λ_ s₁' h₁'=> ?_) λ_ _ h'=>h'.elim);refine JR (wpAny_mono h₁' (λ_ s₂ h₂=>JR (wpAny_mono h₂ (λok s₃ h₃=> ?_) λ_ _ h'=>h'.elim)) λ_ _ h'=>h'.elim);cases ok with
  |false=>exact JS ⟨rfl,h₃⟩
  |true=>
   exact JR (JR (wpAny_mono h₃ (λx s₄ h₄=>JR (wpAny_mono h₄ (λ_ s₅ h₅=>JS (JS ⟨rfl,h₅⟩)) λ_ _ h'=>h'.elim)) λ_ _ h'=>h'))
end
section
variable {M:Model} {A:Around} {E:Value->Shared->Prop} {s:Shared}
theorem zhT{base:Heap}{L e:Addr}{cls a0 fl:Value}{Q:Unit->Shared->Prop}(hfr:A.frames=some (env::outer))(hf:env.frame=some L)
  (b1:base.StaysIn s.heap) (b2:base.get? e=none) (b3:s.heap.FunFrames base (env::outer)) (b4:s.heap.TracedAtW base e cls a0 fl)
  (hQ: ∀h',Heap.FlyingW base outer e cls a0 h'->s.heap.UpToSlots h'->Q () {s with heap:=h'}):wpAny M A (leaving env (.ref e)) Q E s:=by
 cases hz:(fl==rawInt L) with
 |true=>
  obtain rfl:fl=rawInt L:=eq_of_beq hz;unfold leaving;refine JR (wpAny_noteFrame_againW hf b4 (wpAny_landsW ⟨b1,b2,b3,b4⟩ λh' z up=> ?_));obtain⟨k1,k2,⟨_,_,k3⟩,k4⟩:=z;exact hQ h' ⟨k1,k2,k3,k4⟩ up
 |false=>
  obtain⟨oe,vs,T,oT,ts,he,⟨hcls,h0⟩,hd,h1,nT,Te,hT,dT,h3⟩:=b4;subst hcls;unfold leaving noteFrame;simp only[hf];refine JR (JR (wpAny_field he hd h1 ?_));rw[Jg (by simp)];refine JR (wpAny_field hT dT h3 ?_);rw[Jf (by rw[hz];decide)];refine JR (wpAny_setField hT dT (Array.getElem?_eq_some_iff.mp h3).1 ?_);obtain⟨h9,e9⟩: ∃h9,h9=s.heap.update T (Obj.mapFields (·.setIfInBounds 3 Value.none)):=⟨_,rfl⟩
  rw[<-e9];have oth: ∀b,b≠T->h9.get? b=s.heap.get? b:=λb hb=>by rw[e9];exact JW _ _ (Ne.symm hb)
  have nr: ∀b o,s.heap.get? b=some o->(∀vs,o.data≠ .fields vs)->b≠T:=λb o hb hn q=>by
   rw[q,hT] at hb;cases hb;exact hn ts dT
  refine wpAny_newEntryW (s:={s with heap:=h9}) hfr (b3.of_keeps λb o hb hn=>⟨o,(oth b (nr b o hb hn)).trans hb,rfl⟩) hf ((oth e (Ne.symm Te)).trans he)
   (λb o hbo=>(oth b λq=>by rw[q,nT] at hbo;cases hbo).trans (b1 b o hbo)) b2 hd (Array.getElem?_eq_some_iff.mp h1).1 h0 λh' z=> ?_
  obtain⟨x1,⟨_,_,x2⟩,x3,x4⟩:=z;exact hQ h' ⟨x1,b2,x2,x3⟩ λb o hb hn=>x4 b o ((oth b (nr b o hb hn)).trans hb) hn
end
structure FlyC (P:Program) (w:World) (l:List Env) (H:Hp) (s:Shared) (C ea:Addr) (cls:Value) (H':Hp) (s':Shared):Prop where
 os:s'.os=s.os
 bare:AllBare s'.gens
 un:Un (frs l) [C] H H' s.heap s'.heap
 ex: ∃B a0 fl,B.StaysIn s'.heap/\B.get? ea=none/\s'.heap.FunFrames B l/\s'.heap.TracedAtW B ea cls a0 fl/\HOk P w H' B/\(∀b o,b≠C->s.heap.get? b=some o->H b=none->b∉frs l->B.get? b=some o)/\
  ∀b o,b≠C->s.heap.get? b=some o->b∉frs l-> ∃o',B.get? b=some o'
structure LvC (X:Cx) (Ek:St->XK):Prop where
 go: ∀pins σ C ea cls H H' s s',Inv X pins σ H s->X.s₀.heap.objs.size<=C->FlyC X.prog X.w X.stack H s C ea cls H' s'->Ek σ cls none H'->X.xe (.ref ea) s'
section
variable {X:Cx} {pins:List (Addr×Obj)} {σ:St} {H H':Hp} {s s':Shared} {ea C:Addr} {cls:Value} {M:Model} {E:Value->Shared->Prop} {Q:Unit->Shared->Prop}
theorem zk5(W:X.Own)(I:Inv X pins σ H s)(hC:X.s₀.heap.objs.size<=C)(F:FlyC X.prog X.w X.stack H s C ea cls H' s')
  (hQ: ∀h',Fly X.prog X.w X.outer X.H₀ X.s₀ ea cls H' {s' with heap:=h'}->Q () {s' with heap:=h'}):wpAny M X.A (leaving X.env (.ref ea)) Q E s':=by
 obtain⟨B,a0,fl,b1,b2,b3,b4,hok,kp,th⟩:=F.ex;have b3':=b3;rw[W.stk] at b3';refine zhT (by rw[I.ok.frames,W.stk]) W.fr b1 b2 b3' b4 λh' z up=>hQ h' ?_;have old: ∀b o,X.s₀.heap.get? b=some o->b≠C:=λb o e z=>absurd (JU e) (Nat.not_lt.mpr (z ▸ hC));have nst: ∀b o,X.s₀.heap.get? b=some o->b∉frs X.outer->b∉frs X.stack:=λb o e hb z=>by
  rcases JC.mp (I.stkSub b z) with q|q
  ·exact absurd q (JH (Jx (JU e) I.ok.above))
  ·exact hb q
 have nx: ∀b,b∉X.ex:=λb=>by rw[W.ex];exact List.not_mem_nil
 have nc: ∀b o,X.s₀.heap.get? b=some o->b∉ [C]:=λb o e z=>old b o e (Jm.mp z);have inS: ∀b,b∈frs X.outer->b∈frs X.stack:=λb hb=>by
  rw[W.stk];obtain⟨env,he,hf⟩:=List.mem_filterMap.mp hb;exact List.mem_filterMap.mpr ⟨env,Jl _ he,hf⟩
 have kpo: ∀b o,X.s₀.heap.get? b=some o->X.H₀ b=none->b∉frs X.outer->B.get? b=some o:=λb o e n hb=>
  kp b o (old b o e) (I.base.keep b o e n hb (nx b)) (I.base.free b o e n (nx b)) (nst b o e hb)
 refine⟨F.os.trans I.os,F.bare,⟨λb o e n hb _=>z.1 b o (kpo b o e n hb),λb o e n hb _=> ?_,λb o e n _=> ?_,λb o e _=> ?_,λb xs e=>F.un.tups b xs (I.base.tups b xs e),λb o xs e=>F.un.frzs b o xs (I.base.frzs b o xs e),λb ps e=> ?_⟩,
  B,a0,z,hok,kpo,λb o e hb=> ?_⟩
 ·obtain⟨sl,e1⟩:=I.base.slot b o e n hb (nx b);obtain⟨sl2,e2⟩:=F.un.any e1 (I.base.free b o e n (nx b)) (nc b o e);obtain⟨_,o',ho',hnf⟩:=b3.mem (inS b hb);rw[e2] at ho';cases ho';obtain⟨sl3,e3⟩:=up b _ e2 hnf;exact⟨sl3,e3⟩
 ·obtain⟨o',e1⟩:=I.base.there b o e (nx b);exact F.un.free b o' e1 (I.base.free b o e n (nx b)) (nc b o e)
 ·obtain⟨o1,e1⟩:=I.base.there b o e (nx b);by_cases hb:b∈frs X.stack
  ·obtain⟨_,o',ho',hnf⟩:=b3.mem hb;obtain⟨sl3,e3⟩:=up b _ ho' hnf;exact⟨_,e3⟩
  ·obtain⟨o2,e2⟩:=th b o1 (old b o e) e1 hb;exact⟨o2,z.1 b o2 e2⟩
 ·obtain⟨m1,e1⟩:=I.base.tbls b ps e;obtain⟨m2,e2⟩:=F.un.tbls b _ e1;exact⟨m1++m2,by rw[e2,Array.append_assoc]⟩
 ·obtain⟨o1,e1⟩:=I.base.there b o e (nx b);exact th b o1 (old b o e) e1 (nst b o e hb)
end
theorem zk6{P:Program}{w:World}{K:Fg}{mg:Str->Option Value}{base:Heap}{N:List Str}{qual:Str}{scope:Scope}{f:Addr}{cd:Value}{A:Around}{outer:List Env}{s:Shared}{H:Hp}{E:XK}:
  LvC (qt (CXE P w) P w K mg base N qual scope f cd A outer s H E) (λ_=>E):=by
 have W:(qt (CXE P w) P w K mg base N qual scope f cd A outer s H E).Own:=⟨rfl,rfl,rfl⟩
 exact⟨λpins σ C ea cls H1 H' s1 s' I hC F q=>zk5 W I hC F λh' F=>⟨ea,cls,H',rfl,F,q⟩⟩
theorem zef{h h' B B':Heap}: ∀{l:List Env},h.FunFrames B l->(∀b,B.get? b=none->B'.get? b=none)->(∀b o,b∈frs l->h.get? b=some o->(∀vs,o.data≠ .fields vs)->h'.get? b=some o)->h'.FunFrames B' l
 | [],_,_,_=>trivial
 |env::r,⟨x1,⟨L,o,x2,x3,x4,x5⟩,x6⟩,n,k=>⟨x1,⟨L,o,x2,n L x3,k L o (List.mem_filterMap.mpr ⟨env,Jq,x2⟩) x4 x5,x5⟩,zef x6 n λb o hb=>k b o (by
   obtain⟨e,he,hf⟩:=List.mem_filterMap.mp hb;exact List.mem_filterMap.mpr ⟨e,Jl _ he,hf⟩)⟩
theorem Fly.comp{P:Program}{w:World}{env:Env}{outer:List Env}{L:Addr}{H H':Hp}{s s2:Shared}{C ea:Addr}{cls:Value}{M:Model}{A:Around}{E E':Value->Shared->Prop}{m:Str->Option Value}
  (hfr:A.frames=some (env::outer)) (hf:env.frame=some L) (F:Fly P w (env::outer) H s ea cls H' s2) (hn:s.heap.Ns C m) (nC:H C=none) (fC:C∉frs (env::outer))
  (hE: ∀s',FlyC P w (env::outer) H s C ea cls H' s'->E (.ref ea) s'):
  wpAny M A (noteFrame (.ref ea) env) (λ_ s'=> ∃m,s'.heap.Ns C m/\ ∀h',Heap.SameBut C s'.heap h'-> ∀cenv:Env,cenv.locals=C->wpAny M A (passOn "comprehension.variables-let-go" (.ref ea) cenv:Sem Value) (λ_ _=>False) E {s' with heap:=h'}) E' s2:=by
 obtain⟨B,a0,fl,hok,kp,th⟩:=F.ex;obtain⟨oC,esC,epC,hoC,hdC,rC⟩:=id hn;have cB:B.get? C=some oC:=kp C oC hoC nC fC;refine wpAny_looks_onW hfr hf fl λh4 held up4=> ?_;have c2:s2.heap.get? C=some oC:=fl.1 C oC cB;obtain⟨sl,c4⟩:=up4 C oC c2 λvs q=>by rw[hdC] at q;cases q
 obtain⟨g1,g2,g3,g4⟩:=held;have c4':=g1 C oC cB;refine⟨m,⟨oC,esC,epC,c4',hdC,rC⟩,λh' sb cenv _=> ?_⟩;obtain⟨oe,vs,T,oT,ts,he,hc,hd,h1,nT,Te,hT,dT,h3⟩:=g4;have eC:ea≠C:=λz=>by rw[z,cB] at g2;cases g2
 have TC:T≠C:=λz=>by rw[z,cB] at nT;cases nT
 have he':h'.get? ea=some oe:=(sb.2 ea eC).trans he;have hT':h'.get? T=some oT:=(sb.2 T TC).trans hT;have sz3:3<ts.size:=(Array.getElem?_eq_some_iff.mp h3).1;unfold PySem.passOn;refine JR (wpAny_field he' hd h1 ?_);rw[Jf (by simp)];refine JR ?_;unfold setFlight;refine JR (wpAny_field he' hd h1 ?_);rw[Jg (by simp)];refine wpAny_setField hT' dT sz3 (wpAny_throw (hE _ ?_));obtain⟨h9,e9⟩: ∃h9,h9=h'.update T (Obj.mapFields (·.setIfInBounds 3 (cenv.frame.elim Value.none λf=>rawInt f))):=⟨_,rfl⟩
 rw[<-e9];have oth: ∀b,b≠T->h9.get? b=h'.get? b:=λb hb=>by rw[e9];exact JW _ _ (Ne.symm hb)
 have t9:h9.get? T=some (Obj.mapFields (·.setIfInBounds 3 (cenv.frame.elim Value.none λf=>rawInt f)) oT):=by
  rw[e9];exact Heap.get?_update_self _ hT' (Obj.isFreed_of_fields (Obj.data_mapFields dT _))
 have nr: ∀b o,h4.get? b=some o->(∀vs,o.data≠ .fields vs)->b≠T:=λb o hb hn q=>by
  rw[q,hT] at hb;cases hb;exact hn ts dT
 have to9: ∀b o,b≠C->h4.get? b=some o->(∀vs,o.data≠ .fields vs)->h9.get? b=some o:=λb o bC hb hn=>(oth b (nr b o hb hn)).trans ((sb.2 b bC).trans hb);obtain⟨B',eB⟩: ∃B',B'=PySem.W.hideAll B [C]:=⟨_,rfl⟩
 have inB: ∀b o,B'.get? b=some o->B.get? b=some o:=λb o e=>by rw[eB] at e;exact PySem.W.of_hideAll _ e
 have toB: ∀b o,b≠C->B.get? b=some o->B'.get? b=some o:=λb o bC e=>by rw[eB];exact PySem.W.hideAll_get _ e λz=>bC (Jm.mp z)
 have notC:B'.get? C=none:=by
  rw[eB];exact PySem.W.hideAll_none _ Jq
 have sB:B'.StaysIn h9:=λb o e=>by
  have e1:=inB b o e;have bC:b≠C:=λz=>by rw[z,notC] at e;cases e
  have bT:b≠T:=λz=>by rw[z,nT] at e1;cases e1
  exact(oth b bT).trans ((sb.2 b bC).trans (g1 b o e1))
 have ff:h9.FunFrames B' (env::outer):=by
  refine zef g3 (λb e=> ?_) λb o hb bo hn=>to9 b o (λz=>fC (z ▸ hb)) bo hn;cases q:B'.get? b with
  |none=>rfl
  |some o=>rw[inB b o q] at e;cases e
 refine⟨F.os,F.bare,⟨λb o e n hb bx=> ?_,λb o e n hb bx=> ?_,λb o e n bx=>F.un.free b o e n (by simp),λb o e bx=> ?_,F.un.tups,F.un.frzs,F.un.tbls⟩,B',a0,_,sB,?_,ff,⟨oe,vs,T,_,_,?_,hc,hd,h1,?_,Te,t9,Obj.data_mapFields dT _,Array.getElem?_setIfInBounds_self_of_lt sz3⟩,?_,λb o bC e n hb=>toB b o bC (kp b o e n hb),λb o bC e hb=> ?_⟩
 ·have bC:b≠C:=λz=>bx (Jm.mpr z);exact sB b o (toB b o bC (kp b o e n hb))
 ·have bC:b≠C:=λz=>bx (Jm.mpr z);obtain⟨s1,e1⟩:=F.un.slot b o e n hb (by simp);obtain⟨_,o',ho',hnf⟩:=fl.2.2.1.mem hb;rw[e1] at ho';cases ho';obtain⟨s4,e4⟩:=up4 b _ e1 hnf;exact⟨s4,to9 b _ bC e4 hnf⟩
 ·have bC:b≠C:=λz=>bx (Jm.mpr z);by_cases hb:b∈frs (env::outer)
  ·obtain⟨_,o',ho',hnf⟩:=ff.mem hb;exact⟨o',ho'⟩
  ·obtain⟨o2,e2⟩:=th b o e hb;exact⟨o2,sB b o2 (toB b o2 bC e2)⟩
 ·cases q:B'.get? ea with
  |none=>rfl
  |some o=>rw[inB _ o q] at g2;cases g2
 ·exact(oth ea (Ne.symm Te)).trans he'
 ·cases q:B'.get? T with
  |none=>rfl
  |some o=>rw[inB _ o q] at nT;cases nT
 ·rw[eB];refine λa u e=>(hok a u e).stay (λb v hc q=>PySem.W.hideAll_get _ q λz=> ?_) (λ_ q=>q) λ_ _ q=>q;have nC':=F.un.free C oC hoC nC (by simp);rw[Jm.mp z] at hc;rcases hc with rfl|hc
  ·rw[nC'] at e;cases e
  ·rw[nC'] at hc;cases hc
 ·obtain⟨o',e'⟩:=th b o e hb;exact⟨o',toB b o' bC e'⟩
section
variable {X:Cx} {tg elt iter:Expr} {ifs:List Expr} {scope:Scope} {pos:PySem.Pos} {N:List Str} {n:Nat} {js:List Nat} {g:CA->TG} {tc:CA->TT} {te:(St->XK)->CA->TE}
theorem zhU{pins:List (Addr×Obj)}{σ:St}{H₁:Hp}{s₂:Shared}{E:Value->Shared->Prop}(cap:wB X.env.scope.names X.N scope.names N n js=true)(hkind:scope.kind= .function)(hcalm:X.calm=true)
  (hg: ∀a,PG (X.comp scope N a) tg (g a)) (hc: ∀a,PIf (X.comp scope N a) ifs (tc a)) {Ek:St->XK} (he: ∀a pn xe,Lv ((X.comp scope N a).other pn xe) (λ_=>Ek σ)->PEt ((X.comp scope N a).other pn xe) elt (te (λ_=>Ek σ) a)) (tk0:0<s₂.toks)
  (I:Inv X pins σ H₁ s₂) {it:Addr} {fp:List Addr} {tn:Nat->Heap->Prop} {J:It} (T:Turn X.prog X.w X.K tg J fp it tn) (h0:tn 0 s₂.heap) (hf: ∀b∈fp,qS X pins H₁ b)
  {cl:List (Str×Addr)} (hc1: ∀x c,cl.lookup x=some c->X.env.cells.lookup x=some c) (hc2: ∀p∈scope.names,p.2=NameKind.free-> ∃c,cl.lookup p.1=some c)
  {Q:VK} (hq: ∀l,H₁ l=none-> ∀a,wC J (zH σ n js) (g a) (tc a) (te (λ_=>Ek σ) a) l Q H₁)
  {RR:Value->Addr->Result->Shared->Prop}
  (hRR: ∀l C H' s' m,Inv X pins σ H' s'->s'.heap.Ns C m->H' C=none->C≠X.env.locals->X.s₀.heap.objs.size<=C->(∀x c,X.env.cells.lookup x=some c->c≠C)->(∀p∈X.pn++pins,p.1≠C)->C∉X.fs->Q (.ref l) H'->RR (.ref l) C (.ok .next) s')
  (hRE: ∀acc C H1 s1 m ea cls H2 s2,Inv X pins σ H1 s1->s1.heap.Ns C m->H1 C=none->X.s₀.heap.objs.size<=C->C∉frs X.stack->Fly X.prog X.w X.stack H1 s1 ea cls H2 s2->Ek σ cls none H2->notedBy (model X.prog X.w) X.A X.env (λx s'=>RR acc C (.error x) s') (.ref ea) s2):
  wpAny (model X.prog X.w) X.A (newList []) (λacc s₃=>wpAny (model X.prog X.w) X.A (newFunctionEnv scope X.env.globals cl [] X.env.qual none .none (some X.env)) (λcenv s₄=>
   codeAny (model X.prog X.w) X.A (.compStart (.ListComp elt [⟨tg,iter,ifs,0⟩] scope pos) 0 (.ref it) acc {cenv with scope:=relabel scope X.env}) (RR acc cenv.locals) s₄) E s₃) E s₂:=by
 obtain⟨k1,k2,k3,k4,k5⟩:=vi cap;refine wpAny_newObj_type (wpAny_newFunctionEnv k2 (by intro y hy;simp at hy) (λh₁ hns₁ hsb₁=> ?_) hkind);dsimp only at hns₁ hsb₁ ⊢;obtain⟨s3,hs3⟩: ∃s3:Shared,s3={s₂ with heap:=s₂.heap.push {cls:= .type "list",dict:=none,data:= .seq ([]:List Value).toArray} }:=⟨_,rfl⟩
 have eh:s₂.heap.push {cls:= .type "list",dict:=none,data:= .seq ([]:List Value).toArray}=s3.heap:=by rw[hs3]
 rw[eh] at hns₁ hsb₁ ⊢;have kp3: ∀b o,s₂.heap.get? b=some o->s3.heap.get? b=some o:=λb o e=>by rw[<-eh];exact JT _ e
 have hl0:H₁ s₂.heap.objs.size=none:=I.hok.fresh (Je _);have I3:Inv X pins σ (upd H₁ s₂.heap.objs.size (.lst [])) s3:=by
  rw[hs3];exact I.laid (t':=s₂.toks) (λb u e=>JT _ e) (Je _) ⟨Jv _, [],0, .nil,JV _ rfl⟩
 have fpo: ∀b∈fp,∃o,s₂.heap.get? b=some o:=λb hb=>let ⟨o,e,_⟩:=T.obj _ _ h0 b hb;⟨o,e⟩;have fpl: ∀b∈fp,b≠s₂.heap.objs.size:=λb hb z=>let ⟨o,e⟩:=fpo b hb;Nat.lt_irrefl _ (z ▸ JU e);have hf3: ∀b∈fp,qS X pins (upd H₁ s₂.heap.objs.size (.lst [])) b:=λb hb=>⟨by rw[zT (fpl b hb)];exact(hf b hb).1,(hf b hb).2⟩
 have hlt3: ∀b∈fp,b<s3.heap.objs.size:=λb hb=>let ⟨o,e⟩:=fpo b hb;JU (kp3 b o e);have kp1: ∀b o,s3.heap.get? b=some o->h₁.get? b=some o:=λb o e=>hsb₁.extBut b o (JH (JU e)) (JT _ e);have IC:=zhe (t:=s3.toks) cap hkind I3 hc1 hc2 hf3 hlt3 hns₁ kp1;have hCl:X.env.locals<s3.heap.objs.size:=I3.lt;obtain⟨a,ha⟩: ∃a:CA,a=⟨cl,s3.heap.objs.size,s3,upd H₁ s₂.heap.objs.size (.lst []),fp⟩:=⟨_,rfl⟩
 rw[<-ha] at IC;have aC:a.C=s3.heap.objs.size:=by rw[ha]
 obtain⟨W,⟨m0,w0⟩,turn⟩:=hq _ hl0 a;have tn1:tn 0 h₁:=T.keep _ _ _ h0 λb _ o e=>kp1 b o (kp3 b o e);have stat: ∀{H':Hp},(∀b∈fp,H' b=none)-> ∀b∈fp,qS (X.comp scope N a) [] H' b:=fun {H'} hn b hb=>
  ⟨hn b hb,by show b≠a.C;rw[aC];exact JH (hlt3 b hb),λhz=>by
    rcases JC.mp (I3.stkSub b hz) with z|z
    ·exact(hf b hb).2.1 z
    ·exact(hf b hb).2.2.1 z, .inl (by show b∈a.fp;rw[ha];exact hb),λx c e=>(hf b hb).2.2.2.2.1 x c (hc1 x c (by rw[ha] at e;exact e)),λp hp=>absurd hp (by simp [Cx.comp])⟩
 have loop: ∀s4:Shared,s4={s3 with heap:=h₁,toks:=s3.toks}->
   codeAny (model X.prog X.w) X.A (.compLoop (.ListComp elt [⟨tg,iter,ifs,0⟩] scope pos) 0 (.ref it) (.ref s₂.heap.objs.size) (X.comp scope N a).env) (RR (.ref s₂.heap.objs.size) s3.heap.objs.size) s4:=by
  rintro s4 rfl;refine zgW (λk s'=>0<s'.toks/\ ∃i xs H',Inv (X.comp scope N a) [] (zH σ n js) H' s'/\tn i s'.heap/\(∀b∈fp,H' b=none)/\W i k xs H') ?_ m0 ⟨by rw[hs3];exact tk0,0, [],_,IC,tn1,λb hb=>(hf3 b hb).1,w0⟩;rintro k s5 ⟨l5,i,xs,H5,I5,t5,f5,w5⟩;obtain⟨hl5,hz5,alt⟩:=turn i k xs H5 w5;rcases alt with⟨stop,qn⟩|⟨go,step⟩
  ·refine thn (T.done (X.comp scope N a) rfl rfl rfl hcalm i [] s5 _ H5 NoE I5 (stat f5) t5 stop) λr s6 ⟨hr,I6⟩=> ?_;subst hr;obtain⟨m6,hn6,_⟩:=I6.loc;have hn6':s6.heap.Ns s3.heap.objs.size m6:=by rw[<-aC];exact hn6
   have u6:Un (frs X.stack) fp (upd H₁ s₂.heap.objs.size (.lst [])) H5 s3.heap s6.heap:=by
    have z:=I6.base;rw[ha] at z;exact z
   have os6:s6.os=s3.os:=by
    have z:=I6.os;rw[ha] at z;exact z
   have I7:Inv X pins σ H5 s6:=I3.call' os6 u6 I6.hok I6.bare λb hb=>⟨(hf b hb).2.2.2.1,(hf b hb).2.1,(hf b hb).2.2.2.2.1,(hf b hb).2.2.2.2.2⟩
   refine hRR _ _ H5 s6 m6 I7 hn6' (by have z:=I6.free;rw[show (X.comp scope N a).env.locals=s3.heap.objs.size from aC] at z;exact z) (Nat.ne_of_gt hCl) I3.sz (λx c e z=> ?_) (λp hp z=> ?_) (I3.nofs (Je _)) qn
   ·obtain⟨v,q⟩:=I3.cell x c e;exact Nat.lt_irrefl _ (z ▸ q.lt)
   ·exact Nat.lt_irrefl _ (z ▸ JU (I3.pin p hp).1)
  ·refine qA l5 (T.item (X.comp scope N a) rfl rfl rfl hcalm i [] s5 _ H5 NoE I5 (stat f5) t5 go) λr s6 l6 ⟨u,hr,h6⟩=> ?_;subst hr;refine qA l6 h6 λ_ s7 l7 ⟨x,H7,I7,r7,y7,t7,f7⟩=> ?_;have I7':=I7.pinned (stat f7) (T.obj _ _ t7);rw[List.nil_append] at I7';refine qA l7 (hg a _ s7 _ H7 x u _ I7' r7 (step x H7 y7)) λ_ s8 l8 ⟨σ8,H8,I8,sub8,q8⟩=> ?_;refine qA l8 (hc a _ s8 σ8 H8 _ I8 q8) λok s9 l9 ⟨H9,I9,q9⟩=> ?_;have back: ∀{σ':St} {H':Hp} {s':Shared},Inv (X.comp scope N a) (ww fp s7.heap) σ' H' s'->Sub (zH σ n js) σ'->Inv (X.comp scope N a) [] (zH σ n js) H' s'/\tn (i+1) s'.heap/\ ∀b∈fp,H' b=none:=fun {σ' H' s'} I' sb=>by
    refine⟨(I'.pins_of λp hp=>absurd hp (by simp)).weak sb.1 sb.2,T.keep _ _ _ t7 λb hb o e=>(I'.pin (b,o) (List.mem_append_right _ (wH hb e))).1,λb hb=> ?_⟩;obtain⟨o,e,d⟩:=T.obj _ _ t7 b hb;exact(I'.pin (b,o) (List.mem_append_right _ (wH hb e))).2.1
   cases ok with
   |false=>
    obtain⟨m',lt,w'⟩:=q9;obtain⟨b1,b2,b3⟩:=back I9 sub8;exact⟨m',lt,l9,i+1,xs,H9,b1,b2,b3,w'⟩
   |true=>
    have lv:Lv ((X.comp scope N a).other ((X.comp scope N a).pn++ww fp s7.heap) (notedBy (model X.prog X.w) X.A (X.comp scope N a).env λx s'=>RR (.ref s₂.heap.objs.size) s3.heap.objs.size (.error x) s')) (λ_=>Ek σ):=by
     refine⟨λpins' σ' ea cls HA HB sA sB J F q=> ?_⟩;have J0:Inv (X.comp scope N a) (ww fp s7.heap) σ' HA sA:=J.unother;obtain⟨mA,hnA,_⟩:=J0.loc;have hnA':sA.heap.Ns s3.heap.objs.size mA:=by rw[<-aC];exact hnA
     have uA:Un (frs X.stack) fp (upd H₁ s₂.heap.objs.size (.lst [])) HA s3.heap sA.heap:=by
      have z:=J0.base;rw[ha] at z;exact z
     have osA:sA.os=s3.os:=by
      have z:=J0.os;rw[ha] at z;exact z
     have IA:Inv X pins σ HA sA:=I3.call' osA uA J0.hok J0.bare λb hb=>⟨(hf b hb).2.2.2.1,(hf b hb).2.1,(hf b hb).2.2.2.2.1,(hf b hb).2.2.2.2.2⟩
     refine hRE (.ref s₂.heap.objs.size) s3.heap.objs.size HA sA mA ea cls HB sB IA hnA' (by have z:=J0.free;rw[show (X.comp scope N a).env.locals=s3.heap.objs.size from aC] at z;exact z) I3.sz (λz=> ?_) F q;rcases JC.mp (I3.stkSub _ z) with y|y
     ·exact absurd y (Nat.ne_of_gt hCl)
     ·exact I3.nofs (Je _) y
    refine wpAny_mono (qA l9 (he a _ _ lv [] s9 σ8 H9 _ l9 (I9.other _) q9) λy s10 l10 z=>And.intro l10 z) (λy s10 z=> ?_) λ_ _ z=>z;obtain⟨l10,v,H10,I10',r10,hl10,m',lt,w'⟩:=z;have I10:=I10'.unother;refine qA l10 (wI (X:=X.comp scope N a) _ s10 σ8 H10 (.ref s₂.heap.objs.size) [v] _ [y] (λ_ H'=>H'=upd H10 s₂.heap.objs.size (.lst (xs++ [v]))) I10 rfl (.cons r10 .nil) ⟨_,xs,v,rfl,rfl,hl10,hz5,rfl⟩) λ_ s11 l11 ⟨_,H11,I11,_,e11⟩=> ?_;subst e11;obtain⟨b1,b2,b3⟩:=back I11 sub8;exact⟨m',lt,l11,i+1,_,_,b1,b2,b3,w'⟩
 have eE:{newEnv scope s3.heap.objs.size X.env.globals cl X.env.qual none Value.none (some X.env) builtinsNs with scope:=relabel scope X.env}=(X.comp scope N a).env:=by rw[ha];rfl
 have lp:=loop _ rfl;rw[<-eE] at lp;have sf:=T.self X.A 0 {s3 with heap:=h₁,toks:=s3.toks} (λit' s'=>codeAny (model X.prog X.w) X.A (.compLoop (.ListComp elt [⟨tg,iter,ifs,0⟩] scope pos) 0 it' (.ref s₂.heap.objs.size) {newEnv scope s3.heap.objs.size X.env.globals cl X.env.qual none Value.none (some X.env) builtinsNs with scope:=relabel scope X.env}) (RR (.ref s₂.heap.objs.size) s3.heap.objs.size) s')
  (notedBy (model X.prog X.w) X.A {newEnv scope s3.heap.objs.size X.env.globals cl X.env.qual none Value.none (some X.env) builtinsNs with scope:=relabel scope X.env} λx s'=>RR (.ref s₂.heap.objs.size) s3.heap.objs.size (.error x) s') tn1 lp
 have fin:=codeAny_compStart_list lp sf;rw[hs3] at fin ⊢;exact fin
def zj1(Ek:St->XK)(n:Nat)(js:List Nat)(wi:TI)(g:CA->TG)(tc:CA->TT)(te:(St->XK)->CA->TE):TE:=λσ H Q=>wi σ H λJ H1=> ∀l,H1 l=none-> ∀a:CA,wC J (zH σ n js) (g a) (tc a) (te (λ_=>Ek σ) a) l Q H1
theorem zi3{wi:TI}{Ek:St->XK}(W:X.Own)(L:LvC X Ek)(cap:wB X.env.scope.names X.N scope.names N n js=true)(hkind:scope.kind= .function)(hcalm:X.calm=true)(hi:PI X tg iter wi)
  (hg: ∀a,PG (X.comp scope N a) tg (g a)) (hc: ∀a,PIf (X.comp scope N a) ifs (tc a)) (he: ∀(Ek:St->XK) a pn xe,Lv ((X.comp scope N a).other pn xe) Ek->PEt ((X.comp scope N a).other pn xe) elt (te Ek a))
  (hs: ∀x,foldedSetIterable iter X.env x=pure x:=by intro _;rfl):PEt X (.ListComp elt [⟨tg,iter,ifs,0⟩] scope pos) (zj1 Ek n js wi g tc te):=by
 intro pins s σ H Q h0 I h;obtain⟨cl,hclos,hc1,hc2⟩:=jV cap I;rw[eval_ListComp];refine wpAny_comprehension_free (use:=none) rfl hs hclos hkind (vi cap).2.2.1 (qA h0 (hi pins s σ H _ I h) λv s1 l1 h1=>qA l1 h1 λitv s2 l2 h2=> ?_);obtain⟨it,fp,tn,J,H2,rfl,I2,T,st2,f2,q⟩:=h2;refine zhU (Ek:=Ek) (RR:=λacc C=>compPost (model X.prog X.w) X.A X.xe none (EP X pins σ Q) acc C) cap hkind hcalm hg hc (λa pn xe=>he _ a pn xe) l2 I2 T st2 f2 hc1 hc2 q ?_ ?_
 ·intro l C H' s' m I' hn hC hL hs0 hcell hpin hfs hq;exact⟨m,hn,λh' hsb=>⟨.ref l,H',I'.turned (t':=s'.toks) (λb o hb e=>(hsb.2 b hb).trans e) hC hL (.inr hs0) hcell hpin,rfl,hq⟩⟩
 ·intro acc C HA sA m ea cls HB sB IA hn nC hC fC F qe;have F':=F;have fC':=fC;rw[W.stk] at F' fC';exact Fly.comp (by rw[IA.ok.frames,W.stk]) W.fr F' hn nC fC' λs' FC=>L.go pins σ C ea cls HA HB sA s' IA hC (by rw[W.stk];exact FC) qe
end
end L2
namespace Cal
variable{y m b d h f r:Int}
def lp(y:Int):Int:=if y % 4=0/\(y % 100≠0\/y % 400=0) then 1 else 0
def dim(y m:Int):Int:=if m=2 then 28+lp y else if m=4\/m=6\/m=9\/m=11 then 30 else 31
def ahead(y:Int):Int:=(y - 1)*365+(y - 1) / 4 - (y - 1) / 100+(y - 1) / 400
def cum(y m:Int):Int:=
 if m<=1 then 0 else if m=2 then 31 else if m=3 then 59+lp y else if m=4 then 90+lp y else if m=5 then 120+lp y
 else if m=6 then 151+lp y else if m=7 then 181+lp y else if m=8 then 212+lp y else if m=9 then 243+lp y
 else if m=10 then 273+lp y else if m=11 then 304+lp y else if m=12 then 334+lp y else 365+lp y
def num(y m d:Int):Int:=ahead y+cum y m+d - 1
def Valid(y m d:Int):Prop:=1<=y/\y<=9999/\1<=m/\m<=12/\1<=d/\d<=dim y m
theorem lp_01(y:Int):0<=lp y/\lp y<=1:=by unfold lp;split<;>decide
theorem dim_bounds(y m:Int):28<=dim y m/\dim y m<=31:=by
 have:=lp_01 y;unfold dim;repeat' split
 all_goals omega
theorem cum_one(y:Int):cum y 1=0:=rfl
theorem cum_succ(h1:1<=m)(h2:m<=12):cum y (m+1)=cum y m+dim y m:=by
 obtain⟨k,rfl⟩:=Int.eq_ofNat_of_zero_le (Int.le_trans (by decide:(0:Int)<=1) h1);match k,h1,h2 with
 |0,h,_=>exact absurd h 'd'
 |1,_,_=>exact rfl
 |2,_,_=>exact Int.add_assoc 31 28 (lp y)
 |3,_,_=>exact(Int.add_right_comm 59 (lp y) 31).symm
 |4,_,_=>exact(Int.add_right_comm 90 (lp y) 30).symm
 |5,_,_=>exact(Int.add_right_comm 120 (lp y) 31).symm
 |6,_,_=>exact(Int.add_right_comm 151 (lp y) 30).symm
 |7,_,_=>exact(Int.add_right_comm 181 (lp y) 31).symm
 |8,_,_=>exact(Int.add_right_comm 212 (lp y) 31).symm
 |9,_,_=>exact(Int.add_right_comm 243 (lp y) 30).symm
 |10,_,_=>exact(Int.add_right_comm 273 (lp y) 31).symm
 |11,_,_=>exact(Int.add_right_comm 304 (lp y) 30).symm
 |12,_,_=>exact(Int.add_right_comm 334 (lp y) 31).symm
 |k+13,_,h=>exact absurd h 'o'
theorem cum_13(y:Int):cum y 13=365+lp y:=by simp [cum]
theorem zhV(y m:Int):0<=cum y m:=by
 have l:=(lp_01 y).1;have q: ∀a:Int,0<=a->0<=a+lp y:=λa h=>Int.add_nonneg h l;have z: ∀{p:Prop} [Decidable p] {a b:Int},0<=a->0<=b->0<=if p then a else b:=fun {p} _ {a b} g h=>by split<;>assumption
 exact z 'd' (z 'd' (z (q _ 'd') (z (q _ 'd') (z (q _ 'd') (z (q _ 'd') (z (q _ 'd') (z (q _ 'd') (z (q _ 'd') (z (q _ 'd') (z (q _ 'd') (z (q _ 'd') (q _ 'd'))))))))))))
theorem q4(x:Int):(x+1) / 4=x / 4+if (x+1) % 4=0 then 1 else 0:=by split<;>omega
theorem znu(x:Int):(x+1) / 100=x / 100+if (x+1) % 100=0 then 1 else 0:=by split<;>omega
theorem znv(x:Int):(x+1) / 400=x / 400+if (x+1) % 400=0 then 1 else 0:=by split<;>omega
theorem kD{x a:Int}(k:Int)(e:b=a*k)(h:x % b=0):x % a=0:=by
 subst e;rw[<-Int.emod_emod_of_dvd x (Int.dvd_mul_right a k),h,Int.zero_emod]
theorem zmX(y:Int):lp y=(if y % 4=0 then 1 else 0) - (if y % 100=0 then 1 else 0)+(if y % 400=0 then 1 else 0):=by
 unfold lp;by_cases c:y % 4=0
 ·by_cases d:y % 100=0
  ·by_cases e:y % 400=0
   ·rw[Jg ⟨c, .inr e⟩,Jg c,Jg d,Jg e];rfl
   ·rw[Jf (λh=>h.2.elim (λh=>h d) e),Jg c,Jg d,Jf e];rfl
  ·have e:y % 400≠0:=λh=>d (kD 4 rfl h);rw[Jg ⟨c, .inl d⟩,Jg c,Jf d,Jf e];rfl
 ·have d:y % 100≠0:=λh=>c (kD 25 rfl h);have e:y % 400≠0:=λh=>c (kD 100 rfl h);rw[Jf (λh=>c h.1),Jf c,Jf d,Jf e];rfl
theorem zhW(y:Int):ahead (y+1)=ahead y+365+lp y:=by
 obtain⟨x,rfl⟩: ∃x,y=x+1:=⟨y - 1,(Int.sub_add_cancel y 1).symm⟩
 rw[zmX];unfold ahead;rw[Int.add_sub_cancel,Int.add_sub_cancel,q4,znu,znv,Int.add_mul,Int.one_mul];generalize x*365=p,x / 4=a,x / 100=b,x / 400=c,ite ((x+1) % 4=0) (1:Int) 0=d,ite ((x+1) % 100=0) (1:Int) 0=e,ite ((x+1) % 400=0) (1:Int) 0=f;clear x;omega
theorem kE{z:Int}(h:y<z):ahead y+365+lp y<=ahead z:=by
 rw[<-zhW];unfold ahead;omega
theorem zj2{y m:Int}(h1:1<=m): ∀j:Nat,m+1+(j:Int)<=13->cum y (m+1)<=cum y (m+1+(j:Int))
 |0,_=>Int.le_of_eq (by rw[show m+1+((0:Nat):Int)=m+1 from Int.add_zero _])
 |j+1,h=>by
  have a:=zj2 (y:=y) h1 j 'o';have b:=cum_succ (y:=y) (m:=m+1+(j:Int)) 'o' 'o';have c:=(dim_bounds y (m+1+(j:Int))).1;rw[show m+1+((j+1:Nat):Int)=m+1+(j:Int)+1 by omega,b];omega
theorem kF{k:Int}(h1:1<=m)(h:m<k)(h2:k<=13):cum y m+dim y m<=cum y k:=by
 rw[<-cum_succ h1 'o']
 have:=zj2 (y:=y) h1 (k - (m+1)).toNat 'o';rw[show m+1+((k - (m+1)).toNat:Int)=k by omega] at this;exact this
theorem in_year(h:Valid y m d):0<=cum y m+d - 1/\cum y m+d<=365+lp y:=by
 obtain⟨_,_,h3,h4,h5,h6⟩:=h;have a:=zhV y m;have b:=kF (y:=y) h3 (show m<13 by omega) 'o';rw[cum_13] at b;omega
theorem num_inj{z k e:Int}(h:Valid y m d)(g:Valid z k e)(q:num y m d=num z k e):y=z/\m=k/\d=e:=by
 have a:=in_year h;have b:=in_year g;obtain⟨_,_,h3,h4,h5,h6⟩:=h;obtain⟨_,_,g3,g4,g5,g6⟩:=g;unfold num at q;have yz:y=z:=by
  rcases Int.lt_trichotomy y z with c|c|c
  ·have:=kE c;omega
  ·exact c
  ·have:=kE c;omega
 subst yz;have mk:m=k:=by
  rcases Int.lt_trichotomy m k with c|c|c
  ·have:=kF (y:=y) h3 c 'o';omega
  ·exact c
  ·have:=kF (y:=y) g3 c 'o';omega
 subst mk;exact⟨rfl,rfl,'o'⟩
theorem num_range(h:Valid y m d):0<=num y m d/\num y m d<=3652058:=by
 have a:=in_year h;obtain⟨h1,h2,_⟩:=h;have e1:ahead 1=0:=by decide
 have e2:ahead 10000=3652059:=by decide
 have b:=kE (y:=y) (z:=10000) 'o';have c:ahead 1<=ahead y:=by unfold ahead;omega
 unfold num;omega
theorem zmY{R:Int}(f0:0<=f)(f1:f<24):lp (R*400+h*100+f*4+3+1)=1:=by
 unfold lp;rw[Jg];exact⟨'o',Or.inl 'o'⟩
theorem zmg(R:Int):lp (R*400+3*100+24*4+3+1)=1:=by
 unfold lp;rw[Jg];exact⟨'o',Or.inr 'o'⟩
def yearOf(n:Int):Int:=
 let r:=n % 146097
 let h:=min (r / 36524) 3
 let r2:=r - h*36524
 let c:=r2 % 1461
 n / 146097*400+h*100+r2 / 1461*4+min (c / 365) 3+1
theorem znw{a:Int}(a0:0<=a)(a1:a<146097)(eh:h=min (a / 36524) 3)(eb:b=a - h*36524):0<=h/\h<=3/\0<=b/\b<=36524/\(h<3->b<36524):=by
 have q:=Int.emod_add_mul_ediv a 36524;have r:=JK a (by decide:(36524:Int)≠0);have t:=JI a (by decide:(0:Int)<36524);generalize a / 36524=u at*;generalize a % 36524=v at*;by_cases c:u<=3
 ·rw[Int.min_eq_left c] at eh;subst eh;refine⟨'o',c,'o','o',λ_=>by omega⟩
 ·rw[Int.min_eq_right 'o'] at eh;subst eh;refine⟨'d','d','o','o',λh=>absurd h 'd'⟩
theorem znx{c:Int}(b0:0<=b)(b1:b<=36524)(ef:f=b / 1461)(ec:c=b % 1461):0<=f/\f<=24/\0<=c/\c<1461/\b=1461*f+c:=by
 have q:=Int.emod_add_mul_ediv b 1461;have r:=JK b (by decide:(1461:Int)≠0);have t:=JI b (by decide:(0:Int)<1461);rw[<-ef,<-ec] at q;rw[<-ec] at r t;clear ef ec;refine⟨'o','o',r,t,'o'⟩
theorem zny{c o:Int}(c0:0<=c)(eo:o=min (c / 365) 3):0<=o/\o<=3/\365*o<=c/\(o<3->c<365*o+365):=by
 have q:=Int.emod_add_mul_ediv c 365;have r:=JK c (by decide:(365:Int)≠0);have t:=JI c (by decide:(0:Int)<365);generalize c / 365=u at*;generalize c % 365=v at*;by_cases d:u<=3
 ·rw[Int.min_eq_left d] at eo;subst eo;refine⟨'o',d,'o',λ_=>by omega⟩
 ·rw[Int.min_eq_right 'o'] at eo;subst eo;refine⟨'d','d','o',λh=>absurd h 'd'⟩
theorem kG{x q:Int}(e:x=r+d*q)(r0:0<=r)(r1:r<d):x / d=q:=by
 rw[e,Int.add_mul_ediv_left _ _ 'o',Int.ediv_eq_zero_of_lt r0 r1,Int.zero_add]
theorem zk7{R o:Int}(h0:0<=h)(h3:h<=3)(f0:0<=f)(f1:f<=24)(o0:0<=o)(o3:o<=3):ahead (R*400+h*100+f*4+o+1)=146097*R+36524*h+1461*f+365*o:=by
 unfold ahead;rw[Int.add_sub_cancel,kG (d:=4) (q:=100*R+25*h+f) (r:=o) (by clear h0 h3 f0 f1 o0 o3;omega) o0 'o',
  kG (d:=100) (q:=4*R+h) (r:=f*4+o) (by clear h0 h3 f0 f1 o0 o3;omega) (by clear h0 h3;omega) (by clear h0 h3;omega),
  kG (d:=400) (q:=R) (r:=h*100+f*4+o) (by clear h0 h3 f0 f1 o0 o3;omega) 'o' 'o']
 clear h0 h3 f0 f1 o0 o3;omega
theorem zmZ(R h f:Int):146097*R+36524*h+1461*f+1460<146097*R+36524*h+1461*f+365*3+365+1:=by omega
theorem yearOf_spec{n:Int}(h0:0<=n)(h1:n<=3652058):1<=yearOf n/\yearOf n<=9999/\ahead (yearOf n)<=n/\n<ahead (yearOf n)+365+lp (yearOf n):=by
 have a0:=JK n (by decide:(146097:Int)≠0);have a1:=JI n (by decide:(0:Int)<146097);have en:=Int.emod_add_mul_ediv n 146097;obtain⟨H,eh⟩: ∃h,h=min (n % 146097 / 36524) 3:=⟨_,rfl⟩
 obtain⟨b,eb⟩: ∃b,b=n % 146097 - H*36524:=⟨_,rfl⟩
 obtain⟨o,eo⟩: ∃o,o=min (b % 1461 / 365) 3:=⟨_,rfl⟩
 have ey:yearOf n=n / 146097*400+H*100+b / 1461*4+o+1:=by
  rw[eo,eb,eh];rfl
 obtain⟨p1,p2,p3,p4,p5⟩:=znw a0 a1 eh eb;obtain⟨r1,r2,r3,r4,r5⟩:=znx p3 p4 rfl rfl;obtain⟨t1,t2,t3,t4⟩:=zny r3 eo;rw[ey,zk7 p1 p2 r1 r2 t1 t2];clear ey eo eh;generalize n / 146097=R at*;generalize n % 146097=a at*;generalize b / 1461=f at*;generalize b % 1461=c at*;have R0:0<=R:=by clear p1 p2 p3 p4 p5 r1 r2 r3 r4 r5 t1 t2 t3 t4 eb;omega
 have R1:R<=24:=by clear p1 p2 p3 p4 p5 r1 r2 r3 r4 r5 t1 t2 t3 t4 eb;omega
 have e2:n=146097*R+36524*H+1461*f+c:=by clear p1 p2 p3 p4 p5 r1 r2 r3 r4 t1 t2 t3 t4;omega
 clear h0 a0 a1 en eb p3 p4;have l:=(lp_01 (R*400+H*100+f*4+o+1)).1;refine⟨by clear h1 e2 t3 t4 r5 p5 l R1 p2 r2 t2 r3 r4;omega,by clear R0 p1 r1 t1 l t4 p5 r5 r3 r4;omega,by rw[e2];exact Int.add_le_add_left t3 _,?_⟩;clear h1;by_cases z:o<3
 ·have:=t4 z;clear t4 p5 p1 p2 r1 r2;omega
 ·by_cases z2:c<1460
  ·clear t4 p5 p1 p2 r1 r2;omega
  ·obtain rfl:o=3:=Int.le_antisymm t2 (Int.not_lt.mp z);have c0:c=1460:=by clear p5 e2 r5 t3 t4;omega
   by_cases z3:f<24
   ·rw[zmY r1 z3,e2,c0];exact zmZ R H f
   ·obtain rfl:f=24:=Int.le_antisymm r2 (Int.not_lt.mp z3);obtain rfl:H=3:=by
     rcases Int.lt_or_le H 3 with d|d
     ·have:=p5 d;clear p5 t4;omega
     ·exact Int.le_antisymm p2 d
    rw[zmg,e2,c0];exact zmZ R 3 24
theorem ze6{y r:Int}(h0:0<=r): ∀k:Nat,k<13->r<cum y ((k:Int)+1)-> ∃m,1<=m/\m<=12/\cum y m<=r/\r<cum y m+dim y m
 |0,_,h=>by
  have e:cum y (((0:Nat):Int)+1)=0:=rfl;omega
 |k+1,hk,h=>by
  by_cases c:r<cum y ((k:Int)+1)
  ·exact ze6 h0 k 'o' c
  ·have s:=cum_succ (y:=y) (m:=(k:Int)+1) 'o' 'o';have e:((k+1:Nat):Int)+1=(k:Int)+1+1:=by omega
   rw[e,s] at h;exact⟨(k:Int)+1,'o','o','o',h⟩
theorem zgX(h0:0<=r)(h1:r<365+lp y): ∃m,1<=m/\m<=12/\cum y m<=r/\r<cum y m+dim y m:=
 ze6 h0 12 'd' (by
                  have e:cum y (((12:Nat):Int)+1)=365+lp y:=cum_13 y;omega)
theorem date_exists{n:Int}(h0:0<=n)(h1:n<=3652058): ∃y m d,Valid y m d/\num y m d=n:=by
 obtain⟨a,b,c,d⟩:=yearOf_spec h0 h1;obtain⟨m,m1,m2,m3,m4⟩:=zgX (y:=yearOf n) (r:=n - ahead (yearOf n)) 'o' 'o';exact⟨yearOf n,m,n - ahead (yearOf n) - cum (yearOf n) m+1,⟨a,b,m1,m2,'o','o'⟩,by unfold num;omega⟩
end Cal
namespace Cal
end Cal
namespace Cal
def kH(y m k:Int):Int:=(y*12+m - 1+k) / 12
def kI(y m k:Int):Int:=(y*12+m - 1+k) % 12+1
def znz(y m d k:Int):Int:=if dim (kH y m k) (kI y m k)<d then dim (kH y m k) (kI y m k) else d
end Cal
namespace Cal
open Classical in
noncomputable def mon(n k:Int):Int:=
 if h: ∃p:Int×Int×Int,Valid p.1 p.2.1 p.2.2/\num p.1 p.2.1 p.2.2=n then
  num (kH (choose h).1 (choose h).2.1 k) (kI (choose h).1 (choose h).2.1 k) (znz (choose h).1 (choose h).2.1 (choose h).2.2 k) else 0
noncomputable def beg(f:Int)(dy:Bool)(c k:Int):Int:=if dy=true then f+k*c else mon f (k*c)
def CycOk(dy:Bool)(c:Int):Prop:=1<=c/\c<=if dy=true then 400 else 12
end Cal
namespace K81
open PySem L2
variable{m n c p:Nat}{y f cc i:Int}{d l:Addr}{a b w:List Nat}{H H' H1:Hp}{xs:List Pl}{dy:Bool}{ws rs:List (List Nat)}{K:Fg}{ls:List (List (List Nat))}{α β:Type}{o:HO}{ns:List Int}{Q:VK}
theorem opq{G:Prop}(h: ∀X:Prop,(G->X)->X):G:=h G id
seal L2.PE L2.PA L2.PS L2.PSs L2.PT L2.PW L2.PG L2.PGs L2.PI L2.PO L2.PIf L2.PK L2.PEt L2.PAt L2.PSt L2.PSst L2.PTt L2.PWt L2.PEm L2.PSm L2.PC
def top(i:Nat):Stmt:=PySem.Challenge.pw_paidspan_k81_texts_of_no_account.main.body.getD i (.Pass ⟨0,0,0,0⟩)
abbrev s_00:Stmt:=top 12
abbrev s_01:Stmt:=top 13
abbrev s_02:Stmt:=top 22
abbrev s_03:Stmt:=top 23
abbrev s_04:Stmt:=top 24
abbrev s_05:Stmt:=top 25
abbrev s_06:Stmt:=top 26
abbrev s_07:Stmt:=top 27
abbrev s_08:Stmt:=top 36
abbrev s_09:Stmt:=top 37
abbrev s_0a:Stmt:=top 38
abbrev s_0b:Stmt:=top 39
abbrev s_0c:Stmt:=top 40
abbrev s_0d:Stmt:=top 41
abbrev s_0e:Stmt:=top 44
abbrev s_0f:Stmt:=top 45
abbrev s_0g:Stmt:=top 46
abbrev s_0h:Stmt:=top 49
abbrev s_0i:Stmt:=top 50
abbrev s_0j:Stmt:=top 51
abbrev s_0k:Stmt:=top 54
abbrev s_0l:Stmt:=top 55
abbrev s_0m:Stmt:=top 56
abbrev s_0n:Stmt:=top 59
abbrev s_0o:Stmt:=top 60
abbrev s_0p:Stmt:=top 61
abbrev s_0q:Stmt:=top 62
abbrev s_0r:Stmt:=top 63
abbrev s_0s:Stmt:=top 64
abbrev s_0t:Stmt:=top 66
abbrev s_0u:Stmt:=top 67
abbrev s_0v:Stmt:=top 68
abbrev s_0w:Stmt:=top 69
abbrev s_0x:Stmt:=top 70
abbrev s_0y:Stmt:=top 71
abbrev s_0z:Stmt:=top 72
abbrev s_10:Stmt:=top 73
abbrev s_11:Stmt:=top 74
abbrev s_12:Stmt:=top 75
abbrev s_13:Stmt:=top 76
abbrev s_14:Stmt:=top 77
abbrev s_15:Stmt:=top 78
abbrev s_16:Stmt:=top 79
abbrev s_17:Stmt:=top 80
abbrev s_18:Stmt:=top 81
abbrev s_19:Stmt:=top 82
abbrev s_1a:Stmt:=top 83
abbrev s_1b:Stmt:=top 84
abbrev s_1c:Stmt:=top 85
abbrev s_1d:Stmt:=top 86
abbrev s_1e:Stmt:=top 87
theorem st_0:Str.ofString "days"=SL [100,97,121,115]:=by decide+kernel
theorem st_1:Str.ofString "months"=SL [109,111,110,116,104,115]:=by decide+kernel
theorem st_11:Str.ofString "-"=SL [45]:=by decide+kernel
theorem st_14:Str.ofString ""=SL []:=by decide+kernel
theorem st_15:Str.ofString "."=SL [46]:=by decide+kernel
theorem st_19:Str.ofString "0"=SL [48]:=by decide+kernel
theorem st_20:Str.ofString "N"=SL [78]:=by decide+kernel
theorem st_21:Str.ofString " "=SL [32]:=by decide+kernel
theorem st_22:Str.ofString "places N"=SL [112,108,97,99,101,115,32,78]:=by decide+kernel
theorem st_23:Str.ofString "every N days"=SL [101,118,101,114,121,32,78,32,100,97,121,115]:=by decide+kernel
theorem st_24:Str.ofString "every N months"=SL [101,118,101,114,121,32,78,32,109,111,110,116,104,115]:=by decide+kernel
theorem st_25:Str.ofString "plan NAME PRICE"=SL [112,108,97,110,32,78,65,77,69,32,80,82,73,67,69]:=by decide+kernel
theorem st_26:Str.ofString "plan NAME PRICE per N"=SL [112,108,97,110,32,78,65,77,69,32,80,82,73,67,69,32,112,101,114,32,78]:=by decide+kernel
theorem st_27:Str.ofString "first DATE"=SL [102,105,114,115,116,32,68,65,84,69]:=by decide+kernel
theorem st_29:Str.ofString "\n"=SL [10]:=by decide+kernel
theorem st_30:Str.ofString "abcdefghijklmnopqrstuvwxyz"=SL [97,98,99,100,101,102,103,104,105,106,107,108,109,110,111,112,113,114,115,116,117,118,119,120,121,122]:=by decide+kernel
theorem st_31:Str.ofString "from"=SL [102,114,111,109]:=by decide+kernel
theorem st_32:Str.ofString "per"=SL [112,101,114]:=by decide+kernel
theorem st_33:Str.ofString "plan"=SL [112,108,97,110]:=by decide+kernel
theorem st_34:Str.ofString "seats"=SL [115,101,97,116,115]:=by decide+kernel
theorem st_35:Str.ofString "hold"=SL [104,111,108,100]:=by decide+kernel
theorem st_36:Str.ofString "go"=SL [103,111]:=by decide+kernel
theorem st_37:Str.ofString "stop"=SL [115,116,111,112]:=by decide+kernel
theorem st_38:Str.ofString "last"=SL [108,97,115,116]:=by decide+kernel
theorem st_39:Str.ofString "undo"=SL [117,110,100,111]:=by decide+kernel
theorem st_40:Str.ofString "grant"=SL [103,114,97,110,116]:=by decide+kernel
theorem st_41:Str.ofString "back"=SL [98,97,99,107]:=by decide+kernel
theorem st_42:Str.ofString "none"=SL [110,111,110,101]:=by decide+kernel
theorem st_43:Str.ofString "state"=SL [115,116,97,116,101]:=by decide+kernel
theorem st_44:Str.ofString "span"=SL [115,112,97,110]:=by decide+kernel
theorem st_45:Str.ofString "lines"=SL [108,105,110,101,115]:=by decide+kernel
theorem st_46:Str.ofString "sums"=SL [115,117,109,115]:=by decide+kernel
theorem st_47:Str.ofString "moved"=SL [109,111,118,101,100]:=by decide+kernel
theorem st_48:Str.ofString "first"=SL [102,105,114,115,116]:=by decide+kernel
theorem st_49:Str.ofString "every"=SL [101,118,101,114,121]:=by decide+kernel
theorem st_50:Str.ofString "places"=SL [112,108,97,99,101,115]:=by decide+kernel
theorem st_51:Str.ofString "entry"=SL [101,110,116,114,121]:=by decide+kernel
theorem st_52:Str.ofString "places "=SL [112,108,97,99,101,115,32]:=by decide+kernel
theorem st_53:Str.ofString "first "=SL [102,105,114,115,116,32]:=by decide+kernel
theorem st_54:Str.ofString "every "=SL [101,118,101,114,121,32]:=by decide+kernel
theorem st_55:Str.ofString "plan "=SL [112,108,97,110,32]:=by decide+kernel
theorem st_56:Str.ofString " per "=SL [32,112,101,114,32]:=by decide+kernel
theorem st_57:Str.ofString "Places"=SL [80,108,97,99,101,115]:=by decide+kernel
theorem st_58:Str.ofString "plans"=SL [112,108,97,110,115]:=by decide+kernel
theorem st_59:Str.ofString "x"=SL [120]:=by decide+kernel
theorem st_60:Str.ofString "1"=SL [49]:=by decide+kernel
theorem st_61:Str.ofString "2023-02-29"=SL [50,48,50,51,45,48,50,45,50,57]:=by decide+kernel
theorem st_62:Str.ofString "1999-13-01"=SL [49,57,57,57,45,49,51,45,48,49]:=by decide+kernel
theorem st_63:Str.ofString "0000-01-01"=SL [48,48,48,48,45,48,49,45,48,49]:=by decide+kernel
theorem st_64:Str.ofString "1-1-1"=SL [49,45,49,45,49]:=by decide+kernel
theorem st_65:Str.ofString "99999-01-01"=SL [57,57,57,57,57,45,48,49,45,48,49]:=by decide+kernel
theorem st_66:Str.ofString "7"=SL [55]:=by decide+kernel
theorem st_67:Str.ofString "02"=SL [48,50]:=by decide+kernel
theorem st_68:Str.ofString "-1"=SL [45,49]:=by decide+kernel
theorem st_69:Str.ofString "10"=SL [49,48]:=by decide+kernel
theorem st_70:Str.ofString "9"=SL [57]:=by decide+kernel
theorem st_71:Str.ofString "weeks"=SL [119,101,101,107,115]:=by decide+kernel
theorem st_72:Str.ofString "Days"=SL [68,97,121,115]:=by decide+kernel
theorem st_73:Str.ofString "day"=SL [100,97,121]:=by decide+kernel
theorem st_74:Str.ofString "month"=SL [109,111,110,116,104]:=by decide+kernel
theorem st_75:Str.ofString "01"=SL [48,49]:=by decide+kernel
theorem st_76:Str.ofString "1234567890"=SL [49,50,51,52,53,54,55,56,57,48]:=by decide+kernel
theorem st_77:Str.ofString "-3"=SL [45,51]:=by decide+kernel
theorem st_78:Str.ofString "1x"=SL [49,120]:=by decide+kernel
theorem st_79:Str.ofString "+1"=SL [43,49]:=by decide+kernel
theorem st_80:Str.ofString " per 0"=SL [32,112,101,114,32,48]:=by decide+kernel
theorem st_81:Str.ofString " Per 7"=SL [32,80,101,114,32,55]:=by decide+kernel
theorem st_82:Str.ofString " per 07"=SL [32,112,101,114,32,48,55]:=by decide+kernel
theorem st_83:Str.ofString " per"=SL [32,112,101,114]:=by decide+kernel
theorem st_84:Str.ofString " per x"=SL [32,112,101,114,32,120]:=by decide+kernel
theorem st_85:Str.ofString "1.2.3"=SL [49,46,50,46,51]:=by decide+kernel
theorem st_86:Str.ofString "01.00"=SL [48,49,46,48,48]:=by decide+kernel
theorem st_87:Str.ofString "1,00"=SL [49,44,48,48]:=by decide+kernel
theorem st_88:Str.ofString "--1"=SL [45,45,49]:=by decide+kernel
theorem st_89:Str.ofString "Ann"=SL [65,110,110]:=by decide+kernel
theorem st_90:Str.ofString "ninesigns"=SL [110,105,110,101,115,105,103,110,115]:=by decide+kernel
theorem st_91:Str.ofString "a1"=SL [97,49]:=by decide+kernel
theorem st_92:Str.ofString "a-b"=SL [97,45,98]:=by decide+kernel
theorem st_93:Str.ofString "401"=SL [52,48,49]:=by decide+kernel
theorem st_94:Str.ofString "999999999"=SL [57,57,57,57,57,57,57,57,57]:=by decide+kernel
theorem st_95:Str.ofString "13"=SL [49,51]:=by decide+kernel
theorem st_96:Str.ofString " per 401"=SL [32,112,101,114,32,52,48,49]:=by decide+kernel
theorem st_97:Str.ofString " per 999999999"=SL [32,112,101,114,32,57,57,57,57,57,57,57,57,57]:=by decide+kernel
theorem st_98:Str.ofString "9582-10-18"=SL [57,53,56,50,45,49,48,45,49,56]:=by decide+kernel
theorem st_99:Str.ofString "9999-12-31"=SL [57,57,57,57,45,49,50,45,51,49]:=by decide+kernel
theorem st_100:Str.ofString "9700-01-01"=SL [57,55,48,48,45,48,49,45,48,49]:=by decide+kernel
theorem st_101:Str.ofString "p"=SL [112]:=by decide+kernel
theorem st_102:Str.ofString "q"=SL [113]:=by decide+kernel
theorem st_103:Str.ofString "r"=SL [114]:=by decide+kernel
theorem st_104:Str.ofString "s"=SL [115]:=by decide+kernel
theorem st_105:Str.ofString "t"=SL [116]:=by decide+kernel
theorem st_106:Str.ofString "u"=SL [117]:=by decide+kernel
theorem st_107:Str.ofString "v"=SL [118]:=by decide+kernel
theorem st_108:Str.ofString "w"=SL [119]:=by decide+kernel
theorem st_109:Str.ofString "0123456789"=SL [48,49,50,51,52,53,54,55,56,57]:=by decide+kernel
theorem st_110:Str.ofString "2"=SL [50]:=by decide+kernel
theorem st_111:Str.ofString "3"=SL [51]:=by decide+kernel
theorem st_112:Str.ofString "4"=SL [52]:=by decide+kernel
theorem st_113:Str.ofString "5"=SL [53]:=by decide+kernel
theorem st_114:Str.ofString "6"=SL [54]:=by decide+kernel
theorem st_115:Str.ofString "date"=SL [100,97,116,101]:=by decide+kernel
theorem st_116:Str.ofString "amount"=SL [97,109,111,117,110,116]:=by decide+kernel
theorem st_117:Str.ofString "text"=SL [116,101,120,116]:=by decide+kernel
theorem st_118:Str.ofString "account"=SL [97,99,99,111,117,110,116]:=by decide+kernel
theorem st_119:Str.ofString "odd"=SL [111,100,100]:=by decide+kernel
set_option genInjectivity false in
set_option genSizeOf false in
structure Adr where
 a_00:Addr
 d_00:FuncData
 a_01:Addr
 d_01:FuncData
 a_02:Addr
 d_02:FuncData
 a_03:Addr
 d_03:FuncData
 a_04:Addr
 d_04:FuncData
 a_05:Addr
 d_05:FuncData
 a_06:Addr
 d_06:FuncData
 a_07:Addr
 d_07:FuncData
 a_08:Addr
 d_08:FuncData
 a_09:Addr
 d_09:FuncData
 a_0a:Addr
 d_0a:FuncData
 a_0b:Addr
 d_0b:FuncData
 a_0c:Addr
 d_0c:FuncData
 a_0d:Addr
 d_0d:FuncData
 a_0e:Addr
 d_0e:FuncData
 a_0f:Addr
 d_0f:FuncData
 a_0g:Addr
 d_0g:FuncData
 a_0h:Addr
 d_0h:FuncData
 a_0i:Addr
 d_0i:FuncData
 a_0j:Addr
 d_0j:FuncData
 a_0k:Addr
 d_0k:FuncData
 a_0l:Addr
 d_0l:FuncData
 a_0m:Addr
 d_0m:FuncData
 a_0n:Addr
 d_0n:FuncData
 a_0o:Addr
 d_0o:FuncData
 a_0p:Addr
 d_0p:FuncData
 a_0q:Addr
 d_0q:FuncData
 a_0r:Addr
 d_0r:FuncData
 a_0s:Addr
 d_0s:FuncData
 a_0t:Addr
 d_0t:FuncData
 a_0u:Addr
 d_0u:FuncData
 a_0v:Addr
 d_0v:FuncData
 a_0w:Addr
 d_0w:FuncData
 a_0x:Addr
 d_0x:FuncData
 a_0y:Addr
 d_0y:FuncData
 a_0z:Addr
 d_0z:FuncData
 a_10:Addr
 d_10:FuncData
 a_11:Addr
 d_11:FuncData
 a_12:Addr
 d_12:FuncData
 a_13:Addr
 d_13:FuncData
 a_14:Addr
 d_14:FuncData
 a_15:Addr
 d_15:FuncData
 a_16:Addr
 d_16:FuncData
 a_17:Addr
 d_17:FuncData
 a_18:Addr
 d_18:FuncData
 a_19:Addr
 d_19:FuncData
 a_1a:Addr
 d_1a:FuncData
 a_1b:Addr
 d_1b:FuncData
 a_1c:Addr
 d_1c:FuncData
 a_1d:Addr
 d_1d:FuncData
 a_1e:Addr
 d_1e:FuncData
 c_Z0p:Addr
 c_Z0i:Addr
 c_Z0k:Addr
 c_Z0h:Addr
 c_Z0m:Addr
 c_Z0q:Addr
 c_Z0g:Addr
 c_Z0n:Addr
 c_Z0l:Addr
 c_Z0j:Addr
structure Txt (K:Fg) (mg:Str->Option Value) (t:Adr):Prop where
 mg_00:mg "is_whole"=some (.ref t.a_00)
 fn_00:Fun K "is_whole" "is_whole" s_00 t.a_00 t.d_00
 b_00:zN K t.d_00 ["value"] []
 mg_01:mg "is_whole_between"=some (.ref t.a_01)
 fn_01:Fun K "is_whole_between" "is_whole_between" s_01 t.a_01 t.d_01
 b_01:zN K t.d_01 ["value","least","greatest"] []
 mg_02:mg "is_name"=some (.ref t.a_02)
 fn_02:Fun K "is_name" "is_name" s_02 t.a_02 t.d_02
 b_02:zN K t.d_02 ["value"] []
 mg_03:mg "is_price"=some (.ref t.a_03)
 fn_03:Fun K "is_price" "is_price" s_03 t.a_03 t.d_03
 b_03:zN K t.d_03 ["value"] []
 mg_04:mg "is_plan"=some (.ref t.a_04)
 fn_04:Fun K "is_plan" "is_plan" s_04 t.a_04 t.d_04
 b_04:zN K t.d_04 ["plan"] []
 mg_05:mg "is_cycle"=some (.ref t.a_05)
 fn_05:Fun K "is_cycle" "is_cycle" s_05 t.a_05 t.d_05
 b_05:zN K t.d_05 ["cycle"] []
 mg_06:mg "check_plans"=some (.ref t.a_06)
 fn_06:Fun K "check_plans" "check_plans" s_06 t.a_06 t.d_06
 b_06:zN K t.d_06 ["plans"] []
 mg_07:mg "check_account"=some (.ref t.a_07)
 fn_07:Fun K "check_account" "check_account" s_07 t.a_07 t.d_07
 b_07:zN K t.d_07 ["account"] []
 mg_08:mg "has_leap_day"=some (.ref t.a_08)
 fn_08:Fun K "has_leap_day" "has_leap_day" s_08 t.a_08 t.d_08
 b_08:zN K t.d_08 ["year"] []
 mg_09:mg "days_in"=some (.ref t.a_09)
 fn_09:Fun K "days_in" "days_in" s_09 t.a_09 t.d_09
 b_09:zN K t.d_09 ["year","month"] []
 mg_0a:mg "days_ahead_of_year"=some (.ref t.a_0a)
 fn_0a:Fun K "days_ahead_of_year" "days_ahead_of_year" s_0a t.a_0a t.d_0a
 b_0a:zN K t.d_0a ["year"] []
 mg_0b:mg "day_of"=some (.ref t.a_0b)
 fn_0b:Fun K "day_of" "day_of" s_0b t.a_0b t.d_0b
 b_0b:zN K t.d_0b ["year","month","day"] []
 mg_0c:mg "year_of"=some (.ref t.a_0c)
 fn_0c:Fun K "year_of" "year_of" s_0c t.a_0c t.d_0c
 b_0c:zN K t.d_0c ["number"] []
 mg_0d:mg "date_of"=some (.ref t.a_0d)
 fn_0d:Fun K "date_of" "date_of" s_0d t.a_0d t.d_0d
 b_0d:zN K t.d_0d ["number"] []
 mg_0e:mg "show_date"=some (.ref t.a_0e)
 fn_0e:Fun K "show_date" "show_date" s_0e t.a_0e t.d_0e
 b_0e:zN K t.d_0e ["number"] []
 mg_0f:mg "read_figures"=some (.ref t.a_0f)
 fn_0f:Fun K "read_figures" "read_figures" s_0f t.a_0f t.d_0f
 b_0f:zN K t.d_0f ["text"] []
 mg_0g:mg "read_date"=some (.ref t.a_0g)
 fn_0g:Fun K "read_date" "read_date" s_0g t.a_0g t.d_0g
 b_0g:zN K t.d_0g ["text"] []
 mg_0h:mg "show_amount"=some (.ref t.a_0h)
 fn_0h:FunD K "show_amount" "show_amount" s_0h t.a_0h t.d_0h
 b_0h:zN K t.d_0h ["amount","places"] []
 bd_0h: ∃tk,zN K t.d_0h ["amount","places"] [.int 2 tk]
 kb_0h:KBinds K t.d_0h ["amount","places"] ["places"] kwG kwG
 mg_0i:mg "only_figures"=some (.ref t.a_0i)
 fn_0i:Fun K "only_figures" "only_figures" s_0i t.a_0i t.d_0i
 b_0i:zN K t.d_0i ["text"] []
 mg_0j:mg "read_amount"=some (.ref t.a_0j)
 fn_0j:FunD K "read_amount" "read_amount" s_0j t.a_0j t.d_0j
 b_0j:zN K t.d_0j ["text","places"] []
 bd_0j: ∃tk,zN K t.d_0j ["text","places"] [.int 2 tk]
 kb_0j:KBinds K t.d_0j ["text","places"] ["places"] kwG kwG
 mg_0k:mg "is_number"=some (.ref t.a_0k)
 fn_0k:Fun K "is_number" "is_number" s_0k t.a_0k t.d_0k
 b_0k:zN K t.d_0k ["word"] []
 mg_0l:mg "fits_word"=some (.ref t.a_0l)
 fn_0l:Fun K "fits_word" "fits_word" s_0l t.a_0l t.d_0l
 b_0l:zN K t.d_0l ["kind","word"] []
 mg_0m:mg "fits_form"=some (.ref t.a_0m)
 fn_0m:Fun K "fits_form" "fits_form" s_0m t.a_0m t.d_0m
 b_0m:zN K t.d_0m ["form","words"] []
 mg_0n:mg "fits_places"=some (.ref t.a_0n)
 fn_0n:Fun K "fits_places" "fits_places" s_0n t.a_0n t.d_0n
 b_0n:zN K t.d_0n ["words"] []
 mg_0o:mg "fits_cycle"=some (.ref t.a_0o)
 fn_0o:Fun K "fits_cycle" "fits_cycle" s_0o t.a_0o t.d_0o
 b_0o:zN K t.d_0o ["words"] []
 mg_0p:mg "fits_plan"=some (.ref t.a_0p)
 fn_0p:Fun K "fits_plan" "fits_plan" s_0p t.a_0p t.d_0p
 b_0p:zN K t.d_0p ["words"] []
 mg_0q:mg "fits_lines"=some (.ref t.a_0q)
 fn_0q:Fun K "fits_lines" "fits_lines" s_0q t.a_0q t.d_0q
 b_0q:zN K t.d_0q ["lines"] []
 mg_0r:mg "read_plan"=some (.ref t.a_0r)
 fn_0r:Fun K "read_plan" "read_plan" s_0r t.a_0r t.d_0r
 b_0r:zN K t.d_0r ["places","words"] []
 mg_0s:mg "read_account"=some (.ref t.a_0s)
 fn_0s:Fun K "read_account" "read_account" s_0s t.a_0s t.d_0s
 b_0s:zN K t.d_0s ["text"] []
 mg_0t:mg "_law_cell_at"=some (.ref t.a_0t)
 fn_0t:Fun K "_law_cell_at" "_law_cell_at" s_0t t.a_0t t.d_0t
 b_0t:zN K t.d_0t ["_law_script","_law_k"] []
 mg_0u:mg "_law_rich"=some (.ref t.a_0u)
 fn_0u:Fun K "_law_rich" "_law_rich" s_0u t.a_0u t.d_0u
 b_0u:zN K t.d_0u ["_law_cell","_law_k"] []
 mg_0v:mg "_law_digits"=some (.ref t.a_0v)
 fn_0v:Fun K "_law_digits" "_law_digits" s_0v t.a_0v t.d_0v
 b_0v:zN K t.d_0v ["_law_script","_law_start","_law_k"] []
 mg_0w:mg "_law_digit"=some (.ref t.a_0w)
 fn_0w:Fun K "_law_digit" "_law_digit" s_0w t.a_0w t.d_0w
 b_0w:zN K t.d_0w ["_law_digits_here","_law_many"] []
 mg_0x:mg "_law_name"=some (.ref t.a_0x)
 fn_0x:Fun K "_law_name" "_law_name" s_0x t.a_0x t.d_0x
 b_0x:zN K t.d_0x ["_law_digits_here","_law_names"] []
 mg_0y:mg "_law_plan"=some (.ref t.a_0y)
 fn_0y:Fun K "_law_plan" "_law_plan" s_0y t.a_0y t.d_0y
 b_0y:zN K t.d_0y ["_law_digits_here","_law_names"] []
 mg_0z:mg "_law_first"=some (.ref t.a_0z)
 fn_0z:Fun K "_law_first" "_law_first" s_0z t.a_0z t.d_0z
 b_0z:zN K t.d_0z ["_law_digits_here"] []
 mg_10:mg "_law_account"=some (.ref t.a_10)
 fn_10:Fun K "_law_account" "_law_account" s_10 t.a_10 t.d_10
 b_10:zN K t.d_10 ["_law_script","_law_start"] []
 mg_11:mg "_law_text"=some (.ref t.a_11)
 fn_11:Fun K "_law_text" "_law_text" s_11 t.a_11 t.d_11
 b_11:zN K t.d_11 ["_law_places","_law_account_here"] []
 mg_12:mg "_law_swapped"=some (.ref t.a_12)
 fn_12:Fun K "_law_swapped" "_law_swapped" s_12 t.a_12 t.d_12
 b_12:zN K t.d_12 ["_law_rows","_law_at","_law_word","_law_k"] []
 mg_13:mg "_law_lines"=some (.ref t.a_13)
 fn_13:Fun K "_law_lines" "_law_lines" s_13 t.a_13 t.d_13
 b_13:zN K t.d_13 ["_law_rows","_law_way","_law_at"] []
 mg_14:mg "_law_words"=some (.ref t.a_14)
 fn_14:Fun K "_law_words" "_law_words" s_14 t.a_14 t.d_14
 b_14:zN K t.d_14 ["_law_rows","_law_way","_law_at","_law_cell"] []
 mg_15:mg "_law_numbers"=some (.ref t.a_15)
 fn_15:Fun K "_law_numbers" "_law_numbers" s_15 t.a_15 t.d_15
 b_15:zN K t.d_15 ["_law_rows","_law_way","_law_cell"] []
 mg_16:mg "_law_beyond"=some (.ref t.a_16)
 fn_16:Fun K "_law_beyond" "_law_beyond" s_16 t.a_16 t.d_16
 b_16:zN K t.d_16 ["_law_rows","_law_way","_law_cell","_law_places"] []
 mg_17:mg "_law_is_number"=some (.ref t.a_17)
 fn_17:Fun K "_law_is_number" "_law_is_number" s_17 t.a_17 t.d_17
 b_17:zN K t.d_17 ["_law_word"] []
 mg_18:mg "_law_is_plan"=some (.ref t.a_18)
 fn_18:Fun K "_law_is_plan" "_law_is_plan" s_18 t.a_18 t.d_18
 b_18:zN K t.d_18 ["_law_words_here"] []
 mg_19:mg "_law_is_text"=some (.ref t.a_19)
 fn_19:Fun K "_law_is_text" "_law_is_text" s_19 t.a_19 t.d_19
 b_19:zN K t.d_19 ["_law_lines_here"] []
 mg_1a:mg "_law_read"=some (.ref t.a_1a)
 fn_1a:Fun K "_law_read" "_law_read" s_1a t.a_1a t.d_1a
 b_1a:zN K t.d_1a ["_law_lines_here"] []
 mg_1b:mg "_law_is_good"=some (.ref t.a_1b)
 fn_1b:Fun K "_law_is_good" "_law_is_good" s_1b t.a_1b t.d_1b
 b_1b:zN K t.d_1b ["_law_lines_here","_law_found"] []
 mg_1c:mg "_law_due"=some (.ref t.a_1c)
 fn_1c:Fun K "_law_due" "_law_due" s_1c t.a_1c t.d_1c
 b_1c:zN K t.d_1c ["_law_text_here"] []
 mg_1d:mg "_law_told"=some (.ref t.a_1d)
 fn_1d:Fun K "_law_told" "_law_told" s_1d t.a_1d t.d_1d
 b_1d:zN K t.d_1d ["_law_text_here"] []
 mg_1e:mg "law"=some (.ref t.a_1e)
 fn_1e:Fun K "law" "law" s_1e t.a_1e t.d_1e
 b_1e:zN K t.d_1e ["_law_script"] []
 mg_Z0p:mg "SpanError"=some (.ref t.c_Z0p)
 mg_Z0i:mg "NoDate"=some (.ref t.c_Z0i)
 mg_Z0k:mg "NoParts"=some (.ref t.c_Z0k)
 mg_Z0h:mg "NoAmount"=some (.ref t.c_Z0h)
 mg_Z0m:mg "NoSpan"=some (.ref t.c_Z0m)
 mg_Z0q:mg "TooLong"=some (.ref t.c_Z0q)
 mg_Z0g:mg "NoAccount"=some (.ref t.c_Z0g)
 mg_Z0n:mg "NoText"=some (.ref t.c_Z0n)
 mg_Z0l:mg "NoRow"=some (.ref t.c_Z0l)
 mg_Z0j:mg "NoEntry"=some (.ref t.c_Z0j)
 ex_Z0g:Exc K t.c_Z0g
 ex_Z0i:Exc K t.c_Z0i
 ex_Z0h:Exc K t.c_Z0h
 ex_Z0n:Exc K t.c_Z0n
 k_Z06: ∃u,mg "LETTERS"=some u/\zB (.str (SL [97,98,99,100,101,102,103,104,105,106,107,108,109,110,111,112,113,114,115,116,117,118,119,120,121,122])) u
 k_Z0c: ∃u,mg "MOST_LETTERS"=some u/\zB (.int 8) u
 k_Z0f: ∃u,mg "MOST_PLANS"=some u/\zB (.int 8) u
 k_Z08: ∃u,mg "MOST_COUNT"=some u/\zB (.int 400) u
 k_Z04: ∃u,mg "LAST_FIRST_DAY"=some u/\zB (.int 3500000) u
 k_Z09: ∃u,mg "MOST_DAYS"=some u/\zB (.int 400) u
 k_Z0d: ∃u,mg "MOST_MONTHS"=some u/\zB (.int 12) u
 k_Z05: ∃u,mg "LAST_YEAR"=some u/\zB (.int 9999) u
 k_Z03: ∃u,mg "LAST_DAY"=some u/\zB (.int 3652058) u
 k_Z07: ∃a,mg "MONTH_DAYS"=some (.ref a)/\ ∀H,SqT K H a [.int 31, .int 28, .int 31, .int 30, .int 31, .int 30, .int 31, .int 31, .int 30, .int 31, .int 30, .int 31]
 k_Z0o: ∃u,mg "ROUND_DAYS"=some u/\zB (.int 146097) u
 k_Z02: ∃u,mg "HUNDRED_YEARS_DAYS"=some u/\zB (.int 36524) u
 k_Z01: ∃u,mg "FOUR_YEARS_DAYS"=some u/\zB (.int 1461) u
 k_Z0r: ∃u,mg "YEAR_DAYS"=some u/\zB (.int 365) u
 k_Z00: ∃u,mg "FIGURES"=some u/\zB (.str (SL [48,49,50,51,52,53,54,55,56,57])) u
 k_Z0a: ∃u,mg "MOST_FIGURES"=some u/\zB (.int 60) u
 k_Z0b: ∃u,mg "MOST_FIGURES_OF_NUMBER"=some u/\zB (.int 9) u
 k_Z0e: ∃u,mg "MOST_PLACES"=some u/\zB (.int 6) u
 no_isinstance:mg "isinstance"=none
 no_int:mg "int"=none
 no_bool:mg "bool"=none
 no_str:mg "str"=none
 no_len:mg "len"=none
 no_range:mg "range"=none
 no_divmod:mg "divmod"=none
 no_min:mg "min"=none
 no_abs:mg "abs"=none
 no_all:mg "all"=none
 no_zip:mg "zip"=none
 no_any:mg "any"=none
 no_set:mg "set"=none
 no_ValueError:mg "ValueError"=none
 cl_Z0p:ClsOk K t.c_Z0p
 cl_Z0i:ClsOk K t.c_Z0i
 cl_Z0k:ClsOk K t.c_Z0k
 cl_Z0h:ClsOk K t.c_Z0h
 cl_Z0m:ClsOk K t.c_Z0m
 cl_Z0q:ClsOk K t.c_Z0q
 cl_Z0g:ClsOk K t.c_Z0g
 cl_Z0n:ClsOk K t.c_Z0n
 cl_Z0l:ClsOk K t.c_Z0l
 cl_Z0j:ClsOk K t.c_Z0j
 xc_NoText:ExcCls K t.c_Z0n
 xc_NoDate:ExcCls K t.c_Z0i
 xc_NoAmount:ExcCls K t.c_Z0h
 xc_NoAccount:ExcCls K t.c_Z0g
 m_NoText_SpanError:PySem.W.mroIn K t.c_Z0n (.ref t.c_Z0p)=some true
 m_NoText_NoDate:PySem.W.mroIn K t.c_Z0n (.ref t.c_Z0i)=some false
 m_NoText_NoParts:PySem.W.mroIn K t.c_Z0n (.ref t.c_Z0k)=some false
 m_NoText_NoAmount:PySem.W.mroIn K t.c_Z0n (.ref t.c_Z0h)=some false
 m_NoText_NoSpan:PySem.W.mroIn K t.c_Z0n (.ref t.c_Z0m)=some false
 m_NoText_TooLong:PySem.W.mroIn K t.c_Z0n (.ref t.c_Z0q)=some false
 m_NoText_NoAccount:PySem.W.mroIn K t.c_Z0n (.ref t.c_Z0g)=some false
 m_NoText_NoText:PySem.W.mroIn K t.c_Z0n (.ref t.c_Z0n)=some true
 m_NoText_NoRow:PySem.W.mroIn K t.c_Z0n (.ref t.c_Z0l)=some false
 m_NoText_NoEntry:PySem.W.mroIn K t.c_Z0n (.ref t.c_Z0j)=some false
 m_NoText_ValueError:PySem.W.mroIn K t.c_Z0n (.type "ValueError")=some true
 m_NoDate_SpanError:PySem.W.mroIn K t.c_Z0i (.ref t.c_Z0p)=some true
 m_NoDate_NoDate:PySem.W.mroIn K t.c_Z0i (.ref t.c_Z0i)=some true
 m_NoDate_NoParts:PySem.W.mroIn K t.c_Z0i (.ref t.c_Z0k)=some false
 m_NoDate_NoAmount:PySem.W.mroIn K t.c_Z0i (.ref t.c_Z0h)=some false
 m_NoDate_NoSpan:PySem.W.mroIn K t.c_Z0i (.ref t.c_Z0m)=some false
 m_NoDate_TooLong:PySem.W.mroIn K t.c_Z0i (.ref t.c_Z0q)=some false
 m_NoDate_NoAccount:PySem.W.mroIn K t.c_Z0i (.ref t.c_Z0g)=some false
 m_NoDate_NoText:PySem.W.mroIn K t.c_Z0i (.ref t.c_Z0n)=some false
 m_NoDate_NoRow:PySem.W.mroIn K t.c_Z0i (.ref t.c_Z0l)=some false
 m_NoDate_NoEntry:PySem.W.mroIn K t.c_Z0i (.ref t.c_Z0j)=some false
 m_NoDate_ValueError:PySem.W.mroIn K t.c_Z0i (.type "ValueError")=some true
 m_NoAmount_SpanError:PySem.W.mroIn K t.c_Z0h (.ref t.c_Z0p)=some true
 m_NoAmount_NoDate:PySem.W.mroIn K t.c_Z0h (.ref t.c_Z0i)=some false
 m_NoAmount_NoParts:PySem.W.mroIn K t.c_Z0h (.ref t.c_Z0k)=some false
 m_NoAmount_NoAmount:PySem.W.mroIn K t.c_Z0h (.ref t.c_Z0h)=some true
 m_NoAmount_NoSpan:PySem.W.mroIn K t.c_Z0h (.ref t.c_Z0m)=some false
 m_NoAmount_TooLong:PySem.W.mroIn K t.c_Z0h (.ref t.c_Z0q)=some false
 m_NoAmount_NoAccount:PySem.W.mroIn K t.c_Z0h (.ref t.c_Z0g)=some false
 m_NoAmount_NoText:PySem.W.mroIn K t.c_Z0h (.ref t.c_Z0n)=some false
 m_NoAmount_NoRow:PySem.W.mroIn K t.c_Z0h (.ref t.c_Z0l)=some false
 m_NoAmount_NoEntry:PySem.W.mroIn K t.c_Z0h (.ref t.c_Z0j)=some false
 m_NoAmount_ValueError:PySem.W.mroIn K t.c_Z0h (.type "ValueError")=some true
 m_NoAccount_SpanError:PySem.W.mroIn K t.c_Z0g (.ref t.c_Z0p)=some true
 m_NoAccount_NoDate:PySem.W.mroIn K t.c_Z0g (.ref t.c_Z0i)=some false
 m_NoAccount_NoParts:PySem.W.mroIn K t.c_Z0g (.ref t.c_Z0k)=some false
 m_NoAccount_NoAmount:PySem.W.mroIn K t.c_Z0g (.ref t.c_Z0h)=some false
 m_NoAccount_NoSpan:PySem.W.mroIn K t.c_Z0g (.ref t.c_Z0m)=some false
 m_NoAccount_TooLong:PySem.W.mroIn K t.c_Z0g (.ref t.c_Z0q)=some false
 m_NoAccount_NoAccount:PySem.W.mroIn K t.c_Z0g (.ref t.c_Z0g)=some true
 m_NoAccount_NoText:PySem.W.mroIn K t.c_Z0g (.ref t.c_Z0n)=some false
 m_NoAccount_NoRow:PySem.W.mroIn K t.c_Z0g (.ref t.c_Z0l)=some false
 m_NoAccount_NoEntry:PySem.W.mroIn K t.c_Z0g (.ref t.c_Z0j)=some false
 m_NoAccount_ValueError:PySem.W.mroIn K t.c_Z0g (.type "ValueError")=some true
 m_NoDate_BaseException:PySem.W.mroIn K t.c_Z0i (.type "BaseException")=some true
 m_NoAmount_BaseException:PySem.W.mroIn K t.c_Z0h (.type "BaseException")=some true
 m_SpanError_BaseException:PySem.W.mroIn K t.c_Z0p (.type "BaseException")=some true
section
local macro_rules| `(tactic|open_k0)=> `(tactic|simp only[yw,yu,yL,yv,yN,yM,yK,yt,yI,yJ,yH,ya,yr,yG,zH,zJ,zK,z9,zQ,List.replicate,Option.join_some,Option.join_none,zO,yq,yo,ym,tSl,yk,yj,yy,slT,z4,Int.reduceLT,Int.reduceLE,Int.reduceToNat,Int.reduceNeg,Int.reduceAdd,Int.reduceSub,Int.reduceMul,forall_const,zU,yf,yg,zZ,yx,zY,zS,zL,zR,zV,zW,tC,tOp,rI,rI0,tUn,rU,z5,tB,yb,tOr,yc,zX,yd,ye,tIf,z7,yi,z8,yF,tCB,yp,rEq,rNe,yA,yB,yC,yD,yE,z6,yh,ipI,L2.start,List.map_cons,List.map_nil,List.length_cons,List.length_nil,List.cons_append,List.nil_append,List.append_nil,List.replicate_succ,List.replicate_zero,Nat.reduceAdd,Nat.reduceSub,List.getElem?_cons_zero,List.getElem?_cons_succ,List.set_cons_zero,List.set_cons_succ,Option.some.injEq,V.int.injEq,V.bl.injEq,V.ref.injEq,V.str.injEq,exists_eq_left',exists_eq_left,exists_eq',exists_and_left,List.cons.injEq,and_true,true_and,and_self,and_assoc,decide_eq_true_eq,if_true,if_false,Bool.true_eq_false,Bool.false_eq_true,Bool.not_eq_true',Bool.not_true,Bool.not_false,decide_eq_false_iff_not,ite_true,ite_false,reduceCtorEq,false_and,exists_false,false_or,or_false,and_false,Nat.reduceLeDiff])
local macro_rules| `(tactic|lge_open0)=> `(tactic|simp only[yw,yu,yL,yv,yN,yM,yK,yt,yI,yJ,yH,ya,yr,yG,zH,zJ,zK,z9,zQ,List.replicate,Option.join_some,Option.join_none,zO,yq,yo,ym,tSl,yk,yj,yy,slT,z4,Int.reduceLT,Int.reduceLE,Int.reduceToNat,Int.reduceNeg,Int.reduceAdd,Int.reduceSub,Int.reduceMul,forall_const,zU,yf,yg,zZ,yx,zY,zS,zL,zR,zV,zW,tC,tOp,rI,rI0,tUn,rU,z5,tB,yb,tOr,yc,zX,yd,ye,tIf,z7,yi,z8,yF,tCB,yp,rEq,rNe,yA,yB,yC,yD,yE,z6,yh,ipI,L2.start,List.map_cons,List.map_nil,List.length_cons,List.length_nil,List.cons_append,List.nil_append,List.append_nil,List.replicate_succ,List.replicate_zero,Nat.reduceAdd,Nat.reduceSub,List.getElem?_cons_zero,List.getElem?_cons_succ,List.set_cons_zero,List.set_cons_succ,Option.some.injEq,V.int.injEq,V.bl.injEq,V.ref.injEq,V.str.injEq,exists_eq_left',exists_eq_left,exists_eq',exists_and_left,List.cons.injEq,and_true,true_and,and_self,and_assoc,decide_eq_true_eq,if_true,if_false,Bool.true_eq_false,Bool.false_eq_true,Bool.not_eq_true',Bool.not_true,Bool.not_false,decide_eq_false_iff_not,ite_true,ite_false,reduceCtorEq,false_and,exists_false,false_or,or_false,and_false,Nat.reduceLeDiff,tBM])
local macro_rules| `(tactic|lgec_open0)=> `(tactic|simp only[yw,yu,yL,yv,yN,yM,yK,yt,yI,yJ,yH,ya,yr,yG,zH,zJ,zK,z9,zQ,List.replicate,Option.join_some,Option.join_none,zO,yq,yo,ym,tSl,yk,yj,yy,slT,z4,Int.reduceLT,Int.reduceLE,Int.reduceToNat,Int.reduceNeg,Int.reduceAdd,Int.reduceSub,Int.reduceMul,forall_const,zU,yf,yg,zZ,yx,zY,zS,zL,zR,zV,zW,tC,tOp,rI,rI0,tUn,rU,z5,tB,yb,tOr,yc,zX,yd,ye,tIf,z7,yi,z8,yF,tCB,yp,rEq,rNe,yA,yB,yC,yD,yE,z6,yh,ipI,L2.start,List.map_cons,List.map_nil,List.length_cons,List.length_nil,List.cons_append,List.nil_append,List.append_nil,List.replicate_succ,List.replicate_zero,Nat.reduceAdd,Nat.reduceSub,List.getElem?_cons_zero,List.getElem?_cons_succ,List.set_cons_zero,List.set_cons_succ,Option.some.injEq,V.int.injEq,V.bl.injEq,V.ref.injEq,V.str.injEq,exists_eq_left',exists_eq_left,exists_eq',exists_and_left,List.cons.injEq,and_true,true_and,and_self,and_assoc,decide_eq_true_eq,if_true,if_false,Bool.true_eq_false,Bool.false_eq_true,Bool.not_eq_true',Bool.not_true,Bool.not_false,decide_eq_false_iff_not,ite_true,ite_false,reduceCtorEq,false_and,exists_false,false_or,or_false,and_false])
variable {P:Program} {w:World} {K:Fg} {mg:Str->Option Value} {base:Heap} {t:Adr}
def zmj:Sp:=λvs H Q _=> ∃y:Int,vs= [.int y]/\Q (.bl (decide (Cal.lp y=1))) H
theorem sc_08:FnScope ["year"] ["year"] (zC s_08):=⟨rfl,rfl,rfl,by decide+kernel,rfl,by decide+kernel,by decide+kernel⟩
theorem ok_08(T:Txt K mg t):FnOk P w K mg base (CXE P w) 1 t.a_08 t.d_08 ["year"] zmj:=by
 refine T.fn_08.okX sc_08 (λvs H Q E h=> ?_) (λcdv A outer s H vs Q E L hr h=> ?_)
 ·obtain⟨y,rfl,_⟩:=h;rfl
 obtain⟨y,rfl,q⟩:=h;have nd:=sc_08.nd;refine⟨_,(zo (zD (xC (qz yQ (zr y6 (pv 0) zh) zh (zw _)) (qU (vB (qz qC (zr y6 (pv 0) zh) zh (zw _)) (qU (qz yQ (zr y6 (pv 0) zh) zh (zw _)))))))),?_⟩;lgec_open0
 have e: ∀b,b=decide (Cal.lp y=1)->Q (.bl b) H:=λb z=>by rw[z];exact q
 split
 ·split
  ·exact e _ (by simp [Cal.lp, *])
  ·refine e _ ?_;by_cases c:y % 400=0<;>simp [Cal.lp, *]
 ·exact e _ (by simp [Cal.lp, *])
def kJ(y m:Int):Prop:=1<=y/\y<=9999/\1<=m/\m<=12
def zmk(t:Adr):Sp:=λvs H Q E=> ∃y m:Int,vs= [.int y, .int m]/\(kJ y m->Q (.int (Cal.dim y m)) H)/\(¬kJ y m->E (.ref t.c_Z0i) none H)
theorem zfJ{m:Int}(h1:1<=m)(h2:m<=12):atI [V.int 31,V.int 28,V.int 31,V.int 30,V.int 31,V.int 30,V.int 31,V.int 31,V.int 30,V.int 31,V.int 30,V.int 31] (m - 1)=some (.int (if m=2 then 28 else if m=4\/m=6\/m=9\/m=11 then 30 else 31)):=by
 have q:m=1\/m=2\/m=3\/m=4\/m=5\/m=6\/m=7\/m=8\/m=9\/m=10\/m=11\/m=12:=by omega
 rcases q with rfl|rfl|rfl|rfl|rfl|rfl|rfl|rfl|rfl|rfl|rfl|rfl<;>rfl
theorem sc_09:FnScope ["year","month"] ["year","month"] (zC s_09):=⟨rfl,rfl,rfl,by decide+kernel,rfl,by decide+kernel,by decide+kernel⟩
theorem ok_09(T:Txt K mg t):FnOk P w K mg base (CXE P w) 2 t.a_09 t.d_09 ["year","month"] (zmk t):=by
 refine T.fn_09.okX sc_09 (λvs H Q E h=> ?_) (λcdv A outer s H vs Q E L hr h=> ?_)
 ·refine opq λ_ kq=> ?_;obtain⟨y,m,rfl,_⟩:=h;apply kq;rfl
 refine opq λ_ kq=> ?_;obtain⟨y,m,rfl,q1,q2⟩:=h;have nd:=sc_09.nd;obtain⟨a_Z07,h_Z07,q_Z07⟩:=T.k_Z07;have r_Z07:zB (.ref a_Z07) (.ref a_Z07):=rfl;obtain⟨u_Z05,h_Z05,r_Z05⟩:=T.k_Z05;apply kq;refine⟨_,(zn (zG (qb (zz xj (pv 0) zh (zw _)) (qH (zz qJ (pv 0) (qr (by rfl) h_Z05 r_Z05) (zw _)))).pt (zo (qZ L T.ex_Z0i (by rfl) (by rfl) T.mg_Z0i (ze qR zg))) zF) (zn (zG (qb (zz xj (pv 1) zh (zw _)) (qH (zz qJ (pv 1) zh (zw _)))).pt (zo (qZ L T.ex_Z0i (by rfl) (by rfl) T.mg_Z0i (ze qR zg))) zF) (zn (zG (jA (zz yQ (pv 1) zh (zw _)) (jz (qB (zu L.toLv (ok_08 T) (hr.mono 'd') (by rfl) T.mg_08 T.fn_08.kp T.b_08 .nil (ze (pv 0) zg))))).pt (zo (zD zh)) zF) (zo (zD (zt v7 (qr (by rfl) h_Z07 r_Z07) (zr xV (pv 1) zh) (λ_ _=>rfl))))))),?_⟩;open_k0;split
 ·exact q2 (λz=>by obtain⟨_,_,_,_⟩:=z;omega)
 split
 ·exact q2 (λz=>by obtain⟨_,_,_,_⟩:=z;omega)
 split
 ·exact q2 (λz=>by obtain⟨_,_,_,_⟩:=z;omega)
 split
 ·exact q2 (λz=>by obtain⟨_,_,_,_⟩:=z;omega)
 have ok:kJ y m:=⟨'o','o','o','o'⟩
 have q:=q1 ok;split
 ·rename_i h2;subst h2;refine⟨y,rfl,_,rfl,?_⟩;have l:=Cal.lp_01 y;have e:Cal.dim y 2=28+Cal.lp y:=rfl;rw[e] at q;split
  ·rename_i c;have z:Cal.lp y=1:=of_decide_eq_true c;rw[z] at q;exact q
  ·rename_i c;have z:Cal.lp y≠1:=of_decide_eq_false (Bool.eq_false_iff.mpr c);refine ixT (q_Z07 _) (zfJ 'o' 'o') ?_;have z0:Cal.lp y=0:=by omega
   rw[z0] at q;exact q
 ·rename_i h2;refine ixT (q_Z07 _) (zfJ 'o' 'o') ?_;rw[Jf h2];unfold Cal.dim at q;rw[Jf h2] at q;exact q
def zk8:Sp:=λvs H Q _=> ∃y:Int,vs= [.int y]/\Q (.int (Cal.ahead y)) H
theorem sc_0a:FnScope ["year","past"] ["year"] (zC s_0a):=⟨rfl,rfl,rfl,by decide+kernel,rfl,by decide+kernel,by decide+kernel⟩
theorem ok_0a(T:Txt K mg t):FnOk P w K mg base (CXE P w) 1 t.a_0a t.d_0a ["year"] zk8:=by
 refine T.fn_0a.okX sc_0a (λvs H Q E h=> ?_) (λcdv A outer s H vs Q E L hr h=> ?_)
 ·obtain⟨y,rfl,_⟩:=h;rfl
 refine opq λ_ kq=> ?_;obtain⟨y,rfl,q⟩:=h;have nd:=sc_0a.nd;obtain⟨u_Z0r,h_Z0r,r_Z0r⟩:=T.k_Z0r;apply kq;refine⟨_,(zn (zI (i:=1) nd rfl (Or.inl rfl) (zr xV (pv 0) zh)) (zo (zD (zr y0 (zr xV (zr y0 (zr vY (pv 1) (qr (by rfl) h_Z0r r_Z0r)) (zr vc (pv 1) zh)) (zr vc (pv 1) zh)) (zr vc (pv 1) zh))))),?_⟩;open_k0;exact⟨Or.inr ⟨'d','d'⟩,q⟩
def zk9(t:Adr):Sp:=λvs H Q E=> ∃y m d:Int,vs= [.int y, .int m, .int d]/\(Cal.Valid y m d->Q (.int (Cal.num y m d)) H)/\(¬Cal.Valid y m d->E (.ref t.c_Z0i) none H)
theorem sc_0b:FnScope ["year","month","day","ahead","earlier"] ["year","month","day"] (zC s_0b):=⟨rfl,rfl,rfl,by decide+kernel,rfl,by decide+kernel,by decide+kernel⟩
theorem ok_0b(T:Txt K mg t):FnOk P w K mg base (CXE P w) 3 t.a_0b t.d_0b ["year","month","day"] (zk9 t):=by
 refine T.fn_0b.okX sc_0b (λvs H Q E h=> ?_) (λcdv A outer s H vs Q E L hr h=> ?_)
 ·refine opq λ_ kq=> ?_;obtain⟨y,m,d,rfl,_⟩:=h;apply kq;rfl
 refine opq λ_ kq=> ?_;obtain⟨y,m,d,rfl,q1,q2⟩:=h;apply kq;have nd:=sc_0b.nd;refine⟨_,(zn (zG (qb (zz xj (pv 2) zh (zw _)) (qH (zz qJ (pv 2) (zu L.toLv (ok_09 T) (hr.mono 'd') (by rfl) T.mg_09 T.fn_09.kp T.b_09 .nil (ze (pv 0) (ze (pv 1) zg zk) zk)) (zw _)))).pt (zo (qZ L T.ex_Z0i (by rfl) (by rfl) T.mg_Z0i (ze qR zg))) zF) (zn (zI (i:=3) nd rfl (Or.inl rfl) (zu L.toLv (ok_0a T) (hr.mono 'd') (by rfl) T.mg_0a T.fn_0a.kp T.b_0a .nil (ze (pv 0) zg))) (zn (xx (by passes_own) rfl (ziA (by rfl) T.no_range (ze zh (ze (pv 1) zg zk) zi)) (yO (i:=4) nd rfl (Or.inl rfl)) (zo (uH (i:=3) nd rfl (Or.inl rfl) (zu L.toLv (ok_09 T) (hr.mono 'd') (by rfl) T.mg_09 T.fn_09.kp T.b_09 .nil (ze (pv 0) (ze (pv 4) zg zk) zk)) zjh))) (zo (zD (zr xV (zr y0 (pv 3) (pv 2)) zh)))))),?_⟩;open_k0;split
 ·exact q2 (λz=>by obtain⟨_,_,_,_,_,_⟩:=z;omega)
 refine⟨y,m,rfl,λok=> ?_,λno=>q2 (λz=>no ⟨z.1,z.2.1,z.2.2.1,z.2.2.2.1⟩)⟩;refine opq λ_ kq=> ?_;obtain⟨o1,o2,o3,o4⟩:=ok;apply kq;lgec_open0
 split
 ·exact q2 (λz=>by obtain⟨_,_,_,_,_,_⟩:=z;omega)
 have va:Cal.Valid y m d:=⟨o1,o2,o3,o4,'o','o'⟩
 have q:=q1 va;refine⟨y,rfl,?_⟩;first|refine⟨_,rfl,1,m,rfl,⟨'d','d','o','o'⟩,?_⟩|refine⟨1,m,rfl,⟨'d','d','o','o'⟩,?_⟩
 refine uJ (λi σ1 H1=>H1=H/\ ∃e,σ1= [some (.int y),some (.int m),some (.int d),some (.int (Cal.ahead y+Cal.cum y ((i:Int)+1))),e]) ⟨rfl,none,?_⟩ (λi σ1 H1 hi h=> ?_) (λσ1 H1 h=> ?_)
 ·have e:Cal.ahead y+Cal.cum y (((0:Nat):Int)+1)=Cal.ahead y:=by
   rw[show (((0:Nat):Int)+1)=1 from rfl,Cal.cum_one];omega
  rw[e]
 ·obtain⟨rfl,e,rfl⟩:=h;lgec_open0
  refine⟨y,1+(i:Int),rfl,λ_=> ?_,λno=>absurd ⟨o1,o2,'o','o'⟩ no⟩;refine⟨_,rfl,rfl,?_⟩;have s:=Cal.cum_succ (y:=y) (m:=(i:Int)+1) 'o' 'o';have e1:((i+1:Nat):Int)+1=(i:Int)+1+1:=by omega
  have e2:(1:Int)+(i:Int)=(i:Int)+1:=by omega
  rw[e1,s,e2,Int.add_assoc]
 ·obtain⟨rfl,e,rfl⟩:=h;lgec_open0
  have e1:(((m - 1).toNat:Nat):Int)+1=m:=by omega
  rw[e1];exact q
def zj4:Sp:=λvs H Q _=> ∃n:Int,vs= [.int n]/\ ∀H',zq H H'->Q (.int (Cal.yearOf n)) H'
theorem sc_0c:FnScope ["number","rounds","rest","hundreds","fours","ones"] ["number"] (zC s_0c):=⟨rfl,rfl,rfl,by decide+kernel,rfl,by decide+kernel,by decide+kernel⟩
theorem ok_0c(T:Txt K mg t):FnOk P w K mg base (CXE P w) 1 t.a_0c t.d_0c ["number"] zj4:=by
 refine T.fn_0c.okX sc_0c (λvs H Q E h=> ?_) (λcdv A outer s H vs Q E L hr h=> ?_)
 ·obtain⟨n,rfl,_⟩:=h;rfl
 refine opq λ_ kq=> ?_;obtain⟨n,rfl,q⟩:=h;have nd:=sc_0c.nd;obtain⟨u_Z0o,h_Z0o,r_Z0o⟩:=T.k_Z0o;obtain⟨u_Z02,h_Z02,r_Z02⟩:=T.k_Z02;obtain⟨u_Z01,h_Z01,r_Z01⟩:=T.k_Z01;obtain⟨u_Z0r,h_Z0r,r_Z0r⟩:=T.k_Z0r;apply kq;refine⟨_,(zn (qV (zM ze2 (by rfl) T.no_divmod zge (ze (pv 0) (ze (qr (by rfl) h_Z0o r_Z0o) zg zk) zk)) (xJ (n:=2) rfl (qf (yO (i:=1) nd rfl (Or.inl rfl)) (qf (yO (i:=2) nd rfl (Or.inl rfl)) xI)))) (zn (zI (i:=3) nd rfl (Or.inl rfl) (zM (zf5 (by rfl)) (by rfl) T.no_min zju (ze (zr vc (pv 2) (qr (by rfl) h_Z02 r_Z02)) (ze zh zg zi) qD))) (zn (uH (i:=2) nd rfl (Or.inl rfl) (zr vY (pv 3) (qr (by rfl) h_Z02 r_Z02)) zji) (zn (qV (zM ze2 (by rfl) T.no_divmod zge (ze (pv 2) (ze (qr (by rfl) h_Z01 r_Z01) zg zk) zk)) (xJ (n:=2) rfl (qf (yO (i:=4) nd rfl (Or.inl rfl)) (qf (yO (i:=2) nd rfl (Or.inl rfl)) xI)))) (zn (zI (i:=5) nd rfl (Or.inl rfl) (zM (zf5 (by rfl)) (by rfl) T.no_min zju (ze (zr vc (pv 2) (qr (by rfl) h_Z0r r_Z0r)) (ze zh zg zi) qD))) (zo (zD (zr y0 (zr y0 (zr y0 (zr y0 (zr vY (pv 1) zh) (zr vY (pv 3) zh)) (zr vY (pv 4) zh)) (pv 5)) zh)))))))),?_⟩;open_k0;intro p hp;refine⟨p,_,rfl,SqT.of zP,rfl,?_⟩;lgec_open0
 refine⟨Or.inr ⟨'d','d'⟩,λp2 hp2=>⟨p2,_,rfl,SqT.of zP,rfl,?_⟩⟩;lgec_open0
 refine⟨Or.inr ⟨'d','d'⟩,Or.inr ⟨'d','d'⟩,Or.inr ⟨'d','d'⟩,?_⟩;have e: ∀r:Int,r=Cal.yearOf n->Q (.int r) (upd (upd H p (.tup [.int (n / 146097), .int (n % 146097)])) p2 (.tup [.int ((n % 146097 - (if 3<n % 146097 / 36524 then 3 else n % 146097 / 36524)*36524) / 1461), .int ((n % 146097 - (if 3<n % 146097 / 36524 then 3 else n % 146097 / 36524)*36524) % 1461)])):=λr z=>by
  rw[z];exact q _ ((xo hp _).trans (xo hp2 _))
 refine e _ ?_;unfold Cal.yearOf;have m1: ∀a:Int,min a 3=if 3<a then 3 else a:=λa=>by split<;>omega
 simp only[m1]
def zj5(t:Adr):Sp:=λvs H Q E=> ∃n:Int,vs= [.int n]/\
 (0<=n/\n<=3652058-> ∀y m d p H',Cal.Valid y m d->Cal.num y m d=n->zq H H'->H' p=some (.tup [.int y, .int m, .int d])->Q (.ref p) H')/\(¬(0<=n/\n<=3652058)->E (.ref t.c_Z0i) none H)
theorem sc_0d:FnScope ["number","year","rest","month"] ["number"] (zC s_0d):=⟨rfl,rfl,rfl,by decide+kernel,rfl,by decide+kernel,by decide+kernel⟩
theorem ok_0d(T:Txt K mg t):FnOk P w K mg base (CXE P w) 3 t.a_0d t.d_0d ["number"] (zj5 t):=by
 refine T.fn_0d.okX sc_0d (λvs H Q E h=> ?_) (λcdv A outer s H vs Q E L hr h=> ?_)
 ·obtain⟨n,rfl,_⟩:=h;rfl
 refine opq λ_ kq=> ?_;obtain⟨n,rfl,q1,q2⟩:=h;have nd:=sc_0d.nd;obtain⟨u_Z03,h_Z03,r_Z03⟩:=T.k_Z03;apply kq;refine⟨_,(zn (zG (qb (zz xj (pv 0) zh (zw _)) (qH (zz qJ (pv 0) (qr (by rfl) h_Z03 r_Z03) (zw _)))).pt (zo (qZ L T.ex_Z0i (by rfl) (by rfl) T.mg_Z0i (ze qR zg))) zF) (zn (zI (i:=1) nd rfl (Or.inl rfl) (zu L.toLv (ok_0c T) (hr.mono 'd') (by rfl) T.mg_0c T.fn_0c.kp T.b_0c .nil (ze (pv 0) zg))) (zn (zI (i:=2) nd rfl (Or.inl rfl) (zr xV (pv 0) (zu L.toLv (ok_0a T) (hr.mono 'd') (by rfl) T.mg_0a T.fn_0a.kp T.b_0a .nil (ze (pv 1) zg)))) (zn (zI (i:=3) nd rfl (Or.inl rfl) zh) (zn (zjj (by passes_own) (zz zmN (pv 2) (zu L.toLv (ok_09 T) (hr.mono 'd') (by rfl) T.mg_09 T.fn_09.kp T.b_09 .nil (ze (pv 1) (ze (pv 3) zg zk) zk)) (zw _)) (zn (uH (i:=2) nd rfl (Or.inl rfl) (zu L.toLv (ok_09 T) (hr.mono 'd') (by rfl) T.mg_09 T.fn_09.kp T.b_09 .nil (ze (pv 1) (ze (pv 3) zg zk) zk)) zji) (zo (uH (i:=3) nd rfl (Or.inl rfl) zh zjh)))) (zo (zD (zlT (ze (pv 1) (ze (pv 3) (ze (zr y0 (pv 2) zh) zg qD) zk) zk))))))))),?_⟩;open_k0;split
 ·exact q2 (λz=>by obtain⟨_,_⟩:=z;omega)
 split
 ·exact q2 (λz=>by obtain⟨_,_⟩:=z;omega)
 have n0:0<=n:=by omega
 have n1:n<=3652058:=by omega
 have q:=q1 ⟨n0,n1⟩;refine opq λ_ kq=> ?_;obtain⟨y1,y2,y3,y4⟩:=Cal.yearOf_spec n0 n1;apply kq;refine⟨n,rfl,λH1 sm=>⟨_,rfl,_,rfl,?_⟩⟩;refine⟨λk σ1 H2=>H2=H1/\ ∃m:Int,σ1= [some (.int n),some (.int (Cal.yearOf n)),some (.int (n - Cal.ahead (Cal.yearOf n) - Cal.cum (Cal.yearOf n) m)),some (.int m)]/\1<=m/\m<=12/\Cal.cum (Cal.yearOf n) m<=n - Cal.ahead (Cal.yearOf n)/\k=(13 - m).toNat,⟨12,rfl,1,?_,'d','d',by rw[Cal.cum_one];omega,'d'⟩,?_⟩
 ·rw[Cal.cum_one,Int.sub_zero]
 ·rintro k σ1 H2 ⟨rfl,m,rfl,m1,m2,m3,rfl⟩;lgec_open0
  refine⟨_,m,rfl,λ_=> ?_,λno=>absurd ⟨y1,y2,m1,m2⟩ no⟩;lgec_open0
  split
  ·rename_i c;have lt:m<12:=by
    apply Classical.byContradiction;intro z;obtain rfl:m=12:=by omega
    have s:=Cal.cum_succ (y:=Cal.yearOf n) (m:=12) 'd' 'd';have u:Cal.cum (Cal.yearOf n) (12+1)=365+Cal.lp (Cal.yearOf n):=Cal.cum_13 _;omega
   have s:=Cal.cum_succ (y:=Cal.yearOf n) m1 m2;refine⟨_,λσ2 H3 h=>h,?_⟩;refine⟨_,m,rfl,λ_=> ?_,λno=>absurd ⟨y1,y2,m1,m2⟩ no⟩;lgec_open0
   exact⟨(13 - (m+1)).toNat,'o',m+1,'o',rfl,'o','o','o',rfl⟩
  ·rename_i c;open_k0;intro p hp;have s:=Cal.cum_succ (y:=Cal.yearOf n) m1 m2;refine q (Cal.yearOf n) m (n - Cal.ahead (Cal.yearOf n) - Cal.cum (Cal.yearOf n) m+1) p _ ⟨y1,y2,m1,m2,'o','o'⟩ (by unfold Cal.num;omega) (sm.trans (xo hp _)) zP
def wg(y m d:Int):List Nat:=fig 4 y++ [45]++(fig 2 m++ [45]++fig 2 d)
def zla:Sp:=λvs H Q _=> ∃n y m d:Int,vs= [.int n]/\Cal.Valid y m d/\Cal.num y m d=n/\ ∀H',zq H H'->Q (.str (SL (wg y m d))) H'
open PySem.NumText in
def zi4(t:Adr):Sp:=λvs H Q E=> ∃cs:List Nat,vs= [.str (SL cs)]/\cs≠ []/\cs.length<=640/\(AllDigits cs->Q (.int (digitsVal cs:Nat)) H)/\(¬AllDigits cs->E (.ref t.c_Z0i) none H)
open PySem.NumText in
def vn(cs:List Nat)(y m d:Int):Prop:= ∃a b c,cs=a++ [45]++(b++ [45]++c)/\a.length=4/\b.length=2/\c.length=2/\AllDigits a/\AllDigits b/\AllDigits c/\y=(digitsVal a:Nat)/\m=(digitsVal b:Nat)/\d=(digitsVal c:Nat)
def zhY(t:Adr):Sp:=λvs H Q E=> ∃cs:List Nat,vs= [.str (SL cs)]/\cs.length<=sizeLine/\(∀y m d,vn cs y m d->Cal.Valid y m d->Q (.int (Cal.num y m d)) H)/\((∀y m d,vn cs y m d-> ¬Cal.Valid y m d)->E (.ref t.c_Z0i) none H)
theorem kK{k:Nat}{n:Int}(h0:0<=n)(h1:n<10 ^ (k+1)):zf (dg n.toNat) (k+1)=fig (k+1) n:=by
 obtain⟨m,rfl⟩:=Int.eq_ofNat_of_zero_le h0;rw[JE];refine zlv k m ?_;have e:((10 ^ (k+1):Nat):Int)=10 ^ (k+1):=by simp
 omega
theorem zgr{cs:List Nat}{m d y' m' d':Int}(h:vn cs y m d)(g:vn cs y' m' d'):y=y'/\m=m'/\d=d':=by
 obtain⟨a,b,c,rfl,ha,hb,hc,_,_,_,rfl,rfl,rfl⟩:=h;obtain⟨a',b',c',e,ha',hb',hc',_,_,_,rfl,rfl,rfl⟩:=g;simp only[JJ] at e;obtain⟨e1,e2⟩:=List.append_inj e 'o';have e3:=List.append_cancel_left e2;obtain⟨e4,e5⟩:=List.append_inj e3 'o';have e6:=List.append_cancel_left e5;rw[e1,e4,e6];exact⟨rfl,rfl,rfl⟩
open PySem.NumText in
theorem uv{c0 c1 c2 c3 c4 c5 c6 c7 c8 c9:Nat}{m d:Int}(h:vn [c0,c1,c2,c3,c4,c5,c6,c7,c8,c9] y m d):c4=45/\c7=45/\AllDigits [c0,c1,c2,c3]/\AllDigits [c5,c6]/\AllDigits [c8,c9]:=by
 obtain⟨a,b,c,e,ha,hb,hc,x1,x2,x3,_⟩:=h;match a,ha,x1 with
 | [a0,a1,a2,a3],_,x1=>
  match b,hb,x2 with
  | [b0,b1],_,x2=>
   match c,hc,x3 with
   | [d0,d1],_,x3=>
    simp only[List.cons_append,List.nil_append,List.cons.injEq,and_true] at e;obtain⟨rfl,rfl,rfl,rfl,rfl,rfl,rfl,rfl,rfl,rfl⟩:=e;exact⟨rfl,rfl,x1,x2,x3⟩
theorem sc_0e:FnScope ["number","year","month","day"] ["number"] (zC s_0e):=⟨rfl,rfl,rfl,by decide+kernel,rfl,by decide+kernel,by decide+kernel⟩
theorem ok_0e(T:Txt K mg t):FnOk P w K mg base (CXE P w) 4 t.a_0e t.d_0e ["number"] (zla):=by
 refine T.fn_0e.okX sc_0e (λvs H Q E h=> ?_) (λcdv A outer s H vs Q E L hr h=> ?_)
 ·refine opq λ_ kq=> ?_;obtain⟨n,y,m,d,rfl,va,hn,q⟩:=h;apply kq;rfl
 refine opq λ_ kq=> ?_;obtain⟨n,y,m,d,rfl,va,hn,q⟩:=h;apply kq;have nd:=sc_0e.nd;refine⟨_,(zn (qV (zu L.toLv (ok_0d T) (hr.mono 'd') (by rfl) T.mg_0d T.fn_0d.kp T.b_0d .nil (ze (pv 0) zg)) (xJ (n:=3) rfl (qf (yO (i:=1) nd rfl (Or.inl rfl)) (qf (yO (i:=2) nd rfl (Or.inl rfl)) (qf (yO (i:=3) nd rfl (Or.inl rfl)) xI))))) (zo (zD (yU PySem.F.plainAttrs_str PySem.F.slot_str_join PySem.F.type_str_join ug (zj st_11) (ze (zlU (ze (yU PySem.F.plainAttrs_str PySem.F.slot_str_zfill PySem.F.type_str_zfill uQ (qu vg (by rfl) T.no_str wy (ze (pv 1) zg)) (ze zh zg)) (ze (yU PySem.F.plainAttrs_str PySem.F.slot_str_zfill PySem.F.type_str_zfill uQ (qu vg (by rfl) T.no_str wy (ze (pv 2) zg)) (ze zh zg)) (ze (yU PySem.F.plainAttrs_str PySem.F.slot_str_zfill PySem.F.type_str_zfill uQ (qu vg (by rfl) T.no_str wy (ze (pv 3) zg)) (ze zh zg)) zg qh) qh) qh)) zg))))),?_⟩;lge_open0
 have nr:=Cal.num_range va;refine⟨_,rfl,λ_ y' m' d' p H1 va' hn' s1 hp=> ?_,λno=>absurd 'o' no⟩;obtain⟨rfl,rfl,rfl⟩:=Cal.num_inj va' va (by rw[hn',hn]);refine⟨p,_,rfl,SqT.of hp,rfl,?_⟩;lge_open0
 have b:=Cal.dim_bounds y' m';refine opq λ_ kq=> ?_;obtain⟨v1,v2,v3,v4,v5,v6⟩:=id va;apply kq;refine⟨rfl,'o',vK 'o' 'o',rfl,4,rfl,'d',λc r=>uU,'o',vK 'o' 'o',rfl,2,rfl,'d',λc r=>uU,'o',vK 'o' 'o',rfl,2,rfl,'d',λc r=>uU,λp2 hp2=> ?_⟩;rw[kK (k:=3) 'o' 'o',kK (k:=1) 'o' 'o',kK (k:=1) 'o' 'o'];refine⟨[fig 4 y',fig 2 m',fig 2 d'],SqL.of zP,?_,q _ (s1.trans (xo hp2 _))⟩;simp [vh]
theorem sc_0f:FnScope ["text","sign"] ["text"] (zC s_0f):=⟨rfl,rfl,rfl,by decide+kernel,rfl,by decide+kernel,by decide+kernel⟩
theorem ok_0f(T:Txt K mg t):FnOk P w K mg base (CXE P w) 1 t.a_0f t.d_0f ["text"] (zi4 t):=by
 refine T.fn_0f.okX sc_0f (λvs H Q E h=> ?_) (λcdv A outer s H vs Q E L hr h=> ?_)
 ·refine opq λ_ kq=> ?_;obtain⟨cs,rfl,hne,hl,q1,q2⟩:=h;apply kq;rfl
 refine opq λ_ kq=> ?_;obtain⟨cs,rfl,hne,hl,q1,q2⟩:=h;have nd:=sc_0f.nd;obtain⟨u_Z00,h_Z00,r_Z00⟩:=T.k_Z00;apply kq;refine⟨_,(zn (xx (by passes_own) rfl (vH (pv 0)) (yO (i:=1) nd rfl (Or.inl rfl)) (zo (zG (zz uf (pv 1) (qr (by rfl) h_Z00 r_Z00) rfl) (zo (qZ L T.ex_Z0i (by rfl) (by rfl) T.mg_Z0i (ze qR zg))) zF))) (zo (zD (qu xD (by rfl) T.no_int q0 (ze (pv 0) zg))))),?_⟩;open_k0;refine⟨_,rfl,_,rfl,?_⟩;refine ue (cs:=cs) (λi σ1 H1=>H1=H/\(∃e,σ1= [some (.str (SL cs)),e])/\ ∀j c,j<i->cs[j]? =some c->48<=c/\c<=57) ⟨rfl,⟨none,rfl⟩,λj c h=>absurd h (Nat.not_lt_zero _)⟩ (λi c σ1 H1 hc h=> ?_) (λσ1 H1 h=> ?_)
 ·refine opq λ_ kq=> ?_;obtain⟨rfl,⟨e,rfl⟩,h⟩:=h;apply kq;open_k0;by_cases ok:48<=c/\c<=57
  ·rw[Jf (λz=>z ((vL c).mpr ok))];intro j c' hj hc';by_cases z:j=i
   ·subst z;rw[hc] at hc';cases hc';exact ok
   ·exact h j c' 'o' hc'
  ·rw[Jg (λz=>ok ((vL c).mp z))];exact q2 (λz=>ok (z c (Ji hc)))
 ·refine opq λ_ kq=> ?_;obtain⟨rfl,⟨e,rfl⟩,h⟩:=h;apply kq;open_k0;have ad:PySem.NumText.AllDigits cs:=λc hc=>by
   obtain⟨j,hj,e⟩:=List.getElem_of_mem hc;exact h j c hj (by rw[Jb hj,e])
  exact⟨ad,hne,hl,q1 ad⟩
theorem sc_0g:FnScope ["text"] ["text"] (zC s_0g):=⟨rfl,rfl,rfl,by decide+kernel,rfl,by decide+kernel,by decide+kernel⟩
theorem ok_0g(T:Txt K mg t):FnOk P w K mg base (CXE P w) 4 t.a_0g t.d_0g ["text"] (zhY t):=by
 refine T.fn_0g.okX sc_0g (λvs H Q E h=> ?_) (λcdv A outer s H vs Q E L hr h=> ?_)
 ·refine opq λ_ kq=> ?_;obtain⟨cs,rfl,hl,q1,q2⟩:=h;apply kq;rfl
 refine opq λ_ kq=> ?_;obtain⟨cs,rfl,hl,q1,q2⟩:=h;apply kq;have nd:=sc_0g.nd;refine⟨_,(zn (zG (qb (zz qC (zM xZ (by rfl) T.no_len yR (ze (pv 0) zg)) zh (zw _)) (qb (zz qC (zt uP (pv 0) zh (λ_ _=>rfl)) (zj st_11) (zw _)) (qH (zz qC (zt uP (pv 0) zh (λ_ _=>rfl)) (zj st_11) (zw _))))).pt (zo (qZ L T.ex_Z0i (by rfl) (by rfl) T.mg_Z0i (ze qR zg))) zF) (zo (zD (zu L.toLv (ok_0b T) (hr.mono 'd') (by rfl) T.mg_0b T.fn_0b.kp T.b_0b .nil (ze (zu L.toLv (ok_0f T) (hr.mono 'd') (by rfl) T.mg_0f T.fn_0f.kp T.b_0f .nil (ze (qT vI (pv 0) qY (qL zh)) zg)) (ze (zu L.toLv (ok_0f T) (hr.mono 'd') (by rfl) T.mg_0f T.fn_0f.kp T.b_0f .nil (ze (qT vI (pv 0) (qL zh) (qL zh)) zg)) (ze (zu L.toLv (ok_0f T) (hr.mono 'd') (by rfl) T.mg_0f T.fn_0f.kp T.b_0f .nil (ze (qT vI (pv 0) (qL zh) qY) zg)) zg qh) qh) qh))))),?_⟩;open_k0;have hz:=hl;refine⟨hz,?_⟩;split
 ·rename_i h;refine q2 (λy m d z _=>h ?_);refine opq λ_ kq=> ?_;obtain⟨a,b,c,e,ha,hb,hc,_⟩:=z;apply kq;rw[e];simp [ha,hb,hc]
 rename_i h;refine opq λ_ kq=> ?_;obtain⟨c0,c1,c2,c3,c4,c5,c6,c7,c8,c9,rfl⟩:=zl1 (show cs.length=10 by omega);apply kq;refine⟨hz,c4,rfl,?_⟩;split
 ·rename_i h4;exact q2 (λy m d z _=>h4 (uv z).1)
 rename_i h4;refine⟨hz,c7,rfl,?_⟩;split
 ·rename_i h7;exact q2 (λy m d z _=>h7 (uv z).2.1)
 rename_i h7;have e4:c4=45:=Classical.byContradiction h4;have e7:c7=45:=Classical.byContradiction h7;subst e4 e7;have k1:xa [c0,c1,c2,c3,45,c5,c6,45,c8,c9] none (some 4)= [c0,c1,c2,c3]:=rfl;have k2:xa [c0,c1,c2,c3,45,c5,c6,45,c8,c9] (some 5) (some 7)= [c5,c6]:=rfl;have k3:xa [c0,c1,c2,c3,45,c5,c6,45,c8,c9] (some 8) none= [c8,c9]:=rfl;rw[k1,k2,k3];refine⟨hz,_,rfl,List.cons_ne_nil _ _,by simp,λd1=> ?_,λno=>q2 (λy m d z _=>no (uv z).2.2.1)⟩;refine⟨hz,_,rfl,List.cons_ne_nil _ _,by simp,λd2=> ?_,λno=>q2 (λy m d z _=>no (uv z).2.2.2.1)⟩;refine⟨hz,_,rfl,List.cons_ne_nil _ _,by simp,λd3=> ?_,λno=>q2 (λy m d z _=>no (uv z).2.2.2.2)⟩;have dt:vn [c0,c1,c2,c3,45,c5,c6,45,c8,c9] _ _ _:=⟨[c0,c1,c2,c3], [c5,c6], [c8,c9],rfl,rfl,rfl,rfl,d1,d2,d3,rfl,rfl,rfl⟩
 exact⟨_,_,_,rfl,λva=>q1 _ _ _ dt va,λno=>q2 (λy m d dt' va=>by obtain⟨rfl,rfl,rfl⟩:=zgr dt dt';exact no va)⟩
def zml:Sp:=λvs H Q _=> ∃n p:Int,vs= [.int n, .int p]/\0<=p/\p<=6/\ -(10 ^ 60)<n/\n<10 ^ 60/\ ∀H',zq H H'->Q (.str (SL (qk n p.toNat))) H'
theorem sc_0h:FnScope ["amount","places","sign","figures","ahead"] ["amount","places"] (zC s_0h):=⟨rfl,rfl,rfl,by decide+kernel,rfl,by decide+kernel,by decide+kernel⟩
theorem ok_0h(T:Txt K mg t):FnOk P w K mg base (CXE P w) 1 t.a_0h t.d_0h ["amount","places"] (zml):=by
 refine T.fn_0h.okX sc_0h (λvs H Q E h=> ?_) (λcdv A outer s H vs Q E L hr h=> ?_)
 ·refine opq λ_ kq=> ?_;obtain⟨n,p,rfl,p0,p1,n0,n1,q⟩:=h;apply kq;rfl
 refine opq λ_ kq=> ?_;obtain⟨n,p,rfl,p0,p1,n0,n1,q⟩:=h;apply kq;have nd:=sc_0h.nd;refine⟨_,(zn (qv (zI (i:=2) nd rfl (Or.inl rfl) (zg5 (zz xj (pv 0) zh (zw _)) (zj st_11) (zj st_14)))) (zn (zI (i:=3) nd rfl (Or.inl rfl) (yU PySem.F.plainAttrs_str PySem.F.slot_str_zfill PySem.F.type_str_zfill uQ (qu vg (by rfl) T.no_str wy (ze (zM zjp (by rfl) T.no_abs zl2 (ze (pv 0) zg)) zg)) (ze (zr y0 (pv 1) zh) zg))) (zn (zG (zz yQ (pv 1) zh (zw _)) (zo (zD (zr qw (pv 2) (pv 3)))) zF) (zn (zI (i:=4) nd rfl (Or.inl rfl) (zr xV (zM xZ (by rfl) T.no_len yR (ze (pv 3) zg)) (pv 1))) (zo (zD (zr qw (zr qw (zr qw (pv 2) (qT vI (pv 3) qY (qL (pv 4)))) (zj st_15)) (qT vI (pv 3) (qL (pv 4)) qY)))))))),?_⟩;have nb:n.natAbs<10 ^ 60:=by omega
 obtain⟨k,rfl⟩:=Int.eq_ofNat_of_zero_le p0;rw[JE] at q;have as:=uq nb (show k<=6 by omega);lge_open0
 obtain⟨R,hR⟩: ∃R:St->Hp->Prop,R=λσ' H'=>H'=H/\σ'= [some (.int n),some (.int k),some (.str (SL (if n<0 then [45] else []))),none,none]:=⟨_,rfl⟩
 refine⟨R,?_,λσ2 H2 h2=> ?_⟩
 ·open_k0;rw[hR];split
  ·exact⟨rfl,rfl⟩
  ·exact⟨rfl,rfl⟩
 rw[hR] at h2;obtain⟨rfl,rfl⟩:=h2;clear hR;lge_open0
 have ea:(if n<0 then -n else n)=(n.natAbs:Int):=by split<;>omega
 rw[ea];have tn:((n.natAbs:Nat):Int).toNat=n.natAbs:=JE _;have cl:=zic (p:=k) nb (show k<=6 by omega);have ln:=jb n.natAbs k;have sp:=wO k n.natAbs;have sl:(if n<0 then [45] else ([]:List Nat)).length<=1:=by split<;>simp
 unfold wP at cl;refine⟨'o',zkR (i:=(n.natAbs:Int)) 'o',rfl,k+1,'o','o',λc r=>uU,?_⟩;rw[tn];generalize zf (dg n.natAbs) (k+1)=fs at ln sp ⊢;split
 ·rename_i k0;obtain rfl:k=0:=by omega
  have e:(if n<0 then [45] else [])++fs=qk n 0:=by
   rw[sp];rfl
  rw[e];exact⟨qj 'o',q _ (zq.refl _)⟩
 ·rename_i k0;have kn:k≠0:=λz=>k0 'o';have t1:xa fs none (some ((fs.length:Int) - k))=dg (n.natAbs / 10 ^ k):=by
   rw[zgn fs 'o' 'o',show ((fs.length:Int) - k).toNat=(dg (n.natAbs / 10 ^ k)).length by omega,sp,List.take_left' rfl]
  have t2:xa fs (some ((fs.length:Int) - k)) none=fig k (n.natAbs:Int):=by
   rw[ziP fs 'o' 'o',show ((fs.length:Int) - k).toNat=(dg (n.natAbs / 10 ^ k)).length by omega,sp,List.drop_left' rfl]
  rw[t1,t2];have e:(if n<0 then [45] else [])++dg (n.natAbs / 10 ^ k)++ [46]++fig k (n.natAbs:Int)=qk n k:=by
   unfold qk;rw[Jf kn];simp only[JJ,List.singleton_append]
  rw[e];have fl:=vh k (n.natAbs:Int);refine⟨qj 'o',qj 'o',qj 'o',qj ?_,qj 'o',qj ?_,q _ (zq.refl _)⟩
  ·rw[Jj];omega
  ·rw[Jj,Jj,List.length_singleton];omega
def zmm:Sp:=λvs H Q _=> ∃cs:List Nat,vs= [.str (SL cs)]/\cs.length<=sizeLine/\ ∀b:Bool,(b=true↔PySem.NumText.AllDigits cs/\cs≠ [])->Q (.bl b) H
theorem sc_0i:FnScope ["text","sign"] ["text"] (zC s_0i):=⟨rfl,rfl,rfl,by decide+kernel,rfl,by decide+kernel,by decide+kernel⟩
theorem ok_0i(T:Txt K mg t):FnOk P w K mg base (CXE P w) 1 t.a_0i t.d_0i ["text"] (zmm):=by
 refine T.fn_0i.okX sc_0i (λvs H Q E h=> ?_) (λcdv A outer s H vs Q E L hr h=> ?_)
 ·refine opq λ_ kq=> ?_;obtain⟨cs,rfl,hl,q⟩:=h;apply kq;rfl
 refine opq λ_ kq=> ?_;obtain⟨cs,rfl,hl,q⟩:=h;have nd:=sc_0i.nd;obtain⟨u_Z00,h_Z00,r_Z00⟩:=T.k_Z00;apply kq;refine⟨_,(zn (xx (by passes_own) rfl (vH (pv 0)) (yO (i:=1) nd rfl (Or.inl rfl)) (zo (zG (zz uf (pv 1) (qr (by rfl) h_Z00 r_Z00) rfl) (zo (zD qi)) zF))) (zo (zD (qz qJ (zM xZ (by rfl) T.no_len yR (ze (pv 0) zg)) zh (zw _))))),?_⟩;open_k0;refine⟨_,rfl,_,rfl,?_⟩;refine ue (cs:=cs) (λi σ1 H1=>H1=H/\(∃e,σ1= [some (.str (SL cs)),e])/\ ∀j c,j<i->cs[j]? =some c->48<=c/\c<=57) ⟨rfl,⟨none,rfl⟩,λj c h=>absurd h (Nat.not_lt_zero _)⟩ (λi c σ1 H1 hc h=> ?_) (λσ1 H1 h=> ?_)
 ·refine opq λ_ kq=> ?_;obtain⟨rfl,⟨e,rfl⟩,h⟩:=h;apply kq;open_k0;by_cases ok:48<=c/\c<=57
  ·rw[Jf (λz=>z ((vL c).mpr ok))];intro j c' hj hc';by_cases z:j=i
   ·subst z;rw[hc] at hc';cases hc';exact ok
   ·exact h j c' 'o' hc'
  ·rw[Jg (λz=>ok ((vL c).mp z))];exact q false ⟨λz=>(by cases z),λz=>absurd (z.1 c (Ji hc)) ok⟩
 ·refine opq λ_ kq=> ?_;obtain⟨rfl,⟨e,rfl⟩,h⟩:=h;apply kq;open_k0;have ad:PySem.NumText.AllDigits cs:=λc hc=>by
   obtain⟨j,hj,e⟩:=List.getElem_of_mem hc;exact h j c hj (by rw[Jb hj,e])
  refine⟨hl,q _ ?_⟩;rw[decide_eq_true_iff];constructor
  ·intro z;exact⟨ad,λe=>by rw[e] at z;exact absurd z 'd'⟩
  ·intro z
   have:=List.length_pos_iff.mpr z.2;omega
def zj6(t:Adr):Sp:=λvs H Q E=> ∃(cs:List Nat) (p:Int),vs= [.str (SL cs), .int p]/\cs.length<=sizeLine/\0<=p/\p<=6/\(∀n,xb cs p.toNat n-> ∀H',zq H H'->Q (.int n) H')/\((∀n,¬xb cs p.toNat n)-> ∀H',zq H H'->E (.ref t.c_Z0h) none H')
theorem sc_0j:FnScope ["text","places","figures","amount"] ["text","places"] (zC s_0j):=⟨rfl,rfl,rfl,by decide+kernel,rfl,by decide+kernel,by decide+kernel⟩
theorem ok_0j(T:Txt K mg t):FnOkT P w K mg base (CXE P w) 2 t.a_0j t.d_0j ["text","places"] (zj6 t):=by
 refine T.fn_0j.okXT sc_0j (λvs H Q E h=> ?_) (λcdv A outer s H vs Q E L hr h=> ?_)
 ·refine opq λ_ kq=> ?_;obtain⟨cs,p,rfl,hl,p0,p1,q1,q2⟩:=h;apply kq;rfl
 refine opq λ_ kq=> ?_;obtain⟨cs,p,rfl,hl,p0,p1,q1,q2⟩:=h;have nd:=sc_0j.nd;obtain⟨u_Z0a,h_Z0a,r_Z0a⟩:=T.k_Z0a;apply kq;refine⟨_,(qF (uo (i:=2) nd rfl (Or.inl rfl) (zfD (c:=46) (by decide+kernel) (by decide+kernel) (zfD (c:=45) (by decide+kernel) (by decide+kernel) (PE.t (pv 0))))) (PSs.t (zn (zG (zz qJ (zM xZ (by rfl) T.no_len yR (ze (pv 2) zg)) (qr (by rfl) h_Z0a r_Z0a) (zw _)) (zo (qZ L T.ex_Z0h (by rfl) (by rfl) T.mg_Z0h (ze qR zg))) zF) (zn (zG (qI (qB (zu L.toLv (ok_0i T) (hr.mono 'd') (by rfl) T.mg_0i T.fn_0i.kp T.b_0i .nil (ze (pv 2) zg)))) (zo (qZ L T.ex_Z0h (by rfl) (by rfl) T.mg_Z0h (ze qR zg))) zF) (zn (zI (i:=3) nd rfl (Or.inl rfl) (qu xD (by rfl) T.no_int q0 (ze (pv 2) zg))) (zn (qv (zG (qB (yU PySem.F.plainAttrs_str PySem.F.slot_str_startswith PySem.F.type_str_startswith zee (pv 0) (ze (zj st_11) zg))) (zo (zI (i:=3) nd rfl (Or.inl rfl) (zlt zjl (pv 3)))) zF)) (zn (zG (zz qC (zu L.toLv (ok_0h T) (hr.mono 'd') (by rfl) T.mg_0h T.fn_0h.kp T.b_0h .nil (ze (pv 3) (ze (pv 1) zg zk) zk)) (pv 0) (zw _)) (zo (qZ L T.ex_Z0h (by rfl) (by rfl) T.mg_Z0h (ze qR zg))) zF) (zo (zD (pv 3)))))))))),?_⟩;open_k0;have l1:(cs.filter (· !=45)).length<=sizeLine:=JD (List.length_filter_le ..) hl;have l2:((cs.filter (· !=45)).filter (· !=46)).length<=sizeLine:=JD (List.length_filter_le ..) l1;refine⟨hl,l1,l2,?_⟩;have str: ∀n,cs=qk n p.toNat->(cs.filter (· !=45)).filter (· !=46)=zf (dg n.natAbs) (p.toNat+1):=λn e=>by rw[e,j7]
 generalize (cs.filter (· !=45)).filter (· !=46)=fs at l2 str ⊢;split
 ·rename_i h;refine q2 (λn w=> ?_) _ (zq.refl _);have e:=str n w.1;have c:=w.2;unfold wP at c;rw[e,jb] at h;omega
 rename_i h60;refine⟨fs,rfl,l2,λb hb=>⟨b,rfl,?_⟩⟩;split
 ·rename_i bf;refine q2 (λn w=> ?_) _ (zq.refl _);have e:=str n w.1;have z:b=true:=hb.mpr ⟨e ▸ zgm _ _,λz=>by
   have:=jb n.natAbs p.toNat;rw[<-e,z] at this
   have:=uV (n.natAbs / 10 ^ p.toNat);rw[List.length_nil] at*;omega⟩
  rw[bf] at z;cases z
 rename_i bt;obtain⟨ad,ne⟩:=hb.mp (by cases b with|true=>rfl|false=>exact absurd rfl bt);refine⟨ad,ne,'o',?_⟩;have vb:PySem.NumText.digitsVal fs<10 ^ 60:=zgQ fs ad 'o';obtain⟨R,hR⟩: ∃R:St->Hp->Prop,R=λσ' H'=>H'=H/\ ∃n:Int,n.natAbs=PySem.NumText.digitsVal fs/\(0<PySem.NumText.digitsVal fs->(n<0↔cs.head? =some 45))/\σ'= [some (.str (SL cs)),some (.int p),some (.str (SL fs)),some (.int n)]:=⟨_,rfl⟩
 refine⟨R,?_,λσ2 H2 h2=> ?_⟩
 ·lge_open0
  refine⟨rfl,?_⟩;rw[hR];split
  ·rename_i h;exact⟨rfl,_,'o',λz=>⟨λ_=>h,λ_=>by omega⟩,rfl⟩
  ·rename_i h;exact⟨rfl,_,'o',λz=>⟨λy=>absurd y 'o',λy=>absurd y h⟩,rfl⟩
 rw[hR] at h2;refine opq λ_ kq=> ?_;obtain⟨rfl,n,nv,ns,rfl⟩:=h2;apply kq;clear hR;open_k0;refine⟨n,p,rfl,p0,p1,'o','o',λH3 s3=> ?_⟩;try open_k0
 have key: ∀n',cs=qk n' p.toNat->n'=n:=λn' e=>by
  have e1:=str n' e;rw[e1,zjI] at nv ns;have e2:=j8 n' p.toNat;rw[<-e] at e2;by_cases z:0<n'.natAbs
  ·have t1:=ns z;by_cases y:n'<0
   ·have:=t1.mpr (e2.mpr y);omega
   ·have: ¬n<0:=λx=>y (e2.mp (t1.mp x));omega
  ·omega
 split
 ·rename_i h;exact q2 (λn' w=>h (by rw[<-key n' w.1];exact w.1.symm)) _ s3
 ·rename_i h;have e:qk n p.toNat=cs:=Classical.byContradiction h;refine q1 n ⟨e.symm,?_⟩ _ s3;have e1:=str n e.symm;unfold wP;rw[<-jb,<-e1];omega
def zi5:Sp:=λvs H Q _=> ∃d:D,vs= [sv d]/\xF d/\Q (.bl (isI d)) H
theorem sc_00:FnScope ["value"] ["value"] (zC s_00):=⟨rfl,rfl,rfl,by decide+kernel,rfl,by decide+kernel,by decide+kernel⟩
theorem ok_00(T:Txt K mg t):FnOk P w K mg base (CXE P w) 1 t.a_00 t.d_00 ["value"] (zi5):=by
 refine T.fn_00.okX sc_00 (λvs H Q E h=> ?_) (λcdv A outer s H vs Q E L hr h=> ?_)
 ·refine opq λ_ kq=> ?_;obtain⟨d,rfl,hd,q⟩:=h;apply kq;rfl
 refine opq λ_ kq=> ?_;obtain⟨d,rfl,hd,q⟩:=h;apply kq;have nd:=sc_00.nd;refine⟨_,(zo (zD (xC (zM xm (by rfl) T.no_isinstance xk (ze (pv 0) (ze (uc (by rfl) T.no_int q0) zg zk) zk)) (qU (zjg (zM xm (by rfl) T.no_isinstance xk (ze (pv 0) (ze (uc (by rfl) T.no_bool zkI) zg zk) zk))))))),?_⟩;rcases hd with⟨i,rfl⟩|⟨cs,rfl,hl⟩
 ·simp only[yw,yu,yL,yv,yN,yM,yK,yt,yI,yJ,yH,ya,yr,yG,zH,zJ,zK,z9,zQ,List.replicate,Option.join_some,Option.join_none,zO,yq,yo,ym,tSl,yk,yj,yy,slT,z4,Int.reduceLT,Int.reduceLE,Int.reduceToNat,Int.reduceNeg,Int.reduceAdd,Int.reduceSub,Int.reduceMul,forall_const,zU,yf,yg,zZ,yx,zY,zS,zL,zR,zV,zW,tC,tOp,rI,rI0,tUn,rU,z5,tB,yb,tOr,yc,zX,yd,ye,tIf,z7,yi,z8,yF,tCB,yp,rEq,rNe,yA,yB,yC,yD,yE,z6,yh,ipI,L2.start,Jz,JN,Jp,List.length_nil,List.cons_append,List.nil_append,Jt,List.replicate_succ,List.replicate_zero,Nat.reduceAdd,Nat.reduceSub,List.getElem?_cons_zero,List.getElem?_cons_succ,List.set_cons_zero,List.set_cons_succ,Option.some.injEq,V.int.injEq,V.bl.injEq,V.ref.injEq,V.str.injEq,exists_eq_left',exists_eq_left,exists_eq',exists_and_left,List.cons.injEq,and_true,true_and,and_self,and_assoc,decide_eq_true_eq,if_true,if_false,Bool.true_eq_false,Js,Bool.not_eq_true',Bool.not_true,Bool.not_false,decide_eq_false_iff_not,ite_true,ite_false,reduceCtorEq,false_and,exists_false,false_or,or_false,and_false,Nat.reduceLeDiff,sv];refine⟨_, .old (.int _),_,rfl,_,zg9,?_⟩;rw[Jg rfl];refine⟨_, .old (.int _),_,rfl,_,zgK,?_⟩;exact q
 ·simp only[yw,yu,yL,yv,yN,yM,yK,yt,yI,yJ,yH,ya,yr,yG,zH,zJ,zK,z9,zQ,List.replicate,Option.join_some,Option.join_none,zO,yq,yo,ym,tSl,yk,yj,yy,slT,z4,Int.reduceLT,Int.reduceLE,Int.reduceToNat,Int.reduceNeg,Int.reduceAdd,Int.reduceSub,Int.reduceMul,forall_const,zU,yf,yg,zZ,yx,zY,zS,zL,zR,zV,zW,tC,tOp,rI,rI0,tUn,rU,z5,tB,yb,tOr,yc,zX,yd,ye,tIf,z7,yi,z8,yF,tCB,yp,rEq,rNe,yA,yB,yC,yD,yE,z6,yh,ipI,L2.start,Jz,JN,Jp,List.length_nil,List.cons_append,List.nil_append,Jt,List.replicate_succ,List.replicate_zero,Nat.reduceAdd,Nat.reduceSub,List.getElem?_cons_zero,List.getElem?_cons_succ,List.set_cons_zero,List.set_cons_succ,Option.some.injEq,V.int.injEq,V.bl.injEq,V.ref.injEq,V.str.injEq,exists_eq_left',exists_eq_left,exists_eq',exists_and_left,List.cons.injEq,and_true,true_and,and_self,and_assoc,decide_eq_true_eq,if_true,if_false,Bool.true_eq_false,Js,Bool.not_eq_true',Bool.not_true,Bool.not_false,decide_eq_false_iff_not,ite_true,ite_false,reduceCtorEq,false_and,exists_false,false_or,or_false,and_false,Nat.reduceLeDiff,sv];refine⟨_, .old (.str _),_,rfl,_,zhh,?_⟩;rw[Jf 'd'];exact q
def zm0:Sp:=λvs H Q _=> ∃(d:D) (lo hi:Int),vs= [sv d, .int lo, .int hi]/\xF d/\Q (.bl (btw lo hi d)) H
theorem sc_01:FnScope ["value","least","greatest"] ["value","least","greatest"] (zC s_01):=⟨rfl,rfl,rfl,by decide+kernel,rfl,by decide+kernel,by decide+kernel⟩
theorem ok_01(T:Txt K mg t):FnOk P w K mg base (CXE P w) 2 t.a_01 t.d_01 ["value","least","greatest"] (zm0):=by
 refine T.fn_01.okX sc_01 (λvs H Q E h=> ?_) (λcdv A outer s H vs Q E L hr h=> ?_)
 ·refine opq λ_ kq=> ?_;obtain⟨d,lo,hi,rfl,hd,q⟩:=h;apply kq;rfl
 refine opq λ_ kq=> ?_;obtain⟨d,lo,hi,rfl,hd,q⟩:=h;apply kq;have nd:=sc_01.nd;refine⟨_,(zo (zD (xC (zu L.toLv (ok_00 T) (hr.mono 'd') (by rfl) T.mg_00 T.fn_00.kp T.b_00 .nil (ze (pv 0) zg)) (xC (qz xW (pv 1) (pv 0) (zw _)) (qU (qz xW (pv 0) (pv 2) (zw _))))))),?_⟩;open_k0;refine⟨d,rfl,hd,?_⟩;rcases hd with⟨i,rfl⟩|⟨cs,rfl,hl⟩
 ·have e:btw lo hi (.int i)=(decide (lo<=i) && decide (i<=hi)):=rfl;rw[e] at q;simp only[yw,yu,yL,yv,yN,yM,yK,yt,yI,yJ,yH,ya,yr,yG,zH,zJ,zK,z9,zQ,List.replicate,Option.join_some,Option.join_none,zO,yq,yo,ym,tSl,yk,yj,yy,slT,z4,Int.reduceLT,Int.reduceLE,Int.reduceToNat,Int.reduceNeg,Int.reduceAdd,Int.reduceSub,Int.reduceMul,forall_const,zU,yf,yg,zZ,yx,zY,zS,zL,zR,zV,zW,tC,tOp,rI,rI0,tUn,rU,z5,tB,yb,tOr,yc,zX,yd,ye,tIf,z7,yi,z8,yF,tCB,yp,rEq,rNe,yA,yB,yC,yD,yE,z6,yh,ipI,L2.start,Jz,JN,Jp,List.length_nil,List.cons_append,List.nil_append,Jt,List.replicate_succ,List.replicate_zero,Nat.reduceAdd,Nat.reduceSub,List.getElem?_cons_zero,List.getElem?_cons_succ,List.set_cons_zero,List.set_cons_succ,Option.some.injEq,V.int.injEq,V.bl.injEq,V.ref.injEq,V.str.injEq,exists_eq_left',exists_eq_left,exists_eq',exists_and_left,List.cons.injEq,and_true,true_and,and_self,and_assoc,decide_eq_true_eq,if_true,if_false,Bool.true_eq_false,Js,Bool.not_eq_true',Bool.not_true,Bool.not_false,decide_eq_false_iff_not,ite_true,ite_false,reduceCtorEq,false_and,exists_false,false_or,or_false,and_false,Nat.reduceLeDiff,sv,isI];by_cases h1:lo<=i
  ·rw[Jg h1];rw[JL h1,Bool.true_and] at q;exact q
  ·rw[Jf h1];rw[JM h1,Bool.false_and] at q;exact q
 ·simp only[yw,yu,yL,yv,yN,yM,yK,yt,yI,yJ,yH,ya,yr,yG,zH,zJ,zK,z9,zQ,List.replicate,Option.join_some,Option.join_none,zO,yq,yo,ym,tSl,yk,yj,yy,slT,z4,Int.reduceLT,Int.reduceLE,Int.reduceToNat,Int.reduceNeg,Int.reduceAdd,Int.reduceSub,Int.reduceMul,forall_const,zU,yf,yg,zZ,yx,zY,zS,zL,zR,zV,zW,tC,tOp,rI,rI0,tUn,rU,z5,tB,yb,tOr,yc,zX,yd,ye,tIf,z7,yi,z8,yF,tCB,yp,rEq,rNe,yA,yB,yC,yD,yE,z6,yh,ipI,L2.start,Jz,JN,Jp,List.length_nil,List.cons_append,List.nil_append,Jt,List.replicate_succ,List.replicate_zero,Nat.reduceAdd,Nat.reduceSub,List.getElem?_cons_zero,List.getElem?_cons_succ,List.set_cons_zero,List.set_cons_succ,Option.some.injEq,V.int.injEq,V.bl.injEq,V.ref.injEq,V.str.injEq,exists_eq_left',exists_eq_left,exists_eq',exists_and_left,List.cons.injEq,and_true,true_and,and_self,and_assoc,decide_eq_true_eq,if_true,if_false,Bool.true_eq_false,Js,Bool.not_eq_true',Bool.not_true,Bool.not_false,decide_eq_false_iff_not,ite_true,ite_false,reduceCtorEq,false_and,exists_false,false_or,or_false,and_false,isI];exact q
def zj7:Sp:=λvs H Q _=> ∃d:D,vs= [sv d]/\xF d/\Q (.bl (vO d)) H
theorem sc_02:FnScope ["value","sign"] ["value"] (zC s_02):=⟨rfl,rfl,rfl,by decide+kernel,rfl,by decide+kernel,by decide+kernel⟩
theorem ok_02(T:Txt K mg t):FnOk P w K mg base (CXE P w) 1 t.a_02 t.d_02 ["value"] (zj7):=by
 refine T.fn_02.okX sc_02 (λvs H Q E h=> ?_) (λcdv A outer s H vs Q E L hr h=> ?_)
 ·refine opq λ_ kq=> ?_;obtain⟨d,rfl,hd,q⟩:=h;apply kq;rfl
 refine opq λ_ kq=> ?_;obtain⟨d,rfl,hd,q⟩:=h;have nd:=sc_02.nd;obtain⟨u_Z0c,h_Z0c,r_Z0c⟩:=T.k_Z0c;obtain⟨u_Z06,h_Z06,r_Z06⟩:=T.k_Z06;apply kq;refine⟨_,(zn (zG (qb (qI (qB (zM xm (by rfl) T.no_isinstance xk (ze (pv 0) (ze (uc (by rfl) T.no_str wy) zg zk) zk)))) (qb (zz xj (zM xZ (by rfl) T.no_len yR (ze (pv 0) zg)) zh (zw _)) (qH (zz qJ (zM xZ (by rfl) T.no_len yR (ze (pv 0) zg)) (qr (by rfl) h_Z0c r_Z0c) (zw _))))).pt (zo (zD qi)) zF) (zn (xx (by passes_own) rfl (vH (pv 0)) (yO (i:=1) nd rfl (Or.inl rfl)) (zo (zG (zz uf (pv 1) (qr (by rfl) h_Z06 r_Z06) rfl) (zo (zD qi)) zF))) (zo (zD qi)))),?_⟩;rcases hd with⟨i,rfl⟩|⟨cs,rfl,hl⟩
 ·simp only[yw,yu,yL,yv,yN,yM,yK,yt,yI,yJ,yH,ya,yr,yG,zH,zJ,zK,z9,zQ,List.replicate,Option.join_some,Option.join_none,zO,yq,yo,ym,tSl,yk,yj,yy,slT,z4,Int.reduceLT,Int.reduceLE,Int.reduceToNat,Int.reduceNeg,Int.reduceAdd,Int.reduceSub,Int.reduceMul,forall_const,zU,yf,yg,zZ,yx,zY,zS,zL,zR,zV,zW,tC,tOp,rI,rI0,tUn,rU,z5,tB,yb,tOr,yc,zX,yd,ye,tIf,z7,yi,z8,yF,tCB,yp,rEq,rNe,yA,yB,yC,yD,yE,z6,yh,ipI,L2.start,Jz,JN,Jp,List.length_nil,List.cons_append,List.nil_append,Jt,List.replicate_succ,List.replicate_zero,Nat.reduceAdd,Nat.reduceSub,List.getElem?_cons_zero,List.getElem?_cons_succ,List.set_cons_zero,List.set_cons_succ,Option.some.injEq,V.int.injEq,V.bl.injEq,V.ref.injEq,V.str.injEq,exists_eq_left',exists_eq_left,exists_eq',exists_and_left,List.cons.injEq,and_true,true_and,and_self,and_assoc,decide_eq_true_eq,if_true,if_false,Bool.true_eq_false,Js,Bool.not_eq_true',Bool.not_true,Bool.not_false,decide_eq_false_iff_not,ite_true,ite_false,reduceCtorEq,false_and,exists_false,false_or,or_false,and_false,Nat.reduceLeDiff,sv];refine⟨_, .old (.int _),_,rfl,_,zhi,?_⟩;rw[Jg 'd'];exact q
 ·simp only[yw,yu,yL,yv,yN,yM,yK,yt,yI,yJ,yH,ya,yr,yG,zH,zJ,zK,z9,zQ,List.replicate,Option.join_some,Option.join_none,zO,yq,yo,ym,tSl,yk,yj,yy,slT,z4,Int.reduceLT,Int.reduceLE,Int.reduceToNat,Int.reduceNeg,Int.reduceAdd,Int.reduceSub,Int.reduceMul,forall_const,zU,yf,yg,zZ,yx,zY,zS,zL,zR,zV,zW,tC,tOp,rI,rI0,tUn,rU,z5,tB,yb,tOr,yc,zX,yd,ye,tIf,z7,yi,z8,yF,tCB,yp,rEq,rNe,yA,yB,yC,yD,yE,z6,yh,ipI,L2.start,Jz,JN,Jp,List.length_nil,List.cons_append,List.nil_append,Jt,List.replicate_succ,List.replicate_zero,Nat.reduceAdd,Nat.reduceSub,List.getElem?_cons_zero,List.getElem?_cons_succ,List.set_cons_zero,List.set_cons_succ,Option.some.injEq,V.int.injEq,V.bl.injEq,V.ref.injEq,V.str.injEq,exists_eq_left',exists_eq_left,exists_eq',exists_and_left,List.cons.injEq,and_true,true_and,and_self,and_assoc,decide_eq_true_eq,if_true,if_false,Bool.true_eq_false,Js,Bool.not_eq_true',Bool.not_true,Bool.not_false,decide_eq_false_iff_not,ite_true,ite_false,reduceCtorEq,false_and,exists_false,false_or,or_false,and_false,Nat.reduceLeDiff,sv];refine⟨_, .old (.str _),_,rfl,_,jS,?_⟩;rw[Jf 'd'];have e:vO (.str cs)=(decide (1<=cs.length) && decide (cs.length<=8) && cs.all λc=>decide (97<=c/\c<=122)):=rfl;rw[e] at q;refine⟨hl,zA (λh=> ?_) (λh=>⟨hl,zA (λh2=> ?_) (λh2=> ?_)⟩)⟩
  ·rw[JM (show¬1<=cs.length by omega),Bool.false_and,Bool.false_and] at q;exact q
  ·rw[JM (show¬cs.length<=8 by omega),Bool.and_false,Bool.false_and] at q;exact q
  rw[JL (show 1<=cs.length by omega),JL (show cs.length<=8 by omega),Bool.true_and,Bool.true_and] at q;refine⟨_,rfl,_,rfl,?_⟩;refine ue (cs:=cs) (λi σ1 H1=>H1=H/\(∃e,σ1= [some (.str (SL cs)),e])/\ ∀j c,j<i->cs[j]? =some c->97<=c/\c<=122) ⟨rfl,⟨none,rfl⟩,λj c h=>absurd h (Nat.not_lt_zero _)⟩ (λi c σ1 H1 hc h=> ?_) (λσ1 H1 h=> ?_)
  ·refine opq λ_ kq=> ?_;obtain⟨rfl,⟨e,rfl⟩,h⟩:=h;apply kq;open_k0;by_cases ok:97<=c/\c<=122
   ·rw[Jf (λz=>z ((je c).mpr ok))];intro j c' hj hc';by_cases z:j=i
    ·subst z;rw[hc] at hc';cases hc';exact ok
    ·exact h j c' 'o' hc'
   ·rw[Jg (λz=>ok ((je c).mp z))]
    have:(cs.all λc=>decide (97<=c/\c<=122))=false:=by
     rw[Bool.eq_false_iff];intro z;exact ok (of_decide_eq_true (List.all_eq_true.mp z c (Ji hc)))
    rw[this] at q;exact q
  ·refine opq λ_ kq=> ?_;obtain⟨rfl,⟨e,rfl⟩,h⟩:=h;apply kq;open_k0
   have:(cs.all λc=>decide (97<=c/\c<=122))=true:=by
    rw[List.all_eq_true];intro c hc;obtain⟨j,hj,e⟩:=List.getElem_of_mem hc;exact JL (h j c hj (by rw[Jb hj,e]))
   rw[this] at q;exact q
def zi6:Sp:=λvs H Q _=> ∃d:D,vs= [sv d]/\xF d/\Q (.bl (btw 0 (10 ^ 30 - 1) d)) H
theorem sc_03:FnScope ["value"] ["value"] (zC s_03):=⟨rfl,rfl,rfl,by decide+kernel,rfl,by decide+kernel,by decide+kernel⟩
theorem ok_03(T:Txt K mg t):FnOk P w K mg base (CXE P w) 3 t.a_03 t.d_03 ["value"] (zi6):=by
 refine T.fn_03.okX sc_03 (λvs H Q E h=> ?_) (λcdv A outer s H vs Q E L hr h=> ?_)
 ·refine opq λ_ kq=> ?_;obtain⟨d,rfl,hd,q⟩:=h;apply kq;rfl
 refine opq λ_ kq=> ?_;obtain⟨d,rfl,hd,q⟩:=h;apply kq;have nd:=sc_03.nd;refine⟨_,(zo (zD (zu L.toLv (ok_01 T) (hr.mono 'd') (by rfl) T.mg_01 T.fn_01.kp T.b_01 .nil (ze (pv 0) (ze zh (ze (zr xV (zr vZ zh zh) zh) zg qD) zi) zk)))),?_⟩;open_k0;exact⟨⟨'d','d','d'⟩,d,_,_,rfl,hd,q⟩
def zj8(K:Fg):Sp:=λvs H Q _=> ∃(a:Addr) (ds:List D),vs= [.ref a]/\SqT K H a (ds.map sv)/\(∀d∈ds,xF d)/\Q (.bl (wf ds)) H
theorem sc_04:FnScope ["plan","name","price","count"] ["plan"] (zC s_04):=⟨rfl,rfl,rfl,by decide+kernel,rfl,by decide+kernel,by decide+kernel⟩
theorem ok_04(T:Txt K mg t):FnOk P w K mg base (CXE P w) 4 t.a_04 t.d_04 ["plan"] (zj8 K):=by
 refine T.fn_04.okX sc_04 (λvs H Q E h=> ?_) (λcdv A outer s H vs Q E L hr h=> ?_)
 ·refine opq λ_ kq=> ?_;obtain⟨a,ds,rfl,hS,hd,q⟩:=h;apply kq;rfl
 refine opq λ_ kq=> ?_;obtain⟨a,ds,rfl,hS,hd,q⟩:=h;have nd:=sc_04.nd;obtain⟨u_Z08,h_Z08,r_Z08⟩:=T.k_Z08;apply kq;refine⟨_,(zn (zG (zz qC (zM y8 (by rfl) T.no_len yR (ze (pv 0) zg)) zh (zw _)) (zo (zD qi)) zF) (zn (qV (pv 0) (xJ (n:=3) rfl (qf (yO (i:=1) nd rfl (Or.inl rfl)) (qf (yO (i:=2) nd rfl (Or.inl rfl)) (qf (yO (i:=3) nd rfl (Or.inl rfl)) xI))))) (zo (zD (xC (zu L.toLv (ok_02 T) (hr.mono 'd') (by rfl) T.mg_02 T.fn_02.kp T.b_02 .nil (ze (pv 1) zg)) (xC (zu L.toLv (ok_03 T) (hr.mono 'd') (by rfl) T.mg_03 T.fn_03.kp T.b_03 .nil (ze (pv 2) zg)) (qU (zu L.toLv (ok_01 T) (hr.mono 'd') (by rfl) T.mg_01 T.fn_01.kp T.b_01 .nil (ze (pv 3) (ze zh (ze (qr (by rfl) h_Z08 r_Z08) zg zk) zi) zk))))))))),?_⟩;open_k0;refine⟨_, .inr hS,?_⟩;rw[Ja];refine zA (λh=> ?_) (λh=> ?_)
 ·have:wf ds=false:=by
   rw[Bool.eq_false_iff];intro z;refine opq λ_ kq=> ?_;obtain⟨_,_,_,rfl⟩:=zeM z;apply kq;exact h rfl
  rw[this] at q;exact q
 obtain⟨n,p,c,rfl⟩: ∃n p c,ds= [n,p,c]:=by
  match ds,(show ds.length=3 by omega) with
  | [n,p,c],_=>exact⟨n,p,c,rfl⟩
 refine⟨a,_,rfl,hS,rfl,?_⟩;open_k0;refine⟨n,rfl,hd n (by simp),_,rfl,?_⟩;have e:wf [n,p,c]=(vO n && (btw 0 (10 ^ 30 - 1) p && btw 0 400 c)):=rfl;rw[e] at q;refine zA (λh1=> ?_) (λh1=> ?_)
 ·rw[h1,Bool.true_and] at q;refine⟨p,rfl,hd p (by simp),_,rfl,?_⟩;refine zA (λh2=> ?_) (λh2=> ?_)
  ·rw[h2,Bool.true_and] at q;exact⟨c,_,_,rfl,hd c (by simp),q⟩
  ·rw[Bool.eq_false_iff.mpr h2,Bool.false_and] at q;exact q
 ·rw[Bool.eq_false_iff.mpr h1,Bool.false_and] at q;exact q
def zi7(K:Fg):Sp:=λvs H Q _=> ∃(a:Addr) (ds:List D),vs= [.ref a]/\SqT K H a (ds.map sv)/\(∀d∈ds,xF d)/\Q (.bl (vm ds)) H
theorem sc_05:FnScope ["cycle","word","many"] ["cycle"] (zC s_05):=⟨rfl,rfl,rfl,by decide+kernel,rfl,by decide+kernel,by decide+kernel⟩
theorem ok_05(T:Txt K mg t):FnOk P w K mg base (CXE P w) 3 t.a_05 t.d_05 ["cycle"] (zi7 K):=by
 refine T.fn_05.okX sc_05 (λvs H Q E h=> ?_) (λcdv A outer s H vs Q E L hr h=> ?_)
 ·refine opq λ_ kq=> ?_;obtain⟨a,ds,rfl,hS,hd,q⟩:=h;apply kq;rfl
 refine opq λ_ kq=> ?_;obtain⟨a,ds,rfl,hS,hd,q⟩:=h;have nd:=sc_05.nd;obtain⟨u_Z09,h_Z09,r_Z09⟩:=T.k_Z09;obtain⟨u_Z0d,h_Z0d,r_Z0d⟩:=T.k_Z0d;apply kq;refine⟨_,(zn (zG (zz qC (zM y8 (by rfl) T.no_len yR (ze (pv 0) zg)) zh (zw _)) (zo (zD qi)) zF) (zn (qV (pv 0) (xJ (n:=2) rfl (qf (yO (i:=1) nd rfl (Or.inl rfl)) (qf (yO (i:=2) nd rfl (Or.inl rfl)) xI)))) (zn (zG (zz yQ (pv 1) (zj st_0) (zw _)) (zo (zD (zu L.toLv (ok_01 T) (hr.mono 'd') (by rfl) T.mg_01 T.fn_01.kp T.b_01 .nil (ze (pv 2) (ze zh (ze (qr (by rfl) h_Z09 r_Z09) zg zk) zi) zk)))) zF) (zn (zG (zz yQ (pv 1) (zj st_1) (zw _)) (zo (zD (zu L.toLv (ok_01 T) (hr.mono 'd') (by rfl) T.mg_01 T.fn_01.kp T.b_01 .nil (ze (pv 2) (ze zh (ze (qr (by rfl) h_Z0d r_Z0d) zg zk) zi) zk)))) zF) (zo (zD qi)))))),?_⟩;open_k0;refine⟨_, .inr hS,?_⟩;rw[Ja];refine zA (λh=> ?_) (λh=> ?_)
 ·rw[ziT (λz=>h 'o')] at q;exact q
 obtain⟨w',c,rfl⟩: ∃w' c,ds= [w',c]:=by
  match ds,(show ds.length=2 by omega) with
  | [w',c],_=>exact⟨w',c,rfl⟩
 refine⟨a,_,rfl,hS,rfl,?_⟩;have hcs:=hd c (by simp);rcases hd w' (by simp) with⟨i,rfl⟩|⟨cs,rfl,hl⟩
 ·simp only[yw,yu,yL,yv,yN,yM,yK,yt,yI,yJ,yH,ya,yr,yG,zH,zJ,zK,z9,zQ,List.replicate,Option.join_some,Option.join_none,zO,yq,yo,ym,tSl,yk,yj,yy,slT,z4,Int.reduceLT,Int.reduceLE,Int.reduceToNat,Int.reduceNeg,Int.reduceAdd,Int.reduceSub,Int.reduceMul,forall_const,zU,yf,yg,zZ,yx,zY,zS,zL,zR,zV,zW,tC,tOp,rI,rI0,tUn,rU,z5,tB,yb,tOr,yc,zX,yd,ye,tIf,z7,yi,z8,yF,tCB,yp,rEq,rNe,yA,yB,yC,yD,yE,z6,yh,ipI,L2.start,Jz,JN,Jp,List.length_nil,List.cons_append,List.nil_append,Jt,List.replicate_succ,List.replicate_zero,Nat.reduceAdd,Nat.reduceSub,List.getElem?_cons_zero,List.getElem?_cons_succ,List.set_cons_zero,List.set_cons_succ,Option.some.injEq,V.int.injEq,V.bl.injEq,V.ref.injEq,V.str.injEq,exists_eq_left',exists_eq_left,exists_eq',exists_and_left,List.cons.injEq,and_true,true_and,and_self,and_assoc,decide_eq_true_eq,if_true,if_false,Bool.true_eq_false,Js,Bool.not_eq_true',Bool.not_true,Bool.not_false,decide_eq_false_iff_not,ite_true,ite_false,reduceCtorEq,false_and,exists_false,false_or,or_false,and_false,Nat.reduceLeDiff,sv];exact⟨rfl,rfl,q⟩
 ·simp only[yw,yu,yL,yv,yN,yM,yK,yt,yI,yJ,yH,ya,yr,yG,zH,zJ,zK,z9,zQ,List.replicate,Option.join_some,Option.join_none,zO,yq,yo,ym,tSl,yk,yj,yy,slT,z4,Int.reduceLT,Int.reduceLE,Int.reduceToNat,Int.reduceNeg,Int.reduceAdd,Int.reduceSub,Int.reduceMul,forall_const,zU,yf,yg,zZ,yx,zY,zS,zL,zR,zV,zW,tC,tOp,rI,rI0,tUn,rU,z5,tB,yb,tOr,yc,zX,yd,ye,tIf,z7,yi,z8,yF,tCB,yp,rEq,rNe,yA,yB,yC,yD,yE,z6,yh,ipI,L2.start,Jz,JN,Jp,List.length_nil,List.cons_append,List.nil_append,Jt,List.replicate_succ,List.replicate_zero,Nat.reduceAdd,Nat.reduceSub,List.getElem?_cons_zero,List.getElem?_cons_succ,List.set_cons_zero,List.set_cons_succ,Option.some.injEq,V.int.injEq,V.bl.injEq,V.ref.injEq,V.str.injEq,exists_eq_left',exists_eq_left,exists_eq',exists_and_left,List.cons.injEq,and_true,true_and,and_self,and_assoc,decide_eq_true_eq,if_true,if_false,Bool.true_eq_false,Js,Bool.not_eq_true',Bool.not_true,Bool.not_false,decide_eq_false_iff_not,ite_true,ite_false,reduceCtorEq,false_and,exists_false,false_or,or_false,and_false,Nat.reduceLeDiff,sv];have e:vm [.str cs,c]=(if cs= [100,97,121,115] then btw 1 400 c else if cs= [109,111,110,116,104,115] then btw 1 12 c else false):=rfl;rw[e] at q;by_cases h1:cs= [100,97,121,115]
  ·rw[Jg h1] at q ⊢;exact⟨c,_,_,rfl,hcs,q⟩
  ·rw[Jf h1] at q ⊢;by_cases h2:cs= [109,111,110,116,104,115]
   ·rw[Jg h2] at q ⊢;exact⟨c,_,_,rfl,hcs,q⟩
   ·rw[Jf h2] at q ⊢;exact q
def zgY(K:Fg)(t:Adr):Sp:=λvs H Q E=> ∃(a:Addr) (dss:List (List D)),vs= [.ref a]/\Dp K H 2 (.lst (dss.map D.tup)) (.ref a)/\(∀ds∈dss,∀d∈ds,xF d)/\dss.length<=100000/\
 (ur dss-> ∀H',zq H H'->Q .non H')/\(¬ur dss-> ∀H',zq H H'->E (.ref t.c_Z0g) none H')
theorem sc_06:FnScope ["plans","names","plan","name"] ["plans"] (zC s_06):=⟨rfl,rfl,rfl,by decide+kernel,rfl,by decide+kernel,by decide+kernel⟩
theorem ok_06(T:Txt K mg t):FnOk P w K mg base (CXE P w) 5 t.a_06 t.d_06 ["plans"] (zgY K t):=by
 refine T.fn_06.okX sc_06 (λvs H Q E h=> ?_) (λcdv A outer s H vs Q E L hr h=> ?_)
 ·refine opq λ_ kq=> ?_;obtain⟨a,dss,rfl,hD,hd,hl,q1,q2⟩:=h;apply kq;rfl
 refine opq λ_ kq=> ?_;obtain⟨a,dss,rfl,hD,hd,hl,q1,q2⟩:=h;have nd:=sc_06.nd;obtain⟨u_Z0f,h_Z0f,r_Z0f⟩:=T.k_Z0f;apply kq;refine⟨_,(zn (zG (qb (zz xj (zM y8 (by rfl) T.no_len yR (ze (pv 0) zg)) zh (zw _)) (qH (zz qJ (zM y8 (by rfl) T.no_len yR (ze (pv 0) zg)) (qr (by rfl) h_Z0f r_Z0f) (zw _)))).pt (zo (qZ L T.ex_Z0g (by rfl) (by rfl) T.mg_Z0g (ze qR zg))) zF) (zn (zI (i:=1) nd rfl (Or.inl rfl) zjQ) (zo (xx (by passes_own) rfl (qX (pv 0)) (yO (i:=2) nd rfl (Or.inl rfl)) (zn (zG (qI (qB (zu L.toLv (ok_04 T) (hr.mono 'd') (by rfl) T.mg_04 T.fn_04.kp T.b_04 .nil (ze (pv 2) zg)))) (zo (qZ L T.ex_Z0g (by rfl) (by rfl) T.mg_Z0g (ze qR zg))) zF) (zn (zI (i:=3) nd rfl (Or.inl rfl) (zt v7 (pv 2) zh (λ_ _=>rfl))) (zn (zG (zlM (zl8 (zlu hr) (pv 3) (pv 1))) (zo (qZ L T.ex_Z0g (by rfl) (by rfl) T.mg_Z0g (ze qR zg))) zF) (zo (zkT (zlu hr) (pv 1) (pv 3) qi rfl))))))))),?_⟩;unfold Dp at hD;refine opq λ_ kq=> ?_;obtain⟨a',xs,e,hS,hA⟩:=hD;apply kq;cases e;have xl:=xq hA;rw[Ja] at xl;open_k0;refine⟨_, .inl hS,zA (λh=>q2 (λg=>by have:=g.1;omega) _ (zq.refl _)) (λh1=>⟨_, .inl hS,zA (λh=>q2 (λg=>by have:=g.2.1;omega) _ (zq.refl _)) (λh2=> ?_)⟩)⟩;intro pd H1 hpd s1 e1
 ((try dsimp only);refine wM λR hR=> ?_;simp only[yw,yu,yL,yv,yN,yM,yK,yt,yI,yJ,yH,ya,yr,yG,zH,zJ,zK,z9,zQ,List.replicate,Option.join_some,Option.join_none,zO,yq,yo,ym,tSl,yk,yj,yy,slT,z4,Int.reduceLT,Int.reduceLE,Int.reduceToNat,Int.reduceNeg,Int.reduceAdd,Int.reduceSub,Int.reduceMul,forall_const,zU,yf,yg,zZ,yx,zY,zS,zL,zR,zV,zW,tC,tOp,rI,rI0,tUn,rU,z5,tB,yb,tOr,yc,zX,yd,ye,tIf,z7,yi,z8,yF,tCB,yp,rEq,rNe,yA,yB,yC,yD,yE,z6,yh,ipI,L2.start,Jz,JN,Jp,List.length_nil,List.cons_append,List.nil_append,Jt,List.replicate_succ,List.replicate_zero,Nat.reduceAdd,Nat.reduceSub,List.getElem?_cons_zero,List.getElem?_cons_succ,List.set_cons_zero,List.set_cons_succ,Option.some.injEq,V.int.injEq,V.bl.injEq,V.ref.injEq,V.str.injEq,exists_eq_left',exists_eq_left,exists_eq',exists_and_left,List.cons.injEq,and_true,true_and,and_self,and_assoc,decide_eq_true_eq,if_true,if_false,Bool.true_eq_false,Js,Bool.not_eq_true',Bool.not_true,Bool.not_false,decide_eq_false_iff_not,ite_true,ite_false,reduceCtorEq,false_and,exists_false,false_or,or_false,and_false,qW,vC,vj,wv,w9,Nat.reduceLeDiff])
 refine⟨⟨_,s1.seq hS⟩,hR _ _ ?_⟩;clear hR;refine uI (xs:=xs) (λi σ1 H2=>zq H H2/\H2 pd=some (znt ((dss.take i).map wQ))/\(∀ds∈dss.take i,wf ds=true)/\((dss.take i).map wQ).Nodup/\ ∃x2 x3,σ1= [some (.ref a),some (.ref pd),x2,x3]) ⟨s1,e1,(λds h=>absurd h (by simp)),by simp,_,_,rfl⟩ (λ_ _ _ _ h=>h.1.seq hS) (λi x σ1 H2 hx h=> ?_) (λσ1 H2 h=> ?_)
 ·refine opq λ_ kq=> ?_;obtain⟨s2,e2,po,pn,x2,x3,rfl⟩:=h;obtain⟨ds,hds,hp⟩:=zjS hA hx;apply kq;have hm:=Ji hds;unfold Dp at hp;refine opq λ_ kq=> ?_;obtain⟨p,ys,rfl,hT,hY⟩:=hp;apply kq;obtain rfl:=kl hY (hd ds hm);have hT2:=s2.sqT hT;have et:dss.take (i+1)=dss.take i++ [ds]:=by rw[JG,hds];rfl
  open_k0;refine⟨p,ds,rfl,hT2,hd ds hm,_,rfl,?_⟩;refine zA (λhb=>q2 (λg=>by rw[g.2.2.1 ds hm] at hb;cases hb) _ s2) (λhb=> ?_);have hok:wf ds=true:=by
   cases h:wf ds with
   |true=>rfl
   |false=>exact absurd h hb
  refine opq λ_ kq=> ?_;obtain⟨nm,pr,ct,rfl⟩:=zeM hok;apply kq;refine ixT hT2 (v:= .str (SL nm)) rfl ?_;have en:(dss.take (i+1)).map wQ=(dss.take i).map wQ++ [nm]:=by
   rw[et,Jd];rfl
  have il:i<xs.length:=(Jc.mp hx).1;refine⟨_,we.k (k:=Sum.inr (SL nm)) e2,?_⟩;rw[kj];by_cases hmm:nm∈(dss.take i).map wQ
  ·rw[JL hmm,Jg rfl];refine q2 (λg=> ?_) _ s2;have n2:((dss.take (i+1)).map wQ).Nodup:=g.2.2.2.sublist ((List.take_sublist _ _).map _);rw[en,List.nodup_append] at n2;exact n2.2.2 nm hmm nm (Jm.mpr rfl) rfl
  ·rw[JM hmm,Jf 'd'];refine⟨_,vk.k (k:=Sum.inr (SL nm)) e2 (by rw[Ja,Ja,JA];exact ziH 'o'),vF s2 hpd,?_,λds' h'=> ?_,?_⟩
   ·rw[zP,zkU hmm,en];rfl
   ·rw[et] at h';rcases Jr.mp h' with y|y
    ·exact po ds' y
    ·rw[Jm.mp y];exact hok
   ·rw[en,List.nodup_append];refine⟨pn,by simp,λa ha b hb e=> ?_⟩
    have:b=nm:=by simpa using hb
    rw[e,this] at ha;exact hmm ha
 ·refine opq λ_ kq=> ?_;obtain⟨s2,e2,po,pn,x2,x3,rfl⟩:=h;apply kq;rw[<-xl,JB] at po pn;exact q1 ⟨'o','o',po,pn⟩ _ s2
def zlb(K:Fg)(t:Adr):Sp:=λvs H Q E=> ∃(p:Addr) (dss:List (List D)) (f:Int) (cds:List D),vs= [.ref p]/\Dp K H 3 (.tup [.lst (dss.map D.tup), .int f, .tup cds]) (.ref p)/\(∀ds∈dss,∀d∈ds,xF d)/\(∀d∈cds,xF d)/\dss.length<=100000/\
 (wR dss f cds-> ∀H',zq H H'->Q .non H')/\(¬wR dss f cds-> ∀H',zq H H'->E (.ref t.c_Z0g) none H')
theorem sc_07:FnScope ["account","plans","first","cycle"] ["account"] (zC s_07):=⟨rfl,rfl,rfl,by decide+kernel,rfl,by decide+kernel,by decide+kernel⟩
theorem ok_07(T:Txt K mg t):FnOk P w K mg base (CXE P w) 6 t.a_07 t.d_07 ["account"] (zlb K t):=by
 refine T.fn_07.okX sc_07 (λvs H Q E h=> ?_) (λcdv A outer s H vs Q E L hr h=> ?_)
 ·refine opq λ_ kq=> ?_;obtain⟨p,dss,f,cds,rfl,hD,hd,hc,hl,q1,q2⟩:=h;apply kq;rfl
 refine opq λ_ kq=> ?_;obtain⟨p,dss,f,cds,rfl,hD,hd,hc,hl,q1,q2⟩:=h;have nd:=sc_07.nd;obtain⟨u_Z04,h_Z04,r_Z04⟩:=T.k_Z04;apply kq;refine⟨_,(zn (qV (pv 0) (xJ (n:=3) rfl (qf (yO (i:=1) nd rfl (Or.inl rfl)) (qf (yO (i:=2) nd rfl (Or.inl rfl)) (qf (yO (i:=3) nd rfl (Or.inl rfl)) xI))))) (zn (qc (zu L.toLv (ok_06 T) (hr.mono 'd') (by rfl) T.mg_06 T.fn_06.kp T.b_06 .nil (ze (pv 1) zg))) (zn (zG (qI (qB (zu L.toLv (ok_01 T) (hr.mono 'd') (by rfl) T.mg_01 T.fn_01.kp T.b_01 .nil (ze (pv 2) (ze zh (ze (qr (by rfl) h_Z04 r_Z04) zg zk) zi) zk)))) (zo (qZ L T.ex_Z0g (by rfl) (by rfl) T.mg_Z0g (ze qR zg))) zF) (zo (zG (qI (qB (zu L.toLv (ok_05 T) (hr.mono 'd') (by rfl) T.mg_05 T.fn_05.kp T.b_05 .nil (ze (pv 3) zg)))) (zo (qZ L T.ex_Z0g (by rfl) (by rfl) T.mg_Z0g (ze qR zg))) zF))))),?_⟩;unfold Dp at hD;refine opq λ_ kq=> ?_;obtain⟨p',xs,e,hT,hA⟩:=hD;apply kq;cases e;refine opq λ_ kq=> ?_;obtain⟨x,y,z,rfl,hx,hy,hz⟩:=zhP hA;apply kq;unfold Dp at hy hz;refine opq λ_ kq=> ?_;obtain⟨pc,ys,rfl,hC,hY⟩:=hz;apply kq;obtain rfl:=kl hY hc;subst hy;obtain⟨pl,rfl⟩: ∃pl,x= .ref pl:=by
  have hx2:=hx;unfold Dp at hx2;refine opq λ_ kq=> ?_;obtain⟨pl,_,e,_⟩:=hx2;apply kq;exact⟨pl,e⟩
 clear hA;open_k0;refine⟨p,_,rfl,hT,rfl,?_⟩;open_k0;refine⟨pl,dss,rfl,hx,hd,hl,λpo H1 s1=> ?_,λno H1 s1=>q2 (λg=>no g.1) _ s1⟩;refine⟨.int f,_,_,rfl, .inl ⟨_,rfl⟩,_,rfl,?_⟩;have ef:btw 0 3500000 (.int f)=(decide (0<=f) && decide (f<=3500000)):=rfl;rw[ef];refine zA (λh=>q2 (λg=> ?_) _ s1) (λh=> ?_)
 ·rw[JL g.2.1,JL g.2.2.1] at h;cases h
 have fb:0<=f/\f<=3500000:=by
  by_cases h1:0<=f
  ·by_cases h2:f<=3500000
   ·exact⟨h1,h2⟩
   ·rw[JM h2,Bool.and_false] at h;exact absurd rfl h
  ·rw[JM h1,Bool.false_and] at h;exact absurd rfl h
 refine⟨pc,cds,rfl,s1.sqT hC,hc,_,rfl,?_⟩;refine zA (λh2=>q2 (λg=> ?_) _ s1) (λh2=> ?_)
 ·rw[g.2.2.2] at h2;cases h2
 ·refine q1 ⟨po,fb.1,fb.2,?_⟩ _ s1;cases hcc:vm cds with
  |true=>rfl
  |false=>exact absurd hcc h2
theorem qM(h:n<=200000):n<=sizeLine:=by rw[sizeLine_eq];omega
def qN(w:List Nat):Prop:=PySem.NumText.AllDigits w/\w≠ []/\w.length<=9/\(w= [48]\/w.head? ≠some 48)
def qg(k w:List Nat):Prop:=if k= [78] then qN w else PySem.Txt.isupper (SL k)=true\/w=k
def wU(f:List Nat)(ws:List (List Nat)):Prop:=ws.length=(spl 32 f).length/\ ∀(i:Nat) k w,(spl 32 f)[i]? =some k->ws[i]? =some w->qg k w
theorem wk{c:Nat}: ∀{f k:List Nat},k∈spl c f->k.length<=f.length
 | [],k,h=>by
  rw[spl,Jm] at h;rw[h];exact Je _
 |x::r,k,h=>by
  rw[spl] at h;split at h
  ·rcases JC.mp h with rfl|h
   ·exact Jv _
   ·exact Nat.le_succ_of_le (wk h)
  ·rcases JC.mp h with rfl|h
   ·rw[Jp,Jp];refine Nat.succ_le_succ ?_;cases e:spl c r with
    |nil=>exact absurd e (jh c r)
    |cons y t=>
     exact wk (c:=c) (show y∈spl c r by rw[e];exact Jq)
   ·exact Nat.le_succ_of_le (wk (List.mem_of_mem_tail h))
def zm1:Sp:=λvs H Q _=> ∃cs:List Nat,vs= [.str (SL cs)]/\cs.length<=100000/\ ∀b:Bool,(b=true↔qN cs)->Q (.bl b) H
theorem sc_0k:FnScope ["word"] ["word"] (zC s_0k):=⟨rfl,rfl,rfl,by decide+kernel,rfl,by decide+kernel,by decide+kernel⟩
theorem ok_0k(T:Txt K mg t):FnOk P w K mg base (CXE P w) 2 t.a_0k t.d_0k ["word"] (zm1):=by
 refine T.fn_0k.okX sc_0k (λvs H Q E h=> ?_) (λcdv A outer s H vs Q E L hr h=> ?_)
 ·refine opq λ_ kq=> ?_;obtain⟨cs,rfl,hl,q⟩:=h;apply kq;rfl
 refine opq λ_ kq=> ?_;obtain⟨cs,rfl,hl,q⟩:=h;have nd:=sc_0k.nd;obtain⟨u_Z0b,h_Z0b,r_Z0b⟩:=T.k_Z0b;apply kq;refine⟨_,(zn (zG (qb (qI (qB (zu L.toLv (ok_0i T) (hr.mono 'd') (by rfl) T.mg_0i T.fn_0i.kp T.b_0i .nil (ze (pv 0) zg)))) (qH (zz qJ (zM xZ (by rfl) T.no_len yR (ze (pv 0) zg)) (qr (by rfl) h_Z0b r_Z0b) (zw _)))).pt (zo (zD qi)) zF) (zo (zD (vB (qz yQ (pv 0) (zj st_19) (zw _)) (qU (zjg (yU PySem.F.plainAttrs_str PySem.F.slot_str_startswith PySem.F.type_str_startswith zee (pv 0) (ze (zj st_19) zg)))))))),?_⟩;lge_open0
 refine⟨cs,rfl,qM 'o',λb hb=>⟨b,rfl,zA (λh=>q _ ⟨λz=>absurd z 'd',λz=> ?_⟩) (λh=>⟨qM 'o',zA (λh9=>q _ ⟨λz=>absurd z 'd',λz=> ?_⟩) (λh9=>zA (λh0=>q _ ⟨λ_=> ?_,λ_=>rfl⟩) (λh0=>⟨rfl,q _ ⟨λz=> ?_,λz=> ?_⟩⟩))⟩)⟩⟩
 ·rw[h] at hb;exact hb.mpr ⟨z.1,z.2.1⟩
 ·have:=z.2.2.1;omega
 ·rw[h0];exact⟨λc hc=>by rw[Jm.mp hc];decide,'d','d', .inl rfl⟩
 ·have hb':=hb.mp (by cases b with|true=>rfl|false=>exact absurd rfl h);exact⟨hb'.1,hb'.2,'o', .inr λe=>by rw[JL e] at z;cases z⟩
 ·rcases z.2.2.2 with e|e
  ·exact absurd e h0
  ·rw[JM e];rfl
def zmn:Sp:=λvs H Q _=> ∃k w:List Nat,vs= [.str (SL k), .str (SL w)]/\k.length<=100000/\w.length<=100000/\ ∀b:Bool,(b=true↔qg k w)->Q (.bl b) H
theorem sc_0l:FnScope ["kind","word"] ["kind","word"] (zC s_0l):=⟨rfl,rfl,rfl,by decide+kernel,rfl,by decide+kernel,by decide+kernel⟩
theorem ok_0l(T:Txt K mg t):FnOk P w K mg base (CXE P w) 3 t.a_0l t.d_0l ["kind","word"] (zmn):=by
 refine T.fn_0l.okX sc_0l (λvs H Q E h=> ?_) (λcdv A outer s H vs Q E L hr h=> ?_)
 ·refine opq λ_ kq=> ?_;obtain⟨k,w,rfl,hk,hw,q⟩:=h;apply kq;rfl
 refine opq λ_ kq=> ?_;obtain⟨k,w,rfl,hk,hw,q⟩:=h;apply kq;have nd:=sc_0l.nd;refine⟨_,(zn (zG (zz yQ (pv 0) (zj st_20) (zw _)) (zo (zD (zu L.toLv (ok_0k T) (hr.mono 'd') (by rfl) T.mg_0k T.fn_0k.kp T.b_0k .nil (ze (pv 1) zg)))) zF) (zo (zD (vB (zlW PySem.F.plainAttrs_str PySem.F.slot_str_isupper PySem.F.type_str_isupper zhR (pv 0)) (qU (qz yQ (pv 1) (pv 0) (zw _))))))),?_⟩;simp only[yw,yu,yL,yv,yN,yM,yK,yt,yI,yJ,yH,ya,yr,yG,zH,zJ,zK,z9,zQ,List.replicate,Option.join_some,Option.join_none,zO,yq,yo,ym,tSl,yk,yj,yy,slT,z4,Int.reduceLT,Int.reduceLE,Int.reduceToNat,Int.reduceNeg,Int.reduceAdd,Int.reduceSub,Int.reduceMul,forall_const,zU,yf,yg,zZ,yx,zY,zS,zL,zR,zV,zW,tC,tOp,rI,rI0,tUn,rU,z5,tB,yb,tOr,yc,zX,yd,ye,tIf,z7,yi,z8,yF,tCB,yp,rEq,rNe,yA,yB,yC,yD,yE,z6,yh,ipI,L2.start,Jz,JN,Jp,List.length_nil,List.cons_append,List.nil_append,Jt,List.replicate_succ,List.replicate_zero,Nat.reduceAdd,Nat.reduceSub,List.getElem?_cons_zero,List.getElem?_cons_succ,List.set_cons_zero,List.set_cons_succ,Option.some.injEq,V.int.injEq,V.bl.injEq,V.ref.injEq,V.str.injEq,exists_eq_left',exists_eq_left,exists_eq',exists_and_left,List.cons.injEq,and_true,true_and,and_self,and_assoc,decide_eq_true_eq,if_true,if_false,Bool.true_eq_false,Js,Bool.not_eq_true',Bool.not_true,Bool.not_false,decide_eq_false_iff_not,ite_true,ite_false,reduceCtorEq,false_and,exists_false,false_or,or_false,and_false,Nat.reduceLeDiff,tBM,zmP];refine zA (λh=>⟨w,rfl,hw,λb hb=>q b ?_⟩) (λh=>⟨rfl,zA (λe=>q _ ⟨λ_=> ?_,λ_=>rfl⟩) (λe=>q _ ⟨λz=> ?_,λz=> ?_⟩)⟩)
 ·unfold qg;rw[Jg h];exact hb
 ·unfold qg;rw[Jf h];exact .inl e
 ·unfold qg;rw[Jf h];exact .inr (of_decide_eq_true z)
 ·unfold qg at z;rw[Jf h] at z;exact JL (z.resolve_left e)
def zmo(K:Fg):Sp:=λvs H Q _=> ∃(f:List Nat) (l:Addr) (ws:List (List Nat)),vs= [.str (SL f), .ref l]/\SqL K H l (ws.map λw=>V.str (SL w))/\f.length<=100/\(∀w∈ws,w.length<=100000)/\ ∀(b:Bool) H',zq H H'->(b=true↔wU f ws)->Q (.bl b) H'
theorem zii: ∀{bs:List Bool},bs.all id=true↔ ∀(i:Nat) b,bs[i]? =some b->b=true
 | []=>⟨λ_ i b e=>by simp at e,λ_=>rfl⟩
 |b::r=>by
  rw[List.all_cons,Bool.and_eq_true,zii (bs:=r)];refine⟨λh i c e=> ?_,λh=>⟨h 0 b rfl,λi c e=>h (i+1) c e⟩⟩;cases i with
  |zero=>cases e;exact h.1
  |succ i=>exact h.2 i c e
theorem sc_0m:FnScope ["form","words","kinds"] ["form","words"] (zC s_0m):=⟨rfl,rfl,rfl,by decide+kernel,rfl,by decide+kernel,by decide+kernel⟩
theorem ok_0m(T:Txt K mg t):FnOk P w K mg base (CXE P w) 4 t.a_0m t.d_0m ["form","words"] (zmo K):=by
 refine T.fn_0m.okX sc_0m (λvs H Q E h=> ?_) (λcdv A outer s H vs Q E L hr h=> ?_)
 ·refine opq λ_ kq=> ?_;obtain⟨f,l,ws,rfl,hS,hf,hw,q⟩:=h;apply kq;rfl
 refine opq λ_ kq=> ?_;obtain⟨f,l,ws,rfl,hS,hf,hw,q⟩:=h;apply kq;have nd:=sc_0m.nd;refine⟨_,(zn (zI (i:=2) nd rfl (Or.inl rfl) (yU PySem.F.plainAttrs_str PySem.F.slot_str_split PySem.F.type_str_split wT (pv 0) (ze (zj st_21) zg))) (zo (zD (xC (qz yQ (zM y8 (by rfl) T.no_len yR (ze (pv 1) zg)) (zM y8 (by rfl) T.no_len yR (ze (pv 2) zg)) (zw _)) (qU (zM (jZ (by rfl)) (by rfl) T.no_all jY (ze (wD (n:=2) (N:= ["kind","word"]) (js:= []) (by rfl) rfl rfl (zkX (by rfl) T.no_zip (ze (pv 2) (ze (pv 1) zg zk) zk)) (λa=>(xJ (n:=2) rfl (qf (yO (i:=0) (show List.Nodup (["kind","word"]:List Str) from by decide+kernel) rfl (Or.inl rfl)) (qf (yO (i:=1) (show List.Nodup (["kind","word"]:List Str) from by decide+kernel) rfl (Or.inl rfl)) xI)))) (λa=>wa) (λa=>(zu jT (ok_0l T) (hr.mono 'd') (by rfl) T.mg_0l T.fn_0l.kp T.b_0l .nil (ze (pv 0) (ze (pv 1) zg zk) zk)))) zg))))))),?_⟩;simp only[yw,yu,yL,yv,yN,yM,yK,yt,yI,yJ,yH,ya,yr,yG,zH,zJ,zK,z9,zQ,List.replicate,Option.join_some,Option.join_none,zO,yq,yo,ym,tSl,yk,yj,yy,slT,z4,Int.reduceLT,Int.reduceLE,Int.reduceToNat,Int.reduceNeg,Int.reduceAdd,Int.reduceSub,Int.reduceMul,forall_const,zU,yf,yg,zZ,yx,zY,zS,zL,zR,zV,zW,tC,tOp,rI,rI0,tUn,rU,z5,tB,yb,tOr,yc,zX,yd,ye,tIf,z7,yi,z8,yF,tCB,yp,rEq,rNe,yA,yB,yC,yD,yE,z6,yh,ipI,L2.start,Jz,JN,Jp,List.length_nil,List.cons_append,List.nil_append,Jt,List.replicate_succ,List.replicate_zero,Nat.reduceAdd,Nat.reduceSub,List.getElem?_cons_zero,List.getElem?_cons_succ,List.set_cons_zero,List.set_cons_succ,Option.some.injEq,V.int.injEq,V.bl.injEq,V.ref.injEq,V.str.injEq,exists_eq_left',exists_eq_left,exists_eq',exists_and_left,List.cons.injEq,and_true,true_and,and_self,and_assoc,decide_eq_true_eq,if_true,if_false,Bool.true_eq_false,Js,Bool.not_eq_true',Bool.not_true,Bool.not_false,decide_eq_false_iff_not,ite_true,ite_false,reduceCtorEq,false_and,exists_false,false_or,or_false,and_false,Nat.reduceLeDiff,tBM,xE,zlA];have sl:=wS 32 f;refine⟨rfl,'o',λp H1 hp s1 e1=>⟨_, .inl (s1.seq hS),p,rfl,_, .inl (SqL.of e1),?_⟩⟩;rw[Ja,Ja];refine zA (λh=> ?_) (λh=>q _ _ s1 ⟨λz=>absurd z 'd',λz=>absurd (congrArg Int.ofNat z.1) h⟩);have h':(spl 32 f).length=ws.length:=by omega
 have ha:SqK false K H1 p ((spl 32 f).map λw=>V.str (SL w)):= .inr ⟨rfl,SqL.of e1⟩;have hb:SqK false K H1 l (ws.map λw=>V.str (SL w)):= .inr ⟨rfl,s1.seq hS⟩;refine⟨false,p,rfl,⟨_,ha⟩,⟨_,hb⟩,λl1 hl1 _=> ?_⟩;refine ziY (λi vs=> ∃bs:List Bool,vs=bs.map V.bl/\bs.length=i/\ ∀(j:Nat) b k w,bs[j]? =some b->(spl 32 f)[j]? =some k->ws[j]? =some w->(b=true↔qg k w)) ha hb (by rw[Ja,Ja];exact h') hl1 (by rw[Ja];exact Nat.lt_of_le_of_lt sl (Jx (show f.length+1<1000 by omega) 'd')) (λv w=>by simp only[List.set,zK,zJ]) ⟨[],rfl,rfl,λj b k w e=>by simp at e⟩ (λi x y vs H2 K1 hx hy s2 pv k=> ?_) (λvs H2 s2 pv e2=> ?_)
 ·refine opq λ_ kq=> ?_;obtain⟨bs,rfl,hl,hbs⟩:=pv;rw[Jh] at hx hy;obtain⟨kd,hk,rfl⟩:=Jk.mp hx;obtain⟨wd,hwd,rfl⟩:=Jk.mp hy;apply kq;open_k0;refine⟨kd,wd,rfl,?_,?_,λb hb=>k _ _ (zq.refl _) ⟨bs++ [b],by rw[Jd];rfl,by rw[Jj,hl];rfl,λj b' k' w' e1 e2 e3=> ?_⟩⟩
  ·have:=wk (Ji hk);omega
  ·exact hw wd (Ji hwd)
  ·by_cases z:j<bs.length
   ·rw[List.getElem?_append_left z] at e1;exact hbs j b' k' w' e1 e2 e3
   ·have:j<(bs++ [b]).length:=(Jc.mp e1).1;rw[Jj] at this;obtain rfl:j=i:=by
     simp only[Jp,List.length_nil] at this;omega
    rw[<-hl,List.getElem?_concat_length] at e1;cases e1;rw[hk] at e2;rw[hwd] at e3;cases e2;cases e3;exact hb
 ·refine opq λ_ kq=> ?_;obtain⟨bs,rfl,hl,hbs⟩:=pv;apply kq;rw[Ja] at hl;refine⟨l1,rfl,bs,SqL.of e2,q _ _ (s1.trans s2) ?_⟩;rw[zii];refine⟨λz=>⟨h'.symm,λi k w e1 e3=> ?_⟩,λz i b e=> ?_⟩
  ·have hi:i<bs.length:=by rw[hl];exact(Jc.mp e1).1
   exact(hbs i _ k w (Jb hi) e1 e3).mp (z i _ (Jb hi))
  ·have hi:i<bs.length:=(Jc.mp e).1;have h1:=Jb (l:=spl 32 f) (by omega:i<_);have h2:=Jb (l:=ws) (by omega:i<_);exact(hbs i b _ _ e h1 h2).mpr (z.2 i _ _ h1 h2)
def xz:List Nat:= [112,108,97,110]
def vo:List Nat:= [112,101,114]
def wV:List Nat:= [112,108,97,99,101,115]
def vp:List Nat:= [102,105,114,115,116]
def wW:List Nat:= [101,118,101,114,121]
def qm(dy:Bool):List Nat:=if dy then [100,97,121,115] else [109,111,110,116,104,115]
def plW(p:Nat)(x:Pl):List (List Nat):= [xz,x.1,qk x.2.1 p]++if x.2.2=0 then [] else [vo,dg x.2.2.toNat]
def Dt(f:Int)(cs:List Nat):Prop:= ∃y m d,Cal.Valid y m d/\Cal.num y m d=f/\cs=wg y m d
theorem Dt.one(h:Dt f a)(g:Dt f b):a=b:=by
 obtain⟨y,m,d,v,e,rfl⟩:=h;obtain⟨y',m',d',v',e',rfl⟩:=g;obtain⟨rfl,rfl,rfl⟩:=Cal.num_inj v v' (by rw[e,e']);rfl
noncomputable def dtF(f:Int):List Nat:=Classical.epsilon (Dt f)
theorem Dt.eq(h:Dt f a):dtF f=a:=(Classical.epsilon_spec ⟨a,h⟩:Dt f (dtF f)).one h
noncomputable def rowsW(p:Nat)(xs:List Pl)(f:Int)(dy:Bool)(cc:Int):List (List (List Nat)):= [wV,dg p]:: [vp,dtF f]:: [wW,dg cc.toNat,qm dy]::xs.map (plW p)
noncomputable def txtF(p:Nat)(xs:List Pl)(f:Int)(dy:Bool)(cc:Int):List Nat:=jn [10] ((rowsW p xs f dy cc).map (jn [32]))
def uw(H:Hp)(v:V)(x:Pl):Prop:= ∃a,v= .ref a/\H a=some (.tup [.str (SL x.1), .int x.2.1, .int x.2.2])
def ux(H:Hp)(p l:Addr)(xs:List Pl)(f:Int)(dy:Bool)(cc:Int):Prop:= ∃(pc:Addr) (zs:List (V×Pl)),H p=some (.tup [.ref l, .int f, .ref pc])/\H pc=some (.tup [.str (SL (qm dy)), .int cc])/\H l=some (.lst (zs.map (·.1)))/\zs.map (·.2)=xs/\ ∀z∈zs,uw H z.1 z.2
def uy(xs:List Pl)(f:Int)(dy:Bool)(cc:Int):Prop:=ko xs/\(0<=f/\f<=3500000)/\1<=cc/\cc<=if dy then 400 else 12
theorem uw.same{v:V}{x:Pl}(h:uw H v x)(s:zq H H'):uw H' v x:=let ⟨a,e,q⟩:=h;⟨a,e,s _ _ q⟩
theorem ux.same{H H':Hp}{p l:Addr}{xs:List Pl}{f:Int}{dy:Bool}{cc:Int}(h:ux H p l xs f dy cc)(s:zq H H'):ux H' p l xs f dy cc:=let ⟨pc,zs,h1,h2,h3,h4,h5⟩:=h;⟨pc,zs,s _ _ h1,s _ _ h2,s _ _ h3,h4,λz hz=>(h5 z hz).same s⟩
def vQ:List (List Nat)->List (List Nat)->Prop
 | [], []=>True
 |k::ks,w::ws=>qg k w/\vQ ks ws
 |_,_=>False
theorem zij: ∀{ks ws:List (List Nat)},vQ ks ws->ws.length=ks.length/\ ∀(i:Nat) k w,ks[i]? =some k->ws[i]? =some w->qg k w
 | [], [],_=>⟨rfl,λi k w e=>by simp at e⟩
 |k::ks,w::ws,h=>by
  obtain⟨h1,h2⟩:=zij h.2;refine⟨congrArg (· +1) h1,λi k' w' e e'=> ?_⟩;cases i with
  |zero=>cases e;cases e';exact h.1
  |succ i=>exact h2 i k' w' e e'
theorem vq{k:List Nat}(h:k≠ [78]):qg k k:=by
 unfold qg;rw[Jf h];exact .inr rfl
theorem uz{k w:List Nat}(h:k≠ [78])(u:PySem.Txt.isupper (SL k)=true):qg k w:=by
 unfold qg;rw[Jf h];exact .inl u
def zm2(n:Nat):Bool:=(dg n).all (λc=>48<=c && c<=57) && (dg n).length<=3 && 1<=(dg n).length && PySem.NumText.digitsVal (dg n)==n && (n==0||(dg n).head? !=some 48 && dg n != [48])
theorem zlc: ∀n<401,zm2 n=true:=by decide+kernel
theorem jm(h:n<=400):qN (dg n)/\(dg n).length<=3/\PySem.NumText.digitsVal (dg n)=n/\(n≠0->dg n≠ [48]):=by
 have b:=zlc n 'o';unfold zm2 at b;simp only[Bool.and_eq_true,List.all_eq_true,decide_eq_true_eq,beq_iff_eq,Bool.or_eq_true,bne_iff_ne,ne_eq] at b;obtain⟨⟨⟨⟨b1,b2⟩,b3⟩,b4⟩,b5⟩:=b;refine⟨⟨λc hc=>b1 c hc,λz=>by rw[z] at b3;exact absurd b3 'd','o',?_⟩,b2,b4,λz=> ?_⟩
 ·rcases b5 with rfl|b5
  ·exact .inl (by decide+kernel)
  ·exact .inr b5.1
 ·rcases b5 with e|b5
  ·exact absurd e z
  ·exact b5.2
def vR(ws:List (List Nat)):Prop:=ws≠ []/\ws.length<=5/\ ∀w∈ws,w≠ []/\w.length<=62/\32∉w/\10∉w
theorem uB(sep:List Nat): ∀ys:List (List Nat),(jn sep ys).length<=(ys.map List.length).sum+sep.length*ys.length
 | []=>Je _
 | [y]=>by
  simp only[jn,Jz,JN,List.sum_cons,List.sum_nil];omega
 |y::z::r=>by
  have:=uB sep (z::r);simp only[jn,Jj,Jz,List.sum_cons,Jp] at this ⊢;rw[Nat.mul_add];omega
theorem sum_le{b:Nat}: ∀{ys:List (List Nat)},(∀y∈ys,y.length<=b)->(ys.map List.length).sum<=b*ys.length
 | [],_=>Je _
 |y::r,h=>by
  have h1:=h y Jq;have h2:=sum_le λz hz=>h z (Jl _ hz);rw[Jz,List.sum_cons,Jp,Nat.mul_add];omega
theorem zkb{c:Nat}{sep:List Nat}(hs:c∉sep): ∀{ys:List (List Nat)},(∀y∈ys,c∉y)->c∉jn sep ys
 | [],_=>nofun
 | [y],h=>h y Jq
 |y::z::r,h=>λq=>by
  rw[jn,Jr,Jr] at q;rcases q with(q|q)|q
  ·exact h y Jq q
  ·exact hs q
  ·exact zkb hs (λw hw=>h w (Jl _ hw)) q
theorem zi9{n:Int}(h:c∈qk n p):c≠32/\c≠10:=by
 by_cases h1:c=45
 ·rw[h1];decide
 by_cases h2:c=46
 ·rw[h2];decide
 have:c∈((qk n p).filter (· !=45)).filter (· !=46):=List.mem_filter.mpr ⟨List.mem_filter.mpr ⟨h,by simpa using h1⟩,by simpa using h2⟩;rw[j7] at this
 have:=zgm _ _ c this;constructor<;>omega
theorem zja{m d:Int}(h:c∈wg y m d):c≠32/\c≠10:=by
 have f: ∀{k:Nat} {n:Int},c∈fig k n->c≠32/\c≠10:=fun {k n} z=>by
  have:=uS k n c z;constructor<;>omega
 unfold wg at h;simp only[Jr,Jm] at h;rcases h with(h|h)|(h|h)|h
 ·exact f h
 ·rw[h];decide
 ·exact f h
 ·rw[h];decide
 ·exact f h
theorem jo{w:List Nat}(h:w≠ [])(l:w.length<=62)(c: ∀x∈w,x≠32/\x≠10):w≠ []/\w.length<=62/\32∉w/\10∉w:=⟨h,l,λz=>(c _ z).1 rfl,λz=>(c _ z).2 rfl⟩
theorem kL(h:n<=400):dg n≠ []/\(dg n).length<=62/\32∉dg n/\10∉dg n:=by
 obtain⟨nk,nl,_⟩:=jm h;exact jo nk.2.1 'o' λc hc=>by have:=nk.1 c hc;constructor<;>omega
theorem zmp{x:Pl}(ok:wF x)(hp:p<=6):vR (plW p x):=by
 obtain⟨⟨n1,n2,n3⟩,r0,r1,c0,c1⟩:=ok;have nb:x.2.1.natAbs<10 ^ 60:=by omega
 have w1: ∀w∈ [xz,x.1,qk x.2.1 p],w≠ []/\w.length<=62/\32∉w/\10∉w:=λw hw=>by
  simp only[JC,List.not_mem_nil,or_false] at hw;rcases hw with rfl|rfl|rfl
  ·decide
  ·exact jo (λz=>by rw[z] at n1;exact absurd n1 'd') 'o' λc hc=>by have:=n3 c hc;constructor<;>omega
  ·exact jo (λz=>by have:=zjL x.2.1 p;rw[z] at this;exact absurd this 'd') (uq nb hp) λc hc=>zi9 hc
 unfold plW;split
 ·exact⟨List.cons_ne_nil _ _,by simp,by rw[Jt];exact w1⟩
 ·refine⟨List.cons_ne_nil _ _,by simp,λw hw=> ?_⟩;rcases Jr.mp hw with h|h
  ·exact w1 w h
  ·simp only[JC,List.not_mem_nil,or_false] at h;rcases h with rfl|rfl
   ·decide
   ·exact kL 'o'
theorem jp(ok:uy xs f dy cc)(hp:p<=6): ∀ws∈rowsW p xs f dy cc,vR ws:=by
 obtain⟨pok,⟨f0,f1⟩,c0,c1⟩:=ok;have c2:cc<=400:=by split at c1<;>omega
 obtain⟨y,m,d,va,hn⟩:=Cal.date_exists f0 (show f<=3652058 by omega);have ed:dtF f=wg y m d:=Dt.eq ⟨y,m,d,va,hn,rfl⟩;have dl:(wg y m d).length=10:=by simp [wg,vh]
 intro ws h;unfold rowsW at h;simp only[JC,Jw] at h;rcases h with rfl|rfl|rfl|⟨x,hx,rfl⟩
 ·refine⟨List.cons_ne_nil _ _,by simp,λw hw=> ?_⟩;simp only[JC,List.not_mem_nil,or_false] at hw;rcases hw with rfl|rfl
  ·decide
  ·exact kL 'o'
 ·refine⟨List.cons_ne_nil _ _,by simp,λw hw=> ?_⟩;simp only[JC,List.not_mem_nil,or_false] at hw;rcases hw with rfl|rfl
  ·decide
  ·rw[ed];exact jo (λz=>by rw[z] at dl;exact absurd dl 'd') 'o' λc hc=>zja hc
 ·refine⟨List.cons_ne_nil _ _,by simp,λw hw=> ?_⟩;simp only[JC,List.not_mem_nil,or_false] at hw;rcases hw with rfl|rfl|rfl
  ·decide
  ·exact kL 'o'
  ·unfold qm;split<;>decide
 ·exact zmp (pok.2.2.1 x hx) hp
theorem vR.len(h:vR ws):(jn [32] ws).length<=315:=by
 have h1:=uB [32] ws;have h2:=sum_le (b:=62) λw hw=>(h.2.2 w hw).2.1;have h3:=h.2.1;simp only[Jp,List.length_nil] at h1;omega
theorem vR.nl(h:vR ws):10∉jn [32] ws:=zkb 'd' λw hw=>(h.2.2 w hw).2.2.2
def wm(K:Fg)(H:Hp)(l:Addr)(ws:List (List Nat)):Prop:=SqL K H l (ws.map λw=>V.str (SL w))/\ws.length<=100000/\ ∀w∈ws,w.length<=100000
theorem wm.same(h:wm K H l ws)(s:zq H H'):wm K H' l ws:=⟨s.seq h.1,h.2⟩
theorem uC{f:List Nat}:wU f ws↔vQ (spl 32 f) ws:=by
 unfold wU;generalize spl 32 f=ks;refine⟨λh=> ?_,zij⟩;obtain⟨h1,h2⟩:=h;induction ks generalizing ws with
 |nil=>cases ws with|nil=>trivial|cons a r=>cases h1
 |cons k ks ih=>
  cases ws with
  |nil=>cases h1
  |cons w ws=>exact⟨h2 0 k w rfl rfl,ih (Nat.succ.inj h1) λi k' w' e e'=>h2 (i+1) k' w' e e'⟩
theorem vt{k w:List Nat}(h:k≠ [78])(u:PySem.Txt.isupper (SL k)=false):qg k w↔w=k:=by
 unfold qg;rw[Jf h,u];exact⟨λz=>z.resolve_left 'd', .inr⟩
theorem vS{w:List Nat}:qg [78] w↔qN w:=by
 unfold qg;rw[Jg rfl]
theorem zlB:vQ [a,b] ws↔ ∃x y,ws= [x,y]/\qg a x/\qg b y:=by
 refine⟨λh=> ?_,λ⟨x,y,e,h1,h2⟩=>e ▸ ⟨h1,h2,trivial⟩⟩;match ws,h with
 | [x,y],h=>exact⟨x,y,rfl,h.1,h.2.1⟩
theorem zlC{c:List Nat}:vQ [a,b,c] ws↔ ∃x y z,ws= [x,y,z]/\qg a x/\qg b y/\qg c z:=by
 refine⟨λh=> ?_,λ⟨x,y,z,e,h1,h2,h3⟩=>e ▸ ⟨h1,h2,h3,trivial⟩⟩;match ws,h with
 | [x,y,z],h=>exact⟨x,y,z,rfl,h.1,h.2.1,h.2.2.1⟩
theorem zm3{c d e:List Nat}:vQ [a,b,c,d,e] ws↔ ∃x y z u v,ws= [x,y,z,u,v]/\qg a x/\qg b y/\qg c z/\qg d u/\qg e v:=by
 refine⟨λh=> ?_,λ⟨x,y,z,u,v,q,h1,h2,h3,h4,h5⟩=>q ▸ ⟨h1,h2,h3,h4,h5,trivial⟩⟩;match ws,h with
 | [x,y,z,u,v],h=>exact⟨x,y,z,u,v,rfl,h.1,h.2.1,h.2.2.1,h.2.2.2.1,h.2.2.2.2.1⟩
def zlD(ws:List (List Nat)):Prop:= ∃n,ws= [wV,n]/\qN n/\PySem.NumText.digitsVal n<=6
def zlE(ws:List (List Nat)):Prop:= ∃d,ws= [vp,d]
def CycOk(ws:List (List Nat)):Prop:= ∃n dy,ws= [wW,n,qm dy]/\qN n
def xP(ws:List (List Nat)):Prop:= ∃nm pr,ws= [xz,nm,pr]\/ ∃n,ws= [xz,nm,pr,vo,n]/\qN n/\n≠ [48]
def yY(ls:List (List (List Nat)))(i:Nat):List (List Nat):=ls.getD i []
def xf(ls:List (List (List Nat))):Prop:=4<=ls.length/\(∀ws∈ls, []∉ws)/\zlD (yY ls 0)/\zlE (yY ls 1)/\CycOk (yY ls 2)/\ ∀ws∈ls.drop 3,xP ws
theorem zfO:wU [112,108,97,99,101,115,32,78] ws↔ ∃n,ws= [wV,n]/\qN n:=by
 rw[uC,show spl 32 [112,108,97,99,101,115,32,78]= [wV, [78]] by decide,zlB];refine⟨λ⟨x,y,e,h1,h2⟩=>⟨y,?_,vS.mp h2⟩,λ⟨n,e,h⟩=>⟨_,_,e,vq 'd',vS.mpr h⟩⟩;rw[e,(vt 'd' (by decide+kernel)).mp h1]
theorem zgt:wU [102,105,114,115,116,32,68,65,84,69] ws↔zlE ws:=by
 rw[uC,show spl 32 [102,105,114,115,116,32,68,65,84,69]= [vp, [68,65,84,69]] by decide,zlB];refine⟨λ⟨x,y,e,h1,h2⟩=>⟨y,?_⟩,λ⟨n,e⟩=>⟨_,_,e,vq 'd',uz 'd' (by decide+kernel)⟩⟩;rw[e,(vt 'd' (by decide+kernel)).mp h1]
theorem zik{k:List (List Nat)}{f:List Nat}(e:spl 32 f= [wW, [78],qm dy]):wU f ws↔ ∃n,ws= [wW,n,qm dy]/\qN n:=by
 rw[uC,e,zlC];have cw:qm dy≠ [78]/\PySem.Txt.isupper (SL (qm dy))=false:=by cases dy<;>exact⟨'d',by decide+kernel⟩
 refine⟨λ⟨x,y,z,e,h1,h2,h3⟩=>⟨y,?_,vS.mp h2⟩,λ⟨n,e,h⟩=>⟨_,_,_,e,vq 'd',vS.mpr h,vq cw.1⟩⟩;rw[e,(vt 'd' (by decide+kernel)).mp h1,(vt cw.1 cw.2).mp h3]
theorem zgu:wU [112,108,97,110,32,78,65,77,69,32,80,82,73,67,69] ws↔ ∃nm pr,ws= [xz,nm,pr]:=by
 rw[uC,show spl 32 [112,108,97,110,32,78,65,77,69,32,80,82,73,67,69]= [xz, [78,65,77,69], [80,82,73,67,69]] by decide,zlC];refine⟨λ⟨x,y,z,e,h1,h2,h3⟩=>⟨y,z,?_⟩,λ⟨nm,pr,e⟩=>⟨_,_,_,e,vq 'd',uz 'd' (by decide+kernel),uz 'd' (by decide+kernel)⟩⟩;rw[e,(vt 'd' (by decide+kernel)).mp h1]
theorem zgv:wU [112,108,97,110,32,78,65,77,69,32,80,82,73,67,69,32,112,101,114,32,78] ws↔ ∃nm pr n,ws= [xz,nm,pr,vo,n]/\qN n:=by
 rw[uC,show spl 32 [112,108,97,110,32,78,65,77,69,32,80,82,73,67,69,32,112,101,114,32,78]= [xz, [78,65,77,69], [80,82,73,67,69],vo, [78]] by decide,zm3];refine⟨λ⟨x,y,z,u,v,e,h1,h2,h3,h4,h5⟩=>⟨y,z,v,?_,vS.mp h5⟩,λ⟨nm,pr,n,e,h⟩=>⟨_,_,_,_,_,e,vq 'd',uz 'd' (by decide+kernel),uz 'd' (by decide+kernel),vq 'd',vS.mpr h⟩⟩;rw[e,(vt 'd' (by decide+kernel)).mp h1,(vt 'd' (by decide+kernel)).mp h4]
theorem wo{n:List Nat}(h:qN n):n.length<=9:=h.2.2.1
def zmq(K:Fg):Sp:=λvs H Q _=> ∃(l:Addr) (ws:List (List Nat)),vs= [.ref l]/\wm K H l ws/\ ∀(b:Bool) H',zq H H'->(b=true↔zlD ws)->Q (.bl b) H'
theorem sc_0n:FnScope ["words"] ["words"] (zC s_0n):=⟨rfl,rfl,rfl,by decide+kernel,rfl,by decide+kernel,by decide+kernel⟩
theorem ok_0n(T:Txt K mg t):FnOk P w K mg base (CXE P w) 5 t.a_0n t.d_0n ["words"] (zmq K):=by
 refine T.fn_0n.okX sc_0n (λvs H Q E h=> ?_) (λcdv A outer s H vs Q E L hr h=> ?_)
 ·refine opq λ_ kq=> ?_;obtain⟨l,ws,rfl,hS,q⟩:=h;apply kq;rfl
 refine opq λ_ kq=> ?_;obtain⟨l,ws,rfl,hS,q⟩:=h;have nd:=sc_0n.nd;obtain⟨u_Z0e,h_Z0e,r_Z0e⟩:=T.k_Z0e;apply kq;refine⟨_,(zo (zD (xC (zu L.toLv (ok_0m T) (hr.mono 'd') (by rfl) T.mg_0m T.fn_0m.kp T.b_0m .nil (ze (zj st_22) (ze (pv 0) zg zk) zi)) (qU (qz xW (qu xD (by rfl) T.no_int q0 (ze (zt zy (pv 0) zh (λ_ _=>rfl)) zg)) (qr (by rfl) h_Z0e r_Z0e) (zw _)))))),?_⟩;open_k0;refine⟨_,l,ws,rfl,hS.1,'d',hS.2.2,λb H1 s1 hb=>⟨b,rfl,zA (λh=> ?_) (λh=>q _ _ s1 ⟨λz=>absurd z 'd',λ⟨n,e,nk,_⟩=>absurd (hb.mpr (zfO.mpr ⟨n,e,nk⟩)) h⟩)⟩⟩;obtain⟨n,rfl,nk⟩:=zfO.mp (hb.mp h);refine ixL (s1.seq hS.1) (v:= .str (SL n)) rfl ⟨_,rfl,nk.1,nk.2.1,by have:=wo nk;omega,q _ _ s1 ⟨λz=>⟨n,rfl,nk,by have:=of_decide_eq_true z;omega⟩,λ⟨m,e,mk,hm⟩=> ?_⟩⟩;cases e;exact JL 'o'
def zmr(K:Fg):Sp:=λvs H Q _=> ∃(l:Addr) (ws:List (List Nat)),vs= [.ref l]/\wm K H l ws/\ ∀(b:Bool) H',zq H H'->(b=true↔CycOk ws)->Q (.bl b) H'
theorem sc_0o:FnScope ["words"] ["words"] (zC s_0o):=⟨rfl,rfl,rfl,by decide+kernel,rfl,by decide+kernel,by decide+kernel⟩
theorem ok_0o(T:Txt K mg t):FnOk P w K mg base (CXE P w) 5 t.a_0o t.d_0o ["words"] (zmr K):=by
 refine T.fn_0o.okX sc_0o (λvs H Q E h=> ?_) (λcdv A outer s H vs Q E L hr h=> ?_)
 ·refine opq λ_ kq=> ?_;obtain⟨l,ws,rfl,hS,q⟩:=h;apply kq;rfl
 refine opq λ_ kq=> ?_;obtain⟨l,ws,rfl,hS,q⟩:=h;apply kq;have nd:=sc_0o.nd;refine⟨_,(zo (zD (vB (zu L.toLv (ok_0m T) (hr.mono 'd') (by rfl) T.mg_0m T.fn_0m.kp T.b_0m .nil (ze (zj st_23) (ze (pv 0) zg zk) zi)) (qU (zu L.toLv (ok_0m T) (hr.mono 'd') (by rfl) T.mg_0m T.fn_0m.kp T.b_0m .nil (ze (zj st_24) (ze (pv 0) zg zk) zi)))))),?_⟩;open_k0;have c1:=zik (ws:=ws) (k:= []) (f:= [101,118,101,114,121,32,78,32,100,97,121,115]) (dy:=true) 'd';have c2:=zik (ws:=ws) (k:= []) (f:= [101,118,101,114,121,32,78,32,109,111,110,116,104,115]) (dy:=false) 'd';refine⟨_,l,ws,rfl,hS.1,'d',hS.2.2,λb H1 s1 hb=>⟨b,rfl,zA (λh=>q _ _ s1 ⟨λ_=> ?_,λ_=>rfl⟩) (λh=>⟨_,l,ws,rfl,s1.seq hS.1,'d',hS.2.2,λb2 H2 s2 hb2=>q _ _ (s1.trans s2) ⟨λz=> ?_,λ⟨n,dy,e,nk⟩=> ?_⟩⟩)⟩⟩
 ·obtain⟨n,e,nk⟩:=c1.mp (hb.mp h);exact⟨n,true,e,nk⟩
 ·obtain⟨n,e,nk⟩:=c2.mp (hb2.mp z);exact⟨n,false,e,nk⟩
 ·cases dy with
  |true=>exact absurd (hb.mpr (c1.mpr ⟨n,e,nk⟩)) h
  |false=>exact hb2.mpr (c2.mpr ⟨n,e,nk⟩)
def zld(K:Fg):Sp:=λvs H Q _=> ∃(l:Addr) (ws:List (List Nat)),vs= [.ref l]/\wm K H l ws/\ ∀(b:Bool) H',zq H H'->(b=true↔xP ws)->Q (.bl b) H'
theorem sc_0p:FnScope ["words"] ["words"] (zC s_0p):=⟨rfl,rfl,rfl,by decide+kernel,rfl,by decide+kernel,by decide+kernel⟩
theorem ok_0p(T:Txt K mg t):FnOk P w K mg base (CXE P w) 5 t.a_0p t.d_0p ["words"] (zld K):=by
 refine T.fn_0p.okX sc_0p (λvs H Q E h=> ?_) (λcdv A outer s H vs Q E L hr h=> ?_)
 ·refine opq λ_ kq=> ?_;obtain⟨l,ws,rfl,hS,q⟩:=h;apply kq;rfl
 refine opq λ_ kq=> ?_;obtain⟨l,ws,rfl,hS,q⟩:=h;apply kq;have nd:=sc_0p.nd;refine⟨_,(zn (zG (qB (zu L.toLv (ok_0m T) (hr.mono 'd') (by rfl) T.mg_0m T.fn_0m.kp T.b_0m .nil (ze (zj st_25) (ze (pv 0) zg zk) zi))) (zo (zD qi)) zF) (zo (zD (xC (zu L.toLv (ok_0m T) (hr.mono 'd') (by rfl) T.mg_0m T.fn_0m.kp T.b_0m .nil (ze (zj st_26) (ze (pv 0) zg zk) zi)) (qU (qz qC (zt zy (pv 0) zh (λ_ _=>rfl)) (zj st_19) (zw _))))))),?_⟩;open_k0;refine⟨_,l,ws,rfl,hS.1,'d',hS.2.2,λb H1 s1 hb=>⟨b,rfl,zA (λh=>q _ _ s1 ⟨λ_=> ?_,λ_=>rfl⟩) (λh=>⟨_,l,ws,rfl,s1.seq hS.1,'d',hS.2.2,λb2 H2 s2 hb2=>⟨b2,rfl,zA (λh2=> ?_) (λh2=>q _ _ (s1.trans s2) ⟨λz=>absurd z 'd',λ⟨nm,pr,z⟩=> ?_⟩)⟩⟩)⟩⟩
 ·obtain⟨nm,pr,e⟩:=zgu.mp (hb.mp h);exact⟨nm,pr, .inl e⟩
 ·refine opq λ_ kq=> ?_;obtain⟨nm,pr,n,rfl,nk⟩:=zgv.mp (hb2.mp h2);apply kq;refine ixL (s2.seq (s1.seq hS.1)) (v:= .str (SL n)) rfl ⟨rfl,q _ _ (s1.trans s2) ⟨λz=>⟨nm,pr, .inr ⟨n,rfl,nk,λe=> ?_⟩⟩,λ⟨nm',pr',z⟩=> ?_⟩⟩
  ·rw[e] at z;simp at z
  ·rcases z with z|⟨n',z,_,n0⟩
   ·cases z
   ·cases z;simp only[Bool.not_eq_true',decide_eq_false_iff_not];exact λe=>n0 (by have:=V.str.inj e;rwa[zO] at this)
 ·rcases z with z|⟨n,z,nk,n0⟩
  ·exact absurd (hb.mpr (zgu.mpr ⟨nm,pr,z⟩)) h
  ·exact absurd (hb2.mpr (zgv.mpr ⟨nm,pr,n,z,nk⟩)) h2
def xQ(K:Fg)(H:Hp)(vs:List V)(ls:List (List (List Nat))):Prop:=vs.length=ls.length/\ ∀(i:Nat) v ws,vs[i]? =some v->ls[i]? =some ws-> ∃a,v= .ref a/\wm K H a ws
theorem xQ.same{K:Fg}{H H':Hp}{vs:List V}{ls:List (List (List Nat))}(h:xQ K H vs ls)(s:zq H H'):xQ K H' vs ls:=⟨h.1,λi v ws e1 e2=>let ⟨a,e,q⟩:=h.2 i v ws e1 e2;⟨a,e,q.same s⟩⟩
theorem xQ.get{vs:List V}(h:xQ K H vs ls){i:Nat}(hi:i<ls.length): ∃a,vs[i]? =some (.ref a)/\wm K H a (yY ls i):=by
 have hv:i<vs.length:=by rw[h.1];exact hi
 obtain⟨a,e2,q⟩:=h.2 i _ (yY ls i) (Jb hv) (by unfold yY;rw[Jo,Jb hi];rfl);exact⟨a,by rw[Jb hv,e2],q⟩
noncomputable def cB(p:Prop):Bool:= @decide p (Classical.propDecidable p)
theorem vv{p:Prop}:cB p=true↔p:= @decide_eq_true_iff p (Classical.propDecidable p)
theorem kM{b:Bool}{p:Prop}(h:b=true↔p):b=cB p:=by
 rw[Bool.eq_iff_iff,h,vv]
theorem zgw(ws:List (List Nat)):(ws.map λw=>V.str (SL w)).all xY=true:=by
 rw[List.all_map];exact List.all_eq_true.mpr λw _=>rfl
theorem xA{xs:List α}{f:α->β}{i:Nat}{u:β}(h:(xs.map f)[i]? =some u): ∃x,xs[i]? =some x/\f x=u:=by
 rw[Jh] at h;exact Jk.mp h
theorem xg(h:n<=200000):n<sizeLine:=by rw[sizeLine_eq];omega
def zle(K:Fg):Sp:=λvs H Q _=> ∃(l:Addr) (us:List V) (ls:List (List (List Nat))),vs= [.ref l]/\SqL K H l us/\xQ K H us ls/\ls.length<=100000/\ ∀(b:Bool) H',zq H H'->(b=true↔xf ls)->Q (.bl b) H'
theorem sc_0q:FnScope ["lines"] ["lines"] (zC s_0q):=⟨rfl,rfl,rfl,by decide+kernel,rfl,by decide+kernel,by decide+kernel⟩
theorem ok_0q(T:Txt K mg t):FnOk P w K mg base (CXE P w) 6 t.a_0q t.d_0q ["lines"] (zle K):=by
 refine T.fn_0q.okX sc_0q (λvs H Q E h=> ?_) (λcdv A outer s H vs Q E L hr h=> ?_)
 ·refine opq λ_ kq=> ?_;obtain⟨l,us,ls,rfl,hS,hL,hl,q⟩:=h;apply kq;rfl
 refine opq λ_ kq=> ?_;obtain⟨l,us,ls,rfl,hS,hL,hl,q⟩:=h;apply kq;have nd:=sc_0q.nd;refine⟨_,(zn (zG (PW.pt (qb (zz xj (zM y8 (by rfl) T.no_len yR (ze (pv 0) zg)) zh (zw _)) (qH (qB (zM (zjw (by rfl)) (by rfl) T.no_any zl0 (ze (wD (n:=1) (N:= ["words"]) (js:= []) (by rfl) rfl rfl (qX (pv 0)) (λa=>(yO (i:=0) (show List.Nodup (["words"]:List Str) from by decide+kernel) rfl (Or.inl rfl))) (λa=>wa) (λa=>(qz uM (zj st_14) (pv 0) rfl))) zg)))))) (zo (zD qi)) zF) (zn (zG (qb (qI (qB (zu L.toLv (ok_0n T) (hr.mono 'd') (by rfl) T.mg_0n T.fn_0n.kp T.b_0n .nil (ze (zt zy (pv 0) zh (λ_ _=>rfl)) zg)))) (qb (qI (qB (zu L.toLv (ok_0m T) (hr.mono 'd') (by rfl) T.mg_0m T.fn_0m.kp T.b_0m .nil (ze (zj st_27) (ze (zt zy (pv 0) zh (λ_ _=>rfl)) zg y9) zi)))) (qH (qI (qB (zu L.toLv (ok_0o T) (hr.mono 'd') (by rfl) T.mg_0o T.fn_0o.kp T.b_0o .nil (ze (zt zy (pv 0) zh (λ_ _=>rfl)) zg))))))).pt (zo (zD qi)) zF) (zo (zD (zM (jZ (by rfl)) (by rfl) T.no_all jY (ze (wD (n:=1) (N:= ["words"]) (js:= []) (by rfl) rfl rfl (qX (qT wb (pv 0) (qL zh) qY)) (λa=>(yO (i:=0) (show List.Nodup (["words"]:List Str) from by decide+kernel) rfl (Or.inl rfl))) (λa=>wa) (λa=>(zu jT (ok_0p T) (hr.mono 'd') (by rfl) T.mg_0p T.fn_0p.kp T.b_0p .nil (ze (pv 0) zg)))) zg)))))),?_⟩;simp only[yw,yu,yL,yv,yN,yM,yK,yt,yI,yJ,yH,ya,yr,yG,zH,zJ,zK,z9,zQ,List.replicate,Option.join_some,Option.join_none,zO,yq,yo,ym,tSl,yk,yj,yy,slT,z4,Int.reduceLT,Int.reduceLE,Int.reduceToNat,Int.reduceNeg,Int.reduceAdd,Int.reduceSub,Int.reduceMul,forall_const,zU,yf,yg,zZ,yx,zY,zS,zL,zR,zV,zW,tC,tOp,rI,rI0,tUn,rU,z5,tB,yb,tOr,yc,zX,yd,ye,tIf,z7,yi,z8,yF,tCB,yp,rEq,rNe,yA,yB,yC,yD,yE,z6,yh,ipI,L2.start,Jz,JN,Jp,List.length_nil,List.cons_append,List.nil_append,Jt,List.replicate_succ,List.replicate_zero,Nat.reduceAdd,Nat.reduceSub,List.getElem?_cons_zero,List.getElem?_cons_succ,List.set_cons_zero,List.set_cons_succ,Option.some.injEq,V.int.injEq,V.bl.injEq,V.ref.injEq,V.str.injEq,exists_eq_left',exists_eq_left,exists_eq',exists_and_left,List.cons.injEq,and_true,true_and,and_self,and_assoc,decide_eq_true_eq,if_true,if_false,Bool.true_eq_false,Js,Bool.not_eq_true',Bool.not_true,Bool.not_false,decide_eq_false_iff_not,ite_true,ite_false,reduceCtorEq,false_and,exists_false,false_or,or_false,and_false,Nat.reduceLeDiff,xE,qW];have ul:=hL.1;refine⟨_, .inl hS,zA (λh=>q _ _ (zq.refl _) ⟨λz=>absurd z 'd',λz=>absurd z.1 'o'⟩) (λh4=> ?_)⟩;refine⟨⟨_,hS⟩,λl1 hl1 _=> ?_⟩;refine vP (ls.map λws=>V.bl (cB ([]∈ws))) (xL hS) (by rw[Ja,ul]) hl1 (xg 'o') (λi x u H1 K1 hx hu s1 k1=> ?_) (λH1 s1 e1=> ?_)
 ·refine opq λ_ kq=> ?_;obtain⟨ws,hw,rfl⟩:=xA hu;obtain⟨a,rfl,hA⟩:=hL.2 i x _ hx hw;apply kq;simp only[yw,yu,yL,yv,yN,yM,yK,yt,yI,yJ,yH,ya,yr,yG,zH,zJ,zK,z9,zQ,List.replicate,Option.join_some,Option.join_none,zO,yq,yo,ym,tSl,yk,yj,yy,slT,z4,Int.reduceLT,Int.reduceLE,Int.reduceToNat,Int.reduceNeg,Int.reduceAdd,Int.reduceSub,Int.reduceMul,forall_const,zU,yf,yg,zZ,yx,zY,zS,zL,zR,zV,zW,tC,tOp,rI,rI0,tUn,rU,z5,tB,yb,tOr,yc,zX,yd,ye,tIf,z7,yi,z8,yF,tCB,yp,rEq,rNe,yA,yB,yC,yD,yE,z6,yh,ipI,L2.start,Jz,JN,Jp,List.length_nil,List.cons_append,List.nil_append,Jt,List.replicate_succ,List.replicate_zero,Nat.reduceAdd,Nat.reduceSub,List.getElem?_cons_zero,List.getElem?_cons_succ,List.set_cons_zero,List.set_cons_succ,Option.some.injEq,V.int.injEq,V.bl.injEq,V.ref.injEq,V.str.injEq,exists_eq_left',exists_eq_left,exists_eq',exists_and_left,List.cons.injEq,and_true,true_and,and_self,and_assoc,decide_eq_true_eq,if_true,if_false,Bool.true_eq_false,Js,Bool.not_eq_true',Bool.not_true,Bool.not_false,decide_eq_false_iff_not,ite_true,ite_false,reduceCtorEq,false_and,exists_false,false_or,or_false,and_false,Nat.reduceLeDiff,zK,zJ];refine⟨a,_,rfl, .inl (s1.seq hA.1),rfl,zgw _,?_⟩;rw[Jf 'd',ut,kM (b:=decide ([]∈ws)) decide_eq_true_iff];exact k1 _ (zq.refl _)
 refine⟨l1,rfl,ls.map λws=>cB ([]∈ws),SqL.of (e1.trans (by rw[List.map_map];rfl)),?_⟩;refine zA (λha=>q _ _ s1 ⟨λz=>absurd z 'd',λz=> ?_⟩) (λha=> ?_)
 ·refine opq λ_ kq=> ?_;obtain⟨b,hb,e⟩:=List.any_eq_true.mp ha;obtain⟨ws,hw,rfl⟩:=Jw.mp hb;apply kq;exact absurd (vv.mp e) (z.2.1 ws hw)
 have no: ∀ws∈ls, []∉ws:=λws hw z=>ha (List.any_eq_true.mpr ⟨_,List.mem_map_of_mem hw,vv.mpr z⟩);refine opq λ_ kq=> ?_;obtain⟨a0,u0,A0⟩:=hL.get (i:=0) 'o';obtain⟨a1,u1,A1⟩:=hL.get (i:=1) 'o';obtain⟨a2,u2,A2⟩:=hL.get (i:=2) 'o';apply kq;refine ixL (s1.seq hS) (yP (j:=0) u0) ⟨a0,_,rfl,A0.same s1,λb0 H2 s2 hb0=>⟨b0,rfl,zA (λz0=>q _ _ (s1.trans s2) ⟨λz=>absurd z 'd',λz=> ?_⟩) (λz0=> ?_)⟩⟩
 ·rw[hb0.mpr z.2.2.1] at z0;cases z0
 have s12:=s1.trans s2;refine ixL (s12.seq hS) (yP (j:=1) u1) ⟨_,a1,_,rfl,(A1.same s12).1,'d',A1.2.2,λb1 H3 s3 hb1=>⟨b1,rfl,zA (λz1=>q _ _ (s12.trans s3) ⟨λz=>absurd z 'd',λz=> ?_⟩) (λz1=> ?_)⟩⟩
 ·rw[hb1.mpr (zgt.mpr z.2.2.2.1)] at z1;cases z1
 have s13:=s12.trans s3;refine ixL (s13.seq hS) (yP (j:=2) u2) ⟨a2,_,rfl,A2.same s13,λb2 H4 s4 hb2=>⟨b2,rfl,zA (λz2=>q _ _ (s13.trans s4) ⟨λz=>absurd z 'd',λz=> ?_⟩) (λz2=> ?_)⟩⟩
 ·rw[hb2.mpr z.2.2.2.2.1] at z2;cases z2
 have s14:=s13.trans s4;have t0:=hb0.mp (by cases b0 with|true=>rfl|false=>exact absurd rfl z0);have t1:=zgt.mp (hb1.mp (by cases b1 with|true=>rfl|false=>exact absurd rfl z1));have t2:=hb2.mp (by cases b2 with|true=>rfl|false=>exact absurd rfl z2);refine⟨l,us,rfl,s14.seq hS,λpa H5 _ s5 e5=>⟨pa,rfl,⟨_,SqL.of e5⟩,λl2 hl2 _=> ?_⟩⟩;rw[wc us 'd' 'o'] at e5;have s15:=s14.trans s5;refine vP ((ls.drop 3).map λws=>V.bl (cB (xP ws))) (xL (SqL.of e5)) (by rw[Ja,List.length_drop,List.length_drop,ul];rfl) hl2 (xg (by rw[List.length_drop];omega)) (λi x u H6 K1 hx hu s6 k1=> ?_) (λH6 s6 e6=> ?_)
 ·refine opq λ_ kq=> ?_;obtain⟨ws,hw,rfl⟩:=xA hu;rw[List.getElem?_drop] at hx hw;obtain⟨a,rfl,hA⟩:=hL.2 (3+i) x _ hx hw;apply kq;simp only[yw,yu,yL,yv,yN,yM,yK,yt,yI,yJ,yH,ya,yr,yG,zH,zJ,zK,z9,zQ,List.replicate,Option.join_some,Option.join_none,zO,yq,yo,ym,tSl,yk,yj,yy,slT,z4,Int.reduceLT,Int.reduceLE,Int.reduceToNat,Int.reduceNeg,Int.reduceAdd,Int.reduceSub,Int.reduceMul,forall_const,zU,yf,yg,zZ,yx,zY,zS,zL,zR,zV,zW,tC,tOp,rI,rI0,tUn,rU,z5,tB,yb,tOr,yc,zX,yd,ye,tIf,z7,yi,z8,yF,tCB,yp,rEq,rNe,yA,yB,yC,yD,yE,z6,yh,ipI,L2.start,Jz,JN,Jp,List.length_nil,List.cons_append,List.nil_append,Jt,List.replicate_succ,List.replicate_zero,Nat.reduceAdd,Nat.reduceSub,List.getElem?_cons_zero,List.getElem?_cons_succ,List.set_cons_zero,List.set_cons_succ,Option.some.injEq,V.int.injEq,V.bl.injEq,V.ref.injEq,V.str.injEq,exists_eq_left',exists_eq_left,exists_eq',exists_and_left,List.cons.injEq,and_true,true_and,and_self,and_assoc,decide_eq_true_eq,if_true,if_false,Bool.true_eq_false,Js,Bool.not_eq_true',Bool.not_true,Bool.not_false,decide_eq_false_iff_not,ite_true,ite_false,reduceCtorEq,false_and,exists_false,false_or,or_false,and_false,Nat.reduceLeDiff,zK,zJ];exact⟨a,_,rfl,hA.same (s15.trans s6),λb H7 s7 hb=>by rw[kM hb];exact k1 _ s7⟩
 refine⟨l2,rfl,(ls.drop 3).map λws=>cB (xP ws),SqL.of (e6.trans (by rw[List.map_map];rfl)),q _ _ (s15.trans s6) ⟨λz=>⟨'o',no,t0,t1,t2,λws hw=> ?_⟩,λz=> ?_⟩⟩
 ·exact vv.mp (List.all_eq_true.mp z _ (List.mem_map_of_mem hw))
 ·refine List.all_eq_true.mpr λb hb=> ?_;obtain⟨ws,hw,rfl⟩:=Jw.mp hb;exact vv.mpr (z.2.2.2.2.2 ws hw)
def wd(ws:List (List Nat))(i:Nat):List Nat:=ws.getD i []
def ctF(ws:List (List Nat)):Int:=if 3<ws.length then (PySem.NumText.digitsVal (wd ws 4):Nat) else 0
def zkd(K:Fg)(t:Adr):Sp:=λvs H Q E=> ∃(p:Int) (l:Addr) (ws:List (List Nat)),vs= [.int p, .ref l]/\wm K H l ws/\xP ws/\0<=p/\p<=6/\(∀n,xb (wd ws 2) p.toNat n-> ∀r H',zq H H'->H r=none->H' r=some (.tup [.str (SL (wd ws 1)), .int n, .int (ctF ws)])->Q (.ref r) H')/\((∀n,¬xb (wd ws 2) p.toNat n)-> ∀H',zq H H'->E (.ref t.c_Z0h) none H')
theorem sc_0r:FnScope ["places","words","count"] ["places","words"] (zC s_0r):=⟨rfl,rfl,rfl,by decide+kernel,rfl,by decide+kernel,by decide+kernel⟩
theorem ok_0r(T:Txt K mg t):FnOkT P w K mg base (CXE P w) 3 t.a_0r t.d_0r ["places","words"] (zkd K t):=by
 refine T.fn_0r.okXT sc_0r (λvs H Q E h=> ?_) (λcdv A outer s H vs Q E L hr h=> ?_)
 ·refine opq λ_ kq=> ?_;obtain⟨p,l,ws,rfl,hS,ok,p0,p1,q1,q2⟩:=h;apply kq;rfl
 refine opq λ_ kq=> ?_;obtain⟨p,l,ws,rfl,hS,ok,p0,p1,q1,q2⟩:=h;apply kq;have nd:=sc_0r.nd;refine⟨_,(qF (PS.t (zI (i:=2) nd rfl (Or.inl rfl) (zg5 (zz qJ (zM y8 (by rfl) T.no_len yR (ze (pv 1) zg)) zh (zw _)) (qu xD (by rfl) T.no_int q0 (ze (zt zy (pv 1) zh (λ_ _=>rfl)) zg)) zh))) (um (zib (zhl (u9 (PE.t (zt zy (pv 1) zh (λ_ _=>rfl))) (u9 (wN L.toLv (ok_0j T) (hr.mono 'd') (by rfl) T.mg_0j T.fn_0j.kp T.b_0j .nil (PA.t (ze (zt zy (pv 1) zh (λ_ _=>rfl)) (ze (pv 0) zg zk) y9))) (PA.t (ze (pv 2) zg)))))))),?_⟩;open_k0;have rd: ∀(pr:List Nat) (R:VK),pr.length<=100000->wd ws 2=pr->(∀n,xb (wd ws 2) p.toNat n-> ∀H1,zq H H1->R (.int n) H1)->zj6 t [V.str (SL pr),V.int p] H R E:=λpr R hp e k=>by
  subst e;exact⟨_,p,rfl,qM 'o',p0,p1,λn hw H1 s1=>k n hw H1 s1,λno H1 s1=>q2 no H1 s1⟩
 obtain⟨nm,pr,rfl|⟨n,rfl,nk,n0⟩⟩:=ok
 ·refine⟨_, .inl hS.1,?_⟩;rw[Jf (by rw[Ja];simp)];exact ixL hS.1 (yP (j:=1) rfl) (ixL hS.1 (yP (j:=2) rfl) (rd pr _ (hS.2.2 _ (by simp)) rfl λn hw H1 s1 r H2 hr s2 e2=>q1 n hw r H2 (s1.trans s2) (s1.free hr) e2))
 ·refine⟨_, .inl hS.1,?_⟩;rw[Jg (by rw[Ja];simp)];refine ixL hS.1 (yP (j:=4) rfl) ⟨_,rfl,nk.1,nk.2.1,by have:=wo nk;omega,ixL hS.1 (yP (j:=1) rfl) (ixL hS.1 (yP (j:=2) rfl) (rd pr _ (hS.2.2 _ (by simp)) rfl λm hw H1 s1 r H2 hr s2 e2=>q1 m hw r H2 (s1.trans s2) (s1.free hr) ?_))⟩;rw[e2];rfl
theorem ze7{α β:Type}: ∀{us:List α} {P:Nat->α->β->Prop},(∀(i:Nat) v,us[i]? =some v-> ∃n,P i v n)-> ∃ns:List β,ns.length=us.length/\ ∀(i:Nat) v n,us[i]? =some v->ns[i]? =some n->P i v n
 | [],_,_=>⟨[],rfl,λi v n e=>by simp at e⟩
 |u::us,P,h=>by
  obtain⟨n0,h0⟩:=h 0 u rfl;obtain⟨ns,l1,h1⟩:=ze7 (P:=λi v n=>P (i+1) v n) λi v e=>h (i+1) v e;refine⟨n0::ns,congrArg (· +1) l1,λi v n e e'=> ?_⟩;cases i with
  |zero=>cases e;cases e';exact h0
  |succ i=>exact h1 i v n e e'
theorem kN{f:D->V->Prop}: ∀{ds:List D} {xs:List V},ds.length=xs.length->(∀(i:Nat) d x,ds[i]? =some d->xs[i]? =some x->f d x)->qp f ds xs
 | [], [],_,_=>trivial
 |d::ds,x::xs,e,h=>⟨h 0 d x rfl rfl,kN (by simpa using e) λi d x e1 e2=>h (i+1) d x e1 e2⟩
 | [],_::_,e,_=>by cases e
 |_::_, [],e,_=>by cases e
theorem jq{γ:Type}{f:α->β->γ}{as:List α}{bs:List β}{i:Nat}{c:γ}(h:(as.zipWith f bs)[i]? =some c): ∃a b,as[i]? =some a/\bs[i]? =some b/\f a b=c:=by
 rw[List.getElem?_zipWith] at h;cases ha:as[i]? with
 |none=>rw[ha] at h;cases h
 |some a=>
  cases hb:bs[i]? with
  |none=>rw[ha,hb] at h;cases h
  |some b=>rw[ha,hb] at h;exact⟨a,b,rfl,rfl,JQ h⟩
def lnW(cs:List Nat):List (List (List Nat)):=(spl 10 cs).map (spl 32)
def xh(w:List Nat)(f:Int):Prop:= ∃y m d,vn w y m d/\Cal.Valid y m d/\Cal.num y m d=f
theorem xh.one{w:List Nat}{g:Int}(h:xh w f)(h':xh w g):f=g:=by
 obtain⟨y,m,d,t,_,rfl⟩:=h;obtain⟨y',m',d',t',_,rfl⟩:=h';obtain⟨rfl,rfl,rfl⟩:=zgr t t';rfl
noncomputable def opt(p:α->Prop):Option α:=open Classical in if h: ∃x,p x then some (Classical.choose h) else none
theorem kO{p:α->Prop}(u: ∀{a b},p a->p b->a=b){x:α}(h:p x):opt p=some x:=by
 have hx: ∃x,p x:=⟨x,h⟩
 unfold opt;rw[dif_pos hx];exact congrArg some (u (Classical.choose_spec hx) h)
theorem kP{p:α->Prop}(h: ∀x,¬p x):opt p=none:=by
 unfold opt;exact dif_neg λ⟨x,hx⟩=>h x hx
noncomputable def amsO(p:Nat):List (List (List Nat))->Option (List Int)
 | []=>some []
 |ws::r=>match opt (xb (wd ws 2) p) with
  |none=>none
  |some n=>(amsO p r).map (n:: ·)
def qy(ls:List (List (List Nat))):Nat:=PySem.NumText.digitsVal (wd (yY ls 0) 1)
def jr(ws:List (List Nat))(n:Int):List D:= [.str (wd ws 1), .int n, .int (ctF ws)]
def qE(ls:List (List (List Nat)))(ns:List Int):List (List D):=(ls.drop 3).zipWith jr ns
def qG(ls:List (List (List Nat))):List D:= [.str (wd (yY ls 2) 2), .int (PySem.NumText.digitsVal (wd (yY ls 2) 1):Nat)]
noncomputable def resF(ls:List (List (List Nat))):Sum Nat D:=open Classical in
 if xf ls then match opt (xh (wd (yY ls 1) 1)) with
  |none=> .inl 1
  |some f=>match amsO (qy ls) (ls.drop 3) with
   |none=> .inl 2
   |some ns=>if wR (qE ls ns) f (qG ls) then .inr (.tup [.int (qy ls), .tup [.lst ((qE ls ns).map D.tup), .int f, .tup (qG ls)]]) else .inl 3
 else .inl 0
theorem kQ{p:Nat}: ∀{rs:List (List (List Nat))} {i:Nat} {ws:List (List Nat)},rs[i]? =some ws->(∀n,¬xb (wd ws 2) p n)->amsO p rs=none
 |r::rs,0,ws,e,h=>by
  cases e;unfold amsO;rw[kP h]
 |r::rs,i+1,ws,e,h=>by
  unfold amsO;split
  ·rfl
  ·rw[kQ (show rs[i]? =some ws from e) h];rfl
theorem kR{p:Nat}: ∀{rs:List (List (List Nat))} {ns:List Int},ns.length=rs.length->(∀(i:Nat) ws n,rs[i]? =some ws->ns[i]? =some n->xb (wd ws 2) p n)->amsO p rs=some ns
 | [], [],_,_=>rfl
 |r::rs,n::ns,e,h=>by
  unfold amsO;rw[kO (λa b=>xb.one a b) (h 0 r n rfl rfl)];dsimp only;rw[kR (Nat.succ.inj e) λi ws m e1 e2=>h (i+1) ws m e1 e2];rfl
def qO(t:Adr):Nat->Addr
 |0=>t.c_Z0n
 |1=>t.c_Z0i
 |2=>t.c_Z0h
 |_=>t.c_Z0g
def zjb(K:Fg)(t:Adr):Sp:=λvs H Q E=> ∃cs:List Nat,vs= [.str (SL cs)]/\cs.length<=90000/\(∀k,resF (lnW cs)= .inl k-> ∀H',zq H H'->E (.ref (qO t k)) none H')/\ ∀d,resF (lnW cs)= .inr d-> ∀r H',zq H H'->Dp K H' 4 d (.ref r)->Q (.ref r) H'
theorem sc_0s:FnScope ["text","lines","places","first","cycle","account"] ["text"] (zC s_0s):=⟨rfl,rfl,rfl,by decide+kernel,rfl,by decide+kernel,by decide+kernel⟩
theorem ok_0s(T:Txt K mg t):FnOkT P w K mg base (CXE P w) 7 t.a_0s t.d_0s ["text"] (zjb K t):=by
 refine T.fn_0s.okXT sc_0s (λvs H Q E h=> ?_) (λcdv A outer s H vs Q E L hr h=> ?_)
 ·refine opq λ_ kq=> ?_;obtain⟨cs,rfl,hl,qe,qd⟩:=h;apply kq;rfl
 refine opq λ_ kq=> ?_;obtain⟨cs,rfl,hl,qe,qd⟩:=h;apply kq;have nd:=sc_0s.nd;refine⟨_,(qF (PS.t (jW (i:=1) nd rfl rfl (n:=1) (N:= ["line"]) (js:= []) (by rfl) rfl rfl (qX (yU PySem.F.plainAttrs_str PySem.F.slot_str_split PySem.F.type_str_split wT (pv 0) (ze (zj st_29) zg))) (λa=>(yO (i:=0) (show List.Nodup (["line"]:List Str) from by decide+kernel) rfl (Or.inl rfl))) (λa=>wa) (λa=>(yU PySem.F.plainAttrs_str PySem.F.slot_str_split PySem.F.type_str_split wT (pv 0) (ze (zj st_21) zg))))) (qF (PS.t (zG (qI (qB (zu L.toLv (ok_0q T) (hr.mono 'd') (by rfl) T.mg_0q T.fn_0q.kp T.b_0q .nil (ze (pv 1) zg)))) (zo (qZ L T.ex_Z0n (by rfl) (by rfl) T.mg_Z0n (ze qR zg))) zF)) (qF (PS.t (zI (i:=2) nd rfl (Or.inr rfl) (qu xD (by rfl) T.no_int q0 (ze (zt zy (zt zy (pv 1) zh (λ_ _=>rfl)) zh (λ_ _=>rfl)) zg)))) (qF (PS.t (zI (i:=3) nd rfl (Or.inl rfl) (zu L.toLv (ok_0g T) (hr.mono 'd') (by rfl) T.mg_0g T.fn_0g.kp T.b_0g .nil (ze (zt zy (zt zy (pv 1) zh (λ_ _=>rfl)) zh (λ_ _=>rfl)) zg)))) (qF (PS.t (zI (i:=4) nd rfl (Or.inl rfl) (qx (ze (zt zy (zt zy (pv 1) zh (λ_ _=>rfl)) zh (λ_ _=>rfl)) (ze (qu xD (by rfl) T.no_int q0 (ze (zt zy (zt zy (pv 1) zh (λ_ _=>rfl)) zh (λ_ _=>rfl)) zg)) zg qh) y9)))) (qF (uo (i:=5) nd rfl (Or.inl rfl) (zhl (u9 (zi3 ⟨rfl,rfl,rfl⟩ zk6 (n:=1) (N:= ["words","places"]) (js:= [2]) (by rfl) rfl rfl (qX (qT wb (pv 1) (qL zh) qY)) (λa=>(yO (i:=0) (show List.Nodup (["words","places"]:List Str) from by decide+kernel) rfl (Or.inl rfl))) (λa=>wa) (λEk a pn xe L=>(wN L (ok_0r T) (hr.mono 'd') (by rfl) T.mg_0r T.fn_0r.kp T.b_0r .nil (PA.t (ze (pv 1) (ze (pv 0) zg zk) zk))))) (PA.t (ze (pv 3) (ze (pv 4) zg zk) zk))))) (PSs.t (zn (qc (zu L.toLv (ok_07 T) (hr.mono 'd') (by rfl) T.mg_07 T.fn_07.kp T.b_07 .nil (ze (pv 5) zg))) (zo (zD (qx (ze (pv 2) (ze (pv 5) zg zk) zk)))))))))))),?_⟩;simp only[yw,yu,yL,yv,yN,yM,yK,yt,yI,yJ,yH,ya,yr,yG,zH,zJ,zK,z9,zQ,List.replicate,Option.join_some,Option.join_none,zO,yq,yo,ym,tSl,yk,yj,yy,slT,z4,Int.reduceLT,Int.reduceLE,Int.reduceToNat,Int.reduceNeg,Int.reduceAdd,Int.reduceSub,Int.reduceMul,forall_const,zU,yf,yg,zZ,yx,zY,zS,zL,zR,zV,zW,tC,tOp,rI,rI0,tUn,rU,z5,tB,yb,tOr,yc,zX,yd,ye,tIf,z7,yi,z8,yF,tCB,yp,rEq,rNe,yA,yB,yC,yD,yE,z6,yh,ipI,L2.start,Jz,JN,Jp,List.length_nil,List.cons_append,List.nil_append,Jt,List.replicate_succ,List.replicate_zero,Nat.reduceAdd,Nat.reduceSub,List.getElem?_cons_zero,List.getElem?_cons_succ,List.set_cons_zero,List.set_cons_succ,Option.some.injEq,V.int.injEq,V.bl.injEq,V.ref.injEq,V.str.injEq,exists_eq_left',exists_eq_left,exists_eq',exists_and_left,List.cons.injEq,and_true,true_and,and_self,and_assoc,decide_eq_true_eq,if_true,if_false,Bool.true_eq_false,Js,Bool.not_eq_true',Bool.not_true,Bool.not_false,decide_eq_false_iff_not,ite_true,ite_false,reduceCtorEq,false_and,exists_false,false_or,or_false,and_false,Nat.reduceLeDiff,tBM,xE,zj1,qW];have rl:=wS 10 cs;refine⟨rfl,'o',λpl H1 _ s1 e1=>⟨pl,rfl,⟨_,SqL.of e1⟩,λl hl' _=> ?_⟩⟩;refine kz (λi v H'=> ∃a r,v= .ref a/\a≠l/\(spl 10 cs)[i]? =some r/\H' a=some (.lst ((spl 32 r).map λw=>V.str (SL w)))) (xL (SqL.of e1)) hl' (by rw[Ja];exact xg 'o') (λi x H2 K1 hx s2 k1 nl=> ?_) (λi v H2 H5 h h5=> ?_) (λvs H2 s2 vl hv e2=> ?_)
 ·obtain⟨r,hr,rfl⟩:=xA hx
  have:=wk (Ji hr);simp only[yw,yu,yL,yv,yN,yM,yK,yt,yI,yJ,yH,ya,yr,yG,zH,zJ,zK,z9,zQ,List.replicate,Option.join_some,Option.join_none,zO,yq,yo,ym,tSl,yk,yj,yy,slT,z4,Int.reduceLT,Int.reduceLE,Int.reduceToNat,Int.reduceNeg,Int.reduceAdd,Int.reduceSub,Int.reduceMul,forall_const,zU,yf,yg,zZ,yx,zY,zS,zL,zR,zV,zW,tC,tOp,rI,rI0,tUn,rU,z5,tB,yb,tOr,yc,zX,yd,ye,tIf,z7,yi,z8,yF,tCB,yp,rEq,rNe,yA,yB,yC,yD,yE,z6,yh,ipI,L2.start,Jz,JN,Jp,List.length_nil,List.cons_append,List.nil_append,Jt,List.replicate_succ,List.replicate_zero,Nat.reduceAdd,Nat.reduceSub,List.getElem?_cons_zero,List.getElem?_cons_succ,List.set_cons_zero,List.set_cons_succ,Option.some.injEq,V.int.injEq,V.bl.injEq,V.ref.injEq,V.str.injEq,exists_eq_left',exists_eq_left,exists_eq',exists_and_left,List.cons.injEq,and_true,true_and,and_self,and_assoc,decide_eq_true_eq,if_true,if_false,Bool.true_eq_false,Js,Bool.not_eq_true',Bool.not_true,Bool.not_false,decide_eq_false_iff_not,ite_true,ite_false,reduceCtorEq,false_and,exists_false,false_or,or_false,and_false,Nat.reduceLeDiff,zK,zJ,tBM];refine⟨rfl,'o',λa H3 ha s3 e3=>k1 (.ref a) H3 s3 λH5 h5=> ?_⟩;have al:a≠l:=λz=>nl (z ▸ ha);exact⟨a,r,rfl,al,hr,h5 a _ al e3⟩
 ·refine opq λ_ kq=> ?_;obtain⟨a,r,rfl,al,hr,e⟩:=h;apply kq;exact⟨a,r,rfl,al,hr,h5 a _ al e⟩
 rw[Ja] at vl;have LA:xQ K H2 vs (lnW cs):=⟨by unfold lnW;rw[Ja];exact vl,λi v ws ev ew=>by
  refine opq λ_ kq=> ?_;obtain⟨a,r,rfl,_,hr,e⟩:=hv i v ev;apply kq;unfold lnW at ew;rw[Jh,hr] at ew;cases ew;have h1:=wk (Ji hr);have h2:=wS 32 r;exact⟨a,rfl,SqL.of e,'o',λw hw=>by have:=wk hw;omega⟩⟩
 have ll:(lnW cs).length<=90001:=by unfold lnW;rw[Ja];omega
 generalize lnW cs=ls at*;have hS:SqL K H2 l vs:=SqL.of e2;have s02:=s1.trans s2;refine⟨l,vs,ls,rfl,hS,LA,'o',λb H3 s3 hb=>⟨b,rfl,zA (λh=>qe 0 ?_ _ (s02.trans s3)) (λh=> ?_)⟩⟩
 ·unfold resF;exact Jf λz=>by rw[hb.mpr z] at h;cases h
 have tx:xf ls:=hb.mp (by cases b with|true=>rfl|false=>exact absurd rfl h);refine opq λ_ kq=> ?_;obtain⟨l4,no,⟨n0,w0,k0,v0⟩,⟨d1,w1⟩,⟨n2,dy,w2,k2⟩,pls⟩:=id tx;obtain⟨a0,u0,A0⟩:=LA.get (i:=0) 'o';obtain⟨a1,u1,A1⟩:=LA.get (i:=1) 'o';obtain⟨a2,u2,A2⟩:=LA.get (i:=2) 'o';apply kq;have pe:qy ls=PySem.NumText.digitsVal n0:=by unfold qy;rw[w0];rfl
 have de:wd (yY ls 1) 1=d1:=by rw[w1];rfl
 have ce:qG ls= [.str (qm dy), .int (PySem.NumText.digitsVal n2:Nat)]:=by unfold qG;rw[w2];rfl
 rw[w0] at A0;rw[w1] at A1;rw[w2] at A2;have s03:=s02.trans s3;refine ixL (s3.seq hS) (yP (j:=0) u0) (ixL (A0.same s3).1 (yP (j:=1) rfl) ⟨_,rfl,k0.1,k0.2.1,by have:=wo k0;omega,?_⟩);refine ixL (s3.seq hS) (yP (j:=1) u1) (ixL (A1.same s3).1 (yP (j:=1) rfl) ⟨_,rfl,qM (by have:=A1.2.2 d1 (by simp);omega),λy m d dt va=> ?_,λnd=>qe 1 ?_ _ s03⟩);rotate_left
 ·unfold resF;rw[Jg tx,de,kP λf ⟨y,m,d,dt,va,_⟩=>nd y m d dt va]
 have hD:opt (xh (wd (yY ls 1) 1))=some (Cal.num y m d):=by rw[de];exact kO (λa b=>xh.one a b) ⟨y,m,d,dt,va,rfl⟩
 generalize Cal.num y m d=f at*;refine ixL (s3.seq hS) (yP (j:=2) u2) (ixL (A2.same s3).1 (yP (j:=2) rfl) ?_);refine ixL (s3.seq hS) (yP (j:=2) u2) (ixL (A2.same s3).1 (yP (j:=1) rfl) ⟨_,rfl,k2.1,k2.2.1,by have:=wo k2;omega,λpc H4 _ s4 e4=> ?_⟩);have s34:=s3.trans s4;have s04:=s03.trans s4;refine⟨l,vs,rfl,s34.seq hS,λpa H5 _ s5 e5=>⟨pa,rfl,⟨_,SqL.of e5⟩,λlp hlp _=> ?_⟩⟩;rw[wc vs 'd' (by rw[LA.1];omega)] at e5;have s35:=s34.trans s5;have s05:=s04.trans s5;have pb:(PySem.NumText.digitsVal n0:Int).toNat=qy ls:=by rw[pe];exact JE _
 refine kz (λi v H'=> ∃a ws n,v= .ref a/\a≠lp/\(ls.drop 3)[i]? =some ws/\xb (wd ws 2) (qy ls) n/\H' a=some (.tup [.str (SL (wd ws 1)), .int n, .int (ctF ws)])) (xL (SqL.of e5)) hlp (xg (by rw[List.length_drop,LA.1];omega)) (λi x H6 K1 hx s6 k1 nl=> ?_) (λi v H6 H8 h h8=> ?_) (λus H6 s6 ul hu e6=> ?_)
 ·have hi:=(Jc.mp hx).1;rw[List.length_drop,LA.1] at hi;have hr:=Jb (l:=ls.drop 3) (by rw[List.length_drop];exact hi);generalize (ls.drop 3)[i]'_=ws at hr;rw[List.getElem?_drop] at hx;obtain⟨a,rfl,hA⟩:=LA.2 (3+i) x ws hx (by rw[List.getElem?_drop] at hr;exact hr);simp only[yw,yu,yL,yv,yN,yM,yK,yt,yI,yJ,yH,ya,yr,yG,zH,zJ,zK,z9,zQ,List.replicate,Option.join_some,Option.join_none,zO,yq,yo,ym,tSl,yk,yj,yy,slT,z4,Int.reduceLT,Int.reduceLE,Int.reduceToNat,Int.reduceNeg,Int.reduceAdd,Int.reduceSub,Int.reduceMul,forall_const,zU,yf,yg,zZ,yx,zY,zS,zL,zR,zV,zW,tC,tOp,rI,rI0,tUn,rU,z5,tB,yb,tOr,yc,zX,yd,ye,tIf,z7,yi,z8,yF,tCB,yp,rEq,rNe,yA,yB,yC,yD,yE,z6,yh,ipI,L2.start,Jz,JN,Jp,List.length_nil,List.cons_append,List.nil_append,Jt,List.replicate_succ,List.replicate_zero,Nat.reduceAdd,Nat.reduceSub,List.getElem?_cons_zero,List.getElem?_cons_succ,List.set_cons_zero,List.set_cons_succ,Option.some.injEq,V.int.injEq,V.bl.injEq,V.ref.injEq,V.str.injEq,exists_eq_left',exists_eq_left,exists_eq',exists_and_left,List.cons.injEq,and_true,true_and,and_self,and_assoc,decide_eq_true_eq,if_true,if_false,Bool.true_eq_false,Js,Bool.not_eq_true',Bool.not_true,Bool.not_false,decide_eq_false_iff_not,ite_true,ite_false,reduceCtorEq,false_and,exists_false,false_or,or_false,and_false,Nat.reduceLeDiff,zK,z9,zJ];refine⟨_,a,ws,rfl,hA.same (s35.trans s6),pls ws (Ji hr),'o','o',λn hw r H7 s7 hr7 e7=>k1 (.ref r) H7 s7 λH8 h8=> ?_,λnw H7 s7=>qe 2 ?_ _ ((s05.trans s6).trans s7)⟩
  ·have al:r≠lp:=λz=>nl (z ▸ hr7);exact⟨r,ws,n,rfl,al,hr,by rw[<-pb];exact hw,h8 r _ al e7⟩
  ·unfold resF;rw[Jg tx,hD];dsimp only;rw[kQ hr (by rw[<-pb];exact nw)]
 ·refine opq λ_ kq=> ?_;obtain⟨a,ws,n,rfl,al,hw,hn,e⟩:=h;apply kq;exact⟨a,ws,n,rfl,al,hw,hn,h8 a _ al e⟩
 rw[List.length_drop,LA.1] at ul;have ul':us.length=(ls.drop 3).length:=by rw[ul,List.length_drop];rfl
 obtain⟨ns,nl,hn⟩:=ze7 (P:=λi v n=> ∃a ws,v=V.ref a/\(ls.drop 3)[i]? =some ws/\xb (wd ws 2) (qy ls) n/\H6 a=some (.tup [.str (SL (wd ws 1)), .int n, .int (ctF ws)])) λi v e=>by
  refine opq λ_ kq=> ?_;obtain⟨a,ws,n,h1,_,h3,h4,h5⟩:=hu i v e;apply kq;exact⟨n,a,ws,h1,h3,h4,h5⟩
 have nl':ns.length=(ls.drop 3).length:=nl.trans ul';have hA:amsO (qy ls) (ls.drop 3)=some ns:=kR nl' λi ws n e1 e2=>by
  have hi:i<us.length:=by rw[<-nl];exact(Jc.mp e2).1
  refine opq λ_ kq=> ?_;obtain⟨a,ws',_,h3,h4,_⟩:=hn i _ n (Jb hi) e2;apply kq;rw[e1] at h3;cases h3;exact h4
 have dl:(qE ls ns).length=us.length:=by unfold qE;rw[List.length_zipWith,nl',Nat.min_self,ul']
 intro pacc H7 _ s7 e7;have eP:=s7 _ _ (s6 _ _ (s5 _ _ e4));have T3:Dp K H7 3 (.tup [.lst ((qE ls ns).map D.tup), .int f, .tup (qG ls)]) (.ref pacc):=by
  refine xN (SqT.of e7) ⟨uk (SqL.of (s7 _ _ e6)) (kN (by rw[Ja];exact dl) λi d v ed ev=> ?_),xO,?_,trivial⟩
  ·refine opq λ_ kq=> ?_;obtain⟨ds,hds,rfl⟩:=xA ed;obtain⟨ws,n,hw,hnn,rfl⟩:=jq hds;obtain⟨a,ws',rfl,h3,_,h5⟩:=hn i v n ev hnn;apply kq;rw[hw] at h3;cases h3;exact xN (SqT.of (s7 _ _ h5)) ⟨wE,xO,xO,trivial⟩
  ·rw[ce];exact xN (SqT.of eP) ⟨wE,xO,trivial⟩
 have sc: ∀ds∈qE ls ns,∀d∈ds,xF d:=λds hds d hd=>by
  refine opq λ_ kq=> ?_;obtain⟨i,hi⟩:=List.mem_iff_getElem?.mp hds;obtain⟨ws,n,hw,_,rfl⟩:=jq hi;apply kq;have hm:=Ji hw;have w1l:(wd ws 1).length<=100000:=by
   rw[List.getElem?_drop] at hw;have hv:3+i<vs.length:=by rw[LA.1];exact(Jc.mp hw).1
   obtain⟨a,_,hWs⟩:=LA.2 (3+i) _ ws (Jb hv) hw;obtain⟨nm,pr,rfl|⟨n',rfl,_⟩⟩:=pls ws hm
   ·exact hWs.2.2 nm (by simp)
   ·exact hWs.2.2 nm (by simp)
  unfold jr at hd;simp only[JC,List.not_mem_nil,or_false] at hd;rcases hd with rfl|rfl|rfl
  ·exact .inr ⟨_,rfl,qM 'o'⟩
  ·exact .inl ⟨_,rfl⟩
  ·exact .inl ⟨_,rfl⟩
 have sc2: ∀d∈qG ls,xF d:=λd hd=>by
  rw[ce] at hd;simp only[JC,List.not_mem_nil,or_false] at hd;rcases hd with rfl|rfl
  ·exact .inr ⟨_,rfl,qj (by unfold qm;split<;>decide)⟩
  ·exact .inl ⟨_,rfl⟩
 have s07:=(s05.trans s6).trans s7;refine⟨pacc,qE ls ns,f,qG ls,rfl,T3,sc,sc2,by rw[dl,ul'];rw[List.length_drop];omega,λok H8 s8 r H9 _ s9 e9=> ?_,λnk H8 s8=>qe 3 ?_ _ (s07.trans s8)⟩
 ·refine qd (.tup [.int (qy ls), .tup [.lst ((qE ls ns).map D.tup), .int f, .tup (qG ls)]]) ?_ r H9 ((s07.trans s8).trans s9) (xN (SqT.of e9) ⟨?_,T3.same (s8.trans s9),trivial⟩)
  ·unfold resF;rw[Jg tx,hD];dsimp only;rw[hA];dsimp only;rw[Jg ok]
  ·rw[pe];exact xO
 ·unfold resF;rw[Jg tx,hD];dsimp only;rw[hA];dsimp only;rw[Jf nk]
def vw(cs:List Int)(k:Nat):Int:=cs.getD k 0
def kS(c k:Int):Int:=
 let a:=(c % 2147483629*48271+69621*k+11) % 2147483587
 let b:=a*(a / 7+39373) % 2147483563
 let d:=b*(b / 5+16807+k) % 2147483399
 (a*2147483563+b)*2147483399+d
def yV(cs:List Int)(s k:Nat):Int:=
 if vw cs s % 2=1 then kS (vw cs (s+k)) k else vw cs (s+k) / (if k=0 then 2 else 1)
def zms(K:Fg):Sp:=λvs H Q _=> ∃(a:Addr) (cs:List Int) (k:Nat),vs= [.ref a, .int k]/\SqL K H a (cs.map V.int)/\Q (.int (vw cs k)) H
theorem sc_0t:FnScope ["_law_script","_law_k"] ["_law_script","_law_k"] (zC s_0t):=⟨rfl,rfl,rfl,by decide+kernel,rfl,by decide+kernel,by decide+kernel⟩
theorem ok_0t(T:Txt K mg t):FnOk P w K mg base (CXE P w) 1 t.a_0t t.d_0t ["_law_script","_law_k"] (zms K):=by
 refine T.fn_0t.okX sc_0t (λvs H Q E h=> ?_) (λcdv A outer s H vs Q E L hr h=> ?_)
 ·refine opq λ_ kq=> ?_;obtain⟨a,cs,k,rfl,hS,q⟩:=h;apply kq;rfl
 refine opq λ_ kq=> ?_;obtain⟨a,cs,k,rfl,hS,q⟩:=h;apply kq;have nd:=sc_0t.nd;refine⟨_,(zn (zG (zz xj (pv 1) (zM y8 (by rfl) T.no_len yR (ze (pv 0) zg)) (zw _)) (zo (zD (zt zy (pv 0) (pv 1) (λ_ _=>rfl)))) zF) (zo (zD zh))),?_⟩;open_k0;unfold vw at q;refine⟨_, .inl hS,?_⟩;rw[Ja];refine zA (λh=>ixL hS (wA (Int.natCast_nonneg _) h) ?_) (λh=> ?_)
 ·rw[JE];exact q
 ·rw[Jo,List.getElem?_eq_none 'o'] at q;exact q
def zmt:Sp:=λvs H Q _=> ∃c k:Int,vs= [.int c, .int k]/\0<=k/\k<=1000/\Q (.int (kS c k)) H
theorem sc_0u:FnScope ["_law_cell","_law_k","_law_one","_law_two","_law_three"] ["_law_cell","_law_k"] (zC s_0u):=⟨rfl,rfl,rfl,by decide+kernel,rfl,by decide+kernel,by decide+kernel⟩
theorem ok_0u(T:Txt K mg t):FnOk P w K mg base (CXE P w) 1 t.a_0u t.d_0u ["_law_cell","_law_k"] (zmt):=by
 refine T.fn_0u.okX sc_0u (λvs H Q E h=> ?_) (λcdv A outer s H vs Q E L hr h=> ?_)
 ·refine opq λ_ kq=> ?_;obtain⟨c,k,rfl,k0,k1,q⟩:=h;apply kq;rfl
 refine opq λ_ kq=> ?_;obtain⟨c,k,rfl,k0,k1,q⟩:=h;apply kq;have nd:=sc_0u.nd;refine⟨_,(zn (zI (i:=2) nd rfl (Or.inl rfl) (zr y6 (zr y0 (zr y0 (zr vM (zr y6 (pv 0) zh) zh) (zr vM zh (pv 1))) zh) zh)) (zn (zI (i:=3) nd rfl (Or.inl rfl) (zr y6 (zr vM (pv 2) (zr y0 (zr jX (pv 2) zh) zh)) zh)) (zn (zI (i:=4) nd rfl (Or.inl rfl) (zr y6 (zr vM (pv 3) (zr y0 (zr y0 (zr jX (pv 3) zh) zh) (pv 1))) zh)) (zo (zD (zr y0 (zr vM (zr y0 (zr vM (pv 2) zh) (pv 3)) zh) (pv 4))))))),?_⟩;open_k0;unfold kS at q;dsimp only at q;have sm: ∀{i:Int}, -1000000000000000000<=i->i<=1000000000000000000->Sm i:=λa b=>Sm.small a b;generalize h1:(c % 2147483629*48271+69621*k+11) % 2147483587=a at q ⊢;have b1:0<=a/\a<2147483587:=by rw[<-h1];exact⟨JK _ 'd',JI _ 'd'⟩
 generalize h2:a*(a / 7+39373) % 2147483563=b at q ⊢;have b2:0<=b/\b<2147483563:=by rw[<-h2];exact⟨JK _ 'd',JI _ 'd'⟩
 refine⟨.inr ⟨sm 'o' 'o',sm 'd' 'd'⟩, .inr ⟨sm 'd' 'd',sm 'o' 'o'⟩,sm 'd' 'd', .inr ⟨sm 'o' 'o',sm 'o' 'o'⟩,sm 'd' 'd', .inr ⟨sm 'o' 'o',sm 'o' 'o'⟩, .inr ⟨sm 'o' 'o',sm 'd' 'd'⟩, .inr ⟨Sm.pow10 (k:=30) 'd' 'o',sm 'd' 'd'⟩,q⟩
def zmu(K:Fg):Sp:=λvs H Q _=> ∃(a:Addr) (cs:List Int) (s k:Nat),vs= [.ref a, .int s, .int k]/\SqL K H a (cs.map V.int)/\k<=1000/\New H (.lst [.int (yV cs s k)]) Q
theorem sc_0v:FnScope ["_law_script","_law_start","_law_k","_law_cell"] ["_law_script","_law_start","_law_k"] (zC s_0v):=⟨rfl,rfl,rfl,by decide+kernel,rfl,by decide+kernel,by decide+kernel⟩
theorem ok_0v(T:Txt K mg t):FnOk P w K mg base (CXE P w) 2 t.a_0v t.d_0v ["_law_script","_law_start","_law_k"] (zmu K):=by
 refine T.fn_0v.okX sc_0v (λvs H Q E h=> ?_) (λcdv A outer s H vs Q E L hr h=> ?_)
 ·refine opq λ_ kq=> ?_;obtain⟨a,cs,s,k,rfl,hS,k1,q⟩:=h;apply kq;rfl
 refine opq λ_ kq=> ?_;obtain⟨a,cs,s,k,rfl,hS,k1,q⟩:=h;apply kq;have nd:=sc_0v.nd;refine⟨_,(zn (zI (i:=3) nd rfl (Or.inl rfl) (zu L.toLv (ok_0t T) (hr.mono 'd') (by rfl) T.mg_0t T.fn_0t.kp T.b_0t .nil (ze (pv 0) (ze (zr y0 (pv 1) (pv 2)) zg qD) zk))) (zn (zG (zz yQ (zr y6 (zu L.toLv (ok_0t T) (hr.mono 'd') (by rfl) T.mg_0t T.fn_0t.kp T.b_0t .nil (ze (pv 0) (ze (pv 1) zg zk) zk)) zh) zh (zw _)) (zo (zD (yS (ze (zu L.toLv (ok_0u T) (hr.mono 'd') (by rfl) T.mg_0u T.fn_0u.kp T.b_0u .nil (ze (pv 3) (ze (pv 2) zg zk) zk)) zg)))) zF) (zo (zD (yS (ze (zr vc (pv 3) (zt zy (yS (ze zh (ze zh zg zi) zi)) (qu zf6 (by rfl) T.no_int q0 (ze (qz yQ (pv 2) zh (zw _)) zg)) (λ_ _=>rfl))) zg)))))),?_⟩;open_k0;unfold yV at q;rw[show (s:Int)+k=((s+k:Nat):Int) by omega];refine⟨a,cs,s+k,rfl,hS,a,cs,s,rfl,hS,_,rfl,zA (λh=> ?_) (λh=> ?_)⟩
 ·rw[Jg h] at q;exact⟨_,_,rfl,'o','o',q⟩
 ·rw[Jf h] at q;intro p1 H1 _ s1 e1;by_cases z:k=0
  ·rw[Jg z] at q;refine ixL (SqL.of e1) (v:= .int 2) (by rw[Jg 'o'];rfl) ⟨_,rfl,_,rfl,'d','d',λp2 H2 f2 s2 e2=>q p2 H2 (s1.free f2) (s1.trans s2) e2⟩
  ·rw[Jf z] at q;refine ixL (SqL.of e1) (v:= .int 1) (by rw[Jf 'o'];rfl) ⟨_,rfl,_,rfl,'d','d',λp2 H2 f2 s2 e2=>q p2 H2 (s1.free f2) (s1.trans s2) e2⟩
def zlg:Sp:=λvs H Q _=> ∃(d:Addr) (n m:Int),vs= [.ref d, .int m]/\H d=some (.lst [.int n])/\0<m/\m<=10 ^ 30/\Q (.int (n % m)) (upd H d (.lst [.int (n / m)]))
theorem sc_0w:FnScope ["_law_digits_here","_law_many","_law_found"] ["_law_digits_here","_law_many"] (zC s_0w):=⟨rfl,rfl,rfl,by decide+kernel,rfl,by decide+kernel,by decide+kernel⟩
theorem ok_0w(T:Txt K mg t):FnOk P w K mg base (CXE P w) 1 t.a_0w t.d_0w ["_law_digits_here","_law_many"] (zlg):=by
 refine T.fn_0w.okX sc_0w (λvs H Q E h=> ?_) (λcdv A outer s H vs Q E L hr h=> ?_)
 ·refine opq λ_ kq=> ?_;obtain⟨d,n,m,rfl,hd,m0,m1,q⟩:=h;apply kq;rfl
 refine opq λ_ kq=> ?_;obtain⟨d,n,m,rfl,hd,m0,m1,q⟩:=h;apply kq;have nd:=sc_0w.nd;refine⟨_,(zn (zI (i:=2) nd rfl (Or.inl rfl) (zr y6 (zt zy (pv 0) zh (λ_ _=>rfl)) (pv 1))) (zn (qV (zr jX (zt zy (pv 0) zh (λ_ _=>rfl)) (pv 1)) (w8 (pv 0) zh set_list)) (zo (zD (pv 2))))),?_⟩;simp only[yw,yu,yL,yv,yN,yM,yK,yt,yI,yJ,yH,ya,yr,yG,zH,zJ,zK,z9,zQ,List.replicate,Option.join_some,Option.join_none,zO,yq,yo,ym,tSl,yk,yj,yy,slT,z4,Int.reduceLT,Int.reduceLE,Int.reduceToNat,Int.reduceNeg,Int.reduceAdd,Int.reduceSub,Int.reduceMul,forall_const,zU,yf,yg,zZ,yx,zY,zS,zL,zR,zV,zW,tC,tOp,rI,rI0,tUn,rU,z5,tB,yb,tOr,yc,zX,yd,ye,tIf,z7,yi,z8,yF,tCB,yp,rEq,rNe,yA,yB,yC,yD,yE,z6,yh,ipI,L2.start,Jz,JN,Jp,List.length_nil,List.cons_append,List.nil_append,Jt,List.replicate_succ,List.replicate_zero,Nat.reduceAdd,Nat.reduceSub,List.getElem?_cons_zero,List.getElem?_cons_succ,List.set_cons_zero,List.set_cons_succ,Option.some.injEq,V.int.injEq,V.bl.injEq,V.ref.injEq,V.str.injEq,exists_eq_left',exists_eq_left,exists_eq',exists_and_left,List.cons.injEq,and_true,true_and,and_self,and_assoc,decide_eq_true_eq,if_true,if_false,Bool.true_eq_false,Js,Bool.not_eq_true',Bool.not_true,Bool.not_false,decide_eq_false_iff_not,ite_true,ite_false,reduceCtorEq,false_and,exists_false,false_or,or_false,and_false,Nat.reduceLeDiff,xU,xX];refine ixL (SqL.of hd) (v:= .int n) rfl ⟨_,rfl,m0,ixL (SqL.of hd) (v:= .int n) rfl ⟨_,rfl,m0,Sm.pow10 (k:=30) 'd' 'o',?_⟩⟩;exact⟨_,hd,0,rfl,q⟩
def But(d:Addr)(H H':Hp):Prop:= ∀b o,b≠d->H b=some o->H' b=some o
theorem But.of(s:zq H H'):But d H H':=λb o _ e=>s b o e
theorem But.trans{H2:Hp}(a:But d H H1)(b:But d H1 H2):But d H H2:=λx o n e=>b x o n (a x o n e)
theorem But.upd{d:Addr}{H:Hp}{o:HO}:But d H (upd H d o):=λb u n e=>by rw[zT n];exact e
def wsL:List (List Nat):= [[102,114,111,109], [112,101,114], [112,108,97,110], [115,101,97,116,115], [104,111,108,100], [103,111], [115,116,111,112], [108,97,115,116], [117,110,100,111], [103,114,97,110,116], [98,97,99,107], [110,111,110,101], [115,116,97,116,101], [115,112,97,110], [108,105,110,101,115], [115,117,109,115], [109,111,118,101,100], [102,105,114,115,116], [101,118,101,114,121], [112,108,97,99,101,115], [101,110,116,114,121]]
def xR:Nat->Int->List Nat×Int
 |0,n=>([],n)
 |k+1,n=>((xR k n).1++ [97+((xR k n).2 % 26).toNat],(xR k n).2 / 26)
def qP(ns:List (List Nat))(w:List Nat):Nat->List Nat
 |0=>w
 |i+1=>if qP ns w i∈ns then (qP ns w i).take 7++ [97+i] else qP ns w i
def xi(n:Int):List Nat×Int:=
 if n / 21 % 8=3 then (wsL.getD (n % 21).toNat [],n / 21 / 8) else xR (1+(n / 21 / 8 % 8).toNat) (n / 21 / 8 / 8)
def vx(n:Int)(ns:List (List Nat)):List Nat×Int:=(qP ns (xi n).1 26,(xi n).2)
theorem at_strs(h0:0<=i)(h1:i<ws.length):atI (ws.map λw=>V.str (SL w)) i=some (.str (SL (ws.getD i.toNat []))):=by
 obtain⟨k,rfl⟩:=Int.eq_ofNat_of_zero_le h0;refine yP ?_;rw[Jh,Jb 'o',JE,Jo,Jb 'o'];rfl
abbrev azN:List Nat:= [97,98,99,100,101,102,103,104,105,106,107,108,109,110,111,112,113,114,115,116,117,118,119,120,121,122]
theorem zm4: ∀(i:Nat) c,azN[i]? =some c->c=97+i:=by
 have: ∀i<26,azN[i]? =some (97+i):=by decide
 intro i c e;have hi:i<26:=(Jc.mp e).1;rw[this i hi] at e;exact(JQ e).symm
theorem kT: ∀(k:Nat) (n:Int),(xR k n).1.length=k
 |0,_=>rfl
 |k+1,n=>by rw[xR,Jj,kT k n];rfl
theorem at_az(h0:0<=i)(h1:i<26):atI [97,98,99,100,101,102,103,104,105,106,107,108,109,110,111,112,113,114,115,116,117,118,119,120,121,122] i=some (97+i.toNat):=by
 obtain⟨k,rfl⟩:=Int.eq_ofNat_of_zero_le h0
 have: ∀k<26,([97,98,99,100,101,102,103,104,105,106,107,108,109,110,111,112,113,114,115,116,117,118,119,120,121,122]:List Nat)[k]? =some (97+k):=by decide
 rw[JE];exact yP (this k 'o')
theorem zhr(ns:List (List Nat)){w:List Nat}(h:w.length<=8): ∀i,(qP ns w i).length<=8
 |0=>h
 |i+1=>by
  rw[qP];split
  ·rw[Jj,JA];simp only[Jp,List.length_nil];omega
  ·exact zhr ns h i
theorem kU(n:Int):1<=(xi n).1.length/\(xi n).1.length<=8:=by
 unfold xi;split
 ·have: ∀k<21,1<=(wsL.getD k []).length/\(wsL.getD k []).length<=8:=by decide
  exact this _ 'o'
 ·rw[kT];omega
theorem zmv(cs:List Nat):xa cs none (some 7)=cs.take 7:=by
 by_cases h:(7:Int)<=cs.length
 ·exact zgn cs 'd' h
 ·have e:xa cs none (some 7)=cs:=by
   unfold xa;rw[HT.sIx_none,show (7:Int)=((7:Nat):Int) from rfl,HT.sIx_nat,List.drop_zero,Nat.sub_zero,Nat.min_eq_right 'o',JB]
  rw[e,List.take_of_length_le 'o']
def zmw:Sp:=λvs H Q _=> ∃(d l:Addr) (n:Int) (ns:List (List Nat)),vs= [.ref d, .ref l]/\H d=some (.lst [.int n])/\H l=some (.lst (ns.map λw=>V.str (SL w)))/\l≠d/\ ∀H',But d H H'->H' d=some (.lst [.int (vx n ns).2])->Q (.str (SL (vx n ns).1)) H'
theorem sc_0x:FnScope ["_law_digits_here","_law_names","_law_letters","_law_some","_law_name_here","_law_j","_law_letter"] ["_law_digits_here","_law_names"] (zC s_0x):=⟨rfl,rfl,rfl,by decide+kernel,rfl,by decide+kernel,by decide+kernel⟩
theorem ok_0x(T:Txt K mg t):FnOk P w K mg base (CXE P w) 2 t.a_0x t.d_0x ["_law_digits_here","_law_names"] (zmw):=by
 refine T.fn_0x.okX sc_0x (λvs H Q E h=> ?_) (λcdv A outer s H vs Q E L hr h=> ?_)
 ·refine opq λ_ kq=> ?_;obtain⟨d,l,n,ns,rfl,hd,hl,ld,q⟩:=h;apply kq;rfl
 refine opq λ_ kq=> ?_;obtain⟨d,l,n,ns,rfl,hd,hl,ld,q⟩:=h;apply kq;have nd:=sc_0x.nd;refine⟨_,(zn (zI (i:=2) nd rfl (Or.inl rfl) (zj st_30)) (zn (zI (i:=3) nd rfl (Or.inl rfl) (yS (ze (zj st_31) (ze (zj st_32) (ze (zj st_33) (ze (zj st_34) (ze (zj st_35) (ze (zj st_36) (ze (zj st_37) (ze (zj st_38) (ze (zj st_39) (ze (zj st_40) (ze (zj st_41) (ze (zj st_42) zg zi) zi) zi) zi) zi) zi) zi) zi) zi) zi) zi) zi))) (zn (zI (i:=3) nd rfl (Or.inl rfl) (zr u4 (pv 3) (yS (ze (zj st_43) (ze (zj st_44) (ze (zj st_45) (ze (zj st_46) (ze (zj st_47) (ze (zj st_48) (ze (zj st_49) (ze (zj st_50) (ze (zj st_51) zg zi) zi) zi) zi) zi) zi) zi) zi) zi)))) (zn (zI (i:=4) nd rfl (Or.inl rfl) (zt zy (pv 3) (zu L.toLv (ok_0w T) (hr.mono 'd') (by rfl) T.mg_0w T.fn_0w.kp T.b_0w .nil (ze (pv 0) (ze (zM y8 (by rfl) T.no_len yR (ze (pv 3) zg)) zg qh) zk)) (λ_ _=>rfl))) (zn (qv (zG (zz qC (zu L.toLv (ok_0w T) (hr.mono 'd') (by rfl) T.mg_0w T.fn_0w.kp T.b_0w .nil (ze (pv 0) (ze zh zg zi) zk)) zh (zw _)) (zn (zI (i:=4) nd rfl (Or.inl rfl) (zj st_14)) (zo (xx (by passes_own) rfl (jE (by rfl) T.no_range (ze (zr y0 zh (zu L.toLv (ok_0w T) (hr.mono 'd') (by rfl) T.mg_0w T.fn_0w.kp T.b_0w .nil (ze (pv 0) (ze zh zg zi) zk))) zg)) (yO (i:=5) nd rfl (Or.inl rfl)) (zo (zI (i:=4) nd rfl (Or.inl rfl) (zr qw (pv 4) (zt uP (pv 2) (zu L.toLv (ok_0w T) (hr.mono 'd') (by rfl) T.mg_0w T.fn_0w.kp T.b_0w .nil (ze (pv 0) (ze zh zg zi) zk)) (λ_ _=>rfl)))))))) zF)) (zn (xx (by passes_own) rfl (vH (pv 2)) (yO (i:=6) nd rfl (Or.inl rfl)) (zo (zG (zz uM (pv 4) (pv 1) rfl) (zo (zI (i:=4) nd rfl (Or.inl rfl) (zr qw (qT vI (pv 4) qY (qL zh)) (pv 6)))) zF))) (zo (zD (pv 4))))))))),?_⟩;open_k0;intro pa H1 fa s1 e1 pb H2 fb s2 e2;refine⟨pa,pb,_,_,rfl,rfl,s2 _ _ e1,e2,qj 'd',λpc H3 fc s3 e3=>⟨pc,rfl,_, .inl (SqL.of e3),?_⟩⟩;have s13:=(s1.trans s2).trans s3;have h3d:=s13 _ _ hd;have cd:pc≠d:=λz=>by rw[z,s2 _ _ (s1 _ _ hd)] at fc;cases fc
 refine⟨d,n,21,rfl,h3d,'d','d',?_⟩;have e4:upd H3 d (.lst [.int (n / 21)]) pc=some (.lst (wsL.map λw=>V.str (SL w))):=by rw[zT cd];exact e3
 refine ixL (SqL.of e4) (at_strs (JK _ 'd') (JI _ 'd')) ?_;obtain⟨R,hR⟩: ∃R:St->Hp->Prop,R=λσ' H'=> ∃x5,But d H H'/\H' d=some (.lst [.int (xi n).2])/\σ'= [some (.ref d),some (.ref l),some (.str (SL azN)),some (.ref pc),some (.str (SL (xi n).1)),x5,none]:=⟨_,rfl⟩
 refine⟨R,?_,λσ2 H5 h5=> ?_⟩
 ·open_k0;refine⟨d,n / 21,8,rfl,zP,'d','d',rfl,zA (λh=> ?_) (λh=> ?_)⟩
  ·have h': ¬n / 21 % 8=3:=λz=>h (by rw[z]);have ep:xi n=xR (1+(n / 21 / 8 % 8).toNat) (n / 21 / 8 / 8):=by unfold xi;rw[Jf h']
   refine wM λR0 hR0=> ?_;simp only[yw,yu,yL,yv,yN,yM,yK,yt,yI,yJ,yH,ya,yr,yG,zH,zJ,zK,z9,zQ,List.replicate,Option.join_some,Option.join_none,zO,yq,yo,ym,tSl,yk,yj,yy,slT,z4,Int.reduceLT,Int.reduceLE,Int.reduceToNat,Int.reduceNeg,Int.reduceAdd,Int.reduceSub,Int.reduceMul,forall_const,zU,yf,yg,zZ,yx,zY,zS,zL,zR,zV,zW,tC,tOp,rI,rI0,tUn,rU,z5,tB,yb,tOr,yc,zX,yd,ye,tIf,z7,yi,z8,yF,tCB,yp,rEq,rNe,yA,yB,yC,yD,yE,z6,yh,ipI,L2.start,Jz,JN,Jp,List.length_nil,List.cons_append,List.nil_append,Jt,List.replicate_succ,List.replicate_zero,Nat.reduceAdd,Nat.reduceSub,List.getElem?_cons_zero,List.getElem?_cons_succ,List.set_cons_zero,List.set_cons_succ,Option.some.injEq,V.int.injEq,V.bl.injEq,V.ref.injEq,V.str.injEq,exists_eq_left',exists_eq_left,exists_eq',exists_and_left,List.cons.injEq,and_true,true_and,and_self,and_assoc,decide_eq_true_eq,if_true,if_false,Bool.true_eq_false,Js,Bool.not_eq_true',Bool.not_true,Bool.not_false,decide_eq_false_iff_not,ite_true,ite_false,reduceCtorEq,false_and,exists_false,false_or,or_false,and_false,wv,Nat.reduceLeDiff];have m8:0<=n / 21 / 8 % 8/\n / 21 / 8 % 8<8:=by omega
   have k8:1+(n / 21 / 8 % 8).toNat<=8:=by omega
   refine⟨d,n / 21 / 8,8,rfl,zP,'d','d',_,rfl,'o','o',hR0 _ _ ?_⟩;rw[show (1+n / 21 / 8 % 8).toNat=1+(n / 21 / 8 % 8).toNat by omega];generalize 1+(n / 21 / 8 % 8).toNat=k at ep k8 ⊢;generalize n / 21 / 8 / 8=m at ep ⊢;refine uJ (λi σ1 H6=> ∃x5,But d H H6/\H6 d=some (.lst [.int (xR i m).2])/\σ1= [some (.ref d),some (.ref l),some (.str (SL azN)),some (.ref pc),some (.str (SL (xR i m).1)),x5,none]) ⟨_,(((But.of s13).trans But.upd).trans But.upd).trans But.upd,zP,rfl⟩ (λi σ1 H6 hi h=> ?_) (λσ1 H6 h=> ?_)
   ·refine opq λ_ kq=> ?_;obtain⟨x5,b6,e6,rfl⟩:=h;apply kq;open_k0;refine⟨d,_,26,rfl,e6,'d','d',_,rfl,_,at_az (JK _ 'd') (JI _ 'd'),?_⟩;exact⟨qj (by rw[kT];omega),b6.trans But.upd,zP,rfl⟩
   ·refine opq λ_ kq=> ?_;obtain⟨x5,b6,e6,rfl⟩:=h;apply kq;show R _ _;rw[hR,ep];exact⟨_,b6,e6,rfl⟩
  ·have h':n / 21 % 8=3:=Classical.byContradiction λz=>h λe=>z (V.int.inj e);have ep:xi n=(wsL.getD (n % 21).toNat [],n / 21 / 8):=by unfold xi;rw[Jg h']
   rw[hR,ep];exact⟨_,((But.of s13).trans But.upd).trans But.upd,zP,rfl⟩
 rw[hR] at h5;refine opq λ_ kq=> ?_;obtain⟨x5,b5,e5,rfl⟩:=h5;apply kq;clear hR;open_k0;have pl:=kU n;refine⟨_,rfl,_,rfl,?_⟩;refine ue (cs:=azN) (λi σ1 H6=>H6=H5/\ ∃x6,σ1= [some (.ref d),some (.ref l),some (.str (SL azN)),some (.ref pc),some (.str (SL (qP ns (xi n).1 i))),x5,x6]) ⟨rfl,_,rfl⟩ (λi c σ1 H6 hc h=> ?_) (λσ1 H6 h=> ?_)
 ·obtain⟨rfl,x6,rfl⟩:=h;obtain rfl:=zm4 i c hc;have fl:=zhr ns pl.2 i;open_k0;refine⟨l,_,rfl, .inl (SqL.of (b5 _ _ ld hl)),rfl,zgw _,?_⟩;rw[Jf 'd',ut];refine⟨_,rfl,?_⟩;rw[zmv,qP];by_cases z:qP ns (xi n).1 i∈ns
  ·rw[JL z,Jg rfl,Jg z];exact⟨qj 'o',qj (by rw[JA];omega),rfl,rfl⟩
  ·rw[JM z,Jf 'd',Jf z];exact⟨rfl,rfl⟩
 ·obtain⟨rfl,x6,rfl⟩:=h;open_k0;exact q _ b5 e5
def vT:List Int:= [10 ^ 30,1000,100000,7]
def wX(n:Int)(ns:List (List Nat)):Pl×Int:=
 let n1:=(vx n ns).2
 let m:=vT.getD (n1 % 4).toNat 0
 let n2:=n1 / 4
 let n3:=n2 / m
 let c:=n3 / 4 % 401
 (((vx n ns).1,n2 % m,([0,0,c,28+c % 4]:List Int).getD (n3 % 4).toNat 0),n3 / 4 / 401)
def zmx:Sp:=λvs H Q _=> ∃(d l:Addr) (n:Int) (ns:List (List Nat)),vs= [.ref d, .ref l]/\H d=some (.lst [.int n])/\H l=some (.lst (ns.map λw=>V.str (SL w)))/\l≠d/\ ∀r H',But d H H'->H r=none->H' r=some (.tup [.str (SL (wX n ns).1.1), .int (wX n ns).1.2.1, .int (wX n ns).1.2.2])->Q (.ref r) H'
theorem But.free{r:Addr}(b:But d H H')(e:H' d=some o)(f:H' r=none):H r=none:=by
 by_cases z:r=d
 ·rw[z,e] at f;cases f
 ·cases h:H r with
  |none=>rfl
  |some u=>rw[b r u z h] at f;cases f
theorem zhs(h0:0<=i)(h1:i<4):1<=vT.getD i.toNat 0/\vT.getD i.toNat 0<=10 ^ 30:=xK 'd' h0 h1
theorem sc_0y:FnScope ["_law_digits_here","_law_names","_law_name_here","_law_price","_law_way","_law_count"] ["_law_digits_here","_law_names"] (zC s_0y):=⟨rfl,rfl,rfl,by decide+kernel,rfl,by decide+kernel,by decide+kernel⟩
theorem ok_0y(T:Txt K mg t):FnOk P w K mg base (CXE P w) 3 t.a_0y t.d_0y ["_law_digits_here","_law_names"] (zmx):=by
 refine T.fn_0y.okX sc_0y (λvs H Q E h=> ?_) (λcdv A outer s H vs Q E L hr h=> ?_)
 ·refine opq λ_ kq=> ?_;obtain⟨d,l,n,ns,rfl,hd,hl,ld,q⟩:=h;apply kq;rfl
 refine opq λ_ kq=> ?_;obtain⟨d,l,n,ns,rfl,hd,hl,ld,q⟩:=h;apply kq;have nd:=sc_0y.nd;refine⟨_,(zn (zI (i:=2) nd rfl (Or.inl rfl) (zu L.toLv (ok_0x T) (hr.mono 'd') (by rfl) T.mg_0x T.fn_0x.kp T.b_0x .nil (ze (pv 0) (ze (pv 1) zg zk) zk))) (zn (zI (i:=3) nd rfl (Or.inl rfl) (zu L.toLv (ok_0w T) (hr.mono 'd') (by rfl) T.mg_0w T.fn_0w.kp T.b_0w .nil (ze (pv 0) (ze (zt zy (yS (ze (zr vZ zh zh) (ze zh (ze zh (ze zh zg zi) zi) zi) qD)) (zu L.toLv (ok_0w T) (hr.mono 'd') (by rfl) T.mg_0w T.fn_0w.kp T.b_0w .nil (ze (pv 0) (ze zh zg zi) zk)) (λ_ _=>rfl)) zg y9) zk))) (zn (zI (i:=4) nd rfl (Or.inl rfl) (zu L.toLv (ok_0w T) (hr.mono 'd') (by rfl) T.mg_0w T.fn_0w.kp T.b_0w .nil (ze (pv 0) (ze zh zg zi) zk))) (zn (zI (i:=5) nd rfl (Or.inl rfl) (zu L.toLv (ok_0w T) (hr.mono 'd') (by rfl) T.mg_0w T.fn_0w.kp T.b_0w .nil (ze (pv 0) (ze zh zg zi) zk))) (zo (zD (qx (ze (pv 2) (ze (pv 3) (ze (zt zy (yS (ze zh (ze zh (ze (pv 5) (ze (zr y0 zh (zr y6 (pv 5) zh)) zg qD) zk) zi) zi)) (pv 4) (λ_ _=>rfl)) zg y9) zk) zk)))))))),?_⟩;open_k0;unfold wX at q;refine⟨d,l,n,ns,rfl,hd,hl,ld,λH1 b1 e1=>⟨(by unfold zmM;decide),λpa H2 fa s2 e2=>⟨d,_,4,rfl,s2 _ _ e1,'d','d',?_⟩⟩⟩;generalize (vx n ns).1=nm at q ⊢;generalize (vx n ns).2=n1 at e1 q ⊢;have ad:pa≠d:=λz=>by rw[z,e1] at fa;cases fa
 have ea:upd H2 d (.lst [.int (n1 / 4)]) pa=some (.lst (vT.map V.int)):=by rw[zT ad];exact e2
 have m4:0<=n1 % 4/\n1 % 4<4:=by omega
 have mb:=zhs m4.1 m4.2;refine ixL (SqL.of ea) (wA m4.1 m4.2) ?_;dsimp only at q;generalize vT.getD (n1 % 4).toNat 0=m at mb q ⊢;refine⟨d,_,m,rfl,zP,'o',mb.2,d,_,4,rfl,zP,'d','d',d,_,401,rfl,zP,'d','d',_,rfl,λpb H4 fb s4 e4=> ?_⟩;have b4:But d H H4:=((((((b1.trans (But.of s2)).trans But.upd).trans But.upd).trans But.upd).trans But.upd).trans (But.of s4))
 have e4d:=s4 _ _ (zP (H:=upd (upd (upd H2 d (.lst [.int (n1 / 4)])) d (.lst [.int (n1 / 4 / m)])) d (.lst [.int (n1 / 4 / m / 4)])) (a:=d) (o:= .lst [.int (n1 / 4 / m / 4 / 401)]));generalize n1 / 4 / m=n3 at*;refine ixL (xs:=([0,0,n3 / 4 % 401,28+n3 / 4 % 401 % 4]:List Int).map V.int) (SqL.of e4) (wA 'o' (by show n3 % 4<4;omega)) λr H5 fr s5 e5=>q r H5 (b4.trans (But.of s5)) (b4.free e4d fr) e5
def wY(n:Int):Int:=
 if n % 4=0 then n / 4 % 3500001
 else if n % 4=1 then ([0,3500000,30,59,1,3499999]:List Int).getD (n / 4 % 6).toNat 0
 else Cal.num (1+n / 4 % 9580) (1+n / 4 / 9580 % 12) 28+n / 4 / 9580 / 12 % 4
def zlh:Sp:=λvs H Q _=> ∃(d:Addr) (n:Int),vs= [.ref d]/\H d=some (.lst [.int n])/\ ∀H',But d H H'->Q (.int (wY n)) H'
theorem zm5{m d:Int}(h:Cal.Valid y m d)(hy:y<=9580):Cal.num y m d<=3499990:=by
 have h1:=(Cal.in_year h).2;have h2:=Cal.lp_01 y;have h3:=h.1;unfold Cal.num Cal.ahead;omega
theorem kW(n:Int):Cal.Valid (1+n / 4 % 9580) (1+n / 4 / 9580 % 12) 28:=⟨'o','o','o','o','d',(Cal.dim_bounds _ _).1⟩
theorem zkf(n:Int):0<=wY n/\wY n<=3500000:=by
 unfold wY;split
 ·omega
 split
 ·exact xK 'd' 'o' (by show n / 4 % 6<6;omega)
 ·have h1:=zm5 (kW n) 'o';have h2:=(Cal.num_range (kW n)).1;generalize Cal.num _ _ _=x at*;omega
theorem sc_0z:FnScope ["_law_digits_here","_law_way","_law_year"] ["_law_digits_here"] (zC s_0z):=⟨rfl,rfl,rfl,by decide+kernel,rfl,by decide+kernel,by decide+kernel⟩
theorem ok_0z(T:Txt K mg t):FnOk P w K mg base (CXE P w) 4 t.a_0z t.d_0z ["_law_digits_here"] (zlh):=by
 refine T.fn_0z.okX sc_0z (λvs H Q E h=> ?_) (λcdv A outer s H vs Q E L hr h=> ?_)
 ·refine opq λ_ kq=> ?_;obtain⟨d,n,rfl,hd,q⟩:=h;apply kq;rfl
 refine opq λ_ kq=> ?_;obtain⟨d,n,rfl,hd,q⟩:=h;apply kq;have nd:=sc_0z.nd;refine⟨_,(zn (zI (i:=1) nd rfl (Or.inl rfl) (zu L.toLv (ok_0w T) (hr.mono 'd') (by rfl) T.mg_0w T.fn_0w.kp T.b_0w .nil (ze (pv 0) (ze zh zg zi) zk))) (zn (zG (zz yQ (pv 1) zh (zw _)) (zo (zD (zu L.toLv (ok_0w T) (hr.mono 'd') (by rfl) T.mg_0w T.fn_0w.kp T.b_0w .nil (ze (pv 0) (ze zh zg zi) zk)))) zF) (zn (zG (zz yQ (pv 1) zh (zw _)) (zo (zD (zt zy (yS (ze zh (ze zh (ze zh (ze zh (ze zh (ze zh zg zi) zi) zi) zi) zi) zi)) (zu L.toLv (ok_0w T) (hr.mono 'd') (by rfl) T.mg_0w T.fn_0w.kp T.b_0w .nil (ze (pv 0) (ze zh zg zi) zk)) (λ_ _=>rfl)))) zF) (zn (zI (i:=2) nd rfl (Or.inl rfl) (zr y0 zh (zu L.toLv (ok_0w T) (hr.mono 'd') (by rfl) T.mg_0w T.fn_0w.kp T.b_0w .nil (ze (pv 0) (ze zh zg zi) zk)))) (zo (zD (zr y0 (zu L.toLv (ok_0b T) (hr.mono 'd') (by rfl) T.mg_0b T.fn_0b.kp T.b_0b .nil (ze (pv 2) (ze (zr y0 zh (zu L.toLv (ok_0w T) (hr.mono 'd') (by rfl) T.mg_0w T.fn_0w.kp T.b_0w .nil (ze (pv 0) (ze zh zg zi) zk))) (ze zh zg zi) qD) zk)) (zu L.toLv (ok_0w T) (hr.mono 'd') (by rfl) T.mg_0w T.fn_0w.kp T.b_0w .nil (ze (pv 0) (ze zh zg zi) zk))))))))),?_⟩;open_k0;unfold wY at q;refine⟨d,n,4,rfl,hd,'d','d',rfl,zA (λh=>⟨d,_,3500001,rfl,zP,'d','d',?_⟩) (λh=>⟨rfl,zA (λh1 pa H2 fa s2 e2=>⟨d,_,6,rfl,s2 _ _ zP,'d','d',?_⟩) (λh1=>⟨d,_,9580,rfl,zP,'d','d',_,rfl,d,_,12,rfl,zP,'d','d',_,rfl,_,_,_,rfl,λ_=>⟨d,_,4,rfl,zP,'d','d',_,rfl,_,rfl,?_⟩,λno=>absurd (kW n) no⟩)⟩)⟩
 ·rw[Jg (V.int.inj h)] at q;exact q _ (But.upd.trans But.upd)
 ·rw[Jf (λz=>h (by rw[z])),Jg (V.int.inj h1)] at q;have ad:pa≠d:=λz=>by rw[z,zP] at fa;cases fa
  exact ixL (xs:=([0,3500000,30,59,1,3499999]:List Int).map V.int) (SqL.of (by rw[zT ad];exact e2)) (wA 'o' (by show n / 4 % 6<6;omega)) (q _ ((But.upd.trans (But.of s2)).trans But.upd))
 ·rw[Jf (λz=>h (by rw[z])),Jf (λz=>h1 (by rw[z]))] at q;exact q _ (((But.upd.trans But.upd).trans But.upd).trans But.upd)
def xu(cs:List Int)(s:Nat):Nat->List Pl
 |0=> []
 |i+1=>xu cs s i++ [(wX (yV cs s (3+i)) ((xu cs s i).map (·.1))).1]
def vU(cs:List Int)(s:Nat):Int:=yV cs s 0 % 7
def wZ(cs:List Int)(s:Nat):Int:=1+yV cs s 0 / 7 / 2 % ([4,8]:List Int).getD (yV cs s 0 / 7 % 2).toNat 0
def kX(cs:List Int)(s:Nat):Int:=wY (yV cs s 1)
def dyF(cs:List Int)(s:Nat):Bool:=decide (¬1<yV cs s 2 % 4)
def ccF(cs:List Int)(s:Nat):Int:=
 let n:=yV cs s 2
 let m:=([400,40]:List Int).getD (n % 4 % 2).toNat 0
 if 1<n % 4 then 1+n / 4 / m % ([12,3]:List Int).getD (n % 4 % 2).toNat 0 else 1+n / 4 % m
def zm6(K:Fg):Sp:=λvs H Q _=> ∃(a:Addr) (cs:List Int) (s:Nat),vs= [.ref a, .int s]/\SqL K H a (cs.map V.int)/\ ∀r ac l H',zq H H'->H' r=some (.tup [.int (vU cs s), .ref ac])->ux H' ac l (xu cs s (wZ cs s).toNat) (kX cs s) (dyF cs s) (ccF cs s)->Q (.ref r) H'
theorem zq.but{H2:Hp}(s:zq H H1)(f:H d=none)(b:But d H1 H2):zq H H2:=λx o e=>b x o (λz=>by rw[z,f] at e;cases e) (s x o e)
theorem uD(cs:List Int)(s:Nat): ∀i,(xu cs s i).length=i
 |0=>rfl
 |i+1=>by rw[xu,Jj,uD cs s i];rfl
theorem zim(cs:List Int)(s:Nat):1<=wZ cs s/\wZ cs s<=8:=by
 unfold wZ;have h:4<=([4,8]:List Int).getD (yV cs s 0 / 7 % 2).toNat 0/\([4,8]:List Int).getD (yV cs s 0 / 7 % 2).toNat 0<=8:=xK 'd' 'o' (by show _<2;omega);generalize ([4,8]:List Int).getD (yV cs s 0 / 7 % 2).toNat 0=m at h;have h1:=JK (yV cs s 0 / 7 / 2) (show m≠0 by omega);have h2:=JI (yV cs s 0 / 7 / 2) (show 0<m by omega);omega
theorem sc_10:FnScope ["_law_script","_law_start","_law_head","_law_places","_law_many","_law_first_here","_law_digits_here","_law_way","_law_cycle","_law_plans","_law_k"] ["_law_script","_law_start"] (zC s_10):=⟨rfl,rfl,rfl,by decide+kernel,rfl,by decide+kernel,by decide+kernel⟩
theorem ok_10(T:Txt K mg t):FnOk P w K mg base (CXE P w) 5 t.a_10 t.d_10 ["_law_script","_law_start"] (zm6 K):=by
 refine T.fn_10.okX sc_10 (λvs H Q E h=> ?_) (λcdv A outer s H vs Q E L hr h=> ?_)
 ·refine opq λ_ kq=> ?_;obtain⟨a,cs,s,rfl,hS,q⟩:=h;apply kq;rfl
 refine opq λ_ kq=> ?_;obtain⟨a,cs,s,rfl,hS,q⟩:=h;apply kq;have nd:=sc_10.nd;refine⟨_,(zn (zI (i:=2) nd rfl (Or.inl rfl) (zu L.toLv (ok_0v T) (hr.mono 'd') (by rfl) T.mg_0v T.fn_0v.kp T.b_0v .nil (ze (pv 0) (ze (pv 1) (ze zh zg zi) zk) zk))) (zn (zI (i:=3) nd rfl (Or.inl rfl) (zu L.toLv (ok_0w T) (hr.mono 'd') (by rfl) T.mg_0w T.fn_0w.kp T.b_0w .nil (ze (pv 2) (ze zh zg zi) zk))) (zn (zI (i:=4) nd rfl (Or.inl rfl) (zr y0 zh (zu L.toLv (ok_0w T) (hr.mono 'd') (by rfl) T.mg_0w T.fn_0w.kp T.b_0w .nil (ze (pv 2) (ze (zt zy (yS (ze zh (ze zh zg zi) zi)) (zu L.toLv (ok_0w T) (hr.mono 'd') (by rfl) T.mg_0w T.fn_0w.kp T.b_0w .nil (ze (pv 2) (ze zh zg zi) zk)) (λ_ _=>rfl)) zg y9) zk)))) (zn (zI (i:=5) nd rfl (Or.inl rfl) (zu L.toLv (ok_0z T) (hr.mono 'd') (by rfl) T.mg_0z T.fn_0z.kp T.b_0z .nil (ze (zu L.toLv (ok_0v T) (hr.mono 'd') (by rfl) T.mg_0v T.fn_0v.kp T.b_0v .nil (ze (pv 0) (ze (pv 1) (ze zh zg zi) zk) zk)) zg))) (zn (zI (i:=6) nd rfl (Or.inl rfl) (zu L.toLv (ok_0v T) (hr.mono 'd') (by rfl) T.mg_0v T.fn_0v.kp T.b_0v .nil (ze (pv 0) (ze (pv 1) (ze zh zg zi) zk) zk))) (zn (zI (i:=7) nd rfl (Or.inl rfl) (zu L.toLv (ok_0w T) (hr.mono 'd') (by rfl) T.mg_0w T.fn_0w.kp T.b_0w .nil (ze (pv 6) (ze zh zg zi) zk))) (zn (zI (i:=8) nd rfl (Or.inl rfl) (qx (ze (zj st_0) (ze (zr y0 zh (zu L.toLv (ok_0w T) (hr.mono 'd') (by rfl) T.mg_0w T.fn_0w.kp T.b_0w .nil (ze (pv 6) (ze (zt zy (yS (ze zh (ze zh zg zi) zi)) (zr y6 (pv 7) zh) (λ_ _=>rfl)) zg y9) zk))) zg qD) zi))) (zn (qv (zG (zz qJ (pv 7) zh (zw _)) (zo (zI (i:=8) nd rfl (Or.inl rfl) (qx (ze (zj st_1) (ze (zr y0 zh (zu L.toLv (ok_0w T) (hr.mono 'd') (by rfl) T.mg_0w T.fn_0w.kp T.b_0w .nil (ze (pv 6) (ze (zt zy (yS (ze zh (ze zh zg zi) zi)) (zr y6 (pv 7) zh) (λ_ _=>rfl)) zg y9) zk))) zg qD) zi)))) zF)) (zn (zI (i:=9) nd rfl (Or.inl rfl) (yS zg)) (zn (xx (by passes_own) rfl (jE (by rfl) T.no_range (ze (pv 4) zg)) (yO (i:=10) nd rfl (Or.inl rfl)) (zo (qc (yU PySem.F.plainAttrs_list PySem.F.slot_list_append PySem.F.type_list_append wI (pv 9) (ze (zu L.toLv (ok_0y T) (hr.mono 'd') (by rfl) T.mg_0y T.fn_0y.kp T.b_0y .nil (ze (zu L.toLv (ok_0v T) (hr.mono 'd') (by rfl) T.mg_0v T.fn_0v.kp T.b_0v .nil (ze (pv 0) (ze (pv 1) (ze (zr y0 zh (pv 10)) zg qD) zk) zk)) (ze (wD (n:=1) (N:= ["_law_plan_here"]) (js:= []) (by rfl) rfl rfl (qX (pv 9)) (λa=>(yO (i:=0) (show List.Nodup (["_law_plan_here"]:List Str) from by decide+kernel) rfl (Or.inl rfl))) (λa=>wa) (λa=>(zt v7 (pv 0) zh (λ_ _=>rfl)))) zg) qh)) zg))))) (zo (zD (qx (ze (pv 3) (ze (qx (ze (pv 9) (ze (pv 5) (ze (pv 8) zg zk) zk) zk)) zg u7) zk)))))))))))))),?_⟩;open_k0;refine⟨a,cs,s,0,rfl,hS,'d',λd0 H1 f1 s1 e1=> ?_⟩;refine⟨d0,_,7,rfl,e1,'d','d',λpa H2 f2 s2 e2=> ?_⟩;have ad:pa≠d0:=λz=>by rw[z,zP] at f2;cases f2
 refine⟨d0,_,2,rfl,s2 _ _ zP,'d','d',?_⟩;have mi:=zim cs s;unfold wZ at mi q;unfold vU at q;have mb:4<=([4,8]:List Int).getD (yV cs s 0 / 7 % 2).toNat 0/\([4,8]:List Int).getD (yV cs s 0 / 7 % 2).toNat 0<=8:=xK 'd' 'o' (by show _<2;omega);refine ixL (xs:=([4,8]:List Int).map V.int) (SqL.of (by rw[zT ad];exact e2)) (wA 'o' (by show yV cs s 0 / 7 % 2<2;omega)) ?_;generalize ([4,8]:List Int).getD (yV cs s 0 / 7 % 2).toNat 0=m at mb mi q ⊢;refine⟨d0,_,m,rfl,zP,'o','o',_,rfl,?_⟩;generalize yV cs s 0 / 7 / 2 % m=mn at mi q ⊢;generalize yV cs s 0 % 7=pl at q ⊢;obtain⟨H3,hH3⟩: ∃H3,H3=upd (upd H2 d0 (.lst [.int (yV cs s 0 / 7 / 2)])) d0 (.lst [.int (yV cs s 0 / 7 / 2 / m)]):=⟨_,rfl⟩
 rw[<-hH3];have t3:zq H H3:=zq.but s1 f1 (by rw[hH3];exact((But.upd.trans (But.of s2)).trans But.upd).trans But.upd);clear hH3 e2 f2 s2 e1 s1 ad;refine⟨a,cs,s,1,rfl,t3.seq hS,'d',λd1 H4 f4 s4 e4=>⟨d1,_,rfl,e4,λH5 b5=> ?_⟩⟩;have t5:zq H H5:=zq.but (t3.trans s4) (t3.free f4) b5;refine⟨a,cs,s,2,rfl,t5.seq hS,'d',λd2 H6 f6 s6 e6=>⟨d2,_,4,rfl,e6,'d','d',λpb H7 f7 s7 e7=>⟨_,rfl,?_⟩⟩⟩;have fd2:=t5.free f6;have t7:zq H H7:=zq.but (t5.trans s6) fd2 (But.upd.trans (But.of s7));have e7d:=s7 _ _ (zP (H:=H6) (a:=d2) (o:= .lst [.int (yV cs s 2 / 4)]));unfold dyF ccF at q;dsimp only at q;have m2b:40<=([400,40]:List Int).getD (yV cs s 2 % 4 % 2).toNat 0/\([400,40]:List Int).getD (yV cs s 2 % 4 % 2).toNat 0<=400:=xK 'd' 'o' (by show _<2;omega);have m3b:3<=([12,3]:List Int).getD (yV cs s 2 % 4 % 2).toNat 0/\([12,3]:List Int).getD (yV cs s 2 % 4 % 2).toNat 0<=12:=xK 'd' 'o' (by show _<2;omega);refine ixL (xs:=([400,40]:List Int).map V.int) (SqL.of e7) (wA 'o' (by show yV cs s 2 % 4 % 2<2;omega)) ?_;generalize yV cs s 2=n2 at*;generalize ([400,40]:List Int).getD (n2 % 4 % 2).toNat 0=m2 at m2b q ⊢;refine⟨d2,_,m2,rfl,e7d,'o','o',_,rfl,λpc H8 f8 s8 e8=> ?_⟩;have t8:zq H H8:=zq.but t7 fd2 (But.upd.trans (But.of s8));refine opq λ_ kq=> ?_;obtain⟨dy,hdy⟩: ∃dy,dy=decide (¬1<n2 % 4):=⟨_,rfl⟩
 obtain⟨cc,hcc⟩: ∃cc,cc=(if 1<n2 % 4 then 1+n2 / 4 / m2 % ([12,3]:List Int).getD (n2 % 4 % 2).toNat 0 else 1+n2 / 4 % m2):=⟨_,rfl⟩
 rw[<-hdy,<-hcc] at q;obtain⟨R,hR⟩: ∃R:St->Hp->Prop,R=λσ' H'=> ∃pe,zq H H'/\H' pe=some (.tup [.str (SL (qm dy)), .int cc])/\σ'= [some (.ref a),some (.int s),some (.ref d0),some (.int pl),some (.int (1+mn)),some (.int (wY (yV cs s 1))),some (.ref d2),some (.int (n2 % 4)),some (.ref pe),none,none]:=⟨_,rfl⟩
 apply kq;refine⟨R,?_,λσ9 H9 h9=> ?_⟩
 ·open_k0;refine zA (λh=> ?_) (λh=> ?_)
  ·intro pd H9 f9 s9 e9;have e9d:=s9 _ _ (s8 _ _ (zP (H:=H7) (a:=d2) (o:= .lst [.int (n2 / 4 / m2)])));rw[Jg h] at hcc;refine ixL (xs:=([12,3]:List Int).map V.int) (SqL.of e9) (wA 'o' (by show n2 % 4 % 2<2;omega)) ?_;generalize ([12,3]:List Int).getD (n2 % 4 % 2).toNat 0=m3 at m3b hcc ⊢;refine⟨d2,_,m3,rfl,e9d,'o','o',_,rfl,λpe Ha fa sa ea=> ?_⟩;rw[hR];refine⟨pe,zq.but (t8.trans s9) fd2 (But.upd.trans (But.of sa)),?_,rfl⟩;rw[ea,hdy,hcc,JM (λz=>z h)];rfl
  ·rw[Jf h] at hcc;rw[hR];refine⟨pc,t8,?_,rfl⟩;rw[e8,hdy,hcc,JL h];rfl
 rw[hR] at h9;refine opq λ_ kq=> ?_;obtain⟨pe,t9,e9,rfl⟩:=h9;apply kq;clear hR hcc hdy m3b m2b e8 f8 s8 t8 e7d t7 e7 f7 s7 e6 s6 f6 fd2 t5 b5 e4 s4 f4 t3 mb;open_k0;intro lp Ha fl sa ea;refine wM λR0 hR0=> ?_;simp only[yw,yu,yL,yv,yN,yM,yK,yt,yI,yJ,yH,ya,yr,yG,zH,zJ,zK,z9,zQ,List.replicate,Option.join_some,Option.join_none,zO,yq,yo,ym,tSl,yk,yj,yy,slT,z4,Int.reduceLT,Int.reduceLE,Int.reduceToNat,Int.reduceNeg,Int.reduceAdd,Int.reduceSub,Int.reduceMul,forall_const,zU,yf,yg,zZ,yx,zY,zS,zL,zR,zV,zW,tC,tOp,rI,rI0,tUn,rU,z5,tB,yb,tOr,yc,zX,yd,ye,tIf,z7,yi,z8,yF,tCB,yp,rEq,rNe,yA,yB,yC,yD,yE,z6,yh,ipI,L2.start,Jz,JN,Jp,List.length_nil,List.cons_append,List.nil_append,Jt,List.replicate_succ,List.replicate_zero,Nat.reduceAdd,Nat.reduceSub,List.getElem?_cons_zero,List.getElem?_cons_succ,List.set_cons_zero,List.set_cons_succ,Option.some.injEq,V.int.injEq,V.bl.injEq,V.ref.injEq,V.str.injEq,exists_eq_left',exists_eq_left,exists_eq',exists_and_left,List.cons.injEq,and_true,true_and,and_self,and_assoc,decide_eq_true_eq,if_true,if_false,Bool.true_eq_false,Js,Bool.not_eq_true',Bool.not_true,Bool.not_false,decide_eq_false_iff_not,ite_true,ite_false,reduceCtorEq,false_and,exists_false,false_or,or_false,and_false,wv,Nat.reduceLeDiff];refine⟨'o','o',hR0 _ _ ?_⟩;clear hR0;refine uJ (λi σ1 Hb=> ∃(zs:List (V×Pl)) (x10:Option V),zq H Hb/\Hb pe=some (.tup [.str (SL (qm dy)), .int cc])/\Hb lp=some (.lst (zs.map (·.1)))/\zs.map (·.2)=xu cs s i/\(∀z∈zs,uw Hb z.1 z.2)/\σ1= [some (.ref a),some (.int s),some (.ref d0),some (.int pl),some (.int (1+mn)),some (.int (wY (yV cs s 1))),some (.ref d2),some (.int (n2 % 4)),some (.ref pe),some (.ref lp),x10]) ⟨[],_,t9.trans sa,sa _ _ e9,ea,rfl,(List.forall_mem_nil _),rfl⟩ (λi σ1 Hb hi h=> ?_) (λσ1 Hb h=> ?_)
 ·refine opq λ_ kq=> ?_;obtain⟨zs,x10,tb,eb,el,ez,pz,rfl⟩:=h;apply kq;simp only[yw,yu,yL,yv,yN,yM,yK,yt,yI,yJ,yH,ya,yr,yG,zH,zJ,zK,z9,zQ,List.replicate,Option.join_some,Option.join_none,zO,yq,yo,ym,tSl,yk,yj,yy,slT,z4,Int.reduceLT,Int.reduceLE,Int.reduceToNat,Int.reduceNeg,Int.reduceAdd,Int.reduceSub,Int.reduceMul,forall_const,zU,yf,yg,zZ,yx,zY,zS,zL,zR,zV,zW,tC,tOp,rI,rI0,tUn,rU,z5,tB,yb,tOr,yc,zX,yd,ye,tIf,z7,yi,z8,yF,tCB,yp,rEq,rNe,yA,yB,yC,yD,yE,z6,yh,ipI,L2.start,Jz,JN,Jp,List.length_nil,List.cons_append,List.nil_append,Jt,List.replicate_succ,List.replicate_zero,Nat.reduceAdd,Nat.reduceSub,List.getElem?_cons_zero,List.getElem?_cons_succ,List.set_cons_zero,List.set_cons_succ,Option.some.injEq,V.int.injEq,V.bl.injEq,V.ref.injEq,V.str.injEq,exists_eq_left',exists_eq_left,exists_eq',exists_and_left,List.cons.injEq,and_true,true_and,and_self,and_assoc,decide_eq_true_eq,if_true,if_false,Bool.true_eq_false,Js,Bool.not_eq_true',Bool.not_true,Bool.not_false,decide_eq_false_iff_not,ite_true,ite_false,reduceCtorEq,false_and,exists_false,false_or,or_false,and_false,Nat.reduceLeDiff,tBM,xE,qW];rw[show (3:Int)+(0+(i:Int))=((3+i:Nat):Int) by omega];have zl:zs.length=i:=by have:=congrArg List.length ez;rwa[Ja,uD] at this
  have i8:i<8:=by omega
  have lpf:=t9.free fl;refine⟨.inl ⟨rfl,_,SqL.of el⟩,a,cs,s,3+i,rfl,tb.seq hS,'o',λd Hc fc sc ec=>⟨⟨_,SqL.of (sc _ _ el)⟩,λl hl _=> ?_⟩⟩;have lpd:lp≠d:=λz=>by rw[<-z,el] at fc;cases fc
  have ped:pe≠d:=λz=>by rw[<-z,eb] at fc;cases fc
  refine vP (zs.map λz=>V.str (SL z.2.1)) (xL (SqL.of (sc _ _ el))) (by rw[Ja,Ja]) hl (by rw[Ja];exact Nat.lt_of_le_of_lt (show zs.length<=8 by omega) 'd') (λj x u Hd K1 hx hu sd k1=> ?_) (λHd sd ed=> ?_)
  ·rw[Jh] at hx hu;obtain⟨z,hz,rfl⟩:=Jk.mp hx;rw[hz] at hu;cases hu;obtain⟨p,ep,hp⟩:=pz z (Ji hz);rw[ep];simp only[yw,yu,yL,yv,yN,yM,yK,yt,yI,yJ,yH,ya,yr,yG,zH,zJ,zK,z9,zQ,List.replicate,Option.join_some,Option.join_none,zO,yq,yo,ym,tSl,yk,yj,yy,slT,z4,Int.reduceLT,Int.reduceLE,Int.reduceToNat,Int.reduceNeg,Int.reduceAdd,Int.reduceSub,Int.reduceMul,forall_const,zU,yf,yg,zZ,yx,zY,zS,zL,zR,zV,zW,tC,tOp,rI,rI0,tUn,rU,z5,tB,yb,tOr,yc,zX,yd,ye,tIf,z7,yi,z8,yF,tCB,yp,rEq,rNe,yA,yB,yC,yD,yE,z6,yh,ipI,L2.start,Jz,JN,Jp,List.length_nil,List.cons_append,List.nil_append,Jt,List.replicate_succ,List.replicate_zero,Nat.reduceAdd,Nat.reduceSub,List.getElem?_cons_zero,List.getElem?_cons_succ,List.set_cons_zero,List.set_cons_succ,Option.some.injEq,V.int.injEq,V.bl.injEq,V.ref.injEq,V.str.injEq,exists_eq_left',exists_eq_left,exists_eq',exists_and_left,List.cons.injEq,and_true,true_and,and_self,and_assoc,decide_eq_true_eq,if_true,if_false,Bool.true_eq_false,Js,Bool.not_eq_true',Bool.not_true,Bool.not_false,decide_eq_false_iff_not,ite_true,ite_false,reduceCtorEq,false_and,exists_false,false_or,or_false,and_false,Nat.reduceLeDiff,zK,zJ];exact ixT (SqT.of (sd _ _ (sc _ _ hp))) (yP (j:=0) rfl) (k1 _ (zq.refl _))
  have en:(zs.map λz=>V.str (SL z.2.1))=((xu cs s i).map (·.1)).map λw=>V.str (SL w):=by rw[<-ez,List.map_map,List.map_map];rfl
  rw[en] at ed;refine⟨d,l,_,(xu cs s i).map (λx:Pl=>x.1),rfl,sd _ _ ec,ed,(λz=>by rw[z,ec] at hl;cases hl),λr He be fr er=> ?_⟩;have elE:=be _ _ lpd (sd _ _ (sc _ _ el));have tE:zq H He:=zq.but (tb.trans (sc.trans sd)) (tb.free fc) be;refine⟨lp,_,_,rfl,rfl,elE,by rw[Ja];exact Nat.lt_of_le_of_lt (show zs.length<=8 by omega) 'd',vF tE lpf,?_,zs++ [(.ref r,(wX (yV cs s (3+i)) ((xu cs s i).map (·.1))).1)],?_,?_,λz hz=> ?_⟩
  ·rw[zT (λz=>by rw[z,el] at eb;cases eb)];exact be _ _ ped (sd _ _ (sc _ _ eb))
  ·rw[zP,Jd];rfl
  ·rw[Jd,ez];rfl
  ·rcases Jr.mp hz with g|g
   ·obtain⟨p,ep,hp⟩:=pz z g;refine⟨p,ep,?_⟩;rw[zT (λz=>by rw[z,el] at hp;cases hp)];exact be _ _ (λz=>by rw[z,fc] at hp;cases hp) (sd _ _ (sc _ _ hp))
   ·rw[Jm.mp g];refine⟨r,rfl,?_⟩;rw[zT (λz=>by rw[z,elE] at er;cases er)];exact er
 ·refine opq λ_ kq=> ?_;obtain⟨zs,x10,tb,eb,el,ez,pz,rfl⟩:=h;apply kq;open_k0;intro pf Hc ff sc ec r Hd fr sd ed;exact q r pf lp Hd ((tb.trans sc).trans sd) ed ⟨pe,zs,sd _ _ ec,sd _ _ (sc _ _ eb),sd _ _ (sc _ _ el),ez,λz hz=>((pz z hz).same sc).same sd⟩
theorem kY(p:Nat)(xs:List Pl)(f:Int)(dy:Bool)(cc:Int):(rowsW p xs f dy cc).length=xs.length+3:=by
 unfold rowsW;simp only[Jp,Ja]
theorem txt_len(ok:uy xs f dy cc)(hp:p<=6):(txtF p xs f dy cc).length<=4000:=by
 have ro:=jp (p:=p) ok hp;have h0:=uB [10] ((rowsW p xs f dy cc).map (jn [32]));have h1:=sum_le (b:=315) (ys:=(rowsW p xs f dy cc).map (jn [32])) λy hy=>by
  obtain⟨ws,hw,rfl⟩:=Jw.mp hy;exact(ro ws hw).len
 have h2:=kY p xs f dy cc;have h3:=ok.1.2.1;rw[Ja] at h0 h1;simp only[Jp,List.length_nil] at h0;unfold txtF;omega
theorem txt_spl(ok:uy xs f dy cc)(hp:p<=6):spl 10 (txtF p xs f dy cc)=(rowsW p xs f dy cc).map (jn [32]):=by
 have ro:=jp (p:=p) ok hp;unfold txtF;refine kt ?_ λy hy=> ?_
 ·unfold rowsW;exact List.cons_ne_nil _ _
 ·obtain⟨ws,hw,rfl⟩:=Jw.mp hy;exact(ro ws hw).nl
theorem zgx{ns:List (List Nat)}{w:List Nat}(h:jf w): ∀i≤26,jf (qP ns w i)
 |0,_=>h
 |i+1,hi=>by
  have ih:=zgx (ns:=ns) h i 'o';rw[qP];split
  ·refine⟨by rw[Jj];exact Nat.le_add_left _ _,by rw[Jj,JA];simp only[Jp,List.length_nil];omega,λc hc=> ?_⟩;rcases Jr.mp hc with g|g
   ·exact ih.2.2 c (List.mem_of_mem_take g)
   ·rw[Jm.mp g];omega
  ·exact ih
theorem zh0(k:Nat)(n:Int): ∀c∈(xR k n).1,97<=c/\c<=122:=by
 induction k with
 |zero=>exact List.forall_mem_nil _
 |succ k ih=>
  intro c hc;rw[xR] at hc;rcases Jr.mp hc with g|g
  ·exact ih c g
  ·rw[Jm.mp g];omega
theorem zkg(n:Int):jf (xi n).1:=by
 refine⟨(kU n).1,(kU n).2,?_⟩;unfold xi;split
 ·have: ∀k<21,∀c∈wsL.getD k [],97<=c/\c<=122:=by decide
  exact this _ 'o'
 ·exact zh0 _ _
theorem zgy{p r:List Nat->Bool}(h: ∀w,p w=true->r w=true){x:List Nat}(hp:p x=false)(hr:r x=true): ∀{l:List (List Nat)},x∈l->l.countP p+1<=l.countP r
 |y::l,hx=>by
  have mono:l.countP p<=l.countP r:=List.countP_mono_left λw _=>h w;rw[List.countP_cons,List.countP_cons];rcases JC.mp hx with rfl|hx
  ·rw[Jf (by rw[hp];decide),Jg hr];omega
  ·have ih:=zgy h hp hr hx;by_cases z:p y=true
   ·rw[Jg z,Jg (h y z)];omega
   ·rw[Jf z];split<;>omega
theorem zkh{ns:List (List Nat)}{w:List Nat}(hn:ns.length<=24):qP ns w 26∉ns:=by
 have key: ∀i,qP ns w i∉ns\/(∀j,i=j+1->(qP ns w i).getLastD 0=97+j/\j<=ns.countP λu=>decide (u.getLastD 0<97+j)):=by
  intro i;induction i with
  |zero=>exact .inr λj e=>by cases e
  |succ i ih=>
   rw[qP];by_cases z:qP ns w i∈ns
   ·rw[Jg z];refine .inr λj e=> ?_;obtain rfl:i=j:=by omega
    refine⟨by simp,?_⟩;rcases ih with ih|ih
    ·exact absurd z ih
    cases i with
    |zero=>exact Jv _
    |succ k=>
     obtain⟨h1,h2⟩:=ih k rfl
     have:=zgy (p:=λu=>decide (u.getLastD 0<97+k)) (r:=λu=>decide (u.getLastD 0<97+(k+1))) (λu hu=>by have:=of_decide_eq_true hu;exact JL 'o') (x:=qP ns w (k+1)) (by rw[h1];exact JM 'o') (by rw[h1];exact JL 'o') z;omega
   ·rw[Jf z];exact .inl z
 rcases key 26 with h|h
 ·exact h
 ·have h1:=(h 25 rfl).2;have h2:=List.countP_le_length (p:=λu:List Nat=>decide (u.getLastD 0<97+25)) (l:=ns);omega
theorem zli(n:Int)(ns:List (List Nat)):wF (wX n ns).1:=by
 unfold wX;dsimp only;refine⟨zgx (zkg n) 26 (Je _),?_⟩;generalize (vx n ns).2=n1;have mb:=zhs (i:=n1 % 4) 'o' 'o';generalize vT.getD (n1 % 4).toNat 0=m at mb ⊢;have h1:=JK (n1 / 4) (show m≠0 by omega);have h2:=JI (n1 / 4) (show 0<m by omega);generalize n1 / 4 / m=n3;have h3: ∀c:Int,0<=c->c<=400->0<=([0,0,c,28+c % 4]:List Int).getD (n3 % 4).toNat 0/\([0,0,c,28+c % 4]:List Int).getD (n3 % 4).toNat 0<=400:=λc c0 c1=>xK (lo:=0) (hi:=400) (λx hx=>by
  simp only[JC,List.not_mem_nil,or_false] at hx;rcases hx with rfl|rfl|rfl|rfl<;>omega) 'o' (by show n3 % 4<4;omega)
 have h4:=h3 (n3 / 4 % 401) 'o' 'o';exact⟨h1,Int.lt_of_lt_of_le h2 mb.2,h4.1,h4.2⟩
theorem zht(cs:List Int)(s:Nat): ∀i≤8,(∀x∈xu cs s i,wF x)/\((xu cs s i).map (·.1)).Nodup
 |0,_=>⟨List.forall_mem_nil _,List.Pairwise.nil⟩
 |i+1,hi=>by
  obtain⟨h1,h2⟩:=zht cs s i 'o';rw[xu];refine⟨λx hx=> ?_,?_⟩
  ·rcases Jr.mp hx with g|g
   ·exact h1 x g
   ·rw[Jm.mp g];exact zli _ _
  ·rw[Jd,List.nodup_append];refine⟨h2,List.pairwise_singleton _ _,λa ha b hb e=> ?_⟩;rw[Jz,JN,Jm] at hb;rw[e,hb] at ha;exact zkh (by rw[Ja,uD];omega) ha
theorem zmz(cs:List Int)(s:Nat):uy (xu cs s (wZ cs s).toNat) (kX cs s) (dyF cs s) (ccF cs s):=by
 have mi:=zim cs s;obtain⟨h1,h2⟩:=zht cs s (wZ cs s).toNat 'o';refine⟨⟨by rw[uD];omega,by rw[uD];omega,h1,h2⟩,zkf _,?_⟩;unfold ccF dyF;dsimp only;generalize yV cs s 2=n;have m2b:40<=([400,40]:List Int).getD (n % 4 % 2).toNat 0/\([400,40]:List Int).getD (n % 4 % 2).toNat 0<=400:=xK 'd' 'o' (by show _<2;omega);have m3b:3<=([12,3]:List Int).getD (n % 4 % 2).toNat 0/\([12,3]:List Int).getD (n % 4 % 2).toNat 0<=12:=xK 'd' 'o' (by show _<2;omega);generalize ([400,40]:List Int).getD (n % 4 % 2).toNat 0=m2 at m2b ⊢;generalize ([12,3]:List Int).getD (n % 4 % 2).toNat 0=m3 at m3b ⊢;by_cases z:1<n % 4
 ·rw[Jg z,JM (λh=>h z)];have h1:=JK (n / 4 / m2) (show m3≠0 by omega);have h2:=JI (n / 4 / m2) (show 0<m3 by omega);exact⟨'o',by show _<=(12:Int);omega⟩
 ·rw[Jf z,JL z];have h1:=JK (n / 4) (show m2≠0 by omega);have h2:=JI (n / 4) (show 0<m2 by omega);exact⟨'o',by show _<=(400:Int);omega⟩
theorem zjc(cs:List Int)(s:Nat):0<=vU cs s/\vU cs s<=6:=by unfold vU;omega
def zmA:Sp:=λvs H Q _=> ∃(p:Int) (a l:Addr) (xs:List Pl) (f:Int) (dy:Bool) (cc:Int),vs= [.int p, .ref a]/\ux H a l xs f dy cc/\uy xs f dy cc/\0<=p/\p<=6/\ ∀H',zq H H'->Q (.str (SL (txtF p.toNat xs f dy cc))) H'
theorem sc_11:FnScope ["_law_places","_law_account_here","_law_plans","_law_first_here","_law_cycle","_law_rows","_law_name_here","_law_price","_law_count","_law_row"] ["_law_places","_law_account_here"] (zC s_11):=⟨rfl,rfl,rfl,by decide+kernel,rfl,by decide+kernel,by decide+kernel⟩
theorem ok_11(T:Txt K mg t):FnOk P w K mg base (CXE P w) 5 t.a_11 t.d_11 ["_law_places","_law_account_here"] (zmA):=by
 refine T.fn_11.okX sc_11 (λvs H Q E h=> ?_) (λcdv A outer s H vs Q E L hr h=> ?_)
 ·refine opq λ_ kq=> ?_;obtain⟨p,a,l,xs,f,dy,cc,rfl,at_,ok,p0,p1,q⟩:=h;apply kq;rfl
 refine opq λ_ kq=> ?_;obtain⟨p,a,l,xs,f,dy,cc,rfl,at_,ok,p0,p1,q⟩:=h;apply kq;have nd:=sc_11.nd;refine⟨_,(zn (qV (pv 1) (xJ (n:=3) rfl (qf (yO (i:=2) nd rfl (Or.inl rfl)) (qf (yO (i:=3) nd rfl (Or.inl rfl)) (qf (yO (i:=4) nd rfl (Or.inl rfl)) xI))))) (zn (zI (i:=5) nd rfl (Or.inl rfl) (yS (ze (zr qw (zj st_52) (qu vg (by rfl) T.no_str wy (ze (pv 0) zg))) (ze (zr qw (zj st_53) (zu L.toLv (ok_0e T) (hr.mono 'd') (by rfl) T.mg_0e T.fn_0e.kp T.b_0e .nil (ze (pv 3) zg))) (ze (zr qw (zr qw (zr qw (zj st_54) (qu vg (by rfl) T.no_str wy (ze (zt v7 (pv 4) zh (λ_ _=>rfl)) zg))) (zj st_21)) (zt v7 (pv 4) zh (λ_ _=>rfl))) zg qD) qD) qD))) (zn (xx (by passes_own) rfl (qX (pv 2)) (xJ (n:=3) rfl (qf (yO (i:=6) nd rfl (Or.inl rfl)) (qf (yO (i:=7) nd rfl (Or.inl rfl)) (qf (yO (i:=8) nd rfl (Or.inl rfl)) xI)))) (zn (zI (i:=9) nd rfl (Or.inl rfl) (zr qw (zr qw (zr qw (zj st_55) (pv 6)) (zj st_21)) (zu L.toLv (ok_0h T) (hr.mono 'd') (by rfl) T.mg_0h T.fn_0h.kp T.b_0h .nil (ze (pv 7) (ze (pv 0) zg zk) zk)))) (zn (zG (zz qJ (pv 8) zh (zw _)) (zo (zI (i:=9) nd rfl (Or.inl rfl) (zr qw (zr qw (pv 9) (zj st_56)) (qu vg (by rfl) T.no_str wy (ze (pv 8) zg))))) zF) (zo (qc (yU PySem.F.plainAttrs_list PySem.F.slot_list_append PySem.F.type_list_append wI (pv 5) (ze (pv 9) zg))))))) (zo (zD (yU PySem.F.plainAttrs_str PySem.F.slot_str_join PySem.F.type_str_join ug (zj st_29) (ze (pv 5) zg))))))),?_⟩;refine opq λ_ kq=> ?_;obtain⟨pc,zs,h1,h2,h3,rfl,h5⟩:=at_;apply kq;open_k0;refine⟨a,_,rfl,SqT.of h1,rfl,?_⟩;lge_open0
 have ok':=ok;refine opq λ_ kq=> ?_;obtain⟨pok,⟨f0,f1⟩,c0,c1⟩:=ok;have c2:cc<=400:=by split at c1<;>omega
 have pd:=(jm (show p.toNat<=400 by omega)).2.1;have cd:=(jm (show cc.toNat<=400 by omega)).2.1;have cw:(qm dy).length<=6:=by unfold qm;split<;>decide
 obtain⟨y,m,d,va,hn⟩:=Cal.date_exists f0 (show f<=3652058 by omega);apply kq;have ed:dtF f=wg y m d:=Dt.eq ⟨y,m,d,va,hn,rfl⟩;have dl:(wg y m d).length=10:=by simp [wg,vh]
 refine⟨p0,vK 'o' 'o',qj 'o',f,y,m,d,rfl,va,hn,λH1 s1=>⟨_,rfl,qj 'o',?_⟩⟩;refine ixT (SqT.of (s1 _ _ h2)) (yP (j:=1) rfl) ⟨_,rfl,'o',vK 'o' 'o',qj 'o',qj 'o',ixT (SqT.of (s1 _ _ h2)) (yP (j:=0) rfl) ⟨_,rfl,qj (by simp only[Jj,Jp,List.length_nil];omega),λlr H2 fl s2 e2=> ?_⟩⟩;have s12:=s1.trans s2;have zl:zs.length<=8:=by have:=pok.2.1;rwa[Ja] at this
 have zok: ∀z∈zs,wF z.2:=λz hz=>pok.2.2.1 _ (List.mem_map_of_mem hz);have lrf:=s1.free fl
 ((try dsimp only);refine wM λR hR=> ?_;simp only[yw,yu,yL,yv,yN,yM,yK,yt,yI,yJ,yH,ya,yr,yG,zH,zJ,zK,z9,zQ,List.replicate,Option.join_some,Option.join_none,zO,yq,yo,ym,tSl,yk,yj,yy,slT,z4,Int.reduceLT,Int.reduceLE,Int.reduceToNat,Int.reduceNeg,Int.reduceAdd,Int.reduceSub,Int.reduceMul,forall_const,zU,yf,yg,zZ,yx,zY,zS,zL,zR,zV,zW,tC,tOp,rI,rI0,tUn,rU,z5,tB,yb,tOr,yc,zX,yd,ye,tIf,z7,yi,z8,yF,tCB,yp,rEq,rNe,yA,yB,yC,yD,yE,z6,yh,ipI,L2.start,Jz,JN,Jp,List.length_nil,List.cons_append,List.nil_append,Jt,List.replicate_succ,List.replicate_zero,Nat.reduceAdd,Nat.reduceSub,List.getElem?_cons_zero,List.getElem?_cons_succ,List.set_cons_zero,List.set_cons_succ,Option.some.injEq,V.int.injEq,V.bl.injEq,V.ref.injEq,V.str.injEq,exists_eq_left',exists_eq_left,exists_eq',exists_and_left,List.cons.injEq,and_true,true_and,and_self,and_assoc,decide_eq_true_eq,if_true,if_false,Bool.true_eq_false,Js,Bool.not_eq_true',Bool.not_true,Bool.not_false,decide_eq_false_iff_not,ite_true,ite_false,reduceCtorEq,false_and,exists_false,false_or,or_false,and_false,qW,vC,vj,wv,w9,Nat.reduceLeDiff])
 refine⟨⟨_,s12.seq (SqL.of h3)⟩,hR _ _ ?_⟩;clear hR;refine uI (xs:=zs.map (·.1)) (λi σ1 H3=>zq H H3/\H3 lr=some (.lst ((([wV,dg p.toNat]:: [vp,dtF f]:: [wW,dg cc.toNat,qm dy]::((zs.take i).map λz=>plW p.toNat z.2)).map (jn [32])).map λw=>V.str (SL w)))/\ ∃x6 x7 x8 x9,σ1= [some (.int p),some (.ref a),some (.ref l),some (.int f),some (.ref pc),some (.ref lr),x6,x7,x8,x9]) ⟨s12,?_,_,_,_,_,rfl⟩ (λ_ _ _ _ h=>h.1.seq (SqL.of h3)) (λi x σ1 H3 hx h=> ?_) (λσ1 H3 h=> ?_)
 ·rw[e2,ed];simp [jn,wV,vp,wW]
 ·refine opq λ_ kq=> ?_;obtain⟨s3,e3,x6,x7,x8,x9,rfl⟩:=h;rw[Jh] at hx;obtain⟨z,hz,rfl⟩:=Jk.mp hx;have zm:=Ji hz;obtain⟨pz,ez,hp⟩:=h5 z zm;obtain⟨⟨n1,n2,n3⟩,r0,r1,ct0,ct1⟩:=zok z zm;apply kq;rw[ez];refine⟨pz,_,rfl,SqT.of (s3 _ _ hp),rfl,?_⟩;lge_open0
  have nb:z.2.2.1.natAbs<10 ^ 60:=by omega
  have as:=uq nb (show p.toNat<=6 by omega);refine⟨qj 'o',qj 'o',z.2.2.1,p,rfl,p0,p1,'o','o',λH4 s4=>⟨_,rfl,qj (by simp only[Jj,Jp,List.length_nil];omega),?_⟩⟩;have dl:=(jm (show z.2.2.2.toNat<=400 by omega)).2.1;have ln: ∀i,(List.map (λw=>V.str (SL w)) (List.map (jn [32]) ([wV,dg p.toNat]:: [vp,dtF f]:: [wW,dg cc.toNat,qm dy]::List.map (λz=>plW p.toNat z.snd) (List.take i zs)))).length<sizeLine:=λi=>by
   rw[Ja,Ja,Jp,Jp,Jp,Ja,JA];exact Nat.lt_of_le_of_lt (show min i zs.length+1+1+1<=11 by omega) 'd'
  have fin: ∀cs,cs=jn [32] (plW p.toNat z.2)->zh8 (V.ref lr) [V.str (SL cs)] H4 λx H1=>zq H H1/\H1 lr=some (HO.lst (V.str (SL (jn [32] [wV,dg p.toNat]))::V.str (SL (jn [32] [vp,dtF f]))::V.str (SL (jn [32] [wW,dg cc.toNat,qm dy]))::List.map (λw=>V.str (SL w)) (List.map (jn [32]) (List.map (λz=>plW p.toNat z.snd) (List.take (i+1) zs))))):=λcs e=>by
   refine⟨lr,_,_,rfl,rfl,s4 _ _ e3,ln i,vF (s3.trans s4) lrf,?_⟩;rw[zP,e,JG,hz];simp
  refine zA (λc=>⟨qj (by simp only[Jj,Jp,List.length_nil];omega),ct0,vK 'o' 'o',qj (by simp only[Jj,Jp,List.length_nil];omega), .inl ⟨rfl,_,SqL.of (s4 _ _ e3)⟩,fin _ ?_⟩) (λc=>⟨.inl ⟨rfl,_,SqL.of (s4 _ _ e3)⟩,fin _ ?_⟩)
  ·unfold plW;rw[Jf 'o'];simp [jn,xz,vo]
  ·unfold plW;rw[Jg 'o'];simp [jn,xz]
 ·refine opq λ_ kq=> ?_;obtain⟨s3,e3,x6,x7,x8,x9,rfl⟩:=h;apply kq;rw[Ja,JB] at e3;lge_open0
  have ro:=jp (p:=p.toNat) ok' 'o';refine⟨rfl,(rowsW p.toNat (zs.map (λz:V×Pl=>z.2)) f dy cc).map (jn [32]),SqL.of (e3.trans ?_),?_,q _ s3⟩
  ·unfold rowsW;rw[show (zs.map (λz:V×Pl=>z.2)).map (plW p.toNat)=zs.map λz=>plW p.toNat z.2 by rw[List.map_map];rfl]
  ·have h1:=sum_le (b:=315) (ys:=(rowsW p.toNat (zs.map (·.2)) f dy cc).map (jn [32])) λy hy=>by
    obtain⟨ws,hw,rfl⟩:=Jw.mp hy;exact(ro ws hw).len
   have h2:=kY p.toNat (zs.map (·.2)) f dy cc;rw[Ja] at h2;rw[Ja] at h1 ⊢;omega
def RsB(rs:List (List Nat))(n m:Nat):Prop:=rs.length<=n/\ ∀r∈rs,r.length<=m
def yX(rs:List (List Nat)):HO:= .lst (rs.map λw=>V.str (SL w))
def wt(ws:List (List Nat)):Nat:=(ws.map List.length).sum+ws.length
theorem xS(w:List Nat)(ws:List (List Nat)):wt (w::ws)=w.length+1+wt ws:=by
 unfold wt;rw[Jz,List.sum_cons,Jp];omega
theorem kZ(c:Nat): ∀cs,wt (spl c cs)=cs.length+1
 | []=>rfl
 |x::r=>by
  have ih:=kZ c r;rw[spl];split
  ·rw[xS,ih,List.length_nil,Jp];omega
  ·cases e:spl c r with
   |nil=>exact absurd e (jh c r)
   |cons y t=>
    rw[e,xS] at ih;show wt ((x::y)::t)=_;rw[xS,Jp,Jp];omega
theorem zki(a b:List (List Nat)):wt (a++b)=wt a+wt b:=by
 unfold wt;rw[Jd,List.sum_append,Jj];omega
theorem k6(w:List Nat): ∀(ws:List (List Nat)) (k:Nat),wt (ws.set k w)<=wt ws+w.length
 | [],k=>by rw[List.set_nil];omega
 |x::r,0=>by rw[List.set_cons_zero,xS,xS];omega
 |x::r,k+1=>by
  have:=k6 w r k;rw[List.set_cons_succ,xS,xS];omega
theorem zmB(w:List Nat)(ws:List (List Nat))(k:Nat):wt (ws.take k++w::ws.drop k)=wt ws+w.length+1:=by
 rw[zki,xS]
 have:=zki (ws.take k) (ws.drop k);rw[List.take_append_drop] at this;omega
theorem zkj: ∀(ws:List (List Nat)) (k:Nat),wt (ws.eraseIdx k)<=wt ws
 | [],k=>by rw[List.eraseIdx_nil];omega
 |x::r,0=>by rw[List.eraseIdx_cons_zero,xS];omega
 |x::r,k+1=>by
  have:=zkj r k;rw[List.eraseIdx_cons_succ,xS,xS];omega
theorem zlF(ws:List (List Nat)):(jn [32] ws).length<=wt ws:=by
 have:=uB [32] ws;unfold wt;simp only[Jp,List.length_nil] at this;omega
theorem vV{k:Int}(h0:0<=k)(h1:k<n):ixN n k=some k.toNat:=by
 unfold ixN;rw[Jg h0,Jg h1]
theorem uE(rs:List (List Nat))(j:Nat)(w:List Nat):(rs.map λw=>V.str (SL w)).set j (.str (SL w))=(rs.set j w).map λw=>V.str (SL w):=List.map_set.symm
theorem vW(h:RsB rs n m)(i:Nat):(rs.getD i []).length<=m:=by
 rw[Jo];cases e:rs[i]? with
 |none=>exact Jv _
 |some r=>exact h.2 r (Ji e)
theorem RsB.set{rs:List (List Nat)}{n m m':Nat}{w:List Nat}(h:RsB rs n m)(mm:m<=m')(hw:w.length<=m')(i:Nat):RsB (rs.set i w) n m':=by
 refine⟨by rw[List.length_set];exact h.1,λr hr=> ?_⟩;rcases List.mem_or_eq_of_mem_set hr with z|rfl
 ·exact JD (h.2 r z) mm
 ·exact hw
theorem But.put(b:But d H H'):But d H (L2.upd H' d o):=b.trans But.upd
theorem But.new{p:Addr}(b:But d H H')(f:H p=none):But d H (L2.upd H' p o):=λx u n e=>by
 rw[zT (xw e f)];exact b x u n e
def zkk:Sp:=λvs H Q _=> ∃(l:Addr) (rs:List (List Nat)) (at_:Int) (w:List Nat) (k:Int) (n m:Nat),vs= [.ref l, .int at_, .str (SL w), .int k]/\H l=some (yX rs)/\RsB rs n m/\n<=1000/\m<=20000/\0<=at_/\at_<rs.length/\0<=k/\w.length<=62/\ ∀rs' H',But l H H'->H' l=some (yX rs')->rs'.length=rs.length->RsB rs' n (m+70)->Q .non H'
theorem sc_12:FnScope ["_law_rows","_law_at","_law_word","_law_k","_law_words_here"] ["_law_rows","_law_at","_law_word","_law_k"] (zC s_12):=⟨rfl,rfl,rfl,by decide+kernel,rfl,by decide+kernel,by decide+kernel⟩
theorem ok_12(T:Txt K mg t):FnOk P w K mg base (CXE P w) 1 t.a_12 t.d_12 ["_law_rows","_law_at","_law_word","_law_k"] (zkk):=by
 refine T.fn_12.okX sc_12 (λvs H Q E h=> ?_) (λcdv A outer s H vs Q E L hr h=> ?_)
 ·refine opq λ_ kq=> ?_;obtain⟨l,rs,at_,w,k,n,m,rfl,hl,hb,n1,m1,a0,a1,k0,wl,q⟩:=h;apply kq;rfl
 refine opq λ_ kq=> ?_;obtain⟨l,rs,at_,w,k,n,m,rfl,hl,hb,n1,m1,a0,a1,k0,wl,q⟩:=h;apply kq;have nd:=sc_12.nd;refine⟨_,(zn (zI (i:=4) nd rfl (Or.inl rfl) (yU PySem.F.plainAttrs_str PySem.F.slot_str_split PySem.F.type_str_split wT (zt zy (pv 0) (pv 1) (λ_ _=>rfl)) (ze (zj st_21) zg))) (zn (qv (zG (zz xj (pv 3) (zM y8 (by rfl) T.no_len yR (ze (pv 4) zg)) (zw _)) (zo (qV (pv 2) (w8 (pv 4) (pv 3) set_list))) zF)) (zo (qV (yU PySem.F.plainAttrs_str PySem.F.slot_str_join PySem.F.type_str_join ug (zj st_21) (ze (pv 4) zg)) (w8 (pv 0) (pv 1) set_list))))),?_⟩;lge_open0
 have r0:=vW hb at_.toNat;refine ixL (SqL.of hl) (at_strs a0 a1) ⟨rfl,_,rfl,'o',λp H1 fp s1 e1=> ?_⟩;have pl:p≠l:=λz=>by rw[z,hl] at fp;cases fp
 obtain⟨R,hR⟩: ∃R:St->Hp->Prop,R=λσ' H'=> ∃ws,But l H H'/\H' l=some (yX rs)/\H' p=some (yX ws)/\wt ws<=m+63/\σ'= [some (.ref l),some (.int at_),some (.str (SL w)),some (.int k),some (.ref p)]:=⟨_,rfl⟩
 refine⟨R,?_,λσ' H' h'=> ?_⟩
 ·simp only[yw,yu,yL,yv,yN,yM,yK,yt,yI,yJ,yH,ya,yr,yG,zH,zJ,zK,z9,zQ,List.replicate,Option.join_some,Option.join_none,zO,yq,yo,ym,tSl,yk,yj,yy,slT,z4,Int.reduceLT,Int.reduceLE,Int.reduceToNat,Int.reduceNeg,Int.reduceAdd,Int.reduceSub,Int.reduceMul,forall_const,zU,yf,yg,zZ,yx,zY,zS,zL,zR,zV,zW,tC,tOp,rI,rI0,tUn,rU,z5,tB,yb,tOr,yc,zX,yd,ye,tIf,z7,yi,z8,yF,tCB,yp,rEq,rNe,yA,yB,yC,yD,yE,z6,yh,ipI,L2.start,Jz,JN,Jp,List.length_nil,List.cons_append,List.nil_append,Jt,List.replicate_succ,List.replicate_zero,Nat.reduceAdd,Nat.reduceSub,List.getElem?_cons_zero,List.getElem?_cons_succ,List.set_cons_zero,List.set_cons_succ,Option.some.injEq,V.int.injEq,V.bl.injEq,V.ref.injEq,V.str.injEq,exists_eq_left',exists_eq_left,exists_eq',exists_and_left,List.cons.injEq,and_true,true_and,and_self,and_assoc,decide_eq_true_eq,if_true,if_false,Bool.true_eq_false,Js,Bool.not_eq_true',Bool.not_true,Bool.not_false,decide_eq_false_iff_not,ite_true,ite_false,reduceCtorEq,false_and,exists_false,false_or,or_false,and_false,Nat.reduceLeDiff,xU,xX];rw[hR];have w0:=kZ 32 (rs.getD at_.toNat []);refine⟨_, .inl (SqL.of e1),zA (λh=>⟨_,e1,_,vV k0 h,(spl 32 (rs.getD at_.toNat [])).set k.toNat w,(But.of s1).new fp,?_,?_,?_,rfl⟩) (λh=>⟨_,But.of s1,s1 _ _ hl,e1,'o',rfl⟩)⟩
  ·rw[zT (Ne.symm pl)];exact s1 _ _ hl
  ·rw[zP,uE];rfl
  ·have:=k6 w (spl 32 (rs.getD at_.toNat [])) k.toNat;omega
 ·rw[hR] at h';refine opq λ_ kq=> ?_;obtain⟨ws,b1,e2,e3,w2,rfl⟩:=h';apply kq;simp only[yw,yu,yL,yv,yN,yM,yK,yt,yI,yJ,yH,ya,yr,yG,zH,zJ,zK,z9,zQ,List.replicate,Option.join_some,Option.join_none,zO,yq,yo,ym,tSl,yk,yj,yy,slT,z4,Int.reduceLT,Int.reduceLE,Int.reduceToNat,Int.reduceNeg,Int.reduceAdd,Int.reduceSub,Int.reduceMul,forall_const,zU,yf,yg,zZ,yx,zY,zS,zL,zR,zV,zW,tC,tOp,rI,rI0,tUn,rU,z5,tB,yb,tOr,yc,zX,yd,ye,tIf,z7,yi,z8,yF,tCB,yp,rEq,rNe,yA,yB,yC,yD,yE,z6,yh,ipI,L2.start,Jz,JN,Jp,List.length_nil,List.cons_append,List.nil_append,Jt,List.replicate_succ,List.replicate_zero,Nat.reduceAdd,Nat.reduceSub,List.getElem?_cons_zero,List.getElem?_cons_succ,List.set_cons_zero,List.set_cons_succ,Option.some.injEq,V.int.injEq,V.bl.injEq,V.ref.injEq,V.str.injEq,exists_eq_left',exists_eq_left,exists_eq',exists_and_left,List.cons.injEq,and_true,true_and,and_self,and_assoc,decide_eq_true_eq,if_true,if_false,Bool.true_eq_false,Js,Bool.not_eq_true',Bool.not_true,Bool.not_false,decide_eq_false_iff_not,ite_true,ite_false,reduceCtorEq,false_and,exists_false,false_or,or_false,and_false,Nat.reduceLeDiff,xU,xX,tBM];have jl:=zlF ws;refine⟨rfl,ws,SqL.of e3,by unfold wt at w2;omega,_,e2,_,vV a0 (by rw[Ja];exact a1),q (rs.set at_.toNat (jn [32] ws)) _ b1.put ?_ List.length_set (hb.set 'o' 'o' _)⟩;rw[zP,uE];rfl
def LOk(P:Prop)(rs:List (List Nat))(n m:Nat)(rs':List (List Nat)):Prop:=(P/\RsB rs' (n+1) m/\rs.length<=rs'.length+1)\/(¬P/\rs'=rs)
theorem RsB.up{n' m':Nat}(h:RsB rs n m)(a:n<=n')(b:m<=m'):RsB rs n' m':=⟨JD h.1 a,λr hr=>JD (h.2 r hr) b⟩
theorem RsB.ins{w:List Nat}(h:RsB rs n m)(hw:w.length<=m)(i:Nat):RsB (rs.take i++w::rs.drop i) (n+1) m:=by
 refine⟨?_,λr hr=> ?_⟩
 ·have:=h.1;rw[Jj,Jp,JA,List.length_drop];omega
 ·rcases Jr.mp hr with z|z
  ·exact h.2 r (List.mem_of_mem_take z)
  ·rcases JC.mp z with rfl|z
   ·exact hw
   ·exact h.2 r (List.mem_of_mem_drop z)
theorem jt(rs:List (List Nat))(w:List Nat)(i:Nat):(rs.take i++w::rs.drop i).length=rs.length+1:=by
 rw[Jj,Jp,JA,List.length_drop];omega
theorem RsB.del(h:RsB rs n m)(i:Nat):RsB (rs.eraseIdx i) n m:=⟨JD (List.eraseIdx_sublist rs i).length_le h.1,λr hr=>h.2 r ((List.eraseIdx_sublist rs i).subset hr)⟩
theorem zlj(rs:List (List Nat))(w:List Nat)(i:Nat):(rs.map λw=>V.str (SL w)).take i++V.str (SL w)::(rs.map λw=>V.str (SL w)).drop i=(rs.take i++w::rs.drop i).map λw=>V.str (SL w):=by
 rw[Jd,Jz,List.map_take,List.map_drop]
theorem zlk(rs:List (List Nat))(i:Nat):(rs.map λw=>V.str (SL w)).eraseIdx i=(rs.eraseIdx i).map λw=>V.str (SL w):=by
 rw[List.eraseIdx_eq_take_drop_succ,List.eraseIdx_eq_take_drop_succ,Jd,List.map_take,List.map_drop]
theorem zin{i:Nat}(h:i<rs.length):(rs.eraseIdx i).length+1=rs.length:=by rw[List.length_eraseIdx_of_lt h];omega
theorem zmC(h0:0<=i)(h1:i<rs.length):(rs.map λw=>V.str (SL w))[i.toNat]? =some (.str (SL (rs.getD i.toNat []))):=by
 rw[Jh,Jb 'o',Jo,Jb 'o'];rfl
theorem k7(e:H l=some (yX rs))(h0:0<=i)(h1:i<rs.length)(hl:rs.length<=50000)(q:Q (.str (SL (rs.getD i.toNat []))) (upd H l (yX (rs.eraseIdx i.toNat)))):zjs (.ref l) [.int i] H Q:=by
 refine⟨l,_,i,i.toNat,_,rfl,rfl,e,'o','o',(jK (vV h0 (by rw[Ja];exact h1))).1,zmC h0 h1,?_⟩;rw[zlk];exact q
theorem ju{w:List Nat}(e:H l=some (yX rs))(h0:0<=i)(h1:i<=rs.length)(hl:rs.length<=50000)(q:Q .non (upd H l (yX (rs.take i.toNat++w::rs.drop i.toNat)))):zig (.ref l) [.int i, .str (SL w)] H Q:=by
 refine⟨l,_,i,_,rfl,rfl,e,h0,by rw[Ja];exact h1,by rw[Ja];omega,?_⟩;rw[zlj];exact q
def zlm:Sp:=λvs H Q _=> ∃(l:Addr) (rs:List (List Nat)) (way at_:Int) (n m:Nat),vs= [.ref l, .int way, .int at_]/\H l=some (yX rs)/\RsB rs n m/\n<=1000/\m<=20000/\0<=at_/\at_<rs.length/\0<=way/\way<22/\ ∀rs' H',But l H H'->H' l=some (yX rs')->rs.length<=rs'.length+1->RsB rs' (n+1) m->Q .non H'
theorem sc_13:FnScope ["_law_rows","_law_way","_law_at"] ["_law_rows","_law_way","_law_at"] (zC s_13):=⟨rfl,rfl,rfl,by decide+kernel,rfl,by decide+kernel,by decide+kernel⟩
theorem ok_13(T:Txt K mg t):FnOk P w K mg base (CXE P w) 1 t.a_13 t.d_13 ["_law_rows","_law_way","_law_at"] (zlm):=by
 refine T.fn_13.okX sc_13 (λvs H Q E h=> ?_) (λcdv A outer s H vs Q E L hr h=> ?_)
 ·refine opq λ_ kq=> ?_;obtain⟨l,rs,way,at_,n,m,rfl,hl,hb,n1,m1,a0,a1,w0,w1,q⟩:=h;apply kq;rfl
 refine opq λ_ kq=> ?_;obtain⟨l,rs,way,at_,n,m,rfl,hl,hb,n1,m1,a0,a1,w0,w1,q⟩:=h;apply kq;have nd:=sc_13.nd;refine⟨_,(zn (qv (zG (zz yQ (pv 1) zh (zw _)) (zo (qc (yU PySem.F.plainAttrs_list PySem.F.slot_list_pop PySem.F.type_list_pop jO (pv 0) (ze (pv 2) zg)))) zF)) (zn (qv (zG (zz yQ (pv 1) zh (zw _)) (zo (qc (yU PySem.F.plainAttrs_list PySem.F.slot_list_insert PySem.F.type_list_insert jj (pv 0) (ze (pv 2) (ze (zt zy (pv 0) (pv 2) (λ_ _=>rfl)) zg y9) zk)))) zF)) (zn (qv (zG (jA (zz yQ (pv 1) zh (zw _)) (jz (zz xj (zr y0 (pv 2) zh) (zM y8 (by rfl) T.no_len yR (ze (pv 0) zg)) (zw _)))).pt (zo (qc (yU PySem.F.plainAttrs_list PySem.F.slot_list_insert PySem.F.type_list_insert jj (pv 0) (ze (pv 2) (ze (yU PySem.F.plainAttrs_list PySem.F.slot_list_pop PySem.F.type_list_pop jO (pv 0) (ze (zr y0 (pv 2) zh) zg)) zg qh) zk)))) zF)) (zo (zG (zz qJ (pv 1) zh (zw _)) (zo (qc (yU PySem.F.plainAttrs_list PySem.F.slot_list_insert PySem.F.type_list_insert jj (pv 0) (ze (zt zy (yS (ze zh (ze (zM y8 (by rfl) T.no_len yR (ze (pv 0) zg)) zg qh) zi)) (zr xV (pv 1) zh) (λ_ _=>rfl)) (ze (zj st_14) zg zi) y9)))) zF))))),?_⟩;lge_open0
 have rl:=hb.1;obtain⟨Rf,hRf⟩: ∃Rf:Prop->St->Hp->Prop,Rf=λP σ' H'=> ∃rs',But l H H'/\H' l=some (yX rs')/\LOk P rs n m rs'/\σ'= [some (.ref l),some (.int way),some (.int at_)]:=⟨_,rfl⟩
 have b0:But l H H:=λ_ _ _ e=>e;refine⟨Rf (way=1),?_,λσ1 H1 h1=> ?_⟩
 ·lge_open0
  rw[hRf];refine zA (λh=>⟨.inl ⟨rfl,_,SqL.of hl⟩,k7 hl a0 a1 'o' ⟨_,b0.put,zP, .inl ⟨h,(hb.del _).up 'o' (Je _),?_⟩,rfl⟩⟩) (λh=>⟨rs,b0,hl, .inr ⟨h,rfl⟩,rfl⟩)
  have:=zin (rs:=rs) (i:=at_.toNat) 'o';omega
 rw[hRf] at h1;refine opq λ_ kq=> ?_;obtain⟨rs1,b1,e1,k1,rfl⟩:=h1;apply kq;lge_open0
 refine⟨Rf (way=1\/way=2),?_,λσ2 H2 h2=> ?_⟩
 ·lge_open0
  rw[hRf];refine zA (λh=>⟨.inl ⟨rfl,_,SqL.of e1⟩,?_⟩) (λh=>⟨rs1,b1,e1,k1.elim (λz=> .inl ⟨.inl z.1,z.2⟩) (λz=> .inr ⟨λy=>y.elim z.1 h,z.2⟩),rfl⟩);obtain rfl:rs1=rs:=k1.elim (λz=>absurd z.1 'o') (·.2);refine ixL (SqL.of e1) (at_strs a0 a1) (ju e1 a0 'o' 'o' ⟨_,b1.put,zP, .inl ⟨.inr h,hb.ins (vW hb _) _,?_⟩,rfl⟩);rw[jt];omega
 rw[hRf] at h2;refine opq λ_ kq=> ?_;obtain⟨rs2,b2,e2,k2,rfl⟩:=h2;apply kq;lge_open0
 refine⟨Rf (way=1\/way=2\/way=3),?_,λσ3 H3 h3=> ?_⟩
 ·lge_open0
  rw[hRf];refine zA (λh=> ?_) (λh=>⟨rs2,b2,e2,k2.elim (λz=> .inl ⟨z.1.elim .inl λy=> .inr (.inl y),z.2⟩) (λz=> .inr ⟨λy=>y.elim (λy=>z.1 (.inl y)) λy=>y.elim (λy=>z.1 (.inr y)) h,z.2⟩),rfl⟩);obtain rfl:rs2=rs:=k2.elim (λz=>absurd z.1 'o') (·.2);refine⟨_, .inl (SqL.of e2),zA (λh4=>⟨.inl ⟨rfl,_,SqL.of e2⟩, .inl ⟨rfl,_,SqL.of e2⟩,?_⟩) (λ_=>⟨rs2,b2,e2, .inl ⟨.inr (.inr h),hb.up 'o' (Je _),'o'⟩,rfl⟩)⟩;rw[Ja] at h4;have dl:=zin (rs:=rs2) (i:=(at_+1).toNat) 'o';refine k7 e2 'o' h4 'o' (ju zP a0 'o' 'o' ⟨_,b2.put.put,zP, .inl ⟨.inr (.inr h),(hb.del _).ins (vW hb _) _,?_⟩,rfl⟩);rw[jt];omega
 rw[hRf] at h3;refine opq λ_ kq=> ?_;obtain⟨rs3,b3,e3,k3,rfl⟩:=h3;apply kq;lge_open0
 refine zA (λh=>⟨.inl ⟨rfl,_,SqL.of e3⟩,_, .inl (SqL.of e3),λp H4 fp s4 e4=> ?_⟩) (λh=> ?_)
 ·obtain rfl:rs3=rs:=k3.elim (λz=>absurd z.1 'o') (·.2);rw[Ja] at e4;refine ixL (xs:=([0,(rs3.length:Int)]:List Int).map V.int) (SqL.of e4) (wA 'o' (show way - 20<((2:Nat):Int) by omega)) ?_;have gi:=xK (xs:=([0,(rs3.length:Int)]:List Int)) (lo:=0) (hi:=rs3.length) (λx hx=>by
   simp only[JC,List.not_mem_nil,or_false] at hx;rcases hx with rfl|rfl<;>omega) (i:=way - 20) 'o' (by show way - 20<((2:Nat):Int);omega)
  generalize ([0,(rs3.length:Int)]:List Int).getD (way - 20).toNat 0=j at*;refine ju (s4 _ _ e3) gi.1 gi.2 'o' (q _ _ (b3.trans (But.of s4)).put zP ?_ (hb.ins (Jv _) _));rw[jt];omega
 ·rcases k3 with z|z
  ·exact q _ _ b3 e3 z.2.2 z.2.1
  ·rw[z.2] at e3;exact q _ _ b3 e3 'o' (hb.up 'o' (Je _))
theorem xT(ws:List (List Nat))(h0:0<=i)(h1:i<ws.length)(q: ∀w H',w∈ws->zq H H'->Q (.str (SL w)) H'):New H (.lst (ws.map λw=>V.str (SL w))) λx H1=>vf K x (.int i) H1 Q:=λp H1 _ s1 e1=>by
 refine ixL (SqL.of e1) (at_strs h0 h1) (q _ _ ?_ s1);rw[Jo,Jb 'o'];exact List.getElem_mem _
theorem xB{b:Nat}(h:ws.all (λw=>decide (w.length<=b))=true){w:List Nat}(hw:w∈ws):w.length<=b:=of_decide_eq_true (List.all_eq_true.mp h w hw)
theorem zmE(ws:List (List Nat)):ws.length<=wt ws:=by unfold wt;omega
def zln:Sp:=λvs H Q _=> ∃(l:Addr) (rs:List (List Nat)) (way at_ cell:Int) (n m:Nat),vs= [.ref l, .int way, .int at_, .int cell]/\H l=some (yX rs)/\RsB rs n m/\n<=1000/\m<=20000/\0<=at_/\at_<rs.length/\ ∀rs' H',But l H H'->H' l=some (yX rs')->rs'.length=rs.length->RsB rs' n (m+20)->Q .non H'
theorem sc_14:FnScope ["_law_rows","_law_way","_law_at","_law_cell","_law_words_here","_law_k"] ["_law_rows","_law_way","_law_at","_law_cell"] (zC s_14):=⟨rfl,rfl,rfl,by decide+kernel,rfl,by decide+kernel,by decide+kernel⟩
theorem ok_14(T:Txt K mg t):FnOk P w K mg base (CXE P w) 1 t.a_14 t.d_14 ["_law_rows","_law_way","_law_at","_law_cell"] (zln):=by
 refine T.fn_14.okX sc_14 (λvs H Q E h=> ?_) (λcdv A outer s H vs Q E L hr h=> ?_)
 ·refine opq λ_ kq=> ?_;obtain⟨l,rs,way,at_,cell,n,m,rfl,hl,hb,n1,m1,a0,a1,q⟩:=h;apply kq;rfl
 refine opq λ_ kq=> ?_;obtain⟨l,rs,way,at_,cell,n,m,rfl,hl,hb,n1,m1,a0,a1,q⟩:=h;apply kq;have nd:=sc_14.nd;refine⟨_,(zn (zI (i:=4) nd rfl (Or.inl rfl) (yU PySem.F.plainAttrs_str PySem.F.slot_str_split PySem.F.type_str_split wT (zt zy (pv 0) (pv 2) (λ_ _=>rfl)) (ze (zj st_21) zg))) (zn (zI (i:=5) nd rfl (Or.inl rfl) (zr y6 (pv 3) (zM y8 (by rfl) T.no_len yR (ze (pv 4) zg)))) (zn (qv (zG (zz yQ (pv 1) zh (zw _)) (zo (qc (yU PySem.F.plainAttrs_list PySem.F.slot_list_insert PySem.F.type_list_insert jj (pv 4) (ze (zr y6 (pv 3) (zr y0 (zM y8 (by rfl) T.no_len yR (ze (pv 4) zg)) zh)) (ze (zt zy (yS (ze (zj st_59) (ze (zj st_32) (ze (zj st_60) (ze (zj st_14) (ze (zj st_33) zg zi) zi) zi) zi) zi)) (zr y6 (zr vc (pv 3) zh) zh) (λ_ _=>rfl)) zg y9) qD)))) zF)) (zn (qv (zG (zz yQ (pv 1) zh (zw _)) (zo (qc (yU PySem.F.plainAttrs_list PySem.F.slot_list_pop PySem.F.type_list_pop jO (pv 4) (ze (pv 5) zg)))) zF)) (zn (qv (zG (zz yQ (pv 1) zh (zw _)) (zo (qV (zt zy (yS (ze (zj st_57) (ze (zj st_58) (ze (zj st_14) (ze (zj st_49) (ze (zj st_48) (ze (zj st_33) zg zi) zi) zi) zi) zi) zi)) (zr y6 (pv 3) zh) (λ_ _=>rfl)) (w8 (pv 4) zh set_list))) zF)) (zo (qV (yU PySem.F.plainAttrs_str PySem.F.slot_str_join PySem.F.type_str_join ug (zj st_21) (ze (pv 4) zg)) (w8 (pv 0) (pv 2) set_list)))))))),?_⟩;lge_open0
 have r0:=vW hb at_.toNat;refine ixL (SqL.of hl) (at_strs a0 a1) ⟨rfl,_,rfl,'o',λp H1 fp s1 e1=> ?_⟩;have pl:p≠l:=λz=>by rw[z,hl] at fp;cases fp
 have w0:=kZ 32 (rs.getD at_.toNat []);have n0:=List.length_pos_iff.mpr (jh 32 (rs.getD at_.toNat []));have n9:=wS 32 (rs.getD at_.toNat []);generalize spl 32 (rs.getD at_.toNat [])=ws0 at*;refine⟨p,rfl,_, .inl (SqL.of e1),by rw[Ja];omega,?_⟩;rw[Ja];obtain⟨k,hk⟩: ∃k:Int,k=cell % (ws0.length:Int):=⟨_,rfl⟩
 have k0:0<=k:=by rw[hk];exact JK _ 'o'
 have k1:k<ws0.length:=by rw[hk];exact JI _ 'o'
 rw[<-hk];obtain⟨Rf,hRf⟩: ∃Rf:Nat->St->Hp->Prop,Rf=λc σ' H'=> ∃ws,But l H H'/\H' l=some (yX rs)/\H' p=some (yX ws)/\wt ws<=m+c/\(c<=7->ws0.length<=ws.length)/\(way≠5->0<ws.length)/\σ'= [some (.ref l),some (.int way),some (.int at_),some (.int cell),some (.ref p),some (.int k)]:=⟨_,rfl⟩
 refine⟨Rf 7,?_,λσ2 H2 h2=> ?_⟩
 ·lge_open0
  rw[hRf];refine zA (λh=>⟨.inl ⟨rfl,_,SqL.of e1⟩,_, .inl (SqL.of e1),'o',xT [[120], [112,101,114], [49], [], [112,108,97,110]] 'o' (show cell / 8 % 5<((5:Nat):Int) by omega) λw H2 hw s2=> ?_⟩) (λh=>⟨ws0,But.of s1,s1 _ _ hl,e1,'o',λ_=>Je _,λ_=>n0,rfl⟩);rw[Ja];have wl:=xB (b:=4) 'd' hw;have wi:=zmB w ws0 (cell % ((ws0.length:Int)+1)).toNat;have il:=jt ws0 w (cell % ((ws0.length:Int)+1)).toNat;refine ju (s2 _ _ e1) (JK _ 'o') (by have:=JI cell (show 0<(ws0.length:Int)+1 by omega);omega) 'o' ⟨_,(But.of (s1.trans s2)).new fp,?_,zP,'o',λ_=>by omega,λ_=>by omega,rfl⟩;rw[zT (Ne.symm pl)];exact s2 _ _ (s1 _ _ hl)
 rw[hRf] at h2;refine opq λ_ kq=> ?_;obtain⟨ws2,b2,e2,d2,w2,l2,g2,rfl⟩:=h2;apply kq;have l2:=l2 (Je _);have q2:=zmE ws2;lge_open0
 refine⟨Rf 8,?_,λσ3 H3 h3=> ?_⟩
 ·lge_open0
  rw[hRf];refine zA (λh=>⟨.inl ⟨rfl,_,SqL.of d2⟩,k7 d2 k0 'o' 'o' ⟨_,b2.new fp,?_,zP,by have:=zkj ws2 k.toNat;omega,λz=>absurd z 'd',λz=>absurd h z,rfl⟩⟩) (λh=>⟨ws2,b2,e2,d2,'o',λz=>absurd z 'd',g2,rfl⟩);rw[zT (Ne.symm pl)];exact e2
 rw[hRf] at h3;refine opq λ_ kq=> ?_;obtain⟨ws3,b3,e3,d3,w3,_,g3,rfl⟩:=h3;apply kq;lge_open0
 refine⟨Rf 15,?_,λσ4 H4 h4=> ?_⟩
 ·simp only[yw,yu,yL,yv,yN,yM,yK,yt,yI,yJ,yH,ya,yr,yG,zH,zJ,zK,z9,zQ,List.replicate,Option.join_some,Option.join_none,zO,yq,yo,ym,tSl,yk,yj,yy,slT,z4,Int.reduceLT,Int.reduceLE,Int.reduceToNat,Int.reduceNeg,Int.reduceAdd,Int.reduceSub,Int.reduceMul,forall_const,zU,yf,yg,zZ,yx,zY,zS,zL,zR,zV,zW,tC,tOp,rI,rI0,tUn,rU,z5,tB,yb,tOr,yc,zX,yd,ye,tIf,z7,yi,z8,yF,tCB,yp,rEq,rNe,yA,yB,yC,yD,yE,z6,yh,ipI,L2.start,Jz,JN,Jp,List.length_nil,List.cons_append,List.nil_append,Jt,List.replicate_succ,List.replicate_zero,Nat.reduceAdd,Nat.reduceSub,List.getElem?_cons_zero,List.getElem?_cons_succ,List.set_cons_zero,List.set_cons_succ,Option.some.injEq,V.int.injEq,V.bl.injEq,V.ref.injEq,V.str.injEq,exists_eq_left',exists_eq_left,exists_eq',exists_and_left,List.cons.injEq,and_true,true_and,and_self,and_assoc,decide_eq_true_eq,if_true,if_false,Bool.true_eq_false,Js,Bool.not_eq_true',Bool.not_true,Bool.not_false,decide_eq_false_iff_not,ite_true,ite_false,reduceCtorEq,false_and,exists_false,false_or,or_false,and_false,Nat.reduceLeDiff,tBM,xU,xX];rw[hRf];refine zA (λh=>xT [[80,108,97,99,101,115], [112,108,97,110,115], [], [101,118,101,114,121], [102,105,114,115,116], [112,108,97,110]] 'o' (show cell % 6<((6:Nat):Int) by omega) λw H4 hw s4=> ?_) (λh=>⟨ws3,b3,e3,d3,'o',λz=>absurd z 'd',g3,rfl⟩);have wl:=xB (b:=6) 'd' hw;have g:=g3 'o';have ws:=k6 w ws3 0;refine⟨_,s4 _ _ d3,0,vV (Jy _) (by rw[Ja];omega),ws3.set 0 w,(b3.trans (But.of s4)).new fp,?_,?_,'o',λz=>absurd z 'd',λ_=>by rw[List.length_set];exact g,rfl⟩
  ·rw[zT (Ne.symm pl)];exact s4 _ _ e3
  ·rw[zP,uE];rfl
 rw[hRf] at h4;refine opq λ_ kq=> ?_;obtain⟨ws4,b4,e4,d4,w4,_,g4,rfl⟩:=h4;apply kq;simp only[yw,yu,yL,yv,yN,yM,yK,yt,yI,yJ,yH,ya,yr,yG,zH,zJ,zK,z9,zQ,List.replicate,Option.join_some,Option.join_none,zO,yq,yo,ym,tSl,yk,yj,yy,slT,z4,Int.reduceLT,Int.reduceLE,Int.reduceToNat,Int.reduceNeg,Int.reduceAdd,Int.reduceSub,Int.reduceMul,forall_const,zU,yf,yg,zZ,yx,zY,zS,zL,zR,zV,zW,tC,tOp,rI,rI0,tUn,rU,z5,tB,yb,tOr,yc,zX,yd,ye,tIf,z7,yi,z8,yF,tCB,yp,rEq,rNe,yA,yB,yC,yD,yE,z6,yh,ipI,L2.start,Jz,JN,Jp,List.length_nil,List.cons_append,List.nil_append,Jt,List.replicate_succ,List.replicate_zero,Nat.reduceAdd,Nat.reduceSub,List.getElem?_cons_zero,List.getElem?_cons_succ,List.set_cons_zero,List.set_cons_succ,Option.some.injEq,V.int.injEq,V.bl.injEq,V.ref.injEq,V.str.injEq,exists_eq_left',exists_eq_left,exists_eq',exists_and_left,List.cons.injEq,and_true,true_and,and_self,and_assoc,decide_eq_true_eq,if_true,if_false,Bool.true_eq_false,Js,Bool.not_eq_true',Bool.not_true,Bool.not_false,decide_eq_false_iff_not,ite_true,ite_false,reduceCtorEq,false_and,exists_false,false_or,or_false,and_false,Nat.reduceLeDiff,tBM,xU,xX];have jl:=zlF ws4;refine⟨rfl,ws4,SqL.of d4,by unfold wt at w4;omega,_,e4,_,vV a0 (by rw[Ja];exact a1),q (rs.set at_.toNat (jn [32] ws4)) _ b4.put ?_ List.length_set (hb.set 'o' 'o' _)⟩;rw[zP,uE];rfl
def zmF:Sp:=λvs H Q _=> ∃(l:Addr) (rs:List (List Nat)) (way cell:Int) (n m:Nat),vs= [.ref l, .int way, .int cell]/\H l=some (yX rs)/\RsB rs n m/\n<=1000/\m<=10000/\3<rs.length/\ ∀rs' H',But l H H'->H' l=some (yX rs')->rs'.length=rs.length->RsB rs' n (m+420)->Q .non H'
theorem swR{at_ k:Int}{w:List Nat}{Q:VK}{E:XK}(e:H l=some (yX rs))(hb:RsB rs n m)(n1:n<=1000)(m1:m<=20000)(a0:0<=at_)(a1:at_<rs.length)(k0:0<=k)(wl:w.length<=62)
  (q: ∀rs' H',But l H H'->H' l=some (yX rs')->rs'.length=rs.length->RsB rs' n (m+70)->Q .non H'):zkk [.ref l, .int at_, .str (SL w), .int k] H Q E:=⟨l,rs,at_,w,k,n,m,rfl,e,hb,n1,m1,a0,a1,k0,wl,q⟩
theorem zm7{K:Fg}(us:List (List Nat)){last:Int}{Q':Hp->Prop}(e:H l=some (yX rs))(hb:RsB rs n m)(m1:m<=20000)(a0:0<=last)(a1:last<rs.length)(i0:0<=i)(i1:i<us.length)(ul:us.all (λw=>decide (w.length<=60))=true)
  (q: ∀rs' H',But l H H'->H' l=some (yX rs')->rs'.length=rs.length->RsB rs' n (m+70)->Q' H'):
  vf K (.ref l) (.int last) H λx H1=>tyV K "str" x H1/\ ∃cs,x=V.str (SL cs)/\([32,112,101,114,32]:List Nat)≠ []/\cs.length<=100000/\ ∀ws:List (List Nat),ws≠ []->(∀w∈ws,w.length<=cs.length)->New H1 (.lst (ws.map λw=>V.str (SL w))) λx H1=>
   vf K x (.int 0) H1 λx H1=>New H1 (.lst (us.map λw=>V.str (SL w))) λx1 H1=>vf K x1 (.int i) H1 λy H2=> ∃a,x=V.str (SL a)/\ ∃z,y=V.str (SL z)/\a.length+z.length<=sizeLine/\ ∃x2,H2 l=some (.lst x2)/\ ∃x3,ixN x2.length last=some x3/\Q' (upd H2 l (.lst (x2.set x3 (.str (SL (a++z)))))):=by
 have r0:=vW hb last.toNat;refine ixL (SqL.of e) (at_strs a0 a1) ⟨rfl,_,rfl,'d','o',λws wn wl p H1 fp s1 e1=> ?_⟩;have wp:=List.length_pos_iff.mpr wn;refine ixL (SqL.of e1) (at_strs (Jy _) 'o') (xT us i0 i1 λw H2 hw s2=>⟨_,rfl,_,rfl,?_,_,s2 _ _ (s1 _ _ e),_,vV a0 (by rw[Ja];exact a1),?_⟩)
 ·have h1:=wl (ws.getD (0:Int).toNat []) (by
   rw[Jo,Jb (by exact wp)];exact List.getElem_mem _)
  have h2:=xB ul hw;exact qM 'o'
 ·have h1:=wl (ws.getD (0:Int).toNat []) (by
   rw[Jo,Jb (by exact wp)];exact List.getElem_mem _)
  have h2:=xB ul hw;refine q (rs.set last.toNat (ws.getD (0:Int).toNat []++w)) _ (But.of (s1.trans s2)).put ?_ List.length_set (hb.set 'o' (by rw[Jj];omega) _);rw[zP,uE];rfl
theorem sc_15:FnScope ["_law_rows","_law_way","_law_cell","_law_last","_law_date"] ["_law_rows","_law_way","_law_cell"] (zC s_15):=⟨rfl,rfl,rfl,by decide+kernel,rfl,by decide+kernel,by decide+kernel⟩
theorem ok_15(T:Txt K mg t):FnOk P w K mg base (CXE P w) 2 t.a_15 t.d_15 ["_law_rows","_law_way","_law_cell"] (zmF):=by
 refine T.fn_15.okX sc_15 (λvs H Q E h=> ?_) (λcdv A outer s H vs Q E L hr h=> ?_)
 ·refine opq λ_ kq=> ?_;obtain⟨l,rs,way,cell,n,m,rfl,hl,hb,n1,m1,r3,q⟩:=h;apply kq;rfl
 refine opq λ_ kq=> ?_;obtain⟨l,rs,way,cell,n,m,rfl,hl,hb,n1,m1,r3,q⟩:=h;apply kq;have nd:=sc_15.nd;refine⟨_,(zn (zI (i:=3) nd rfl (Or.inl rfl) (zr xV (zM y8 (by rfl) T.no_len yR (ze (pv 0) zg)) zh)) (zn (qv (zG (zz yQ (pv 1) zh (zw _)) (zo (qc (zu L.toLv (ok_12 T) (hr.mono 'd') (by rfl) T.mg_12 T.fn_12.kp T.b_12 .nil (ze (pv 0) (ze zh (ze (zt zy (yS (ze (zj st_66) (ze (zj st_67) (ze (zj st_68) (ze (zj st_59) (ze (zj st_69) (ze (zj st_70) zg zi) zi) zi) zi) zi) zi)) (zr y6 (pv 2) zh) (λ_ _=>rfl)) (ze zh zg zi) y9) zi) zk)))) zF)) (zn (qv (zG (zz yQ (pv 1) zh (zw _)) (zo (qc (zu L.toLv (ok_12 T) (hr.mono 'd') (by rfl) T.mg_12 T.fn_12.kp T.b_12 .nil (ze (pv 0) (ze zh (ze (zt zy (yS (ze (zj st_71) (ze (zj st_72) (ze (zj st_73) (ze (zj st_14) (ze (zj st_74) zg zi) zi) zi) zi) zi)) (zr y6 (pv 2) zh) (λ_ _=>rfl)) (ze zh zg zi) y9) zi) zk)))) zF)) (zn (qv (zG (zz yQ (pv 1) zh (zw _)) (zo (qc (zu L.toLv (ok_12 T) (hr.mono 'd') (by rfl) T.mg_12 T.fn_12.kp T.b_12 .nil (ze (pv 0) (ze zh (ze (zt zy (yS (ze (zj st_75) (ze (zj st_76) (ze (zj st_77) (ze (zj st_78) (ze (zj st_14) (ze (zj st_79) zg zi) zi) zi) zi) zi) zi)) (zr y6 (pv 2) zh) (λ_ _=>rfl)) (ze zh zg zi) y9) zi) zk)))) zF)) (zn (qv (zG (zz yQ (pv 1) zh (zw _)) (zo (qV (zr qw (zt zy (yU PySem.F.plainAttrs_str PySem.F.slot_str_split PySem.F.type_str_split zgq (zt zy (pv 0) (pv 3) (λ_ _=>rfl)) (ze (zj st_56) zg)) zh (λ_ _=>rfl)) (zt zy (yS (ze (zj st_80) (ze (zj st_81) (ze (zj st_82) (ze (zj st_83) (ze (zj st_84) zg zi) zi) zi) zi) zi)) (zr y6 (pv 2) zh) (λ_ _=>rfl))) (w8 (pv 0) (pv 3) set_list))) zF)) (zn (qv (zG (zz yQ (pv 1) zh (zw _)) (zn (zI (i:=4) nd rfl (Or.inl rfl) (zt zy (yS (ze (zj st_61) (ze (zj st_62) (ze (zj st_63) (ze (zj st_64) (ze (zj st_48) (ze (zj st_65) zg zi) zi) zi) zi) zi) zi)) (zr y6 (pv 2) zh) (λ_ _=>rfl))) (zo (qc (zu L.toLv (ok_12 T) (hr.mono 'd') (by rfl) T.mg_12 T.fn_12.kp T.b_12 .nil (ze (pv 0) (ze zh (ze (pv 4) (ze zh zg zi) zk) zi) zk))))) zF)) (zo (zG (zz yQ (pv 1) zh (zw _)) (zo (qc (zu L.toLv (ok_12 T) (hr.mono 'd') (by rfl) T.mg_12 T.fn_12.kp T.b_12 .nil (ze (pv 0) (ze (pv 3) (ze (zt zy (yS (ze (zj st_85) (ze (zj st_59) (ze (zj st_86) (ze (zj st_87) (ze (zj st_79) (ze (zj st_88) zg zi) zi) zi) zi) zi) zi)) (zr y6 (pv 2) zh) (λ_ _=>rfl)) (ze zh zg zi) y9) zk) zk)))) zF)))))))),?_⟩;lge_open0
 refine⟨_, .inl (SqL.of hl),?_⟩;rw[Ja];obtain⟨Rf,hRf⟩: ∃Rf:Nat->St->Hp->Prop,Rf=λc σ' H'=> ∃rs',But l H H'/\H' l=some (yX rs')/\rs'.length=rs.length/\RsB rs' n (m+c)/\ ∃x4,σ'= [some (.ref l),some (.int way),some (.int cell),some (.int ((rs.length:Int) - 1)),x4]:=⟨_,rfl⟩
 refine⟨Rf 70,?_,λσ1 H1 h1=> ?_⟩
 ·lge_open0
  rw[hRf];exact zA (λh=>xT [[55], [48,50], [45,49], [120], [49,48], [57]] 'o' (show cell % 6<((6:Nat):Int) by omega) λw H2 hw s2=>swR (s2 _ _ hl) hb n1 'o' 'o' 'o' 'o' (xB 'd' hw) λrs' H' b e l1 h1=>⟨rs',(But.of s2).trans b,e,l1,h1,_,rfl⟩) (λh=>⟨rs,λ_ _ _ e=>e,hl,rfl,hb.up (Je _) 'o',_,rfl⟩)
 rw[hRf] at h1;refine opq λ_ kq=> ?_;obtain⟨rs1,b1,e1,l1,hb1,x1,rfl⟩:=h1;apply kq;lge_open0
 refine⟨Rf 140,?_,λσ2 H2 h2=> ?_⟩
 ·lge_open0
  rw[hRf];exact zA (λh=>xT [[119,101,101,107,115], [68,97,121,115], [100,97,121], [], [109,111,110,116,104]] 'o' (show cell % 5<((5:Nat):Int) by omega) λw H2 hw s2=>swR (s2 _ _ e1) hb1 n1 'o' 'o' 'o' 'o' (xB 'd' hw) λrs' H' b e l2 h2=>⟨rs',(b1.trans (But.of s2)).trans b,e,l2.trans l1,h2,_,rfl⟩) (λh=>⟨rs1,b1,e1,l1,hb1.up (Je _) 'o',_,rfl⟩)
 rw[hRf] at h2;refine opq λ_ kq=> ?_;obtain⟨rs2,b2,e2,l2,hb2,x2,rfl⟩:=h2;apply kq;lge_open0
 refine⟨Rf 210,?_,λσ3 H3 h3=> ?_⟩
 ·lge_open0
  rw[hRf];exact zA (λh=>xT [[48,49], [49,50,51,52,53,54,55,56,57,48], [45,51], [49,120], [], [43,49]] 'o' (show cell % 6<((6:Nat):Int) by omega) λw H2 hw s2=>swR (s2 _ _ e2) hb2 n1 'o' 'o' 'o' 'o' (xB 'd' hw) λrs' H' b e l3 h2=>⟨rs',(b2.trans (But.of s2)).trans b,e,l3.trans l2,h2,_,rfl⟩) (λh=>⟨rs2,b2,e2,l2,hb2.up (Je _) 'o',_,rfl⟩)
 rw[hRf] at h3;refine opq λ_ kq=> ?_;obtain⟨rs3,b3,e3,l3,hb3,x3,rfl⟩:=h3;apply kq;lge_open0
 refine⟨Rf 280,?_,λσ4 H4 h4=> ?_⟩
 ·simp only[yw,yu,yL,yv,yN,yM,yK,yt,yI,yJ,yH,ya,yr,yG,zH,zJ,zK,z9,zQ,List.replicate,Option.join_some,Option.join_none,zO,yq,yo,ym,tSl,yk,yj,yy,slT,z4,Int.reduceLT,Int.reduceLE,Int.reduceToNat,Int.reduceNeg,Int.reduceAdd,Int.reduceSub,Int.reduceMul,forall_const,zU,yf,yg,zZ,yx,zY,zS,zL,zR,zV,zW,tC,tOp,rI,rI0,tUn,rU,z5,tB,yb,tOr,yc,zX,yd,ye,tIf,z7,yi,z8,yF,tCB,yp,rEq,rNe,yA,yB,yC,yD,yE,z6,yh,ipI,L2.start,Jz,JN,Jp,List.length_nil,List.cons_append,List.nil_append,Jt,List.replicate_succ,List.replicate_zero,Nat.reduceAdd,Nat.reduceSub,List.getElem?_cons_zero,List.getElem?_cons_succ,List.set_cons_zero,List.set_cons_succ,Option.some.injEq,V.int.injEq,V.bl.injEq,V.ref.injEq,V.str.injEq,exists_eq_left',exists_eq_left,exists_eq',exists_and_left,List.cons.injEq,and_true,true_and,and_self,and_assoc,decide_eq_true_eq,if_true,if_false,Bool.true_eq_false,Js,Bool.not_eq_true',Bool.not_true,Bool.not_false,decide_eq_false_iff_not,ite_true,ite_false,reduceCtorEq,false_and,exists_false,false_or,or_false,and_false,Nat.reduceLeDiff,tBM,xU,xX];rw[hRf];exact zA (λh=>zm7 [[32,112,101,114,32,48], [32,80,101,114,32,55], [32,112,101,114,32,48,55], [32,112,101,114], [32,112,101,114,32,120]] e3 hb3 'o' (last:=(rs.length:Int) - 1) 'o' 'o' (i:=cell % 5) 'o' (show cell % 5<((5:Nat):Int) by omega) 'd' (Q':=λH'=> ∃rs',But l H H'/\H' l=some (yX rs')/\rs'.length=rs.length/\RsB rs' n (m+280)/\ ∃y4, [some (V.ref l),some (V.int way),some (V.int cell),some (V.int ((rs.length:Int) - 1)),x3]= [some (V.ref l),some (V.int way),some (V.int cell),some (V.int ((rs.length:Int) - 1)),y4]) λrs' H' b e l4 h2=>⟨rs',b3.trans b,e,l4.trans l3,h2,_,rfl⟩) (λh=>⟨rs3,b3,e3,l3,hb3.up (Je _) 'o',_,rfl⟩)
 rw[hRf] at h4;refine opq λ_ kq=> ?_;obtain⟨rs4,b4,e4,l4,hb4,x4,rfl⟩:=h4;apply kq;lge_open0
 refine⟨Rf 350,?_,λσ5 H5 h5=> ?_⟩
 ·lge_open0
  rw[hRf];exact zA (λh=>xT [[50,48,50,51,45,48,50,45,50,57], [49,57,57,57,45,49,51,45,48,49], [48,48,48,48,45,48,49,45,48,49], [49,45,49,45,49], [102,105,114,115,116], [57,57,57,57,57,45,48,49,45,48,49]] 'o' (show cell % 6<((6:Nat):Int) by omega) λw H2 hw s2=>swR (s2 _ _ e4) hb4 n1 'o' 'o' 'o' 'o' (xB 'd' hw) λrs' H' b e l5 h2=>⟨rs',(b4.trans (But.of s2)).trans b,e,l5.trans l4,h2,_,rfl⟩) (λh=>⟨rs4,b4,e4,l4,hb4.up (Je _) 'o',_,rfl⟩)
 rw[hRf] at h5;refine opq λ_ kq=> ?_;obtain⟨rs5,b5,e5,l5,hb5,x5,rfl⟩:=h5;apply kq;lge_open0
 exact zA (λh=>xT [[49,46,50,46,51], [120], [48,49,46,48,48], [49,44,48,48], [43,49], [45,45,49]] 'o' (show cell % 6<((6:Nat):Int) by omega) λw H2 hw s2=>swR (s2 _ _ e5) hb5 n1 'o' 'o' 'o' 'o' (xB 'd' hw) λrs' H' b e l6 h2=>q rs' H' ((b5.trans (But.of s2)).trans b) e (l6.trans l5) h2) (λh=>q rs5 _ b5 e5 l5 (hb5.up (Je _) 'o'))
def zm8:Sp:=λvs H Q _=> ∃(l:Addr) (rs:List (List Nat)) (way cell p:Int) (n m:Nat),vs= [.ref l, .int way, .int cell, .int p]/\H l=some (yX rs)/\RsB rs n m/\n<=900/\m<=10000/\3<rs.length/\0<=p/\p<=6/\ ∀rs' H',But l H H'->H' l=some (yX rs')->rs.length<=rs'.length->RsB rs' (n+9) (m+500)->Q .non H'
theorem sc_16:FnScope ["_law_rows","_law_way","_law_cell","_law_places","_law_last","_law_price"] ["_law_rows","_law_way","_law_cell","_law_places"] (zC s_16):=⟨rfl,rfl,rfl,by decide+kernel,rfl,by decide+kernel,by decide+kernel⟩
theorem ok_16(T:Txt K mg t):FnOk P w K mg base (CXE P w) 2 t.a_16 t.d_16 ["_law_rows","_law_way","_law_cell","_law_places"] (zm8):=by
 refine T.fn_16.okX sc_16 (λvs H Q E h=> ?_) (λcdv A outer s H vs Q E L hr h=> ?_)
 ·refine opq λ_ kq=> ?_;obtain⟨l,rs,way,cell,p,n,m,rfl,hl,hb,n1,m1,r3,p0,p1,q⟩:=h;apply kq;rfl
 refine opq λ_ kq=> ?_;obtain⟨l,rs,way,cell,p,n,m,rfl,hl,hb,n1,m1,r3,p0,p1,q⟩:=h;apply kq;have nd:=sc_16.nd;refine⟨_,(zn (zI (i:=4) nd rfl (Or.inl rfl) (zr xV (zM y8 (by rfl) T.no_len yR (ze (pv 0) zg)) zh)) (zn (qv (zG (zz yQ (pv 1) zh (zw _)) (zo (qc (zu L.toLv (ok_12 T) (hr.mono 'd') (by rfl) T.mg_12 T.fn_12.kp T.b_12 .nil (ze (pv 0) (ze (pv 4) (ze (zt zy (yS (ze (zj st_89) (ze (zj st_90) (ze (zj st_91) (ze (zj st_92) zg zi) zi) zi) zi)) (zr y6 (pv 2) zh) (λ_ _=>rfl)) (ze zh zg zi) y9) zk) zk)))) zF)) (zn (qv (zG (zz yQ (pv 1) zh (zw _)) (zo (qc (yU PySem.F.plainAttrs_list PySem.F.slot_list_append PySem.F.type_list_append wI (pv 0) (ze (zt zy (pv 0) zh (λ_ _=>rfl)) zg)))) zF)) (zn (qv (zG (zz yQ (pv 1) zh (zw _)) (zo (qc (zu L.toLv (ok_12 T) (hr.mono 'd') (by rfl) T.mg_12 T.fn_12.kp T.b_12 .nil (ze (pv 0) (ze zh (ze (zt zy (yS (ze (zj st_19) (ze (zj st_93) (ze (zj st_94) (ze (zj st_95) zg zi) zi) zi) zi)) (zr y6 (pv 2) zh) (λ_ _=>rfl)) (ze zh zg zi) y9) zi) zk)))) zF)) (zn (qv (zG (zz yQ (pv 1) zh (zw _)) (zo (qc (zu L.toLv (ok_12 T) (hr.mono 'd') (by rfl) T.mg_12 T.fn_12.kp T.b_12 .nil (ze (pv 0) (ze (pv 4) (ze (zu L.toLv (ok_0h T) (hr.mono 'd') (by rfl) T.mg_0h T.fn_0h.kp T.b_0h .nil (ze (zt zy (yS (ze (zlt zjl zh) (ze (zr vZ zh zh) (ze (zr vZ zh zh) zg qD) qD))) (zr y6 (pv 2) zh) (λ_ _=>rfl)) (ze (pv 3) zg zk) y9)) (ze zh zg zi) qh) zk) zk)))) zF)) (zn (qv (zG (zz yQ (pv 1) zh (zw _)) (zo (qV (zr qw (zt zy (yU PySem.F.plainAttrs_str PySem.F.slot_str_split PySem.F.type_str_split zgq (zt zy (pv 0) (pv 4) (λ_ _=>rfl)) (ze (zj st_56) zg)) zh (λ_ _=>rfl)) (zt zy (yS (ze (zj st_96) (ze (zj st_97) zg zi) zi)) (zr y6 (pv 2) zh) (λ_ _=>rfl))) (w8 (pv 0) (pv 4) set_list))) zF)) (zn (qv (zG (zz yQ (pv 1) zh (zw _)) (zo (qc (zu L.toLv (ok_12 T) (hr.mono 'd') (by rfl) T.mg_12 T.fn_12.kp T.b_12 .nil (ze (pv 0) (ze zh (ze (zt zy (yS (ze (zj st_98) (ze (zj st_99) (ze (zj st_100) zg zi) zi) zi)) (zr y6 (pv 2) zh) (λ_ _=>rfl)) (ze zh zg zi) y9) zi) zk)))) zF)) (zo (zG (zz yQ (pv 1) zh (zw _)) (zn (zI (i:=5) nd rfl (Or.inr rfl) (zu L.toLv (ok_0h T) (hr.mono 'd') (by rfl) T.mg_0h T.fn_0h.kp T.b_0h .nil (ze zh (ze (pv 3) zg zk) zi))) (zo (qc (yU PySem.F.plainAttrs_list PySem.F.slot_list_extend PySem.F.type_list_extend ziE (pv 0) (ze (wD (n:=1) (N:= ["_law_name_here","_law_price"]) (js:= [5]) (by rfl) rfl rfl (qX (yS (ze (zj st_101) (ze (zj st_102) (ze (zj st_103) (ze (zj st_104) (ze (zj st_105) (ze (zj st_106) (ze (zj st_107) (ze (zj st_108) zg zi) zi) zi) zi) zi) zi) zi) zi))) (λa=>(yO (i:=0) (show List.Nodup (["_law_name_here","_law_price"]:List Str) from by decide+kernel) rfl (Or.inl rfl))) (λa=>wa) (λa=>(zr qw (zr qw (zr qw (zj st_55) (pv 0)) (zj st_21)) (pv 1)))) zg))))) zF))))))))),?_⟩;lge_open0
 refine⟨_, .inl (SqL.of hl),?_⟩;rw[Ja];obtain⟨Rf,hRf⟩: ∃Rf:Nat->Nat->St->Hp->Prop,Rf=λk c σ' H'=> ∃rs',But l H H'/\H' l=some (yX rs')/\rs.length<=rs'.length/\RsB rs' (n+k) (m+c)/\ ∃x4,σ'= [some (.ref l),some (.int way),some (.int cell),some (.int p),some (.int ((rs.length:Int) - 1)),x4]:=⟨_,rfl⟩
 refine⟨Rf 0 70,?_,λσ1 H1 h1=> ?_⟩
 ·lge_open0
  rw[hRf];exact zA (λh=>xT [[65,110,110], [110,105,110,101,115,105,103,110,115], [97,49], [97,45,98]] 'o' (show cell % 4<((4:Nat):Int) by omega) λw H2 hw s2=>swR (s2 _ _ hl) hb 'o' 'o' 'o' 'o' 'o' (xB 'd' hw) λrs' H' b e l1 h1=>⟨rs',(But.of s2).trans b,e,'o',h1,_,rfl⟩) (λh=>⟨rs,λ_ _ _ e=>e,hl,Je _,hb.up (Je _) 'o',_,rfl⟩)
 rw[hRf] at h1;refine opq λ_ kq=> ?_;obtain⟨rs1,b1,e1,l1,hb1,x1,rfl⟩:=h1;apply kq;lge_open0
 refine⟨Rf 1 70,?_,λσ2 H2 h2=> ?_⟩
 ·lge_open0
  rw[hRf];refine zA (λh=>⟨.inl ⟨rfl,_,SqL.of e1⟩,ixL (SqL.of e1) (at_strs 'o' 'o') ⟨l,_,_,rfl,rfl,e1,xg (by rw[Ja];have:=hb1.1;omega),rs1++ [rs1.getD (3:Int).toNat []],b1.put,?_,by rw[Jj];omega,⟨by rw[Jj];exact Nat.succ_le_succ hb1.1,λr hr=> ?_⟩,_,rfl⟩⟩) (λh=>⟨rs1,b1,e1,l1,hb1.up 'o' (Je _),_,rfl⟩)
  ·rw[zP];unfold yX;rw[Jd];rfl
  ·rcases Jr.mp hr with z|z
   ·exact hb1.2 r z
   ·rw[Jm.mp z];exact vW hb1 _
 rw[hRf] at h2;refine opq λ_ kq=> ?_;obtain⟨rs2,b2,e2,l2,hb2,x2,rfl⟩:=h2;apply kq;lge_open0
 refine⟨Rf 1 140,?_,λσ3 H3 h3=> ?_⟩
 ·lge_open0
  rw[hRf];exact zA (λh=>xT [[48], [52,48,49], [57,57,57,57,57,57,57,57,57], [49,51]] 'o' (show cell % 4<((4:Nat):Int) by omega) λw H2 hw s2=>swR (s2 _ _ e2) hb2 'o' 'o' 'o' 'o' 'o' (xB 'd' hw) λrs' H' b e l3 h1=>⟨rs',(b2.trans (But.of s2)).trans b,e,'o',h1,_,rfl⟩) (λh=>⟨rs2,b2,e2,l2,hb2.up (Je _) 'o',_,rfl⟩)
 rw[hRf] at h3;refine opq λ_ kq=> ?_;obtain⟨rs3,b3,e3,l3,hb3,x3,rfl⟩:=h3;apply kq;lge_open0
 refine⟨Rf 1 210,?_,λσ4 H4 h4=> ?_⟩
 ·simp only[yw,yu,yL,yv,yN,yM,yK,yt,yI,yJ,yH,ya,yr,yG,zH,zJ,zK,z9,zQ,List.replicate,Option.join_some,Option.join_none,zO,yq,yo,ym,tSl,yk,yj,yy,slT,z4,Int.reduceLT,Int.reduceLE,Int.reduceToNat,Int.reduceNeg,Int.reduceAdd,Int.reduceSub,Int.reduceMul,forall_const,zU,yf,yg,zZ,yx,zY,zS,zL,zR,zV,zW,tC,tOp,rI,rI0,tUn,rU,z5,tB,yb,tOr,yc,zX,yd,ye,tIf,z7,yi,z8,yF,tCB,yp,rEq,rNe,yA,yB,yC,yD,yE,z6,yh,ipI,L2.start,Jz,JN,Jp,List.length_nil,List.cons_append,List.nil_append,Jt,List.replicate_succ,List.replicate_zero,Nat.reduceAdd,Nat.reduceSub,List.getElem?_cons_zero,List.getElem?_cons_succ,List.set_cons_zero,List.set_cons_succ,Option.some.injEq,V.int.injEq,V.bl.injEq,V.ref.injEq,V.str.injEq,exists_eq_left',exists_eq_left,exists_eq',exists_and_left,List.cons.injEq,and_true,true_and,and_self,and_assoc,decide_eq_true_eq,if_true,if_false,Bool.true_eq_false,Js,Bool.not_eq_true',Bool.not_true,Bool.not_false,decide_eq_false_iff_not,ite_true,ite_false,reduceCtorEq,false_and,exists_false,false_or,or_false,and_false,Nat.reduceLeDiff,tBM,xU,xX];rw[hRf];refine zA (λh=>⟨⟨'d','d','d'⟩,⟨'d','d','d'⟩,λpq H4 _ s4 e4=> ?_⟩) (λh=>⟨rs3,b3,e3,l3,hb3.up (Je _) 'o',_,rfl⟩);refine ixL (xs:=([-1,10 ^ 30,10 ^ 40]:List Int).map V.int) (SqL.of e4) (wA 'o' (show cell % 3<((3:Nat):Int) by omega)) ?_;have gi:=xK (xs:=([-1,10 ^ 30,10 ^ 40]:List Int)) (lo:= -1) (hi:=10 ^ 40) 'd' (i:=cell % 3) 'o' (by show cell % 3<((3:Nat):Int);omega);generalize ([-1,10 ^ 30,10 ^ 40]:List Int).getD (cell % 3).toNat 0=j at*;refine⟨j,p,rfl,p0,p1,'o','o',λH5 s5=>swR (s5 _ _ (s4 _ _ e3)) hb3 'o' 'o' 'o' 'o' 'o' ?_ λrs' H' b e l4 h1=>⟨rs',(b3.trans (But.of (s4.trans s5))).trans b,e,'o',h1,_,rfl⟩⟩;exact uq 'o' 'o'
 rw[hRf] at h4;refine opq λ_ kq=> ?_;obtain⟨rs4,b4,e4,l4,hb4,x4,rfl⟩:=h4;apply kq;lge_open0
 refine⟨Rf 1 280,?_,λσ5 H5 h5=> ?_⟩
 ·simp only[yw,yu,yL,yv,yN,yM,yK,yt,yI,yJ,yH,ya,yr,yG,zH,zJ,zK,z9,zQ,List.replicate,Option.join_some,Option.join_none,zO,yq,yo,ym,tSl,yk,yj,yy,slT,z4,Int.reduceLT,Int.reduceLE,Int.reduceToNat,Int.reduceNeg,Int.reduceAdd,Int.reduceSub,Int.reduceMul,forall_const,zU,yf,yg,zZ,yx,zY,zS,zL,zR,zV,zW,tC,tOp,rI,rI0,tUn,rU,z5,tB,yb,tOr,yc,zX,yd,ye,tIf,z7,yi,z8,yF,tCB,yp,rEq,rNe,yA,yB,yC,yD,yE,z6,yh,ipI,L2.start,Jz,JN,Jp,List.length_nil,List.cons_append,List.nil_append,Jt,List.replicate_succ,List.replicate_zero,Nat.reduceAdd,Nat.reduceSub,List.getElem?_cons_zero,List.getElem?_cons_succ,List.set_cons_zero,List.set_cons_succ,Option.some.injEq,V.int.injEq,V.bl.injEq,V.ref.injEq,V.str.injEq,exists_eq_left',exists_eq_left,exists_eq',exists_and_left,List.cons.injEq,and_true,true_and,and_self,and_assoc,decide_eq_true_eq,if_true,if_false,Bool.true_eq_false,Js,Bool.not_eq_true',Bool.not_true,Bool.not_false,decide_eq_false_iff_not,ite_true,ite_false,reduceCtorEq,false_and,exists_false,false_or,or_false,and_false,Nat.reduceLeDiff,tBM,xU,xX];rw[hRf];exact zA (λh=>zm7 [[32,112,101,114,32,52,48,49], [32,112,101,114,32,57,57,57,57,57,57,57,57,57]] e4 hb4 'o' (last:=(rs.length:Int) - 1) 'o' 'o' (i:=cell % 2) 'o' (show cell % 2<((2:Nat):Int) by omega) 'd' (Q':=λH'=> ∃rs',But l H H'/\H' l=some (yX rs')/\rs.length<=rs'.length/\RsB rs' (n+1) (m+280)/\ ∃y4, [some (V.ref l),some (V.int way),some (V.int cell),some (V.int p),some (V.int ((rs.length:Int) - 1)),x4]= [some (V.ref l),some (V.int way),some (V.int cell),some (V.int p),some (V.int ((rs.length:Int) - 1)),y4]) λrs' H' b e l5 h2=>⟨rs',b4.trans b,e,'o',h2,_,rfl⟩) (λh=>⟨rs4,b4,e4,l4,hb4.up (Je _) 'o',_,rfl⟩)
 rw[hRf] at h5;refine opq λ_ kq=> ?_;obtain⟨rs5,b5,e5,l5,hb5,x5,rfl⟩:=h5;apply kq;lge_open0
 refine⟨Rf 1 350,?_,λσ6 H6 h6=> ?_⟩
 ·simp only[yw,yu,yL,yv,yN,yM,yK,yt,yI,yJ,yH,ya,yr,yG,zH,zJ,zK,z9,zQ,List.replicate,Option.join_some,Option.join_none,zO,yq,yo,ym,tSl,yk,yj,yy,slT,z4,Int.reduceLT,Int.reduceLE,Int.reduceToNat,Int.reduceNeg,Int.reduceAdd,Int.reduceSub,Int.reduceMul,forall_const,zU,yf,yg,zZ,yx,zY,zS,zL,zR,zV,zW,tC,tOp,rI,rI0,tUn,rU,z5,tB,yb,tOr,yc,zX,yd,ye,tIf,z7,yi,z8,yF,tCB,yp,rEq,rNe,yA,yB,yC,yD,yE,z6,yh,ipI,L2.start,Jz,JN,Jp,List.length_nil,List.cons_append,List.nil_append,Jt,List.replicate_succ,List.replicate_zero,Nat.reduceAdd,Nat.reduceSub,List.getElem?_cons_zero,List.getElem?_cons_succ,List.set_cons_zero,List.set_cons_succ,Option.some.injEq,V.int.injEq,V.bl.injEq,V.ref.injEq,V.str.injEq,exists_eq_left',exists_eq_left,exists_eq',exists_and_left,List.cons.injEq,and_true,true_and,and_self,and_assoc,decide_eq_true_eq,if_true,if_false,Bool.true_eq_false,Js,Bool.not_eq_true',Bool.not_true,Bool.not_false,decide_eq_false_iff_not,ite_true,ite_false,reduceCtorEq,false_and,exists_false,false_or,or_false,and_false,Nat.reduceLeDiff,tBM,xU,xX];rw[hRf];exact zA (λh=>xT [[57,53,56,50,45,49,48,45,49,56], [57,57,57,57,45,49,50,45,51,49], [57,55,48,48,45,48,49,45,48,49]] 'o' (show cell % 3<((3:Nat):Int) by omega) λw H2 hw s2=>swR (s2 _ _ e5) hb5 'o' 'o' 'o' 'o' 'o' (xB 'd' hw) λrs' H' b e l6 h1=>⟨rs',(b5.trans (But.of s2)).trans b,e,'o',h1,_,rfl⟩) (λh=>⟨rs5,b5,e5,l5,hb5.up (Je _) 'o',_,rfl⟩)
 rw[hRf] at h6;refine opq λ_ kq=> ?_;obtain⟨rs6,b6,e6,l6,hb6,x6,rfl⟩:=h6;apply kq;simp only[yw,yu,yL,yv,yN,yM,yK,yt,yI,yJ,yH,ya,yr,yG,zH,zJ,zK,z9,zQ,List.replicate,Option.join_some,Option.join_none,zO,yq,yo,ym,tSl,yk,yj,yy,slT,z4,Int.reduceLT,Int.reduceLE,Int.reduceToNat,Int.reduceNeg,Int.reduceAdd,Int.reduceSub,Int.reduceMul,forall_const,zU,yf,yg,zZ,yx,zY,zS,zL,zR,zV,zW,tC,tOp,rI,rI0,tUn,rU,z5,tB,yb,tOr,yc,zX,yd,ye,tIf,z7,yi,z8,yF,tCB,yp,rEq,rNe,yA,yB,yC,yD,yE,z6,yh,ipI,L2.start,Jz,JN,Jp,List.length_nil,List.cons_append,List.nil_append,Jt,List.replicate_succ,List.replicate_zero,Nat.reduceAdd,Nat.reduceSub,List.getElem?_cons_zero,List.getElem?_cons_succ,List.set_cons_zero,List.set_cons_succ,Option.some.injEq,V.int.injEq,V.bl.injEq,V.ref.injEq,V.str.injEq,exists_eq_left',exists_eq_left,exists_eq',exists_and_left,List.cons.injEq,and_true,true_and,and_self,and_assoc,decide_eq_true_eq,if_true,if_false,Bool.true_eq_false,Js,Bool.not_eq_true',Bool.not_true,Bool.not_false,decide_eq_false_iff_not,ite_true,ite_false,reduceCtorEq,false_and,exists_false,false_or,or_false,and_false,Nat.reduceLeDiff,tBM,xE,qW];refine zA (λh=> ?_) (λh=>q rs6 _ b6 e6 l6 (hb6.up 'o' 'o'));have al:=uq (n:=1) (p:=p.toNat) 'd' 'o';refine⟨1,p,rfl,p0,p1,'d','d',λH7 s7=>⟨.inl ⟨rfl,_,SqL.of (s7 _ _ e6)⟩,λp2 H8 _ s8 e8=>⟨p2,rfl,⟨_,SqL.of e8⟩,λl2 hl2 _=> ?_⟩⟩⟩;have e8':H8 p2=some (.lst (([[112], [113], [114], [115], [116], [117], [118], [119]]:List (List Nat)).map λw=>V.str (SL w))):=e8;obtain⟨us,hus⟩: ∃us:List (List Nat),us= [[112], [113], [114], [115], [116], [117], [118], [119]]:=⟨_,rfl⟩
 have u8:us.length=8:=by rw[hus];rfl
 have u1: ∀w∈us,w.length<=1:=λw hw=>xB (by rw[hus];decide) hw;rw[<-hus] at e8';refine vP (us.map λw=>V.str (SL ([112,108,97,110,32]++w++ [32]++qk 1 p.toNat))) (xL (SqL.of e8')) (by rw[Ja,Ja]) hl2 (by rw[Ja];exact xg 'o') (λi x u H9 K1 hx hu s9 k1=> ?_) (λH9 s9 e9=> ?_)
 ·obtain⟨w,hw,rfl⟩:=xA hx;rw[Jh,hw] at hu;cases hu
  have:=u1 w (Ji hw);simp only[yw,yu,yL,yv,yN,yM,yK,yt,yI,yJ,yH,ya,yr,yG,zH,zJ,zK,z9,zQ,List.replicate,Option.join_some,Option.join_none,zO,yq,yo,ym,tSl,yk,yj,yy,slT,z4,Int.reduceLT,Int.reduceLE,Int.reduceToNat,Int.reduceNeg,Int.reduceAdd,Int.reduceSub,Int.reduceMul,forall_const,zU,yf,yg,zZ,yx,zY,zS,zL,zR,zV,zW,tC,tOp,rI,rI0,tUn,rU,z5,tB,yb,tOr,yc,zX,yd,ye,tIf,z7,yi,z8,yF,tCB,yp,rEq,rNe,yA,yB,yC,yD,yE,z6,yh,ipI,L2.start,Jz,JN,Jp,List.length_nil,List.cons_append,List.nil_append,Jt,List.replicate_succ,List.replicate_zero,Nat.reduceAdd,Nat.reduceSub,List.getElem?_cons_zero,List.getElem?_cons_succ,List.set_cons_zero,List.set_cons_succ,Option.some.injEq,V.int.injEq,V.bl.injEq,V.ref.injEq,V.str.injEq,exists_eq_left',exists_eq_left,exists_eq',exists_and_left,List.cons.injEq,and_true,true_and,and_self,and_assoc,decide_eq_true_eq,if_true,if_false,Bool.true_eq_false,Js,Bool.not_eq_true',Bool.not_true,Bool.not_false,decide_eq_false_iff_not,ite_true,ite_false,reduceCtorEq,false_and,exists_false,false_or,or_false,and_false,Nat.reduceLeDiff,zK,z9,zJ];exact⟨qM 'o',qM 'o',qM (by rw[Jj,List.length_singleton];omega),k1 _ (zq.refl _)⟩
 ·have ln:=hb6.1;refine⟨l,l2,_,_,rfl,rfl,s9 _ _ (s8 _ _ (s7 _ _ e6)),e9,?_,q (rs6++us.map λw=> [112,108,97,110,32]++w++ [32]++qk 1 p.toNat) _ (b6.trans (But.of ((s7.trans s8).trans s9))).put ?_ (by rw[Jj];omega) ⟨by rw[Jj,Ja];omega,λr hr=> ?_⟩⟩
  ·rw[Ja,Ja];exact qM 'o'
  ·rw[zP];unfold yX;rw[Jd,List.map_map];rfl
  ·rcases Jr.mp hr with z|z
   ·have:=hb6.2 r z;omega
   ·obtain⟨w,hw,rfl⟩:=Jw.mp z
    have:=u1 w hw;simp only[Jj,Jp,List.length_nil];omega
def zlo:Sp:=λvs H Q _=> ∃cs:List Nat,vs= [.str (SL cs)]/\cs.length<=100000/\ ∀b:Bool,(b=true↔qN cs)->Q (.bl b) H
theorem sc_17:FnScope ["_law_word","_law_sign"] ["_law_word"] (zC s_17):=⟨rfl,rfl,rfl,by decide+kernel,rfl,by decide+kernel,by decide+kernel⟩
theorem ok_17(T:Txt K mg t):FnOk P w K mg base (CXE P w) 1 t.a_17 t.d_17 ["_law_word"] (zlo):=by
 refine T.fn_17.okX sc_17 (λvs H Q E h=> ?_) (λcdv A outer s H vs Q E L hr h=> ?_)
 ·refine opq λ_ kq=> ?_;obtain⟨cs,rfl,hl,q⟩:=h;apply kq;rfl
 refine opq λ_ kq=> ?_;obtain⟨cs,rfl,hl,q⟩:=h;apply kq;have nd:=sc_17.nd;refine⟨_,(zn (zG (qI (jH xW xW zh (zM xZ (by rfl) T.no_len yR (ze (pv 0) zg)) zh)) (zo (zD qi)) zF) (zn (xx (by passes_own) rfl (vH (pv 0)) (yO (i:=1) nd rfl (Or.inl rfl)) (zo (zG (zz uf (pv 1) (zj st_109) rfl) (zo (zD qi)) zF))) (zo (zD (vB (qz qC (zt uP (pv 0) zh (λ_ _=>rfl)) (zj st_19) (zw _)) (qU (qz yQ (zM xZ (by rfl) T.no_len yR (ze (pv 0) zg)) zh (zw _)))))))),?_⟩;lge_open0
 refine⟨qM 'o',zA (λh1=>zA (λh9=>q _ ⟨λz=>absurd z 'd',λz=>absurd z.2.2.1 'o'⟩) (λh9=> ?_)) (λh1=>q _ ⟨λz=>absurd z 'd',λz=>absurd (List.length_pos_iff.mpr z.2.1) 'o'⟩)⟩;refine⟨_,rfl,_,rfl,?_⟩;refine ue (cs:=cs) (λi σ1 H1=>H1=H/\(∃e,σ1= [some (.str (SL cs)),e])/\ ∀j c,j<i->cs[j]? =some c->48<=c/\c<=57) ⟨rfl,⟨none,rfl⟩,λj c h=>absurd h (Nat.not_lt_zero _)⟩ (λi c σ1 H1 hc h=> ?_) (λσ1 H1 h=> ?_)
 ·refine opq λ_ kq=> ?_;obtain⟨rfl,⟨e,rfl⟩,h⟩:=h;apply kq;open_k0;by_cases ok:48<=c/\c<=57
  ·rw[Jf (λz=>z ((vL c).mpr ok))];intro j c' hj hc';by_cases z:j=i
   ·subst z;rw[hc] at hc';cases hc';exact ok
   ·exact h j c' 'o' hc'
  ·rw[Jg (λz=>ok ((vL c).mp z))];exact q false ⟨λz=>(by cases z),λz=>absurd (z.1 c (Ji hc)) ok⟩
 ·refine opq λ_ kq=> ?_;obtain⟨rfl,⟨e,rfl⟩,h⟩:=h;apply kq;open_k0;have ad:PySem.NumText.AllDigits cs:=λc hc=>by
   obtain⟨j,hj,e⟩:=List.getElem_of_mem hc;exact h j c hj (by rw[Jb hj,e])
  obtain⟨c0,r,rfl⟩: ∃c0 r,cs=c0::r:=by
   cases cs with
   |nil=>exact absurd h1 'd'
   |cons a b=>exact⟨a,b,rfl⟩
  refine⟨qM 'o',c0,yP (j:=0) rfl,zA (λh0=>q _ ⟨λ_=>⟨ad,List.cons_ne_nil _ _,'o', .inr λe=>h0 (JQ e)⟩,λ_=>rfl⟩) (λh0=>⟨qM 'o',q _ ⟨λz=>⟨ad,List.cons_ne_nil _ _,'o', .inl ?_⟩,λz=> ?_⟩⟩)⟩
  ·have c48:c0=48:=Classical.not_not.mp h0;have z:=of_decide_eq_true z;rw[Jp] at z;rw[c48,List.length_eq_zero_iff.mp (show r.length=0 by omega)]
  ·rcases z.2.2.2 with e|e
   ·rw[e];rfl
   ·exact absurd (λy=>e (congrArg some y)) h0
theorem vX:V.str (SL a)=V.str (SL b)↔a=b:=⟨λh=>by have:=V.str.inj h;rwa[zO] at this,λh=>by rw[h]⟩
theorem zio(h: ¬a=b): ¬V.str (SL a)=V.str (SL b):=λz=>h (vX.mp z)
theorem jv{p q:Prop}[Decidable (V.str (SL a)=V.str (SL b))](h1:a=b->p)(h2: ¬a=b->q):if V.str (SL a)=V.str (SL b) then p else q:=zA (λh=>h1 (vX.mp h)) (λh=>h2 λz=>h (vX.mpr z))
theorem jw{p q:Prop}[Decidable (¬V.str (SL a)=V.str (SL b))](h1: ¬a=b->p)(h2:a=b->q):if¬V.str (SL a)=V.str (SL b) then p else q:=zA (λh=>h1 λz=>h (vX.mpr z)) (λh=>h2 (vX.mp (Classical.not_not.mp h)))
theorem zkl(k:Int): ∀ks:List Int,inV (.int k) (ks.map V.int)=decide (k∈ks)
 | []=>rfl
 |x::r=>by
  have ih:=zkl k r;unfold inV at ih ⊢;rw[Jz,List.any_cons,ih];show ((x==k)||decide (k∈r))=decide (k∈x::r);rw[Bool.eq_iff_iff,Bool.or_eq_true,beq_iff_eq,decide_eq_true_eq,decide_eq_true_eq,JC];exact⟨λh=>h.imp Eq.symm id,λh=>h.imp Eq.symm id⟩
theorem zlp(h:xP ws):ws.length=3\/ws.length=5:=by
 obtain⟨nm,pr,rfl|⟨n,rfl,_⟩⟩:=h
 ·exact .inl rfl
 ·exact .inr rfl
theorem k9{n:List Nat}(h:qN n):n≠ []:=h.2.1
def zlq(K:Fg):Sp:=λvs H Q _=> ∃(l:Addr) (ws:List (List Nat)),vs= [.ref l]/\wm K H l ws/\ ∀(b:Bool) H',zq H H'->(b=true↔xP ws/\ []∉ws)->Q (.bl b) H'
theorem sc_18:FnScope ["_law_words_here"] ["_law_words_here"] (zC s_18):=⟨rfl,rfl,rfl,by decide+kernel,rfl,by decide+kernel,by decide+kernel⟩
theorem ok_18(T:Txt K mg t):FnOk P w K mg base (CXE P w) 2 t.a_18 t.d_18 ["_law_words_here"] (zlq K):=by
 refine T.fn_18.okX sc_18 (λvs H Q E h=> ?_) (λcdv A outer s H vs Q E L hr h=> ?_)
 ·refine opq λ_ kq=> ?_;obtain⟨l,ws,rfl,hS,q⟩:=h;apply kq;rfl
 refine opq λ_ kq=> ?_;obtain⟨l,ws,rfl,hS,q⟩:=h;apply kq;have nd:=sc_18.nd;refine⟨_,(zn (zG (qb (zz zev (zM y8 (by rfl) T.no_len yR (ze (pv 0) zg)) (qx (ze zh (ze zh zg zi) zi)) rfl) (qb (zz qC (zt zy (pv 0) zh (λ_ _=>rfl)) (zj st_33) (zw _)) (qb (zz yQ (zt zy (pv 0) zh (λ_ _=>rfl)) (zj st_14) (zw _)) (qH (zz yQ (zt zy (pv 0) zh (λ_ _=>rfl)) (zj st_14) (zw _)))))).pt (zo (zD qi)) zF) (zo (zD (vB (qz yQ (zM y8 (by rfl) T.no_len yR (ze (pv 0) zg)) zh (zw _)) (qU (xC (qz yQ (zt zy (pv 0) zh (λ_ _=>rfl)) (zj st_32) (zw _)) (xC (zu L.toLv (ok_17 T) (hr.mono 'd') (by rfl) T.mg_17 T.fn_17.kp T.b_17 .nil (ze (zt zy (pv 0) zh (λ_ _=>rfl)) zg)) (qU (qz qC (zt zy (pv 0) zh (λ_ _=>rfl)) (zj st_19) (zw _)))))))))),?_⟩;lge_open0
 refine⟨_, .inl hS.1,λpt H1 _ s1 e1=>⟨pt,_,rfl, .inr (SqT.of e1),rfl,rfl,_,rfl,?_⟩⟩;have hS1:=hS.same s1;rw[Ja,show ([V.int 3,V.int 5]:List V)=([3,5]:List Int).map V.int from rfl,zkl,Jg rfl];have no: ∀(b:Bool),b=false-> ¬(xP ws/\ []∉ws)-> ∀H',zq H H'->Q (.bl b) H':=λb e h H' s'=>q b H' s' ⟨λz=>(by rw[e] at z;cases z),λz=>absurd z h⟩;refine zA (λh=>no _ rfl (λz=> ?_) _ s1) (λh=> ?_)
 ·rcases zlp z.1 with e|e<;>rw[e] at h<;>exact absurd h 'd'
 have l35:ws.length=3\/ws.length=5:=by
  have h':decide ((ws.length:Int)∈([3,5]:List Int))=true:=by
   cases g:decide ((ws.length:Int)∈([3,5]:List Int)) with
   |true=>rfl
   |false=>rw[g] at h;exact absurd rfl h
  have:=of_decide_eq_true h';simp only[JC,List.not_mem_nil,or_false] at this;omega
 obtain⟨a,b,c,r,rfl⟩: ∃a b c r,ws=a::b::c::r:=by
  match ws,l35 with
  |a::b::c::r,_=>exact⟨a,b,c,r,rfl⟩
  | [],h=>simp at h
  | [_],h=>simp at h
  | [_,_],h=>simp at h
 refine ixL hS1.1 (v:= .str (SL a)) (yP (j:=0) rfl) ⟨rfl,jw (λha=>no _ rfl (λz=> ?_) _ s1) (λha=> ?_)⟩
 ·obtain⟨nm,pr,e|⟨n,e,_⟩⟩:=z.1
  ·cases e;exact ha rfl
  ·cases e;exact ha rfl
 refine ixL hS1.1 (v:= .str (SL b)) (yP (j:=1) rfl) ⟨rfl,jv (λhb=>no _ rfl (λz=>z.2 (by rw[hb];simp)) _ s1) (λhb=> ?_)⟩;refine ixL hS1.1 (v:= .str (SL c)) (yP (j:=2) rfl) ⟨rfl,jv (λhc=>no _ rfl (λz=>z.2 (by rw[hc];simp)) _ s1) (λhc=> ?_)⟩;refine⟨_, .inl hS1.1,?_⟩;rw[Ja];subst ha;refine zA (λh3=>q _ _ s1 ⟨λ_=>⟨⟨b,c, .inl ?_⟩,?_⟩,λ_=>rfl⟩) (λh3=> ?_)
 ·have:r.length=0:=by simp only[Jp] at h3;omega
  rw[List.length_eq_zero_iff.mp this];rfl
 ·have:r.length=0:=by simp only[Jp] at h3;omega
  rw[List.length_eq_zero_iff.mp this];simp only[JC,List.not_mem_nil,or_false,not_or];exact⟨'d',λz=>hb z.symm,λz=>hc z.symm⟩
 obtain⟨d,n,rfl⟩: ∃d n,r= [d,n]:=by
  have:r.length=2:=by simp only[Jp] at h3 l35;omega
  match r,this with
  | [d,n],_=>exact⟨d,n,rfl⟩
 refine ixL hS1.1 (v:= .str (SL d)) rfl ⟨rfl,jv (λhd=> ?_) (λhd=>no _ rfl (λz=> ?_) _ s1)⟩;rotate_left
 ·obtain⟨nm,pr,e|⟨m,e,_⟩⟩:=z.1
  ·cases e
  ·cases e;exact hd rfl
 refine ixL hS1.1 (v:= .str (SL n)) rfl ⟨n,rfl,hS.2.2 n (by simp),λbn hbn=>⟨bn,rfl,zA (λhq=> ?_) (λhq=>no _ rfl (λz=> ?_) _ s1)⟩⟩
 ·refine ixL hS1.1 (v:= .str (SL n)) rfl ⟨rfl,q _ _ s1 ⟨λz=>⟨⟨b,c, .inr ⟨n,?_,hbn.mp hq,λe=> ?_⟩⟩,?_⟩,λz=> ?_⟩⟩
  ·rw[hd];rfl
  ·rw[e] at z;simp at z
  ·simp only[JC,List.not_mem_nil,or_false,not_or];exact⟨'d',λz=>hb z.symm,λz=>hc z.symm,λz=>(by rw[<-z] at hd;cases hd),λz=>k9 (hbn.mp hq) z.symm⟩
  ·obtain⟨nm,pr,e|⟨m,e,mk,m0⟩⟩:=z.1
   ·cases e
   ·cases e;rw[JM (zio m0)];rfl
 ·obtain⟨nm,pr,e|⟨m,e,mk,m0⟩⟩:=z.1
  ·cases e
  ·cases e;exact hq (hbn.mpr mk)
theorem zis: ∀(r:List Nat) (acc:Nat),acc<=r.foldl (λacc c=>acc*10+(c - 48)) acc
 | [],acc=>Je _
 |c::r,acc=>JD 'o' (zis r (acc*10+(c - 48)))
theorem zit{n:List Nat}:n∈([[48], [49], [50], [51], [52], [53], [54]]:List (List Nat))↔qN n/\PySem.NumText.digitsVal n<=6:=by
 refine⟨λh=> ?_,λ⟨⟨ad,ne,_,z⟩,v⟩=> ?_⟩
 ·simp only[JC,List.not_mem_nil,or_false] at h;have ok: ∀c,48<=c->c<=54->qN [c]/\PySem.NumText.digitsVal [c]<=6:=λc h1 h2=>by
   refine⟨⟨λd hd=>by rw[Jm.mp hd];omega,List.cons_ne_nil _ _,by show 1<=9;decide,?_⟩,?_⟩
   ·by_cases e:c=48
    ·exact .inl (by rw[e])
    ·exact .inr λq=>e (JQ q)
   ·show 0*10+(c - 48)<=6;omega
  rcases h with rfl|rfl|rfl|rfl|rfl|rfl|rfl<;>exact ok _ 'd' 'd'
 ·cases n with
  |nil=>exact absurd rfl ne
  |cons c r=>
   have hc:=ad c Jq;cases r with
   |nil=>
    have v':0*10+(c - 48)<=6:=v
    have:c=48\/c=49\/c=50\/c=51\/c=52\/c=53\/c=54:=by omega
    rcases this with rfl|rfl|rfl|rfl|rfl|rfl|rfl<;>decide
   |cons d r=>
    exfalso;have c9:c≠48:=λe=>by
     rcases z with z|z
     ·cases z
     ·rw[e] at z;exact z rfl
    have v':(d::r).foldl (λacc c=>acc*10+(c - 48)) (0*10+(c - 48))<=6:=v
    have:=zis r ((0*10+(c - 48))*10+(d - 48));rw[List.foldl_cons] at v';omega
theorem zh4{i:Nat}(h:i<ls.length):yY ls i∈ls:=by
 unfold yY;rw[Jo,Jb h];exact List.getElem_mem _
theorem zkm(h:4<=ls.length): ∀ws∈ls,ws=yY ls 0\/ws=yY ls 1\/ws=yY ls 2\/ws∈ls.drop 3:=λws hw=>by
 match ls,h with
 |a::b::c::r,_=>
  simp only[JC] at hw;exact hw
theorem zkn{w:List α}(h:w.length=2): ∃a b,w= [a,b]:=by
 match w,h with
 | [a,b],_=>exact⟨a,b,rfl⟩
theorem zko{w:List α}(h:w.length=3): ∃a b c,w= [a,b,c]:=by
 match w,h with
 | [a,b,c],_=>exact⟨a,b,c,rfl⟩
def zlr(K:Fg):Sp:=λvs H Q _=> ∃(l:Addr) (us:List V) (ls:List (List (List Nat))),vs= [.ref l]/\SqL K H l us/\xQ K H us ls/\ls.length<=100000/\ ∀(b:Bool) H',zq H H'->(b=true↔xf ls)->Q (.bl b) H'
theorem sc_19:FnScope ["_law_lines_here"] ["_law_lines_here"] (zC s_19):=⟨rfl,rfl,rfl,by decide+kernel,rfl,by decide+kernel,by decide+kernel⟩
theorem ok_19(T:Txt K mg t):FnOk P w K mg base (CXE P w) 3 t.a_19 t.d_19 ["_law_lines_here"] (zlr K):=by
 refine T.fn_19.okX sc_19 (λvs H Q E h=> ?_) (λcdv A outer s H vs Q E L hr h=> ?_)
 ·refine opq λ_ kq=> ?_;obtain⟨l,us,ls,rfl,hS,hL,hl,q⟩:=h;apply kq;rfl
 refine opq λ_ kq=> ?_;obtain⟨l,us,ls,rfl,hS,hL,hl,q⟩:=h;apply kq;have nd:=sc_19.nd;refine⟨_,(zn (zG (qb (zz xj (zM y8 (by rfl) T.no_len yR (ze (pv 0) zg)) zh (zw _)) (qb (zz qC (zM y8 (by rfl) T.no_len yR (ze (zt zy (pv 0) zh (λ_ _=>rfl)) zg)) zh (zw _)) (qb (zz qC (zM y8 (by rfl) T.no_len yR (ze (zt zy (pv 0) zh (λ_ _=>rfl)) zg)) zh (zw _)) (qH (zz qC (zM y8 (by rfl) T.no_len yR (ze (zt zy (pv 0) zh (λ_ _=>rfl)) zg)) zh (zw _)))))).pt (zo (zD qi)) zF) (zn (zG (qb (zz qC (zt zy (zt zy (pv 0) zh (λ_ _=>rfl)) zh (λ_ _=>rfl)) (zj st_50) (zw _)) (qH (zz zev (zt zy (zt zy (pv 0) zh (λ_ _=>rfl)) zh (λ_ _=>rfl)) (qx (ze (zj st_19) (ze (zj st_60) (ze (zj st_110) (ze (zj st_111) (ze (zj st_112) (ze (zj st_113) (ze (zj st_114) zg zi) zi) zi) zi) zi) zi) zi)) rfl))).pt (zo (zD qi)) zF) (zn (zG (qb (zz qC (zt zy (zt zy (pv 0) zh (λ_ _=>rfl)) zh (λ_ _=>rfl)) (zj st_48) (zw _)) (qb (zz yQ (zt zy (zt zy (pv 0) zh (λ_ _=>rfl)) zh (λ_ _=>rfl)) (zj st_14) (zw _)) (qb (zz qC (zt zy (zt zy (pv 0) zh (λ_ _=>rfl)) zh (λ_ _=>rfl)) (zj st_49) (zw _)) (qH (qI (qB (zu L.toLv (ok_17 T) (hr.mono 'd') (by rfl) T.mg_17 T.fn_17.kp T.b_17 .nil (ze (zt zy (zt zy (pv 0) zh (λ_ _=>rfl)) zh (λ_ _=>rfl)) zg)))))))).pt (zo (zD qi)) zF) (zo (zD (xC (qz uM (zt zy (zt zy (pv 0) zh (λ_ _=>rfl)) zh (λ_ _=>rfl)) (qx (ze (zj st_0) (ze (zj st_1) zg zi) zi)) rfl) (qU (zM (jZ (by rfl)) (by rfl) T.no_all jY (ze (wD (n:=1) (N:= ["_law_words_here"]) (js:= []) (by rfl) rfl rfl (qX (qT wb (pv 0) (qL zh) qY)) (λa=>(yO (i:=0) (show List.Nodup (["_law_words_here"]:List Str) from by decide+kernel) rfl (Or.inl rfl))) (λa=>wa) (λa=>(zu jT (ok_18 T) (hr.mono 'd') (by rfl) T.mg_18 T.fn_18.kp T.b_18 .nil (ze (pv 0) zg)))) zg))))))))),?_⟩;simp only[yw,yu,yL,yv,yN,yM,yK,yt,yI,yJ,yH,ya,yr,yG,zH,zJ,zK,z9,zQ,List.replicate,Option.join_some,Option.join_none,zO,yq,yo,ym,tSl,yk,yj,yy,slT,z4,Int.reduceLT,Int.reduceLE,Int.reduceToNat,Int.reduceNeg,Int.reduceAdd,Int.reduceSub,Int.reduceMul,forall_const,zU,yf,yg,zZ,yx,zY,zS,zL,zR,zV,zW,tC,tOp,rI,rI0,tUn,rU,z5,tB,yb,tOr,yc,zX,yd,ye,tIf,z7,yi,z8,yF,tCB,yp,rEq,rNe,yA,yB,yC,yD,yE,z6,yh,ipI,L2.start,Jz,JN,Jp,List.length_nil,List.cons_append,List.nil_append,Jt,List.replicate_succ,List.replicate_zero,Nat.reduceAdd,Nat.reduceSub,List.getElem?_cons_zero,List.getElem?_cons_succ,List.set_cons_zero,List.set_cons_succ,Option.some.injEq,V.int.injEq,V.bl.injEq,V.ref.injEq,V.str.injEq,exists_eq_left',exists_eq_left,exists_eq',exists_and_left,List.cons.injEq,and_true,true_and,and_self,and_assoc,decide_eq_true_eq,if_true,if_false,Bool.true_eq_false,Js,Bool.not_eq_true',Bool.not_true,Bool.not_false,decide_eq_false_iff_not,ite_true,ite_false,reduceCtorEq,false_and,exists_false,false_or,or_false,and_false,Nat.reduceLeDiff,xE,qW];have ul:=hL.1;have no: ∀(b:Bool),b=false-> ¬xf ls-> ∀H',zq H H'->Q (.bl b) H':=λb e h H' s'=>q b H' s' ⟨λz=>(by rw[e] at z;cases z),λz=>absurd z h⟩;refine⟨_, .inl hS,zA (λh=>no _ rfl (λz=>absurd z.1 'o') _ (zq.refl _)) (λh4=> ?_)⟩;refine opq λ_ kq=> ?_;obtain⟨a0,u0,A0⟩:=hL.get (i:=0) 'o';obtain⟨a1,u1,A1⟩:=hL.get (i:=1) 'o';obtain⟨a2,u2,A2⟩:=hL.get (i:=2) 'o';apply kq;have m0:yY ls 0∈ls:=zh4 'o';have m1:yY ls 1∈ls:=zh4 'o';have m2:yY ls 2∈ls:=zh4 'o';have ms:=zkm (ls:=ls) 'o';unfold xf at no q;generalize yY ls 0=w0 at*;generalize yY ls 1=w1 at*;generalize yY ls 2=w2 at*;refine ixL hS (yP (j:=0) u0) ⟨a0,rfl,_, .inl A0.1,zA (λh=>no _ rfl (λz=> ?_) _ (zq.refl _)) (λh0=> ?_)⟩
 ·obtain⟨n,e,_⟩:=z.2.2.1;rw[e] at h;exact h rfl
 refine ixL hS (yP (j:=1) u1) ⟨a1,rfl,_, .inl A1.1,zA (λh=>no _ rfl (λz=> ?_) _ (zq.refl _)) (λh1=> ?_)⟩
 ·obtain⟨d,e⟩:=z.2.2.2.1;rw[e] at h;exact h rfl
 refine ixL hS (yP (j:=2) u2) ⟨a2,rfl,_, .inl A2.1,zA (λh=>no _ rfl (λz=> ?_) _ (zq.refl _)) (λh2=> ?_)⟩
 ·refine opq λ_ kq=> ?_;obtain⟨n,dy,e,_⟩:=z.2.2.2.2.1;apply kq;rw[e] at h;exact h rfl
 rw[Ja] at h0 h1 h2;refine opq λ_ kq=> ?_;obtain⟨p0,p1,rfl⟩:=zkn (show w0.length=2 by omega);obtain⟨f0,f1,rfl⟩:=zkn (show w1.length=2 by omega);obtain⟨c0,c1,c2,rfl⟩:=zko (show w2.length=3 by omega);apply kq;refine ixL hS (yP (j:=0) u0) (ixL A0.1 (v:= .str (SL p0)) rfl ⟨rfl,jw (λh=>no _ rfl (λz=> ?_) _ (zq.refl _)) (λhp0=> ?_)⟩)
 ·obtain⟨n,e,_⟩:=z.2.2.1;cases e;exact h rfl
 refine ixL hS (yP (j:=0) u0) (ixL A0.1 (v:= .str (SL p1)) rfl λpt H1 _ s1 e1=>⟨pt,_,rfl, .inr (SqT.of e1),rfl,rfl,_,rfl,?_⟩);rw[show ([V.str (SL [48]),V.str (SL [49]),V.str (SL [50]),V.str (SL [51]),V.str (SL [52]),V.str (SL [53]),V.str (SL [54])]:List V)=([[48], [49], [50], [51], [52], [53], [54]]:List (List Nat)).map λw=>V.str (SL w) from rfl,ut,Jg rfl];refine zA (λh=>no _ rfl (λz=> ?_) _ s1) (λh=> ?_)
 ·obtain⟨n,e,hn⟩:=z.2.2.1;cases e;rw[JL (zit.mpr hn)] at h;cases h
 have pn:qN p1/\PySem.NumText.digitsVal p1<=6:=zit.mp (by
  by_cases g:p1∈([[48], [49], [50], [51], [52], [53], [54]]:List (List Nat))
  ·exact g
  ·rw[JM g] at h;exact absurd rfl h)
 have B1:=A1.same s1;have B2:=A2.same s1;have hS1:=s1.seq hS;refine ixL hS1 (yP (j:=1) u1) (ixL B1.1 (v:= .str (SL f0)) rfl ⟨rfl,jw (λh=>no _ rfl (λz=> ?_) _ s1) (λhf0=> ?_)⟩)
 ·obtain⟨d,e⟩:=z.2.2.2.1;cases e;exact h rfl
 refine ixL hS1 (yP (j:=1) u1) (ixL B1.1 (v:= .str (SL f1)) rfl ⟨rfl,jv (λh=>no _ rfl (λz=>z.2.1 _ m1 (by rw[h];simp)) _ s1) (λhf1=> ?_)⟩);refine ixL hS1 (yP (j:=2) u2) (ixL B2.1 (v:= .str (SL c0)) rfl ⟨rfl,jw (λh=>no _ rfl (λz=> ?_) _ s1) (λhc0=> ?_)⟩)
 ·refine opq λ_ kq=> ?_;obtain⟨n,dy,e,_⟩:=z.2.2.2.2.1;apply kq;cases e;exact h rfl
 refine ixL hS1 (yP (j:=2) u2) (ixL B2.1 (v:= .str (SL c1)) rfl ⟨c1,rfl,A2.2.2 c1 (by simp),λbn hbn=>⟨bn,rfl,zA (λh=>no _ rfl (λz=> ?_) _ s1) (λh=> ?_)⟩⟩)
 ·refine opq λ_ kq=> ?_;obtain⟨n,dy,e,nk⟩:=z.2.2.2.2.1;apply kq;cases e;rw[hbn.mpr nk] at h;cases h
 have ck:qN c1:=hbn.mp (by cases bn with|true=>rfl|false=>exact absurd rfl h);refine ixL hS1 (yP (j:=2) u2) (ixL B2.1 (v:= .str (SL c2)) rfl λpt2 H2 _ s2 e2=>⟨pt2,_,rfl, .inr (SqT.of e2),rfl,rfl,_,rfl,?_⟩);rw[show ([V.str (SL [100,97,121,115]),V.str (SL [109,111,110,116,104,115])]:List V)=([qm true,qm false]:List (List Nat)).map λw=>V.str (SL w) from rfl,ut];simp only[Js,if_false];have s12:=s1.trans s2;refine zA (λh=> ?_) (λh=>no _ rfl (λz=> ?_) _ s12);rotate_left
 ·refine opq λ_ kq=> ?_;obtain⟨n,dy,e,nk⟩:=z.2.2.2.2.1;apply kq;cases e;exact h (JL (by cases dy<;>simp))
 obtain⟨dy,rfl⟩: ∃dy,c2=qm dy:=by
  have:=of_decide_eq_true h;simp only[JC,List.not_mem_nil,or_false] at this;rcases this with e|e
  ·exact⟨true,e⟩
  ·exact⟨false,e⟩
 refine⟨l,us,rfl,s12.seq hS,λpa H5 _ s5 e5=>⟨pa,rfl,⟨_,SqL.of e5⟩,λl2 hl2 _=> ?_⟩⟩;rw[wc us 'd' 'o'] at e5;have s15:=s12.trans s5;refine vP ((ls.drop 3).map λws=>V.bl (cB (xP ws/\ []∉ws))) (xL (SqL.of e5)) (by rw[Ja,List.length_drop,List.length_drop,ul];rfl) hl2 (xg (by rw[List.length_drop];omega)) (λi x u H6 K1 hx hu s6 k1=> ?_) (λH6 s6 e6=> ?_)
 ·refine opq λ_ kq=> ?_;obtain⟨ws,hw,rfl⟩:=xA hu;rw[List.getElem?_drop] at hx hw;obtain⟨a,rfl,hA⟩:=hL.2 (3+i) x _ hx hw;apply kq;simp only[yw,yu,yL,yv,yN,yM,yK,yt,yI,yJ,yH,ya,yr,yG,zH,zJ,zK,z9,zQ,List.replicate,Option.join_some,Option.join_none,zO,yq,yo,ym,tSl,yk,yj,yy,slT,z4,Int.reduceLT,Int.reduceLE,Int.reduceToNat,Int.reduceNeg,Int.reduceAdd,Int.reduceSub,Int.reduceMul,forall_const,zU,yf,yg,zZ,yx,zY,zS,zL,zR,zV,zW,tC,tOp,rI,rI0,tUn,rU,z5,tB,yb,tOr,yc,zX,yd,ye,tIf,z7,yi,z8,yF,tCB,yp,rEq,rNe,yA,yB,yC,yD,yE,z6,yh,ipI,L2.start,Jz,JN,Jp,List.length_nil,List.cons_append,List.nil_append,Jt,List.replicate_succ,List.replicate_zero,Nat.reduceAdd,Nat.reduceSub,List.getElem?_cons_zero,List.getElem?_cons_succ,List.set_cons_zero,List.set_cons_succ,Option.some.injEq,V.int.injEq,V.bl.injEq,V.ref.injEq,V.str.injEq,exists_eq_left',exists_eq_left,exists_eq',exists_and_left,List.cons.injEq,and_true,true_and,and_self,and_assoc,decide_eq_true_eq,if_true,if_false,Bool.true_eq_false,Js,Bool.not_eq_true',Bool.not_true,Bool.not_false,decide_eq_false_iff_not,ite_true,ite_false,reduceCtorEq,false_and,exists_false,false_or,or_false,and_false,Nat.reduceLeDiff,zK,zJ];exact⟨a,_,rfl,hA.same (s15.trans s6),λb H7 s7 hb=>by rw[kM hb];exact k1 _ s7⟩
 refine⟨l2,rfl,(ls.drop 3).map λws=>cB (xP ws/\ []∉ws),SqL.of (e6.trans (by rw[List.map_map];rfl)),q _ _ (s15.trans s6) ⟨λz=> ?_,λz=> ?_⟩⟩
 ·have all: ∀ws∈ls.drop 3,xP ws/\ []∉ws:=λws hw=>vv.mp (List.all_eq_true.mp z _ (List.mem_map_of_mem hw));refine⟨'o',λws hw=> ?_,⟨p1,by rw[hp0];rfl,pn⟩,⟨f1,by rw[hf0];rfl⟩,⟨c1,dy,by rw[hc0];rfl,ck⟩,λws hw=>(all ws hw).1⟩;rcases ms ws hw with rfl|rfl|rfl|h
  ·simp only[JC,List.not_mem_nil,or_false,not_or];exact⟨λe=>(by rw[<-e] at hp0;cases hp0),λe=>k9 pn.1 e.symm⟩
  ·simp only[JC,List.not_mem_nil,or_false,not_or];exact⟨λe=>(by rw[<-e] at hf0;cases hf0),λe=>hf1 e.symm⟩
  ·simp only[JC,List.not_mem_nil,or_false,not_or];exact⟨λe=>(by rw[<-e] at hc0;cases hc0),λe=>k9 ck e.symm,λe=>(by cases dy<;>cases e)⟩
  ·exact(all ws h).2
 ·refine List.all_eq_true.mpr λb hb=> ?_;obtain⟨ws,hw,rfl⟩:=Jw.mp hb;exact vv.mpr ⟨z.2.2.2.2.2 ws hw,z.2.1 ws (List.mem_of_mem_drop hw)⟩
def zls(K:Fg):Sp:=λvs H Q _=> ∃(l:Addr) (us:List V) (ls:List (List (List Nat))),vs= [.ref l]/\SqL K H l us/\xQ K H us ls/\ls.length<=100000/\xf ls/\(opt (xh (wd (yY ls 1) 1))=none-> ∀H',zq H H'->Q (.str (SL [100,97,116,101])) H')/\
 (∀f,opt (xh (wd (yY ls 1) 1))=some f->amsO (qy ls) (ls.drop 3)=none-> ∀H',zq H H'->Q (.str (SL [97,109,111,117,110,116])) H')/\ ∀f ns,opt (xh (wd (yY ls 1) 1))=some f->amsO (qy ls) (ls.drop 3)=some ns-> ∀r H',zq H H'->H' r=some (.lst ((f::ns).map V.int))->Q (.ref r) H'
theorem sc_1a:FnScope ["_law_lines_here","_law_found","_law_words_here"] ["_law_lines_here"] (zC s_1a):=⟨rfl,rfl,rfl,by decide+kernel,rfl,by decide+kernel,by decide+kernel⟩
theorem ok_1a(T:Txt K mg t):FnOkT P w K mg base (CXE P w) 5 t.a_1a t.d_1a ["_law_lines_here"] (zls K):=by
 refine T.fn_1a.okXT sc_1a (λvs H Q E h=> ?_) (λcdv A outer s H vs Q E L hr h=> ?_)
 ·refine opq λ_ kq=> ?_;obtain⟨l,us,ls,rfl,hS,hL,hl,tx,q1,q2,q3⟩:=h;apply kq;rfl
 refine opq λ_ kq=> ?_;obtain⟨l,us,ls,rfl,hS,hL,hl,tx,q1,q2,q3⟩:=h;apply kq;have nd:=sc_1a.nd;refine⟨_,(qF (PS.t (zI (i:=1) nd rfl (Or.inl rfl) (yS zg))) (qF (zhn ⟨rfl,rfl,rfl⟩ (λEk pn xe L=>(PSs.t (zo (qc (zk3 (K:=K) rfl PySem.F.plainAttrs_list PySem.F.slot_list_append PySem.F.type_list_append wI (pv 1) (ze (zu L (ok_0g T) (hr.mono 'd') (by rfl) T.mg_0g T.fn_0g.kp T.b_0g .nil (ze (zt (ud (K:=K) rfl) (zt (ud (K:=K) rfl) (pv 0) zh (λ_ _=>rfl)) zh (λ_ _=>rfl)) zg)) zg)))))) (λea=>(zo (zD (zj st_115)))) (by rfl) T.mg_Z0i) (qF (zk2 (by passes_own) rfl (qX (qT wb (pv 0) (qL zh) qY)) (yO (i:=2) nd rfl (Or.inl rfl)) (um (zhn ⟨rfl,rfl,rfl⟩ (λEk pn xe L=>(um (zjX (zk0 (K:=K) rfl PySem.F.plainAttrs_list PySem.F.slot_list_append PySem.F.type_list_append wI (pv 1) (u9 (wN L (ok_0j T) (hr.mono 'd') (by rfl) T.mg_0j T.fn_0j.kp T.b_0j .nil (PA.t (ze (zt (ud (K:=K) rfl) (pv 2) zh (λ_ _=>rfl)) (ze (qu xD (by rfl) T.no_int q0 (ze (zt (ud (K:=K) rfl) (zt (ud (K:=K) rfl) (pv 0) zh (λ_ _=>rfl)) zh (λ_ _=>rfl)) zg)) zg qh) y9))) (PA.t zg)))))) (λea=>(zo (zD (zj st_116)))) (by rfl) T.mg_Z0h))) (PSs.t (zo (zD (pv 1))))))),?_⟩;simp only[yw,yu,yL,yv,yN,yM,yK,yt,yI,yJ,yH,ya,yr,yG,zH,zJ,zK,z9,zQ,List.replicate,Option.join_some,Option.join_none,zO,yq,yo,ym,tSl,yk,yj,yy,slT,z4,Int.reduceLT,Int.reduceLE,Int.reduceToNat,Int.reduceNeg,Int.reduceAdd,Int.reduceSub,Int.reduceMul,forall_const,zU,yf,yg,zZ,yx,zY,zS,zL,zR,zV,zW,tC,tOp,rI,rI0,tUn,rU,z5,tB,yb,tOr,yc,zX,yd,ye,tIf,z7,yi,z8,yF,tCB,yp,rEq,rNe,yA,yB,yC,yD,yE,z6,yh,ipI,L2.start,Jz,JN,Jp,List.length_nil,List.cons_append,List.nil_append,Jt,List.replicate_succ,List.replicate_zero,Nat.reduceAdd,Nat.reduceSub,List.getElem?_cons_zero,List.getElem?_cons_succ,List.set_cons_zero,List.set_cons_succ,Option.some.injEq,V.int.injEq,V.bl.injEq,V.ref.injEq,V.str.injEq,exists_eq_left',exists_eq_left,exists_eq',exists_and_left,List.cons.injEq,and_true,true_and,and_self,and_assoc,decide_eq_true_eq,if_true,if_false,Bool.true_eq_false,Js,Bool.not_eq_true',Bool.not_true,Bool.not_false,decide_eq_false_iff_not,ite_true,ite_false,reduceCtorEq,false_and,exists_false,false_or,or_false,and_false,Nat.reduceLeDiff,tBM,kA];refine opq λ_ kq=> ?_;obtain⟨l4,no,⟨n0,w0,k0,v0⟩,⟨d1,w1⟩,_,pls⟩:=id tx;obtain⟨a0,u0,A0⟩:=hL.get (i:=0) 'o';obtain⟨a1,u1,A1⟩:=hL.get (i:=1) 'o';apply kq;have pe:qy ls=PySem.NumText.digitsVal n0:=by unfold qy;rw[w0];rfl
 have pb:(PySem.NumText.digitsVal n0:Int).toNat=qy ls:=by rw[pe];exact JE _
 have de:wd (yY ls 1) 1=d1:=by rw[w1];rfl
 rw[w0] at A0;rw[w1] at A1;rw[de] at q1 q2 q3;intro lf H1 flf s1 e1;refine⟨.inl ⟨rfl,_,SqL.of e1⟩,ixL (s1.seq hS) (yP (j:=1) u1) (ixL (A1.same s1).1 (v:= .str (SL d1)) rfl ⟨_,rfl,qM (by have:=A1.2.2 d1 (by simp);omega),λy m d dt va=> ?_,λnd=>⟨vE T.cl_Z0i T.m_NoDate_BaseException T.m_NoDate_NoDate,λea hea=> ?_⟩⟩)⟩;rotate_left
 ·exact q1 (kP λf ⟨y,m,d,dt,va,_⟩=>nd y m d dt va) _ (s1.trans (xo hea _))
 have hD:opt (xh d1)=some (Cal.num y m d):=kO (λa b=>xh.one a b) ⟨y,m,d,dt,va,rfl⟩;generalize Cal.num y m d=f at*;refine⟨lf,_,_,rfl,rfl,e1,xg (by show 0<=_;omega),?_⟩;have s2:zq H (upd H1 lf (.lst ([]++ [.int f]))):=vF s1 flf;generalize hH2:upd H1 lf (.lst ([]++ [.int f]))=H2 at s2 ⊢;have e2:H2 lf=some (.lst (([f]:List Int).map V.int)):=by rw[<-hH2];exact zP
 clear hH2
 ((try dsimp only);refine wM λR hR=> ?_;simp only[yw,yu,yL,yv,yN,yM,yK,yt,yI,yJ,yH,ya,yr,yG,zH,zJ,zK,z9,zQ,List.replicate,Option.join_some,Option.join_none,zO,yq,yo,ym,tSl,yk,yj,yy,slT,z4,Int.reduceLT,Int.reduceLE,Int.reduceToNat,Int.reduceNeg,Int.reduceAdd,Int.reduceSub,Int.reduceMul,forall_const,zU,yf,yg,zZ,yx,zY,zS,zL,zR,zV,zW,tC,tOp,rI,rI0,tUn,rU,z5,tB,yb,tOr,yc,zX,yd,ye,tIf,z7,yi,z8,yF,tCB,yp,rEq,rNe,yA,yB,yC,yD,yE,z6,yh,ipI,L2.start,Jz,JN,Jp,List.length_nil,List.cons_append,List.nil_append,Jt,List.replicate_succ,List.replicate_zero,Nat.reduceAdd,Nat.reduceSub,List.getElem?_cons_zero,List.getElem?_cons_succ,List.set_cons_zero,List.set_cons_succ,Option.some.injEq,V.int.injEq,V.bl.injEq,V.ref.injEq,V.str.injEq,exists_eq_left',exists_eq_left,exists_eq',exists_and_left,List.cons.injEq,and_true,true_and,and_self,and_assoc,decide_eq_true_eq,if_true,if_false,Bool.true_eq_false,Js,Bool.not_eq_true',Bool.not_true,Bool.not_false,decide_eq_false_iff_not,ite_true,ite_false,reduceCtorEq,false_and,exists_false,false_or,or_false,and_false,qW,vC,vj,wv,w9,Nat.reduceLeDiff])
 refine⟨l,us,rfl,s2.seq hS,λpa H3 fpa s3 e3=>⟨pa,rfl,⟨_,SqL.of e3⟩,hR _ _ ?_⟩⟩;clear hR;rw[wc us 'd' (by rw[hL.1];omega)] at e3;have s03:=s2.trans s3;have plf:pa≠lf:=λz=>by rw[z,e2] at fpa;cases fpa
 have dl:(us.drop 3).length=(ls.drop 3).length:=by rw[List.length_drop,List.length_drop,hL.1]
 have lsl:(ls.drop 3).length<=100000:=by rw[List.length_drop];omega
 obtain⟨Pv,hPv⟩: ∃Pv:Nat->St->Hp->Prop,Pv=λi σ1 H7=> ∃ns:List Int,ns.length=i/\(∀(j:Nat) ws n,(ls.drop 3)[j]? =some ws->ns[j]? =some n->xb (wd ws 2) (qy ls) n)/\But lf H3 H7/\H7 lf=some (.lst ((f::ns).map V.int))/\ ∃x2,σ1= [some (.ref l),some (.ref lf),x2]:=⟨_,rfl⟩
 refine uI (xs:=us.drop 3) Pv (by rw[hPv];exact⟨[],rfl,λj ws n _ e=>by simp at e,λ_ _ _ e=>e,s3 _ _ e2,_,rfl⟩) (λ_ _ _ _ h=>by rw[hPv] at h;obtain⟨_,_,_,b,_⟩:=h;exact SqL.of (b _ _ plf e3)) (λi x σ1 H7 hx h=> ?_) (λσ1 H7 h=> ?_)
 ·rw[hPv] at h;refine opq λ_ kq=> ?_;obtain⟨ns,nl,hn,b7,e7,x2,rfl⟩:=h;apply kq;have s07:zq H H7:=zq.but s03 flf b7;have hi:=(Jc.mp hx).1;have hr:=Jb (l:=ls.drop 3) (by rw[<-dl];exact hi);generalize (ls.drop 3)[i]'_=ws at hr;rw[List.getElem?_drop] at hx;obtain⟨a,rfl,hA⟩:=hL.2 (3+i) x ws hx (by rw[List.getElem?_drop] at hr;exact hr);have w2:(wd ws 2).length<=100000/\(ws.map λw=>V.str (SL w))[2]? =some (.str (SL (wd ws 2))):=by
   obtain⟨nm,pr,rfl|⟨n,rfl,_⟩⟩:=pls ws (Ji hr)
   ·exact⟨hA.2.2 pr (by simp),rfl⟩
   ·exact⟨hA.2.2 pr (by simp),rfl⟩
  simp only[yw,yu,yL,yv,yN,yM,yK,yt,yI,yJ,yH,ya,yr,yG,zH,zJ,zK,z9,zQ,List.replicate,Option.join_some,Option.join_none,zO,yq,yo,ym,tSl,yk,yj,yy,slT,z4,Int.reduceLT,Int.reduceLE,Int.reduceToNat,Int.reduceNeg,Int.reduceAdd,Int.reduceSub,Int.reduceMul,forall_const,zU,yf,yg,zZ,yx,zY,zS,zL,zR,zV,zW,tC,tOp,rI,rI0,tUn,rU,z5,tB,yb,tOr,yc,zX,yd,ye,tIf,z7,yi,z8,yF,tCB,yp,rEq,rNe,yA,yB,yC,yD,yE,z6,yh,ipI,L2.start,Jz,JN,Jp,List.length_nil,List.cons_append,List.nil_append,Jt,List.replicate_succ,List.replicate_zero,Nat.reduceAdd,Nat.reduceSub,List.getElem?_cons_zero,List.getElem?_cons_succ,List.set_cons_zero,List.set_cons_succ,Option.some.injEq,V.int.injEq,V.bl.injEq,V.ref.injEq,V.str.injEq,exists_eq_left',exists_eq_left,exists_eq',exists_and_left,List.cons.injEq,and_true,true_and,and_self,and_assoc,decide_eq_true_eq,if_true,if_false,Bool.true_eq_false,Js,Bool.not_eq_true',Bool.not_true,Bool.not_false,decide_eq_false_iff_not,ite_true,ite_false,reduceCtorEq,false_and,exists_false,false_or,or_false,and_false,Nat.reduceLeDiff,tBM,kA];refine⟨.inl ⟨rfl,_,SqL.of e7⟩,ixL (hA.same s07).1 (yP (j:=2) w2.2) (ixL (s07.seq hS) (yP (j:=0) u0) (ixL (A0.same s07).1 (v:= .str (SL n0)) rfl ⟨_,rfl,k0.1,k0.2.1,by have:=wo k0;omega,_,_,rfl,qM 'o','o','o',λn hw H8 s8=> ?_,λnw H8 s8=>⟨vE T.cl_Z0h T.m_NoAmount_BaseException T.m_NoAmount_NoAmount,λea hea=> ?_⟩⟩))⟩
  ·rw[pb] at hw;refine⟨lf,_,_,rfl,rfl,s8 _ _ e7,?_,?_⟩
   ·rw[Ja,Jp,nl];exact xg 'o'
   ·rw[hPv];refine⟨ns++ [n],by rw[Jj,nl];rfl,λj ws' n' e1 e2=> ?_,(b7.trans (But.of s8)).put,?_,_,rfl⟩
    ·by_cases z:j<ns.length
     ·rw[List.getElem?_append_left z] at e2;exact hn j ws' n' e1 e2
     ·have:j<(ns++ [n]).length:=(Jc.mp e2).1;rw[Jj,List.length_singleton] at this;obtain rfl:j=i:=by omega
      rw[<-nl,List.getElem?_concat_length] at e2;cases e2;rw[hr] at e1;cases e1;exact hw
    ·rw[zP,Jz,Jz,Jd];rfl
  ·rw[pb] at nw;exact q2 f hD (kQ hr nw) _ ((s07.trans s8).trans (xo hea _))
 ·rw[hPv] at h;refine opq λ_ kq=> ?_;obtain⟨ns,nl,hn,b7,e7,x2,rfl⟩:=h;apply kq;open_k0;exact q3 f ns hD (kR (by rw[nl,dl]) hn) lf _ (zq.but s03 flf b7) e7
def qQ(ls:List (List (List Nat))):List (List Nat):=(ls.drop 3).map λws=>wd ws 1
def zkp(ls:List (List (List Nat)))(f:Int)(ns:List Int):Prop:=(qQ ls).length<=8/\(qQ ls).Nodup/\(0<=f/\f<=3500000)/\(∀nm∈qQ ls,nm.length<=8/\ ∀c∈nm,97<=c/\c<=122)/\(∀n∈ns,0<=n/\n<10 ^ 30)/\(∀ws∈ls.drop 3,ctF ws<=400)/\vm (qG ls)=true
theorem zjd(nl:ns.length=(ls.drop 3).length):(qE ls ns).map wQ=qQ ls:=by
 unfold qE qQ;generalize ls.drop 3=rs at*;induction rs generalizing ns with
 |nil=>cases ns with|nil=>rfl|cons a r=>cases nl
 |cons ws rs ih=>
  cases ns with
  |nil=>cases nl
  |cons n ns=>
   rw[List.zipWith_cons_cons,Jz,Jz,ih (Nat.succ.inj nl)];rfl
theorem zkq(tx:xf ls)(nl:ns.length=(ls.drop 3).length):wR (qE ls ns) f (qG ls)↔zkp ls f ns:=by
 have dn:=zjd nl;have dl:(qE ls ns).length=(qQ ls).length:=by rw[<-dn,Ja]
 have l1:1<=(qQ ls).length:=by
  unfold qQ;rw[Ja,List.length_drop]
  have:=tx.1;omega
 have at_: ∀i ws n,(ls.drop 3)[i]? =some ws->ns[i]? =some n->jr ws n∈qE ls ns:=λi ws n e1 e2=>by
  refine Ji (i:=i) ?_;unfold qE;rw[List.getElem?_zipWith,e1,e2]
 have ne: ∀ws∈ls.drop 3,1<=(wd ws 1).length:=λws hw=>by
  have h1:=tx.2.1 ws (List.mem_of_mem_drop hw);obtain⟨nm,pr,rfl|⟨n,rfl,_⟩⟩:=tx.2.2.2.2.2 ws hw
  ·exact List.length_pos_iff.mpr λz=>h1 (by rw[show wd [xz,nm,pr] 1=nm from rfl] at z;rw[z];simp)
  ·exact List.length_pos_iff.mpr λz=>h1 (by rw[show wd [xz,nm,pr,vo,n] 1=nm from rfl] at z;rw[z];simp)
 have c0: ∀ws,0<=ctF ws:=λws=>by unfold ctF;split<;>omega
 have pk: ∀ws n,wf (jr ws n)=true↔(1<=(wd ws 1).length/\(wd ws 1).length<=8/\ ∀c∈wd ws 1,97<=c/\c<=122)/\(0<=n/\n<=10 ^ 30 - 1)/\0<=ctF ws/\ctF ws<=400:=λws n=>by
  show ((decide (1<=(wd ws 1).length) && decide ((wd ws 1).length<=8) && (wd ws 1).all λc=>decide (97<=c/\c<=122)) && ((decide (0<=n) && decide (n<=10 ^ 30 - 1)) && (decide (0<=ctF ws) && decide (ctF ws<=400))))=true↔_;simp only[Bool.and_eq_true,decide_eq_true_eq,List.all_eq_true,and_assoc]
 unfold wR ur zkp;rw[dl,dn];refine⟨λ⟨⟨_,h2,h3,h4⟩,f0,f1,h6⟩=>⟨h2,h4,⟨f0,f1⟩,λnm hm=> ?_,λn hn=> ?_,λws hw=> ?_,h6⟩,λ⟨h1,h2,⟨f0,f1⟩,h4,h5,h6,h7⟩=>⟨⟨l1,h1,λds hds=> ?_,h2⟩,f0,f1,h7⟩⟩
 ·obtain⟨ws,hw,rfl⟩:=Jw.mp hm;obtain⟨i,hi⟩:=List.mem_iff_getElem?.mp hw;have hn:i<ns.length:=by rw[nl];exact(Jc.mp hi).1
  exact((pk _ _).mp (h3 _ (at_ i ws _ hi (Jb hn)))).1.2
 ·obtain⟨i,hi⟩:=List.mem_iff_getElem?.mp hn;have hw:i<(ls.drop 3).length:=by rw[<-nl];exact(Jc.mp hi).1
  have:=((pk _ _).mp (h3 _ (at_ i _ n (Jb hw) hi))).2.1;omega
 ·obtain⟨i,hi⟩:=List.mem_iff_getElem?.mp hw;have hn:i<ns.length:=by rw[nl];exact(Jc.mp hi).1
  exact((pk _ _).mp (h3 _ (at_ i ws _ hi (Jb hn)))).2.2.2
 ·obtain⟨i,hi⟩:=List.mem_iff_getElem?.mp hds;obtain⟨ws,n,hw,hn,rfl⟩:=jq hi;have hm:=Ji hw;have h5':=h5 n (Ji hn);exact(pk ws n).mpr ⟨⟨ne ws hm,h4 _ (List.mem_map_of_mem hm)⟩,⟨h5'.1,'o'⟩,c0 ws,h6 ws hm⟩
theorem zfU{J:It}{σ0:St}{g:TG}{tc:TT}{te:TE}{Q:VK}(zs:List α){xs:List V}(B:α->Prop)(L:Lists J H1 xs)(hl:H1 l=none)(hz:xs.length<sizeLine)(hlen:zs.length=xs.length)
  (hs: ∀(i:Nat) x z H (K1:VK) (K0:Hp->Prop),xs[i]? =some x->zs[i]? =some z->zq H1 H->(∀H4,zq H H4->B z->K1 x H4)->(∀H3,zq H H3-> ¬B z->K0 H3)->g x σ0 H λσ2 H2=>Sub σ0 σ2/\tc σ2 H2 λb H3=>if b=true then te σ2 H3 K1 else K0 H3)
  (hd: ∀ks H,zq H1 H->(∀v∈ks,v∈xs)->(ks= []↔ ∀z∈zs,¬B z)->H l=some (.lst ks)->Q (.ref l) H):wC J σ0 g tc te l Q H1:=by
 refine km (λi ks _=>(∀v∈ks,v∈xs)/\(ks= []↔ ∀(j:Nat) z,j<i->zs[j]? =some z-> ¬B z)) L hl hz (λ_ _=>⟨λv h=>absurd h List.not_mem_nil,λ_ j z h=>absurd h (Nat.not_lt_zero _),λ_=>rfl⟩) (λi x ks H K1 K0 hx sm pv _ k1 k0=> ?_) (λks H sm pv _ e=>hd ks H sm pv.1 (pv.2.trans ⟨λh z hz=> ?_,λh j z _ e=>h z (Ji e)⟩) e)
 ·have hi:=(Jc.mp hx).1;have hzi:=Jb (l:=zs) (by rw[hlen];exact hi);generalize zs[i]'_=z at hzi;refine hs i x z H K1 K0 hx hzi sm (λH4 s4 hB=>k1 x H4 s4 λH5 _=>⟨λv hv=> ?_,?_⟩) (λH3 s3 nB=>k0 H3 s3 ⟨pv.1,pv.2.trans ⟨λh j z' hj e=> ?_,λh j z' hj e=>h j z' 'o' e⟩⟩)
  ·rcases Jr.mp hv with y|y
   ·exact pv.1 v y
   ·rw[Jm.mp y];exact Ji hx
  ·exact⟨λz'=>absurd (congrArg List.length z') (by rw[Jj];exact Nat.succ_ne_zero _),λh=>absurd hB (h i z (Nat.lt_succ_self _) hzi)⟩
  ·by_cases ji:j=i
   ·rw[ji,hzi] at e;cases e;exact nB
   ·exact h j z' 'o' e
 ·obtain⟨j,hj⟩:=List.mem_iff_getElem?.mp hz;exact h j z (by rw[<-hlen];exact(Jc.mp hj).1) hj
theorem ziu{K:Fg}{H:Hp}{n:Nat}: ∀{ks:List V},(∀v∈ks,∃d,Dp K H n d v)-> ∃ds,qp (Dp K H n) ds ks
 | [],_=>⟨[],trivial⟩
 |v::r,h=>by
  obtain⟨d,hd⟩:=h v Jq;obtain⟨ds,hds⟩:=ziu λw hw=>h w (Jl _ hw);exact⟨d::ds,hd,hds⟩
theorem zgz{K:Fg}{H:Hp}{n:Nat}: ∀ws:List (List Nat),qp (Dp K H n) (ws.map D.str) (ws.map λw=>V.str (SL w))
 | []=>trivial
 |w::r=>⟨wE,zgz r⟩
theorem neK{x p:Addr}(n:Nat){ks:List V}(hx:H x=some (.lst ks))(hv: ∀v∈ks,∃d,Dp K H n d v)(hp:H p=some (.lst []))(hn:n<=50)(q:Q (.bl (!ks.isEmpty)) H):u3 K true (.ref x) (.ref p) H Q:=by
 obtain⟨ds,hds⟩:=ziu hv;refine⟨n, .lst ds, .lst [],uk (SqL.of hx) hds,uk (SqL.of hp) trivial,rfl,rfl,hn,λj x y _ e=>(by simp at e),?_⟩;have e:eqb (n+1) (.lst ds) (.lst [])=ks.isEmpty:=by
  show xM (eqb n) ds []=_
  have:=xq hds;cases ds with
  |nil=>cases ks with|nil=>rfl|cons a b=>cases this
  |cons d r=>cases ks with|nil=>cases this|cons a b=>rfl
 rw[e,Jg rfl];exact q
def zmG(K:Fg):Sp:=λvs H Q _=> ∃(l:Addr) (us:List V) (ls:List (List (List Nat))) (r:Addr) (f:Int) (ns:List Int),vs= [.ref l, .ref r]/\SqL K H l us/\xQ K H us ls/\ls.length<=100000/\xf ls/\SqL K H r ((f::ns).map V.int)/\ns.length=(ls.drop 3).length/\ ∀(b:Bool) H',zq H H'->(b=true↔wR (qE ls ns) f (qG ls))->Q (.bl b) H'
theorem sc_1b:FnScope ["_law_lines_here","_law_found","_law_names","_law_name_here"] ["_law_lines_here","_law_found"] (zC s_1b):=⟨rfl,rfl,rfl,by decide+kernel,rfl,by decide+kernel,by decide+kernel⟩
theorem ok_1b(T:Txt K mg t):FnOk P w K mg base (CXE P w) 1 t.a_1b t.d_1b ["_law_lines_here","_law_found"] (zmG K):=by
 refine T.fn_1b.okX sc_1b (λvs H Q E h=> ?_) (λcdv A outer s H vs Q E L hr h=> ?_)
 ·refine opq λ_ kq=> ?_;obtain⟨l,us,ls,r,f,ns,rfl,hS,hL,hl,tx,hF,nl,q⟩:=h;apply kq;rfl
 refine opq λ_ kq=> ?_;obtain⟨l,us,ls,r,f,ns,rfl,hS,hL,hl,tx,hF,nl,q⟩:=h;apply kq;have nd:=sc_1b.nd;refine⟨_,(zn (jW (i:=2) nd rfl rfl (n:=1) (N:= ["_law_words_here"]) (js:= []) (by rfl) rfl rfl (qX (qT wb (pv 0) (qL zh) qY)) (λa=>(yO (i:=0) (show List.Nodup (["_law_words_here"]:List Str) from by decide+kernel) rfl (Or.inl rfl))) (λa=>wa) (λa=>(zt zy (pv 0) zh (λ_ _=>rfl)))) (zn (zG (qb (zz qJ (zM y8 (by rfl) T.no_len yR (ze (pv 2) zg)) zh (zw _)) (qb (zz xj (zM zi2 (by rfl) T.no_len yR (ze (qu (zi1 (by rfl)) (by rfl) T.no_set zk4 (ze (pv 2) zg)) zg)) (zM y8 (by rfl) T.no_len yR (ze (pv 2) zg)) (zw _)) (qH (qI (jH xW xW zh (zt zy (pv 1) zh (λ_ _=>rfl)) zh))))).pt (zo (zD qi)) zF) (zn (xx (by passes_own) rfl (qX (pv 2)) (yO (i:=3) nd rfl (Or.inl rfl)) (zo (zG (PW.pt (qb (zz qJ (zM xZ (by rfl) T.no_len yR (ze (pv 3) zg)) zh (zw _)) (qH (zz (j6 hr) (wD (n:=1) (N:= ["_law_sign"]) (js:= []) (by rfl) rfl rfl (vH (pv 3)) (λa=>(yO (i:=0) (show List.Nodup (["_law_sign"]:List Str) from by decide+kernel) rfl (Or.inl rfl))) (λa=>(jU (zz uf (pv 0) (zj st_30) rfl))) (λa=>(pv 0))) (yS zg) (zw _))))) (zo (zD qi)) zF))) (zn (zG (zz (j6 hr) (wD (n:=1) (N:= ["_law_price"]) (js:= []) (by rfl) rfl rfl (qX (qT wb (pv 1) (qL zh) qY)) (λa=>(yO (i:=0) (show List.Nodup (["_law_price"]:List Str) from by decide+kernel) rfl (Or.inl rfl))) (λa=>(jU (qI (jH xW xj zh (pv 0) (zr vZ zh zh))))) (λa=>(pv 0))) (yS zg) (zw _)) (zo (zD qi)) zF) (zn (zG (zz (j6 hr) (wD (n:=1) (N:= ["_law_words_here"]) (js:= []) (by rfl) rfl rfl (qX (qT wb (pv 0) (qL zh) qY)) (λa=>(yO (i:=0) (show List.Nodup (["_law_words_here"]:List Str) from by decide+kernel) rfl (Or.inl rfl))) (λa=>(jU (jA (zz yQ (zM y8 (by rfl) T.no_len yR (ze (pv 0) zg)) zh (zw _)) (jz (zz qJ (qu xD (by rfl) T.no_int q0 (ze (zt zy (pv 0) zh (λ_ _=>rfl)) zg)) zh (zw _)))).pt)) (λa=>(pv 0))) (yS zg) (zw _)) (zo (zD qi)) zF) (zo (zD (zjn xW xW zh (qu xD (by rfl) T.no_int q0 (ze (zt zy (zt zy (pv 0) zh (λ_ _=>rfl)) zh (λ_ _=>rfl)) zg)) (zt zy (yS (ze zh (ze zh zg zi) zi)) (qu zf6 (by rfl) T.no_int q0 (ze (qz yQ (zt zy (zt zy (pv 0) zh (λ_ _=>rfl)) zh (λ_ _=>rfl)) (zj st_1) (zw _)) zg)) (λ_ _=>rfl)))))))))),?_⟩;rw[zkq tx nl] at q;simp only[yw,yu,yL,yv,yN,yM,yK,yt,yI,yJ,yH,ya,yr,yG,zH,zJ,zK,z9,zQ,List.replicate,Option.join_some,Option.join_none,zO,yq,yo,ym,tSl,yk,yj,yy,slT,z4,Int.reduceLT,Int.reduceLE,Int.reduceToNat,Int.reduceNeg,Int.reduceAdd,Int.reduceSub,Int.reduceMul,forall_const,zU,yf,yg,zZ,yx,zY,zS,zL,zR,zV,zW,tC,tOp,rI,rI0,tUn,rU,z5,tB,yb,tOr,yc,zX,yd,ye,tIf,z7,yi,z8,yF,tCB,yp,rEq,rNe,yA,yB,yC,yD,yE,z6,yh,ipI,L2.start,Jz,JN,Jp,List.length_nil,List.cons_append,List.nil_append,Jt,List.replicate_succ,List.replicate_zero,Nat.reduceAdd,Nat.reduceSub,List.getElem?_cons_zero,List.getElem?_cons_succ,List.set_cons_zero,List.set_cons_succ,Option.some.injEq,V.int.injEq,V.bl.injEq,V.ref.injEq,V.str.injEq,exists_eq_left',exists_eq_left,exists_eq',exists_and_left,List.cons.injEq,and_true,true_and,and_self,and_assoc,decide_eq_true_eq,if_true,if_false,Bool.true_eq_false,Js,Bool.not_eq_true',Bool.not_true,Bool.not_false,decide_eq_false_iff_not,ite_true,ite_false,reduceCtorEq,false_and,exists_false,false_or,or_false,and_false,Nat.reduceLeDiff,tBM,xE,qW];have no: ∀(b:Bool),b=false-> ¬zkp ls f ns-> ∀H',zq H H'->Q (.bl b) H':=λb e h H' s'=>q b H' s' ⟨λz=>(by rw[e] at z;cases z),λz=>absurd z h⟩;have lsl:(ls.drop 3).length<=100000:=by rw[List.length_drop];omega
 have nml:(qQ ls).length=(ls.drop 3).length:=by unfold qQ;rw[Ja]
 refine⟨l,us,rfl,hS,λpa H1 _ s1 e1=>⟨pa,rfl,⟨_,SqL.of e1⟩,λlm hlm _=> ?_⟩⟩;rw[wc us 'd' (by rw[hL.1];have:=tx.1;omega)] at e1;change H1 pa=some (.lst (us.drop 3)) at e1;have dl:(us.drop 3).length=(ls.drop 3).length:=by rw[List.length_drop,List.length_drop,hL.1]
 refine vP ((qQ ls).map λw=>V.str (SL w)) (xL (SqL.of e1)) (by rw[Ja,nml,dl]) hlm (xg 'o') (λi x u H2 K1 hx hu s2 k1=> ?_) (λH2 s2 e2=> ?_)
 ·refine opq λ_ kq=> ?_;obtain⟨nm,hnm,rfl⟩:=xA hu;obtain⟨ws,hw,rfl⟩:=xA hnm;rw[List.getElem?_drop] at hx;obtain⟨a,rfl,hA⟩:=hL.2 (3+i) x ws hx (by rw[List.getElem?_drop] at hw;exact hw);apply kq;have w1:(ws.map λw=>V.str (SL w))[1]? =some (.str (SL (wd ws 1))):=by
   obtain⟨nm,pr,rfl|⟨n,rfl,_⟩⟩:=tx.2.2.2.2.2 ws (Ji hw)
   ·rfl
   ·rfl
  simp only[yw,yu,yL,yv,yN,yM,yK,yt,yI,yJ,yH,ya,yr,yG,zH,zJ,zK,z9,zQ,List.replicate,Option.join_some,Option.join_none,zO,yq,yo,ym,tSl,yk,yj,yy,slT,z4,Int.reduceLT,Int.reduceLE,Int.reduceToNat,Int.reduceNeg,Int.reduceAdd,Int.reduceSub,Int.reduceMul,forall_const,zU,yf,yg,zZ,yx,zY,zS,zL,zR,zV,zW,tC,tOp,rI,rI0,tUn,rU,z5,tB,yb,tOr,yc,zX,yd,ye,tIf,z7,yi,z8,yF,tCB,yp,rEq,rNe,yA,yB,yC,yD,yE,z6,yh,ipI,L2.start,Jz,JN,Jp,List.length_nil,List.cons_append,List.nil_append,Jt,List.replicate_succ,List.replicate_zero,Nat.reduceAdd,Nat.reduceSub,List.getElem?_cons_zero,List.getElem?_cons_succ,List.set_cons_zero,List.set_cons_succ,Option.some.injEq,V.int.injEq,V.bl.injEq,V.ref.injEq,V.str.injEq,exists_eq_left',exists_eq_left,exists_eq',exists_and_left,List.cons.injEq,and_true,true_and,and_self,and_assoc,decide_eq_true_eq,if_true,if_false,Bool.true_eq_false,Js,Bool.not_eq_true',Bool.not_true,Bool.not_false,decide_eq_false_iff_not,ite_true,ite_false,reduceCtorEq,false_and,exists_false,false_or,or_false,and_false,Nat.reduceLeDiff,zK,zJ];exact ixL (hA.same (s1.trans s2)).1 (yP (j:=1) w1) (k1 _ (zq.refl _))
 have s02:=s1.trans s2;refine⟨lm,rfl,_, .inl (SqL.of e2),?_⟩;rw[Ja];refine zA (λh=>no _ rfl (λz=>absurd z.1 'o') _ s02) (λh8=> ?_);refine⟨lm,rfl,_,SqL.of e2,'o',λps H3 _ s3 e3=>⟨_,e3,lm,rfl,_, .inl (s3.seq (SqL.of e2)),?_⟩⟩;rw[Ja];have s03:=s02.trans s3;have dif:=zme (qQ ls);unfold kC at dif;refine zA (λh=>no _ rfl (λz=>dif.mp 'o' z.2.1) _ s03) (λhnd=> ?_);have nd':(qQ ls).Nodup:=Classical.not_not.mp λz=>hnd (by have:=dif.mpr z;omega);refine ixL (s03.seq hF) (v:= .int f) (yP (j:=0) rfl) ⟨f,rfl,zA (λf0=>⟨f,rfl,zA (λh=>no _ rfl (λz=>absurd z.2.2.1.2 'o') _ s03) (λf1=> ?_)⟩) (λh=>no _ rfl (λz=>absurd z.2.2.1.1 'o') _ s03)⟩
 ((try dsimp only);refine wM λR hR=> ?_;simp only[yw,yu,yL,yv,yN,yM,yK,yt,yI,yJ,yH,ya,yr,yG,zH,zJ,zK,z9,zQ,List.replicate,Option.join_some,Option.join_none,zO,yq,yo,ym,tSl,yk,yj,yy,slT,z4,Int.reduceLT,Int.reduceLE,Int.reduceToNat,Int.reduceNeg,Int.reduceAdd,Int.reduceSub,Int.reduceMul,forall_const,zU,yf,yg,zZ,yx,zY,zS,zL,zR,zV,zW,tC,tOp,rI,rI0,tUn,rU,z5,tB,yb,tOr,yc,zX,yd,ye,tIf,z7,yi,z8,yF,tCB,yp,rEq,rNe,yA,yB,yC,yD,yE,z6,yh,ipI,L2.start,Jz,JN,Jp,List.length_nil,List.cons_append,List.nil_append,Jt,List.replicate_succ,List.replicate_zero,Nat.reduceAdd,Nat.reduceSub,List.getElem?_cons_zero,List.getElem?_cons_succ,List.set_cons_zero,List.set_cons_succ,Option.some.injEq,V.int.injEq,V.bl.injEq,V.ref.injEq,V.str.injEq,exists_eq_left',exists_eq_left,exists_eq',exists_and_left,List.cons.injEq,and_true,true_and,and_self,and_assoc,decide_eq_true_eq,if_true,if_false,Bool.true_eq_false,Js,Bool.not_eq_true',Bool.not_true,Bool.not_false,decide_eq_false_iff_not,ite_true,ite_false,reduceCtorEq,false_and,exists_false,false_or,or_false,and_false,qW,vC,vj,wv,w9,Nat.reduceLeDiff])
 refine⟨⟨_,s3.seq (SqL.of e2)⟩,hR _ _ ?_⟩;clear hR;have wl: ∀nm∈qQ ls,nm.length<=100000:=λnm hm=>by
  refine opq λ_ kq=> ?_;obtain⟨ws,hw,rfl⟩:=Jw.mp hm;obtain⟨i,hi⟩:=List.mem_iff_getElem?.mp hw;rw[List.getElem?_drop] at hi;have hv:3+i<us.length:=by rw[hL.1];exact(Jc.mp hi).1
  obtain⟨a,_,hW⟩:=hL.2 (3+i) _ ws (Jb hv) hi;apply kq;obtain⟨nm,pr,rfl|⟨n,rfl,_⟩⟩:=tx.2.2.2.2.2 ws hw
  ·exact hW.2.2 nm (by simp)
  ·exact hW.2.2 nm (by simp)
 obtain⟨Pv,hPv⟩: ∃Pv:Nat->St->Hp->Prop,Pv=λi σ1 H7=>zq H3 H7/\(∀(j:Nat) nm,j<i->(qQ ls)[j]? =some nm->nm.length<=8/\ ∀c∈nm,97<=c/\c<=122)/\ ∃x3,σ1= [some (.ref l),some (.ref r),some (.ref lm),x3]:=⟨_,rfl⟩
 refine uI (xs:=(qQ ls).map λw=>V.str (SL w)) Pv (by rw[hPv];exact⟨zq.refl _,λj nm h=>absurd h (Nat.not_lt_zero _),_,rfl⟩) (λ_ _ _ _ h=>by rw[hPv] at h;exact h.1.seq (s3.seq (SqL.of e2))) (λi x σ1 H7 hx h=> ?_) (λσ1 H7 h=> ?_)
 ·rw[hPv] at h;refine opq λ_ kq=> ?_;obtain⟨s7,hn,x3,rfl⟩:=h;obtain⟨nm,hnm,rfl⟩:=xA hx;apply kq;have nmm:=Ji hnm;have nmL:=wl nm nmm;simp only[yw,yu,yL,yv,yN,yM,yK,yt,yI,yJ,yH,ya,yr,yG,zH,zJ,zK,z9,zQ,List.replicate,Option.join_some,Option.join_none,zO,yq,yo,ym,tSl,yk,yj,yy,slT,z4,Int.reduceLT,Int.reduceLE,Int.reduceToNat,Int.reduceNeg,Int.reduceAdd,Int.reduceSub,Int.reduceMul,forall_const,zU,yf,yg,zZ,yx,zY,zS,zL,zR,zV,zW,tC,tOp,rI,rI0,tUn,rU,z5,tB,yb,tOr,yc,zX,yd,ye,tIf,z7,yi,z8,yF,tCB,yp,rEq,rNe,yA,yB,yC,yD,yE,z6,yh,ipI,L2.start,Jz,JN,Jp,List.length_nil,List.cons_append,List.nil_append,Jt,List.replicate_succ,List.replicate_zero,Nat.reduceAdd,Nat.reduceSub,List.getElem?_cons_zero,List.getElem?_cons_succ,List.set_cons_zero,List.set_cons_succ,Option.some.injEq,V.int.injEq,V.bl.injEq,V.ref.injEq,V.str.injEq,exists_eq_left',exists_eq_left,exists_eq',exists_and_left,List.cons.injEq,and_true,true_and,and_self,and_assoc,decide_eq_true_eq,if_true,if_false,Bool.true_eq_false,Js,Bool.not_eq_true',Bool.not_true,Bool.not_false,decide_eq_false_iff_not,ite_true,ite_false,reduceCtorEq,false_and,exists_false,false_or,or_false,and_false,Nat.reduceLeDiff,xE];refine⟨qM 'o',zA (λh=>no _ rfl (λz=>absurd (z.2.2.2.1 nm nmm).1 'o') _ (s03.trans s7)) (λh=>λl1 hl1 _=> ?_)⟩;refine zfU nm (λc=> ¬(97<=c/\c<=122)) (ziK nm H7) hl1 (by rw[Ja];exact xg 'o') (by rw[Ja]) (λj y c H8 K1 K0 hy hc s8 k1 k0=> ?_) (λks H8 s8 kx ke e8=> ?_)
  ·rw[Jh,hc] at hy;cases hy;simp only[yw,yu,yL,yv,yN,yM,yK,yt,yI,yJ,yH,ya,yr,yG,zH,zJ,zK,z9,zQ,List.replicate,Option.join_some,Option.join_none,zO,yq,yo,ym,tSl,yk,yj,yy,slT,z4,Int.reduceLT,Int.reduceLE,Int.reduceToNat,Int.reduceNeg,Int.reduceAdd,Int.reduceSub,Int.reduceMul,forall_const,zU,yf,yg,zZ,yx,zY,zS,zL,zR,zV,zW,tC,tOp,rI,rI0,tUn,rU,z5,tB,yb,tOr,yc,zX,yd,ye,tIf,z7,yi,z8,yF,tCB,yp,rEq,rNe,yA,yB,yC,yD,yE,z6,yh,ipI,L2.start,Jz,JN,Jp,List.length_nil,List.cons_append,List.nil_append,Jt,List.replicate_succ,List.replicate_zero,Nat.reduceAdd,Nat.reduceSub,List.getElem?_cons_zero,List.getElem?_cons_succ,List.set_cons_zero,List.set_cons_succ,Option.some.injEq,V.int.injEq,V.bl.injEq,V.ref.injEq,V.str.injEq,exists_eq_left',exists_eq_left,exists_eq',exists_and_left,List.cons.injEq,and_true,true_and,and_self,and_assoc,decide_eq_true_eq,if_true,if_false,Bool.true_eq_false,Js,Bool.not_eq_true',Bool.not_true,Bool.not_false,decide_eq_false_iff_not,ite_true,ite_false,reduceCtorEq,false_and,exists_false,false_or,or_false,and_false,Nat.reduceLeDiff,zK,zJ];by_cases ok:97<=c/\c<=122
   ·rw[Jf (λz=>z ((je c).mpr ok))];exact k0 _ (zq.refl _) λz=>z ok
   ·rw[Jg (λz=>ok ((je c).mp z))];exact k1 _ (zq.refl _) ok
  ·intro p9 H9 _ s9 e9;have sA:=(s7.trans s8).trans s9;refine neK 0 (s9 _ _ e8) (λv hv=> ?_) e9 'd' ⟨_,rfl,zA (λz=>no _ rfl (λg=> ?_) _ (s03.trans sA)) (λz=> ?_)⟩
   ·obtain⟨c,_,rfl⟩:=Jw.mp (kx v hv);exact⟨.str [c],wE⟩
   ·have kn:ks≠ []:=λy=>by rw[y] at z;cases z
    exact kn (ke.mpr λc hc y=>y ((g.2.2.2.1 nm nmm).2 c hc))
   ·have kn:ks= []:=by cases ks with|nil=>rfl|cons a b=>exact absurd rfl z
    rw[hPv];refine⟨sA,λj nm' hj e=> ?_,_,rfl⟩;by_cases ji:j=i
    ·rw[ji,hnm] at e;cases e;exact⟨'o',λc hc=>Classical.not_not.mp (ke.mp kn c hc)⟩
    ·exact hn j nm' 'o' e
 rw[hPv] at h;refine opq λ_ kq=> ?_;obtain⟨s7,hn,x3,rfl⟩:=h;apply kq;rw[Ja] at hn;have ok4: ∀nm∈qQ ls,nm.length<=8/\ ∀c∈nm,97<=c/\c<=122:=λnm hm=>by
  obtain⟨j,hj⟩:=List.mem_iff_getElem?.mp hm;exact hn j nm (Jc.mp hj).1 hj
 have s07:=s03.trans s7;simp only[yw,yu,yL,yv,yN,yM,yK,yt,yI,yJ,yH,ya,yr,yG,zH,zJ,zK,z9,zQ,List.replicate,Option.join_some,Option.join_none,zO,yq,yo,ym,tSl,yk,yj,yy,slT,z4,Int.reduceLT,Int.reduceLE,Int.reduceToNat,Int.reduceNeg,Int.reduceAdd,Int.reduceSub,Int.reduceMul,forall_const,zU,yf,yg,zZ,yx,zY,zS,zL,zR,zV,zW,tC,tOp,rI,rI0,tUn,rU,z5,tB,yb,tOr,yc,zX,yd,ye,tIf,z7,yi,z8,yF,tCB,yp,rEq,rNe,yA,yB,yC,yD,yE,z6,yh,ipI,L2.start,Jz,JN,Jp,List.length_nil,List.cons_append,List.nil_append,Jt,List.replicate_succ,List.replicate_zero,Nat.reduceAdd,Nat.reduceSub,List.getElem?_cons_zero,List.getElem?_cons_succ,List.set_cons_zero,List.set_cons_succ,Option.some.injEq,V.int.injEq,V.bl.injEq,V.ref.injEq,V.str.injEq,exists_eq_left',exists_eq_left,exists_eq',exists_and_left,List.cons.injEq,and_true,true_and,and_self,and_assoc,decide_eq_true_eq,if_true,if_false,Bool.true_eq_false,Js,Bool.not_eq_true',Bool.not_true,Bool.not_false,decide_eq_false_iff_not,ite_true,ite_false,reduceCtorEq,false_and,exists_false,false_or,or_false,and_false,Nat.reduceLeDiff,xE,qW];refine⟨r,_,rfl,s07.seq hF,λp8 H8 _ s8 e8=>⟨p8,rfl,⟨_,SqL.of e8⟩,λl1 hl1 _=> ?_⟩⟩;rw[wc _ 'd' (by rw[Ja,Jp];omega)] at e8;change H8 p8=some (.lst (ns.map V.int)) at e8;have s08:=s07.trans s8;refine zfU ns (λn=> ¬(0<=n/\n<10 ^ 30)) (xL (SqL.of e8)) hl1 (by rw[Ja];exact xg 'o') (by rw[Ja]) (λj y n H9 K1 K0 hy hc s9 k1 k0=> ?_) (λks H9 s9 kx ke e9=> ?_)
 ·rw[Jh,hc] at hy;cases hy;simp only[yw,yu,yL,yv,yN,yM,yK,yt,yI,yJ,yH,ya,yr,yG,zH,zJ,zK,z9,zQ,List.replicate,Option.join_some,Option.join_none,zO,yq,yo,ym,tSl,yk,yj,yy,slT,z4,Int.reduceLT,Int.reduceLE,Int.reduceToNat,Int.reduceNeg,Int.reduceAdd,Int.reduceSub,Int.reduceMul,forall_const,zU,yf,yg,zZ,yx,zY,zS,zL,zR,zV,zW,tC,tOp,rI,rI0,tUn,rU,z5,tB,yb,tOr,yc,zX,yd,ye,tIf,z7,yi,z8,yF,tCB,yp,rEq,rNe,yA,yB,yC,yD,yE,z6,yh,ipI,L2.start,Jz,JN,Jp,List.length_nil,List.cons_append,List.nil_append,Jt,List.replicate_succ,List.replicate_zero,Nat.reduceAdd,Nat.reduceSub,List.getElem?_cons_zero,List.getElem?_cons_succ,List.set_cons_zero,List.set_cons_succ,Option.some.injEq,V.int.injEq,V.bl.injEq,V.ref.injEq,V.str.injEq,exists_eq_left',exists_eq_left,exists_eq',exists_and_left,List.cons.injEq,and_true,true_and,and_self,and_assoc,decide_eq_true_eq,if_true,if_false,Bool.true_eq_false,Js,Bool.not_eq_true',Bool.not_true,Bool.not_false,decide_eq_false_iff_not,ite_true,ite_false,reduceCtorEq,false_and,exists_false,false_or,or_false,and_false,Nat.reduceLeDiff,zK,zJ];exact zA (λn0=>⟨⟨'d','d','d'⟩,zA (λn1=>k1 _ (zq.refl _) λz=>n1 z.2) (λn1=>k0 _ (zq.refl _) λz=>z ⟨n0,Classical.not_not.mp n1⟩)⟩) (λn0=>k1 _ (zq.refl _) λz=>n0 z.1)
 intro pE HE _ sE eE;have s0E:=(s08.trans s9).trans sE;refine neK 0 (sE _ _ e9) (λv hv=> ?_) eE 'd' ⟨_,rfl,zA (λz=>no _ rfl (λg=> ?_) _ s0E) (λz=> ?_)⟩
 ·obtain⟨n,_,rfl⟩:=Jw.mp (kx v hv);exact⟨.int n,xO⟩
 ·have kn:ks≠ []:=λy=>by rw[y] at z;cases z
  exact kn (ke.mpr λn hn y=>y (g.2.2.2.2.1 n hn))
 have kn:ks= []:=by cases ks with|nil=>rfl|cons a b=>exact absurd rfl z
 have ok5: ∀n∈ns,0<=n/\n<10 ^ 30:=λn hn=>Classical.not_not.mp (ke.mp kn n hn);clear ke kx e9 kn z;refine⟨l,us,rfl,s0E.seq hS,λpF HF _ sF eF=>⟨pF,rfl,⟨_,SqL.of eF⟩,λl2 hl2 _=> ?_⟩⟩;rw[wc us 'd' (by rw[hL.1];have:=tx.1;omega)] at eF;change HF pF=some (.lst (us.drop 3)) at eF;have s0F:=s0E.trans sF;refine zfU (ls.drop 3) (λws=> ¬ctF ws<=400) (xL (SqL.of eF)) hl2 (xg 'o') dl.symm (λj y ws HG K1 K0 hy hc sG k1 k0=> ?_) (λks HG sG kx ke eG=> ?_)
 ·rw[List.getElem?_drop] at hy;obtain⟨a,rfl,hA⟩:=hL.2 (3+j) y ws hy (by rw[List.getElem?_drop] at hc;exact hc);have hA':=hA.same (s0F.trans sG);simp only[yw,yu,yL,yv,yN,yM,yK,yt,yI,yJ,yH,ya,yr,yG,zH,zJ,zK,z9,zQ,List.replicate,Option.join_some,Option.join_none,zO,yq,yo,ym,tSl,yk,yj,yy,slT,z4,Int.reduceLT,Int.reduceLE,Int.reduceToNat,Int.reduceNeg,Int.reduceAdd,Int.reduceSub,Int.reduceMul,forall_const,zU,yf,yg,zZ,yx,zY,zS,zL,zR,zV,zW,tC,tOp,rI,rI0,tUn,rU,z5,tB,yb,tOr,yc,zX,yd,ye,tIf,z7,yi,z8,yF,tCB,yp,rEq,rNe,yA,yB,yC,yD,yE,z6,yh,ipI,L2.start,Jz,JN,Jp,List.length_nil,List.cons_append,List.nil_append,Jt,List.replicate_succ,List.replicate_zero,Nat.reduceAdd,Nat.reduceSub,List.getElem?_cons_zero,List.getElem?_cons_succ,List.set_cons_zero,List.set_cons_succ,Option.some.injEq,V.int.injEq,V.bl.injEq,V.ref.injEq,V.str.injEq,exists_eq_left',exists_eq_left,exists_eq',exists_and_left,List.cons.injEq,and_true,true_and,and_self,and_assoc,decide_eq_true_eq,if_true,if_false,Bool.true_eq_false,Js,Bool.not_eq_true',Bool.not_true,Bool.not_false,decide_eq_false_iff_not,ite_true,ite_false,reduceCtorEq,false_and,exists_false,false_or,or_false,and_false,Nat.reduceLeDiff,zK,zJ];obtain⟨nm,pr,rfl|⟨n,rfl,nk,_⟩⟩:=tx.2.2.2.2.2 ws (Ji hc)
  ·refine⟨_, .inl hA'.1,?_⟩;rw[Jf (by rw[Ja];show¬((3:Nat):Int)=5;decide)];exact k0 _ (zq.refl _) λz=>z (by show (0:Int)<=400;decide)
  ·refine⟨_, .inl hA'.1,?_⟩;rw[Jg (by rw[Ja];rfl)];have ce:ctF [xz,nm,pr,vo,n]=(PySem.NumText.digitsVal n:Nat):=rfl;rw[ce] at k1 k0;exact ixL hA'.1 (v:= .str (SL n)) rfl ⟨n,rfl,nk.1,nk.2.1,by have:=wo nk;omega,zA (λh=>k1 _ (zq.refl _) 'o') (λh=>k0 _ (zq.refl _) 'o')⟩
 intro pI HI _ sI eI;have s0I:=(s0F.trans sG).trans sI;refine neK 1 (sI _ _ eG) (λv hv=> ?_) eI 'd' ⟨_,rfl,zA (λz=>no _ rfl (λg=> ?_) _ s0I) (λz=> ?_)⟩
 ·refine opq λ_ kq=> ?_;obtain⟨j,hj⟩:=List.mem_iff_getElem?.mp (kx v hv);have hw:=Jb (l:=ls.drop 3) (by rw[<-dl];exact(Jc.mp hj).1);rw[List.getElem?_drop] at hj hw;obtain⟨a,rfl,hA⟩:=hL.2 (3+j) v _ hj hw;apply kq;exact⟨.lst (_),uk (hA.same s0I).1 (zgz _)⟩
 ·have kn:ks≠ []:=λy=>by rw[y] at z;cases z
  exact kn (ke.mpr λws hw y=>y (g.2.2.2.2.2.1 ws hw))
 have kn:ks= []:=by cases ks with|nil=>rfl|cons a b=>exact absurd rfl z
 have ok6: ∀ws∈ls.drop 3,ctF ws<=400:=λws hw=>Classical.not_not.mp (ke.mp kn ws hw);clear ke kx eG kn z;refine opq λ_ kq=> ?_;obtain⟨n2,dy,w2,k2⟩:=tx.2.2.2.2.1;obtain⟨a2,u2,A2⟩:=hL.get (i:=2) (by have:=tx.1;omega);apply kq;rw[w2] at A2;have cy:vm (qG ls)=(decide (1<=(PySem.NumText.digitsVal n2:Int)) && decide ((PySem.NumText.digitsVal n2:Int)<=if dy then 400 else 12)):=by
  unfold qG;rw[w2];cases dy<;>rfl
 refine ixL (s0I.seq hS) (yP (j:=2) u2) (ixL (A2.same s0I).1 (v:= .str (SL n2)) rfl ⟨n2,rfl,k2.1,k2.2.1,by have:=wo k2;omega,zA (λh1=> ?_) (λh1=>no _ rfl (λz=> ?_) _ s0I)⟩);rotate_left
 ·have:=z.2.2.2.2.2.2;rw[cy,JM h1] at this;cases this
 intro pJ HJ _ sJ eJ;have s0J:=s0I.trans sJ;refine ixL (s0J.seq hS) (yP (j:=2) u2) (ixL (A2.same s0J).1 (v:= .str (SL (qm dy))) rfl ⟨rfl,?_⟩);have fin: ∀c:Int,c=(if dy then 400 else 12)->Q (.bl (decide ((PySem.NumText.digitsVal n2:Int)<=c))) HJ:=λc e=>by
  refine q _ _ s0J ⟨λz=>⟨'o',nd',⟨f0,'o'⟩,ok4,ok5,ok6,?_⟩,λz=> ?_⟩
  ·rw[cy,JL h1,<-e,z];rfl
  ·have:=z.2.2.2.2.2.2;rw[cy,JL h1,Bool.true_and,<-e] at this;exact this
 cases dy with
 |true=>
  rw[Jf (zio 'd')];exact ixL (SqL.of eJ) (v:= .int 400) rfl ⟨400,rfl,fin 400 rfl⟩
 |false=>
  rw[Jg (vX.mpr (show qm false= [109,111,110,116,104,115] from rfl))];exact ixL (SqL.of eJ) (v:= .int 12) rfl ⟨12,rfl,fin 12 rfl⟩
def wdK:Nat->List Nat
 |0=> [116,101,120,116]
 |1=> [100,97,116,101]
 |2=> [97,109,111,117,110,116]
 |_=> [97,99,99,111,117,110,116]
noncomputable def dueD(ls:List (List (List Nat))):D:=(resF ls).elim (λk=> .tup [.str (wdK k), .non]) λd=> .tup [.str [],d]
def zm9(K:Fg):Sp:=λvs H Q _=> ∃cs:List Nat,vs= [.str (SL cs)]/\cs.length<=90000/\ ∀r H',zq H H'->Dp K H' 5 (dueD (lnW cs)) (.ref r)->Q (.ref r) H'
theorem zhu{p:Nat}: ∀{rs:List (List (List Nat))} {ns:List Int},amsO p rs=some ns->ns.length=rs.length
 | [],ns,h=>by cases h;rfl
 |ws::rs,ns,h=>by
  unfold amsO at h;split at h
  ·cases h
  ·obtain⟨ns',h',rfl⟩:=Jk.mp h;exact congrArg (· +1) (zhu h')
theorem zna(h:resF ls= .inl 0):dueD ls= .tup [.str [116,101,120,116], .non]:=by unfold dueD;rw[h];rfl
theorem znb(h:resF ls= .inl 1):dueD ls= .tup [.str [100,97,116,101], .non]:=by unfold dueD;rw[h];rfl
theorem znc(h:resF ls= .inl 2):dueD ls= .tup [.str [97,109,111,117,110,116], .non]:=by unfold dueD;rw[h];rfl
theorem znd(h:resF ls= .inl 3):dueD ls= .tup [.str [97,99,99,111,117,110,116], .non]:=by unfold dueD;rw[h];rfl
theorem zlG{d:D}(h:resF ls= .inr d):dueD ls= .tup [.str [],d]:=by unfold dueD;rw[h];rfl
theorem zne(tx: ¬xf ls):resF ls= .inl 0:=by unfold resF;exact Jf tx
theorem znf(tx:xf ls)(h:opt (xh (wd (yY ls 1) 1))=none):resF ls= .inl 1:=by unfold resF;rw[Jg tx,h]
theorem zng(tx:xf ls)(h:opt (xh (wd (yY ls 1) 1))=some f)(g:amsO (qy ls) (ls.drop 3)=none):resF ls= .inl 2:=by
 unfold resF;rw[Jg tx,h];dsimp only;rw[g]
theorem znh(tx:xf ls)(h:opt (xh (wd (yY ls 1) 1))=some f)(g:amsO (qy ls) (ls.drop 3)=some ns)(n: ¬wR (qE ls ns) f (qG ls)):resF ls= .inl 3:=by
 unfold resF;rw[Jg tx,h];dsimp only;rw[g];dsimp only;rw[Jf n]
theorem zni(tx:xf ls)(h:opt (xh (wd (yY ls 1) 1))=some f)(g:amsO (qy ls) (ls.drop 3)=some ns)(n:wR (qE ls ns) f (qG ls)):resF ls= .inr (.tup [.int (qy ls), .tup [.lst ((qE ls ns).map D.tup), .int f, .tup (qG ls)]]):=by
 unfold resF;rw[Jg tx,h];dsimp only;rw[g];dsimp only;rw[Jg n]
theorem uF{r:Addr}{w:List Nat}(e:H r=some (.tup [.str (SL w), .non])):Dp K H 5 (.tup [.str w, .non]) (.ref r):=xN (SqT.of e) ⟨wE,zl4,trivial⟩
theorem zg2:PySem.W.kitOne K (.type "list") (.type "str")=some false:=rfl
theorem sc_1c:FnScope ["_law_text_here","_law_lines_here","_law_found","_law_plans","_law_words_here","_law_price"] ["_law_text_here"] (zC s_1c):=⟨rfl,rfl,rfl,by decide+kernel,rfl,by decide+kernel,by decide+kernel⟩
theorem ok_1c(T:Txt K mg t):FnOkT P w K mg base (CXE P w) 6 t.a_1c t.d_1c ["_law_text_here"] (zm9 K):=by
 refine T.fn_1c.okXT sc_1c (λvs H Q E h=> ?_) (λcdv A outer s H vs Q E L hr h=> ?_)
 ·refine opq λ_ kq=> ?_;obtain⟨cs,rfl,hl,q⟩:=h;apply kq;rfl
 refine opq λ_ kq=> ?_;obtain⟨cs,rfl,hl,q⟩:=h;apply kq;have nd:=sc_1c.nd;refine⟨_,(qF (PS.t (jW (i:=1) nd rfl rfl (n:=1) (N:= ["_law_line"]) (js:= []) (by rfl) rfl rfl (qX (yU PySem.F.plainAttrs_str PySem.F.slot_str_split PySem.F.type_str_split wT (pv 0) (ze (zj st_29) zg))) (λa=>(yO (i:=0) (show List.Nodup (["_law_line"]:List Str) from by decide+kernel) rfl (Or.inl rfl))) (λa=>wa) (λa=>(yU PySem.F.plainAttrs_str PySem.F.slot_str_split PySem.F.type_str_split wT (pv 0) (ze (zj st_21) zg))))) (qF (PS.t (zG (qI (qB (zu L.toLv (ok_19 T) (hr.mono 'd') (by rfl) T.mg_19 T.fn_19.kp T.b_19 .nil (ze (pv 1) zg)))) (zo (zD (qx (ze (zj st_117) (ze wG zg zi) zi)))) zF)) (qF (uo (i:=2) nd rfl (Or.inl rfl) (wN L.toLv (ok_1a T) (hr.mono 'd') (by rfl) T.mg_1a T.fn_1a.kp T.b_1a .nil (PA.t (ze (pv 1) zg)))) (PSs.t (zn (zG (qB (zM xm (by rfl) T.no_isinstance xk (ze (pv 2) (ze (uc (by rfl) T.no_str wy) zg zk) zk))) (zo (zD (qx (ze (pv 2) (ze wG zg zi) zk)))) zF) (zn (zG (qI (qB (zu L.toLv (ok_1b T) (hr.mono 'd') (by rfl) T.mg_1b T.fn_1b.kp T.b_1b .nil (ze (pv 1) (ze (pv 2) zg zk) zk)))) (zo (zD (qx (ze (zj st_118) (ze wG zg zi) zi)))) zF) (zn (zI (i:=3) nd rfl (Or.inl rfl) (yS zg)) (zn (xx (by passes_own) rfl (zl5 (by rfl) T.no_zip (ze (qT wb (pv 1) (qL zh) qY) (ze (qT wb (pv 2) (qL zh) qY) zg y9) y9)) (xJ (n:=2) rfl (qf (yO (i:=4) nd rfl (Or.inl rfl)) (qf (yO (i:=5) nd rfl (Or.inl rfl)) xI))) (zo (qc (yU PySem.F.plainAttrs_list PySem.F.slot_list_append PySem.F.type_list_append wI (pv 3) (ze (qx (ze (zt zy (pv 4) zh (λ_ _=>rfl)) (ze (pv 5) (ze (qu xD (by rfl) T.no_int q0 (ze (zt zy (zr u4 (pv 4) (yS (ze (zj st_32) (ze (zj st_19) zg zi) zi))) zh (λ_ _=>rfl)) zg)) zg qh) zk) y9)) zg))))) (zo (zD (qx (ze (zj st_14) (ze (qx (ze (qu xD (by rfl) T.no_int q0 (ze (zt zy (zt zy (pv 1) zh (λ_ _=>rfl)) zh (λ_ _=>rfl)) zg)) (ze (qx (ze (pv 3) (ze (zt zy (pv 2) zh (λ_ _=>rfl)) (ze (qx (ze (zt zy (zt zy (pv 1) zh (λ_ _=>rfl)) zh (λ_ _=>rfl)) (ze (qu xD (by rfl) T.no_int q0 (ze (zt zy (zt zy (pv 1) zh (λ_ _=>rfl)) zh (λ_ _=>rfl)) zg)) zg qh) y9)) zg u7) y9) zk)) zg u7) qh)) zg u7) zi)))))))))))),?_⟩;simp only[yw,yu,yL,yv,yN,yM,yK,yt,yI,yJ,yH,ya,yr,yG,zH,zJ,zK,z9,zQ,List.replicate,Option.join_some,Option.join_none,zO,yq,yo,ym,tSl,yk,yj,yy,slT,z4,Int.reduceLT,Int.reduceLE,Int.reduceToNat,Int.reduceNeg,Int.reduceAdd,Int.reduceSub,Int.reduceMul,forall_const,zU,yf,yg,zZ,yx,zY,zS,zL,zR,zV,zW,tC,tOp,rI,rI0,tUn,rU,z5,tB,yb,tOr,yc,zX,yd,ye,tIf,z7,yi,z8,yF,tCB,yp,rEq,rNe,yA,yB,yC,yD,yE,z6,yh,ipI,L2.start,Jz,JN,Jp,List.length_nil,List.cons_append,List.nil_append,Jt,List.replicate_succ,List.replicate_zero,Nat.reduceAdd,Nat.reduceSub,List.getElem?_cons_zero,List.getElem?_cons_succ,List.set_cons_zero,List.set_cons_succ,Option.some.injEq,V.int.injEq,V.bl.injEq,V.ref.injEq,V.str.injEq,exists_eq_left',exists_eq_left,exists_eq',exists_and_left,List.cons.injEq,and_true,true_and,and_self,and_assoc,decide_eq_true_eq,if_true,if_false,Bool.true_eq_false,Js,Bool.not_eq_true',Bool.not_true,Bool.not_false,decide_eq_false_iff_not,ite_true,ite_false,reduceCtorEq,false_and,exists_false,false_or,or_false,and_false,Nat.reduceLeDiff,tBM,xE,qW];have rl:=wS 10 cs;refine⟨rfl,'o',λpl H1 _ s1 e1=>⟨pl,rfl,⟨_,SqL.of e1⟩,λl hl' _=> ?_⟩⟩;refine kz (λi v H'=> ∃a r,v= .ref a/\a≠l/\(spl 10 cs)[i]? =some r/\H' a=some (.lst ((spl 32 r).map λw=>V.str (SL w)))) (xL (SqL.of e1)) hl' (by rw[Ja];exact xg 'o') (λi x H2 K1 hx s2 k1 nl=> ?_) (λi v H2 H5 h h5=> ?_) (λvs H2 s2 vl hv e2=> ?_)
 ·obtain⟨r,hr,rfl⟩:=xA hx
  have:=wk (Ji hr);simp only[yw,yu,yL,yv,yN,yM,yK,yt,yI,yJ,yH,ya,yr,yG,zH,zJ,zK,z9,zQ,List.replicate,Option.join_some,Option.join_none,zO,yq,yo,ym,tSl,yk,yj,yy,slT,z4,Int.reduceLT,Int.reduceLE,Int.reduceToNat,Int.reduceNeg,Int.reduceAdd,Int.reduceSub,Int.reduceMul,forall_const,zU,yf,yg,zZ,yx,zY,zS,zL,zR,zV,zW,tC,tOp,rI,rI0,tUn,rU,z5,tB,yb,tOr,yc,zX,yd,ye,tIf,z7,yi,z8,yF,tCB,yp,rEq,rNe,yA,yB,yC,yD,yE,z6,yh,ipI,L2.start,Jz,JN,Jp,List.length_nil,List.cons_append,List.nil_append,Jt,List.replicate_succ,List.replicate_zero,Nat.reduceAdd,Nat.reduceSub,List.getElem?_cons_zero,List.getElem?_cons_succ,List.set_cons_zero,List.set_cons_succ,Option.some.injEq,V.int.injEq,V.bl.injEq,V.ref.injEq,V.str.injEq,exists_eq_left',exists_eq_left,exists_eq',exists_and_left,List.cons.injEq,and_true,true_and,and_self,and_assoc,decide_eq_true_eq,if_true,if_false,Bool.true_eq_false,Js,Bool.not_eq_true',Bool.not_true,Bool.not_false,decide_eq_false_iff_not,ite_true,ite_false,reduceCtorEq,false_and,exists_false,false_or,or_false,and_false,Nat.reduceLeDiff,zK,zJ,tBM];refine⟨rfl,'o',λa H3 ha s3 e3=>k1 (.ref a) H3 s3 λH5 h5=> ?_⟩;have al:a≠l:=λz=>nl (z ▸ ha);exact⟨a,r,rfl,al,hr,h5 a _ al e3⟩
 ·refine opq λ_ kq=> ?_;obtain⟨a,r,rfl,al,hr,e⟩:=h;apply kq;exact⟨a,r,rfl,al,hr,h5 a _ al e⟩
 rw[Ja] at vl;have LA:xQ K H2 vs (lnW cs):=⟨by unfold lnW;rw[Ja];exact vl,λi v ws ev ew=>by
  refine opq λ_ kq=> ?_;obtain⟨a,r,rfl,_,hr,e⟩:=hv i v ev;apply kq;unfold lnW at ew;rw[Jh,hr] at ew;cases ew;have h1:=wk (Ji hr);have h2:=wS 32 r;exact⟨a,rfl,SqL.of e,'o',λw hw=>by have:=wk hw;omega⟩⟩
 have LR: ∀(i:Nat) v ws,vs[i]? =some v->(lnW cs)[i]? =some ws-> ∃a,v= .ref a/\H2 a=some (.lst (ws.map λw=>V.str (SL w))):=λi v ws ev ew=>by
  refine opq λ_ kq=> ?_;obtain⟨a,r,rfl,_,hr,e⟩:=hv i v ev;apply kq;unfold lnW at ew;rw[Jh,hr] at ew;cases ew;exact⟨a,rfl,e⟩
 have ll:(lnW cs).length<=90001:=by unfold lnW;rw[Ja];omega
 generalize lnW cs=ls at*;have hS:SqL K H2 l vs:=SqL.of e2;have s02:=s1.trans s2;refine⟨l,vs,ls,rfl,hS,LA,'o',λb H3 s3 hb=>⟨b,rfl,zA (λh r H4 _ s4 e4=>q r H4 ((s02.trans s3).trans s4) ?_) (λh=> ?_)⟩⟩
 ·rw[zna (zne λz=>by rw[hb.mpr z] at h;cases h)];exact uF e4
 have tx:xf ls:=hb.mp (by cases b with|true=>rfl|false=>exact absurd rfl h);have s03:=s02.trans s3;refine⟨l,vs,ls,rfl,s3.seq hS,LA.same s3,'o',tx,λh0 H4 s4=> ?_,λf h1 h2 H4 s4=> ?_,λf ns h1 h2 r H4 s4 e4=> ?_⟩
 ·refine⟨_, .old (.str _),_,rfl,_,jS,?_⟩;rw[Jg rfl];intro r H5 _ s5 e5;refine q r H5 ((s03.trans s4).trans s5) ?_;rw[znb (znf tx h0)];exact uF e5
 ·refine⟨_, .old (.str _),_,rfl,_,jS,?_⟩;rw[Jg rfl];intro r H5 _ s5 e5;refine q r H5 ((s03.trans s4).trans s5) ?_;rw[znc (zng tx h1 h2)];exact uF e5
 refine⟨_, .old (.lst e4),_,rfl,_,zg2,?_⟩;rw[Jf 'd'];have nl:=zhu h2;have s34:=s3.trans s4;have s04:=s03.trans s4;refine⟨l,vs,ls,r,f,ns,rfl,s34.seq hS,LA.same s34,'o',tx,SqL.of e4,nl,λb2 H5 s5 hb2=>⟨b2,rfl,zA (λh rr H6 _ s6 e6=>q rr H6 ((s04.trans s5).trans s6) ?_) (λh=> ?_)⟩⟩
 ·rw[znd (znh tx h1 h2 λz=>by rw[hb2.mpr z] at h;cases h)];exact uF e6
 have ok:=hb2.mp (by cases b2 with|true=>rfl|false=>exact absurd rfl h);have dd:=zlG (zni tx h1 h2 ok);have s05:=s04.trans s5;have s35:=s34.trans s5;intro lp H6 flp s6 e6;have s06:=s05.trans s6;have s36:=s35.trans s6
 ((try dsimp only);refine wM λR hR=> ?_;simp only[yw,yu,yL,yv,yN,yM,yK,yt,yI,yJ,yH,ya,yr,yG,zH,zJ,zK,z9,zQ,List.replicate,Option.join_some,Option.join_none,zO,yq,yo,ym,tSl,yk,yj,yy,slT,z4,Int.reduceLT,Int.reduceLE,Int.reduceToNat,Int.reduceNeg,Int.reduceAdd,Int.reduceSub,Int.reduceMul,forall_const,zU,yf,yg,zZ,yx,zY,zS,zL,zR,zV,zW,tC,tOp,rI,rI0,tUn,rU,z5,tB,yb,tOr,yc,zX,yd,ye,tIf,z7,yi,z8,yF,tCB,yp,rEq,rNe,yA,yB,yC,yD,yE,z6,yh,ipI,L2.start,Jz,JN,Jp,List.length_nil,List.cons_append,List.nil_append,Jt,List.replicate_succ,List.replicate_zero,Nat.reduceAdd,Nat.reduceSub,List.getElem?_cons_zero,List.getElem?_cons_succ,List.set_cons_zero,List.set_cons_succ,Option.some.injEq,V.int.injEq,V.bl.injEq,V.ref.injEq,V.str.injEq,exists_eq_left',exists_eq_left,exists_eq',exists_and_left,List.cons.injEq,and_true,true_and,and_self,and_assoc,decide_eq_true_eq,if_true,if_false,Bool.true_eq_false,Js,Bool.not_eq_true',Bool.not_true,Bool.not_false,decide_eq_false_iff_not,ite_true,ite_false,reduceCtorEq,false_and,exists_false,false_or,or_false,and_false,qW,vC,vj,wv,w9,Nat.reduceLeDiff])
 have rl1:1<=((f::ns).map V.int).length:=by rw[Ja,Jp];omega
 refine⟨l,vs,rfl,s36.seq hS,λpa H7 fpa s7 e7=>⟨r,_,rfl,((s5.trans s6).trans s7).seq (SqL.of e4),λpb H8 fpb s8 e8=>⟨pa,rfl,pb,rfl,⟨_,s8.seq (SqL.of e7)⟩,⟨_,SqL.of e8⟩,hR _ _ ?_⟩⟩⟩;clear hR;rw[wc vs 'd' (by rw[LA.1];have:=tx.1;omega)] at e7;rw[wc _ 'd' 'o'] at e8;change H7 pa=some (.lst (vs.drop 3)) at e7;change H8 pb=some (.lst (ns.map V.int)) at e8;have s68:=s7.trans s8;have s08:=s06.trans s68;have s38:=s36.trans s68;have dl:(vs.drop 3).length=(ls.drop 3).length:=by rw[List.length_drop,List.length_drop,LA.1]
 have lsl:(ls.drop 3).length<=90001:=by rw[List.length_drop];omega
 have pal:pa≠lp:=λz=>by
  have h6:H6 pa=none:=fpa;rw[z,e6] at h6;cases h6
 have pbl:pb≠lp:=λz=>by
  have h7:H7 pb=none:=fpb;rw[z,s7 _ _ e6] at h7;cases h7
 have lpf:H5 lp=none:=flp;obtain⟨Pv,hPv⟩: ∃Pv:Nat->St->Hp->Prop,Pv=λi σ1 H9=> ∃as:List Addr,as.length=i/\But lp H8 H9/\H9 lp=some (.lst (as.map V.ref))/\(∀(j:Nat) ws n a,(ls.drop 3)[j]? =some ws->ns[j]? =some n->as[j]? =some a->a≠lp/\H9 a=some (.tup [.str (SL (wd ws 1)), .int n, .int (ctF ws)]))/\ ∃x4 x5,σ1= [some (.str (SL cs)),some (.ref l),some (.ref r),some (.ref lp),x4,x5]:=⟨_,rfl⟩
 have old: ∀{H9:Hp},But lp H8 H9->zq H2 H9:=fun {H9} b=>zq.but (s36.trans s68) (s35.free lpf) b;refine zkO (xs:=vs.drop 3) (ys:=ns.map V.int) Pv (by rw[Ja,dl,nl];exact Je _) (by rw[hPv];exact⟨[],rfl,λ_ _ _ e=>e,s68 _ _ e6,λj ws n a _ _ e=>by simp at e,_,_,rfl⟩) (λ_ _ _ _ h=>by rw[hPv] at h;obtain⟨_,_,b,_⟩:=h;exact⟨SqL.of (b _ _ pal (s8 _ _ e7)),SqL.of (b _ _ pbl e8)⟩) (λi σ1 H9 H' h s'=>by rw[hPv] at h ⊢;obtain⟨as,h1,h2,h3,h4,h5⟩:=h;exact⟨as,h1,h2.trans (But.of s'),s' _ _ h3,λj ws n a e1 e2 e3=>⟨(h4 j ws n a e1 e2 e3).1,s' _ _ (h4 j ws n a e1 e2 e3).2⟩,h5⟩) (λi x y σ1 H9 hx hy h=> ?_) (λσ1 H9 h=> ?_)
 ·rw[hPv] at h;refine opq λ_ kq=> ?_;obtain⟨as,al,b9,e9,has,x4,x5,rfl⟩:=h;apply kq;have hi:=(Jc.mp hx).1;have hr:=Jb (l:=ls.drop 3) (by rw[<-dl];exact hi);generalize (ls.drop 3)[i]'_=ws at hr;refine opq λ_ kq=> ?_;obtain⟨n,hn,rfl⟩:=xA hy;rw[List.getElem?_drop] at hx;obtain⟨a,rfl,hA⟩:=LR (3+i) x ws hx (by rw[List.getElem?_drop] at hr;exact hr);apply kq;have hA9:=old b9 _ _ hA;lge_open0
  have shp: ∃w4:List Nat,(ws.map λw=>V.str (SL w))[1]? =some (.str (SL (wd ws 1)))/\((ws.map λw=>V.str (SL w))++ [V.str (SL [112,101,114]),V.str (SL [48])])[4]? =some (.str (SL w4))/\PySem.NumText.AllDigits w4/\w4≠ []/\w4.length<=640/\ctF ws=(PySem.NumText.digitsVal w4:Nat)/\ws.length<=5:=by
   obtain⟨nm,pr,rfl|⟨k,rfl,nk,_⟩⟩:=tx.2.2.2.2.2 ws (Ji hr)
   ·exact⟨[48],rfl,rfl,λd hd=>by rw[Jm.mp hd];decide,'d','d',rfl,by show 3<=5;decide⟩
   ·exact⟨k,rfl,rfl,nk.1,nk.2.1,by have:=wo nk;omega,rfl,by show 5<=5;decide⟩
  refine opq λ_ kq=> ?_;obtain⟨w4,g1,g2,g3,g4,g5,g6,g7⟩:=shp;apply kq;refine⟨.inl ⟨rfl,_,SqL.of e9⟩,ixL (SqL.of hA9) (yP (j:=1) g1) λpq HA _ sA eA=>⟨a,pq,_,_,rfl,rfl,sA _ _ hA9,eA,?_,λpc HB _ sB eB=>ixL (SqL.of eB) (yP (j:=4) g2) ⟨w4,rfl,g3,g4,g5,λpt HC fpt sC eC=> ?_⟩⟩⟩
  ·rw[Ja];exact qM (by simp only[Jp,List.length_nil];omega)
  have s9C:=(sA.trans sB).trans sC;have ptl:pt≠lp:=λz=>by rw[z,(sA.trans sB) _ _ e9] at fpt;cases fpt
  refine⟨lp,_,_,rfl,rfl,s9C _ _ e9,?_,?_⟩
  ·rw[Ja,al];exact xg 'o'
  rw[hPv];refine⟨as++ [pt],by rw[Jj,al];rfl,(b9.trans (But.of s9C)).put,?_,λj ws' n' a' e1 e2 e3=> ?_,_,_,rfl⟩
  ·rw[zP,Jd];rfl
  ·by_cases z:j<as.length
   ·rw[List.getElem?_append_left z] at e3;obtain⟨h1,h2⟩:=has j ws' n' a' e1 e2 e3;exact⟨h1,by rw[zT h1];exact s9C _ _ h2⟩
   ·have:j<(as++ [pt]).length:=(Jc.mp e3).1;rw[Jj,List.length_singleton] at this;obtain rfl:j=i:=by omega
    rw[<-al,List.getElem?_concat_length] at e3;cases e3;rw[hr] at e1;cases e1;rw[hn] at e2;cases e2;exact⟨ptl,by rw[zT ptl,eC,g6]⟩
 ·rw[hPv] at h;refine opq λ_ kq=> ?_;obtain⟨as,al,b9,e9,has,x4,x5,rfl⟩:=h;apply kq;rw[dl] at al;have s9:=old b9;have A9:=LA.same s9;lge_open0
  refine opq λ_ kq=> ?_;obtain⟨l4,no,⟨n0,w0,k0,v0⟩,_,⟨n2,dy,w2,k2⟩,pls⟩:=id tx;obtain⟨a0,u0,A0⟩:=A9.get (i:=0) 'o';obtain⟨a2,u2,A2⟩:=A9.get (i:=2) 'o';apply kq;have pe:qy ls=PySem.NumText.digitsVal n0:=by unfold qy;rw[w0];rfl
  have ce:qG ls= [.str (qm dy), .int (PySem.NumText.digitsVal n2:Nat)]:=by unfold qG;rw[w2];rfl
  rw[w0] at A0;rw[w2] at A2;have hS9:=s9.seq hS;have r9:H9 r=some (.lst ((f::ns).map V.int)):=b9 _ _ (λz=>by rw[<-z,s5 _ _ e4] at lpf;cases lpf) (s68 _ _ (s6 _ _ (s5 _ _ e4)));refine ixL hS9 (yP (j:=0) u0) (ixL A0.1 (v:= .str (SL n0)) rfl ⟨n0,rfl,k0.1,k0.2.1,by have:=wo k0;omega,ixL (SqL.of r9) (v:= .int f) (yP (j:=0) rfl) (ixL hS9 (yP (j:=2) u2) (ixL A2.1 (v:= .str (SL (qm dy))) rfl (ixL hS9 (yP (j:=2) u2) (ixL A2.1 (v:= .str (SL n2)) rfl ⟨n2,rfl,k2.1,k2.2.1,by have:=wo k2;omega,λp1 HA _ sA eA p2 HB _ sB eB p3 HC _ sC eC p4 HD _ sD eD=> ?_⟩))))⟩);refine q p4 HD ((((zq.but (s08) (s05.free lpf) b9).trans sA).trans (sB.trans sC)).trans sD) ?_;rw[dd,pe];have sBD:=sC.trans sD;have s9D:=(sA.trans sB).trans sBD;refine xN (SqT.of eD) ⟨wE,xN (SqT.of (sD _ _ eC)) ⟨xO,xN (SqT.of (sBD _ _ eB)) ⟨uk (SqL.of (s9D _ _ e9)) (kN ?_ λj d v ed ev=> ?_),xO,?_,trivial⟩,trivial⟩,trivial⟩
  ·unfold qE;rw[Ja,Ja,List.length_zipWith,nl,Nat.min_self,al]
  ·refine opq λ_ kq=> ?_;obtain⟨ds,hds,rfl⟩:=xA ed;obtain⟨ws,n,hw,hnn,rfl⟩:=jq hds;obtain⟨a,ha,rfl⟩:=xA ev;apply kq;exact xN (SqT.of (s9D _ _ (has j ws n a hw hnn ha).2)) ⟨wE,xO,xO,trivial⟩
  ·rw[ce];exact xN (SqT.of ((sB.trans sBD) _ _ eA)) ⟨wE,xO,trivial⟩
theorem jx:PySem.W.kitMeta "ValueError"=true:=by decide+kernel
theorem znA(T:Txt K mg t): ∀k:Nat,PySem.W.kitOne K (.ref (qO t k)) (.ref t.c_Z0n)=some (decide (k=0))/\PySem.W.kitOne K (.ref (qO t k)) (.ref t.c_Z0i)=some (decide (k=1))/\PySem.W.kitOne K (.ref (qO t k)) (.ref t.c_Z0h)=some (decide (k=2))/\PySem.W.kitOne K (.ref (qO t k)) (.ref t.c_Z0g)=some (decide (3<=k))/\PySem.W.kitOne K (.ref (qO t k)) (.ref t.c_Z0m)=some false/\PySem.W.kitOne K (.ref (qO t k)) (.ref t.c_Z0q)=some false/\PySem.W.kitOne K (.ref (qO t k)) (.ref t.c_Z0j)=some false/\PySem.W.kitOne K (.ref (qO t k)) (.ref t.c_Z0k)=some false/\PySem.W.kitOne K (.ref (qO t k)) (.ref t.c_Z0l)=some false/\PySem.W.kitOne K (.ref (qO t k)) (.type "ValueError")=some true/\PySem.W.exmOne K (.ref (qO t k)) (.ref t.c_Z0p)=some true/\ExcCls K (qO t k)
 |0=>⟨yT T.cl_Z0n T.m_NoText_NoText,yT T.cl_Z0i T.m_NoText_NoDate,yT T.cl_Z0h T.m_NoText_NoAmount,yT T.cl_Z0g T.m_NoText_NoAccount,yT T.cl_Z0m T.m_NoText_NoSpan,yT T.cl_Z0q T.m_NoText_TooLong,yT T.cl_Z0j T.m_NoText_NoEntry,yT T.cl_Z0k T.m_NoText_NoParts,yT T.cl_Z0l T.m_NoText_NoRow,uO jx T.m_NoText_ValueError,vE T.cl_Z0p T.m_SpanError_BaseException T.m_NoText_SpanError,T.xc_NoText⟩
 |1=>⟨yT T.cl_Z0n T.m_NoDate_NoText,yT T.cl_Z0i T.m_NoDate_NoDate,yT T.cl_Z0h T.m_NoDate_NoAmount,yT T.cl_Z0g T.m_NoDate_NoAccount,yT T.cl_Z0m T.m_NoDate_NoSpan,yT T.cl_Z0q T.m_NoDate_TooLong,yT T.cl_Z0j T.m_NoDate_NoEntry,yT T.cl_Z0k T.m_NoDate_NoParts,yT T.cl_Z0l T.m_NoDate_NoRow,uO jx T.m_NoDate_ValueError,vE T.cl_Z0p T.m_SpanError_BaseException T.m_NoDate_SpanError,T.xc_NoDate⟩
 |2=>⟨yT T.cl_Z0n T.m_NoAmount_NoText,yT T.cl_Z0i T.m_NoAmount_NoDate,yT T.cl_Z0h T.m_NoAmount_NoAmount,yT T.cl_Z0g T.m_NoAmount_NoAccount,yT T.cl_Z0m T.m_NoAmount_NoSpan,yT T.cl_Z0q T.m_NoAmount_TooLong,yT T.cl_Z0j T.m_NoAmount_NoEntry,yT T.cl_Z0k T.m_NoAmount_NoParts,yT T.cl_Z0l T.m_NoAmount_NoRow,uO jx T.m_NoAmount_ValueError,vE T.cl_Z0p T.m_SpanError_BaseException T.m_NoAmount_SpanError,T.xc_NoAmount⟩
 |k+3=>by
  rw[JM (show¬k+3=0 by omega),JM (show¬k+3=1 by omega),JM (show¬k+3=2 by omega),JL (show 3<=k+3 by omega)];exact⟨yT T.cl_Z0n T.m_NoAccount_NoText,yT T.cl_Z0i T.m_NoAccount_NoDate,yT T.cl_Z0h T.m_NoAccount_NoAmount,yT T.cl_Z0g T.m_NoAccount_NoAccount,yT T.cl_Z0m T.m_NoAccount_NoSpan,yT T.cl_Z0q T.m_NoAccount_TooLong,yT T.cl_Z0j T.m_NoAccount_NoEntry,yT T.cl_Z0k T.m_NoAccount_NoParts,yT T.cl_Z0l T.m_NoAccount_NoRow,uO jx T.m_NoAccount_ValueError,vE T.cl_Z0p T.m_SpanError_BaseException T.m_NoAccount_SpanError,T.xc_NoAccount⟩
def bsF(k:Nat):List Bool:= [decide (k=0),decide (k=1),decide (k=2),decide (3<=k),false,false,false,false,false]
theorem znj(k:Nat): ∃j:Nat,j<4/\(bsF k).countP (λx=>x==true)=1/\(bsF k)[j]? =some true/\(∀m,m<j->(bsF k)[m]? ≠some true)/\(([[116,101,120,116], [100,97,116,101], [97,109,111,117,110,116], [97,99,99,111,117,110,116]]:List (List Nat)))[j]? =some (wdK k):=by
 have c:k=0\/k=1\/k=2\/ ∃m,k=m+3:=by
  by_cases h:3<=k
  ·exact .inr (.inr (.inr ⟨k - 3,'o'⟩))
  ·omega
 rcases c with rfl|rfl|rfl|⟨m,rfl⟩
 ·exact⟨0,'d','d',rfl,λm h=>absurd h (Nat.not_lt_zero _),rfl⟩
 ·exact⟨1,'d','d',rfl,'d',rfl⟩
 ·exact⟨2,'d','d',rfl,'d',rfl⟩
 ·have e:bsF (m+3)= [false,false,false,true,false,false,false,false,false]:=by
   unfold bsF;rw[JM (show¬m+3=0 by omega),JM (show¬m+3=1 by omega),JM (show¬m+3=2 by omega),JL (show 3<=m+3 by omega)]
  rw[e];exact⟨3,'d','d',rfl,'d',rfl⟩
theorem znk{k:Nat}(h:resF ls= .inl k):dueD ls= .tup [.str (wdK k), .non]:=by unfold dueD;rw[h];rfl
def zmH(K:Fg):Sp:=λvs H Q _=> ∃cs:List Nat,vs= [.str (SL cs)]/\cs.length<=90000/\ ∀r H',zq H H'->Dp K H' 5 (dueD (lnW cs)) (.ref r)->Q (.ref r) H'
theorem sc_1d:FnScope ["_law_text_here","_law_error","_law_found","e","_law_some"] ["_law_text_here"] (zC s_1d):=⟨rfl,rfl,rfl,by decide+kernel,rfl,by decide+kernel,by decide+kernel⟩
theorem ok_1d(T:Txt K mg t):FnOkT P w K mg base (CXE P w) 8 t.a_1d t.d_1d ["_law_text_here"] (zmH K):=by
 refine T.fn_1d.okXT sc_1d (λvs H Q E h=> ?_) (λcdv A outer s H vs Q E L hr h=> ?_)
 ·refine opq λ_ kq=> ?_;obtain⟨cs,rfl,hl,q⟩:=h;apply kq;rfl
 refine opq λ_ kq=> ?_;obtain⟨cs,rfl,hl,q⟩:=h;apply kq;have nd:=sc_1d.nd;refine⟨_,(qF (PS.t (zI (i:=1) nd rfl (Or.inl rfl) wG)) (qF (PS.t (zI (i:=2) nd rfl (Or.inl rfl) wG)) (qF (zkQ ⟨rfl,rfl,rfl⟩ (λEk pn xe L=>(um (uo (i:=2) nd rfl (Or.inl rfl) (wN L (ok_0s T) (hr.mono 'd') (by rfl) T.mg_0s T.fn_0s.kp T.b_0s .nil (PA.t (ze (pv 0) zg)))))) (λea=>(zo (zI (i:=1) nd rfl (Or.inl rfl) (pv 3)))) (by rfl) T.mg_Z0p nd (i:=3) (by rfl) (by rfl)) (PSs.t (zn (zG (zz zlS (pv 1) wG (zw _)) (zo (zD (qx (ze (zj st_14) (ze (pv 2) zg zk) zi)))) zF) (zn (zI (i:=4) nd rfl (Or.inl rfl) (yS (ze (zM xm (by rfl) T.no_isinstance xk (ze (pv 1) (ze (wz (by rfl) T.mg_Z0n) zg zk) zk)) (ze (zM xm (by rfl) T.no_isinstance xk (ze (pv 1) (ze (wz (by rfl) T.mg_Z0i) zg zk) zk)) (ze (zM xm (by rfl) T.no_isinstance xk (ze (pv 1) (ze (wz (by rfl) T.mg_Z0h) zg zk) zk)) zg qh) qh) qh))) (zn (zI (i:=4) nd rfl (Or.inl rfl) (zr u4 (pv 4) (yS (ze (zM xm (by rfl) T.no_isinstance xk (ze (pv 1) (ze (wz (by rfl) T.mg_Z0g) zg zk) zk)) (ze (zM xm (by rfl) T.no_isinstance xk (ze (pv 1) (ze (wz (by rfl) T.mg_Z0m) zg zk) zk)) (ze (zM xm (by rfl) T.no_isinstance xk (ze (pv 1) (ze (wz (by rfl) T.mg_Z0q) zg zk) zk)) zg qh) qh) qh)))) (zn (zI (i:=4) nd rfl (Or.inl rfl) (zr u4 (pv 4) (yS (ze (zM xm (by rfl) T.no_isinstance xk (ze (pv 1) (ze (wz (by rfl) T.mg_Z0j) zg zk) zk)) (ze (zM xm (by rfl) T.no_isinstance xk (ze (pv 1) (ze (wz (by rfl) T.mg_Z0k) zg zk) zk)) (ze (zM xm (by rfl) T.no_isinstance xk (ze (pv 1) (ze (wz (by rfl) T.mg_Z0l) zg zk) zk)) zg qh) qh) qh)))) (zn (zG (qb (zz qC (yU PySem.F.plainAttrs_list PySem.F.slot_list_count PySem.F.type_list_count ziZ (pv 4) (ze qi zg)) zh (zw _)) (qb (qI (qB (zM xm (by rfl) T.no_isinstance xk (ze (pv 1) (ze (uc (by rfl) T.no_ValueError zfX) zg zk) zk)))) (qH (zz uM qi (qT wb (pv 4) (qL zh) qY) rfl)))).pt (zo (zD (qx (ze (zj st_119) (ze wG zg zi) zi)))) zF) (zo (zD (qx (ze (zt zy (yS (ze (zj st_117) (ze (zj st_115) (ze (zj st_116) (ze (zj st_118) zg zi) zi) zi) zi)) (yU PySem.F.plainAttrs_list PySem.F.slot_list_index PySem.F.type_list_index zi0 (pv 4) (ze qi zg)) (λ_ _=>rfl)) (ze wG zg zi) y9))))))))))))),?_⟩;simp only[yw,yu,yL,yv,yN,yM,yK,yt,yI,yJ,yH,ya,yr,yG,zH,zJ,zK,z9,zQ,List.replicate,Option.join_some,Option.join_none,zO,yq,yo,ym,tSl,yk,yj,yy,slT,z4,Int.reduceLT,Int.reduceLE,Int.reduceToNat,Int.reduceNeg,Int.reduceAdd,Int.reduceSub,Int.reduceMul,forall_const,zU,yf,yg,zZ,yx,zY,zS,zL,zR,zV,zW,tC,tOp,rI,rI0,tUn,rU,z5,tB,yb,tOr,yc,zX,yd,ye,tIf,z7,yi,z8,yF,tCB,yp,rEq,rNe,yA,yB,yC,yD,yE,z6,yh,ipI,L2.start,Jz,JN,Jp,List.length_nil,List.cons_append,List.nil_append,Jt,List.replicate_succ,List.replicate_zero,Nat.reduceAdd,Nat.reduceSub,List.getElem?_cons_zero,List.getElem?_cons_succ,List.set_cons_zero,List.set_cons_succ,Option.some.injEq,V.int.injEq,V.bl.injEq,V.ref.injEq,V.str.injEq,exists_eq_left',exists_eq_left,exists_eq',exists_and_left,List.cons.injEq,and_true,true_and,and_self,and_assoc,decide_eq_true_eq,if_true,if_false,Bool.true_eq_false,Js,Bool.not_eq_true',Bool.not_true,Bool.not_false,decide_eq_false_iff_not,ite_true,ite_false,reduceCtorEq,false_and,exists_false,false_or,or_false,and_false,Nat.reduceLeDiff,tBM,zmQ];refine⟨cs,rfl,hl,λk hk H1 s1=> ?_,λd hd r H1 s1 hD p H2 _ s2 e2=>q p H2 (s1.trans s2) ?_⟩;rotate_left
 ·rw[zlG hd];exact xN (SqT.of e2) ⟨wE,hD.same s2,trivial⟩
 refine opq λ_ kq=> ?_;obtain⟨m0,m1,m2,m3,m4,m5,m6,m7,m8,m9,mx,xc⟩:=znA T k;apply kq;refine⟨mx,λea hea=> ?_⟩;have s2:=s1.trans (xo hea (wx ea (.ref (qO t k))));have he:upd H1 ea (wx ea (.ref (qO t k))) ea=some (wx ea (.ref (qO t k))):=zP;generalize upd H1 ea (wx ea (.ref (qO t k)))=H2 at*;refine⟨_, .exc he xc,_,rfl,_,m0,_, .exc he xc,_,rfl,_,m1,_, .exc he xc,_,rfl,_,m2,λp1 H3 _ s3 e3=> ?_⟩;have he3:=s3 _ _ he;refine⟨_, .exc he3 xc,_,rfl,_,m3,_, .exc he3 xc,_,rfl,_,m4,_, .exc he3 xc,_,rfl,_,m5,λp2 H4 _ s4 e4=>⟨p1,p2,_,_,rfl,rfl,s4 _ _ e3,e4,by show 3+3<=sizeLine;decide,λp3 H5 _ s5 e5=> ?_⟩⟩;have he5:=s5 _ _ (s4 _ _ he3);refine⟨_, .exc he5 xc,_,rfl,_,m6,_, .exc he5 xc,_,rfl,_,m7,_, .exc he5 xc,_,rfl,_,m8,λp4 H6 _ s6 e6=>⟨p3,p4,_,_,rfl,rfl,s6 _ _ e5,e6,by show 6+3<=sizeLine;decide,λp5 H7 _ s7 e7=> ?_⟩⟩;have he7:=s7 _ _ (s6 _ _ he5);have s07:=((((s2.trans s3).trans s4).trans s5).trans s6).trans s7;have e7':H7 p5=some (.lst ((bsF k).map V.bl)):=e7;refine opq λ_ kq=> ?_;obtain⟨j,j4,cn,bj,bn,wj⟩:=znj k;apply kq;have d4:(bsF k).drop 4= [false,false,false,false,false]:=rfl;have bl9:(bsF k).length=9:=rfl;generalize bsF k=bs at*;refine⟨.inl ⟨rfl,_,SqL.of e7'⟩,p5,rfl,bs,e7',?_⟩;rw[cn,Jf (λz=>z rfl)];refine⟨_, .exc he7 xc,_,rfl,_,m9,?_⟩;rw[Jf 'd'];refine⟨p5,_,rfl,SqL.of e7',λp6 H8 _ s8 e8=> ?_⟩;rw[wc _ 'd' (by rw[Ja];omega)] at e8;change H8 p6=some (.lst ((bs.map V.bl).drop 4)) at e8;rw[<-List.map_drop,d4] at e8;refine⟨p6,_,rfl, .inl (SqL.of e8),rfl,rfl,_,rfl,?_⟩;rw[Jf 'd'];intro p7 H9 _ s9 e9;have e9':H9 p7=some (.lst (([[116,101,120,116], [100,97,116,101], [97,109,111,117,110,116], [97,99,99,111,117,110,116]]:List (List Nat)).map λw=>V.str (SL w))):=e9;have ep:=(s8.trans s9) _ _ e7';refine⟨.inl ⟨rfl,_,SqL.of ep⟩,p5,rfl,bs,ep,j,bj,bn,'o',ixL (SqL.of e9') (yP (j:=j) (by rw[Jh,wj];rfl)) λp8 HA _ sA eA=>q p8 HA (((s07.trans s8).trans s9).trans sA) ?_⟩;rw[znk hk];exact uF eA
theorem zkr(ls:List (List (List Nat))):sc (dueD ls)=none:=by
 unfold dueD;cases resF ls<;>rfl
theorem zks(h:RsB rs n m)(sep:Nat):(rs.map List.length).sum+rs.length<=(m+1)*n/\(jn [sep] rs).length<=(m+1)*n:=by
 have h1:=sum_le (b:=m) h.2;have h2:=uB [sep] rs;have h3:m*rs.length+rs.length<=(m+1)*n:=by
  rw[<-Nat.succ_mul];exact Nat.mul_le_mul_left _ h.1
 simp only[Jp,List.length_nil] at h2;constructor<;>omega
def zkt(K:Fg):Sp:=λvs H Q _=> ∃(a:Addr) (ns:List Int),vs= [.ref a]/\SqL K H a (ns.map V.int)/\ns.length<=63/\ ∀H',Q (.bl true) H'
theorem sc_1e:FnScope ["_law_script","_law_places","_law_account_here","_law_rows","_law_k","_law_digits_here","_law_way","_law_at","_law_text_here","_law_due_here"] ["_law_script"] (zC s_1e):=⟨rfl,rfl,rfl,by decide+kernel,rfl,by decide+kernel,by decide+kernel⟩
theorem ok_1e(T:Txt K mg t):FnOk P w K mg base (CXE P w) 9 t.a_1e t.d_1e ["_law_script"] (zkt K):=by
 refine T.fn_1e.okX sc_1e (λvs H Q E h=> ?_) (λcdv A outer s H vs Q E L hr h=> ?_)
 ·refine opq λ_ kq=> ?_;obtain⟨a,ns,rfl,hS,h63,q⟩:=h;apply kq;rfl
 refine opq λ_ kq=> ?_;obtain⟨a,ns,rfl,hS,h63,q⟩:=h;apply kq;have nd:=sc_1e.nd;refine⟨_,(zn (qV (zu L.toLv (ok_10 T) (hr.mono 'd') (by rfl) T.mg_10 T.fn_10.kp T.b_10 .nil (ze (pv 0) (ze zh zg zi) zk)) (xJ (n:=2) rfl (qf (yO (i:=1) nd rfl (Or.inl rfl)) (qf (yO (i:=2) nd rfl (Or.inl rfl)) xI)))) (zn (zI (i:=3) nd rfl (Or.inl rfl) (yU PySem.F.plainAttrs_str PySem.F.slot_str_split PySem.F.type_str_split wT (zu L.toLv (ok_11 T) (hr.mono 'd') (by rfl) T.mg_11 T.fn_11.kp T.b_11 .nil (ze (pv 1) (ze (pv 2) zg zk) zk)) (ze (zj st_29) zg))) (zn (xx (by passes_own) rfl (jE (by rfl) T.no_range (ze (zr y6 (zu L.toLv (ok_0t T) (hr.mono 'd') (by rfl) T.mg_0t T.fn_0t.kp T.b_0t .nil (ze (pv 0) (ze zh zg zi) zk)) zh) zg)) (yO (i:=4) nd rfl (Or.inl rfl)) (zn (zI (i:=5) nd rfl (Or.inl rfl) (zu L.toLv (ok_0v T) (hr.mono 'd') (by rfl) T.mg_0v T.fn_0v.kp T.b_0v .nil (ze (pv 0) (ze zh (ze (zr y0 zh (pv 4)) zg qD) zi) zk))) (zn (zI (i:=6) nd rfl (Or.inl rfl) (zu L.toLv (ok_0w T) (hr.mono 'd') (by rfl) T.mg_0w T.fn_0w.kp T.b_0w .nil (ze (pv 5) (ze zh zg zi) zk))) (zn (zI (i:=7) nd rfl (Or.inl rfl) (zu L.toLv (ok_0w T) (hr.mono 'd') (by rfl) T.mg_0w T.fn_0w.kp T.b_0w .nil (ze (pv 5) (ze (zM y8 (by rfl) T.no_len yR (ze (pv 3) zg)) zg qh) zk))) (zn (qc (zu L.toLv (ok_13 T) (hr.mono 'd') (by rfl) T.mg_13 T.fn_13.kp T.b_13 .nil (ze (pv 3) (ze (pv 6) (ze (pv 7) zg zk) zk) zk))) (zo (zG (zz qJ (zM y8 (by rfl) T.no_len yR (ze (pv 3) zg)) zh (zw _)) (zn (qc (zu L.toLv (ok_14 T) (hr.mono 'd') (by rfl) T.mg_14 T.fn_14.kp T.b_14 .nil (ze (pv 3) (ze (pv 6) (ze (zr y6 (pv 7) (zM y8 (by rfl) T.no_len yR (ze (pv 3) zg))) (ze (zt zy (pv 5) zh (λ_ _=>rfl)) zg y9) qD) zk) zk))) (zn (qc (zu L.toLv (ok_15 T) (hr.mono 'd') (by rfl) T.mg_15 T.fn_15.kp T.b_15 .nil (ze (pv 3) (ze (pv 6) (ze (zt zy (pv 5) zh (λ_ _=>rfl)) zg y9) zk) zk))) (zo (qc (zu L.toLv (ok_16 T) (hr.mono 'd') (by rfl) T.mg_16 T.fn_16.kp T.b_16 .nil (ze (pv 3) (ze (pv 6) (ze (zt zy (pv 5) zh (λ_ _=>rfl)) (ze (pv 1) zg zk) y9) zk) zk)))))) zF))))))) (ziN (zkP (i:=8) nd rfl (Or.inl rfl) (zk1 PySem.F.plainAttrs_str PySem.F.slot_str_join PySem.F.type_str_join ug st_29 (ze (pv 3) zg))) (qF (uo (i:=9) nd rfl (Or.inl rfl) (wN L.toLv (ok_1c T) (hr.mono 'd') (by rfl) T.mg_1c T.fn_1c.kp T.b_1c .nil (PA.t (ze (pv 8) zg)))) (um (zib (zkZ (zhm (zjD hr) (wN L.toLv (ok_1d T) (hr.mono 'd') (by rfl) T.mg_1d T.fn_1d.kp T.b_1d .nil (PA.t (ze (pv 8) zg))) (pv 9) (zw _)) (zkY (zhm (zjD hr) (wN L.toLv (ok_1d T) (hr.mono 'd') (by rfl) T.mg_1d T.fn_1d.kp T.b_1d .nil (PA.t (ze (pv 8) zg))) (pv 9) (zw _))))))))))),?_⟩;open_k0;have ok:=zmz ns 0;have pb:=zjc ns 0;have x8:=ok.1.2.1;have x1:=ok.1.1;refine⟨a,ns,0,rfl,hS,λr ac l H1 s1 e1 hA=>⟨r,_,rfl,SqT.of e1,rfl,?_⟩⟩;generalize xu ns 0 (wZ ns 0).toNat=xs at*;generalize kX ns 0=f at*;generalize dyF ns 0=dy at*;generalize ccF ns 0=cc at*;generalize vU ns 0=p at*;lge_open0
 have tl:=txt_len (p:=p.toNat) ok 'o';refine⟨p,ac,l,xs,f,dy,cc,rfl,hA,ok,pb.1,pb.2,λH2 s2=>⟨rfl,_,rfl,'o',λlr H3 flr s3 e3=> ?_⟩⟩;rw[txt_spl ok 'o'] at e3;have ro:=jp (p:=p.toNat) ok 'o';have rl:=kY p.toNat xs f dy cc;have hb3:RsB ((rowsW p.toNat xs f dy cc).map (jn [32])) 11 315:=⟨by rw[Ja,rl];omega,λy hy=>by
  obtain⟨ws,hw,rfl⟩:=Jw.mp hy;exact(ro ws hw).len⟩
 have l3:4<=((rowsW p.toNat xs f dy cc).map (jn [32])).length:=by rw[Ja,rl];omega
 generalize (rowsW p.toNat xs f dy cc).map (jn [32])=rs0 at*;have s03:=(s1.trans s2).trans s3;have lrf:H lr=none:=(s1.trans s2).free flr
 ((try dsimp only);refine wM λR hR=> ?_;simp only[yw,yu,yL,yv,yN,yM,yK,yt,yI,yJ,yH,ya,yr,yG,zH,zJ,zK,z9,zQ,List.replicate,Option.join_some,Option.join_none,zO,yq,yo,ym,tSl,yk,yj,yy,slT,z4,Int.reduceLT,Int.reduceLE,Int.reduceToNat,Int.reduceNeg,Int.reduceAdd,Int.reduceSub,Int.reduceMul,forall_const,zU,yf,yg,zZ,yx,zY,zS,zL,zR,zV,zW,tC,tOp,rI,rI0,tUn,rU,z5,tB,yb,tOr,yc,zX,yd,ye,tIf,z7,yi,z8,yF,tCB,yp,rEq,rNe,yA,yB,yC,yD,yE,z6,yh,ipI,L2.start,Jz,JN,Jp,List.length_nil,List.cons_append,List.nil_append,Jt,List.replicate_succ,List.replicate_zero,Nat.reduceAdd,Nat.reduceSub,List.getElem?_cons_zero,List.getElem?_cons_succ,List.set_cons_zero,List.set_cons_succ,Option.some.injEq,V.int.injEq,V.bl.injEq,V.ref.injEq,V.str.injEq,exists_eq_left',exists_eq_left,exists_eq',exists_and_left,List.cons.injEq,and_true,true_and,and_self,and_assoc,decide_eq_true_eq,if_true,if_false,Bool.true_eq_false,Js,Bool.not_eq_true',Bool.not_true,Bool.not_false,decide_eq_false_iff_not,ite_true,ite_false,reduceCtorEq,false_and,exists_false,false_or,or_false,and_false,qW,vC,vj,wv,w9,Nat.reduceLeDiff])
 refine⟨a,ns,11,rfl,s03.seq hS,_,rfl,'o','o',hR _ _ ?_⟩;clear hR;have n2:(vw ns 11 % 3).toNat<=2:=by omega
 generalize (vw ns 11 % 3).toNat=nn at*;obtain⟨Pv,hPv⟩: ∃Pv:Nat->St->Hp->Prop,Pv=λi σ1 H9=> ∃rs,But lr H3 H9/\H9 lr=some (yX rs)/\RsB rs (11+10*i) (315+1000*i)/\4<=rs.length+i/\ ∃x4 x5 x6 x7,σ1= [some (.ref a),some (.int p),some (.ref ac),some (.ref lr),x4,x5,x6,x7,none,none]:=⟨_,rfl⟩
 refine uJ Pv (by rw[hPv];exact⟨rs0,λ_ _ _ e=>e,e3,hb3,l3,_,_,_,_,rfl⟩) (λi σ1 H9 hi h=> ?_) (λσ1 H9 h=> ?_)
 ·rw[hPv] at h;refine opq λ_ kq=> ?_;obtain⟨rs,b9,e9,hb,l4,x4,x5,x6,x7,rfl⟩:=h;apply kq;have s09:zq H H9:=zq.but s03 lrf b9;lge_open0
  refine⟨a,ns,11,1+i,by rw[show (1+(0+(i:Int)))=((1+i:Nat):Int) by omega];rfl,s09.seq hS,'o',λd H10 fd s10 e10=> ?_⟩;have dl:d≠lr:=λz=>by rw[z,e9] at fd;cases fd
  generalize yV ns 11 (1+i)=n at*;refine⟨d,n,22,rfl,e10,'d','d',?_⟩;have e10l:upd H10 d (.lst [.int (n / 22)]) lr=some (yX rs):=by rw[zT (Ne.symm dl)];exact s10 _ _ e9
  have rb:=hb.1;have f3d:H3 d=none:=by
   cases h:H3 d with
   |none=>rfl
   |some o=>rw[b9 d o dl h] at fd;cases fd
  refine⟨_, .inl (SqL.of e10l),?_⟩;rw[Ja];refine⟨d,n / 22,rs.length,rfl,zP,'o','o',?_⟩;have a0:0<=n / 22 % (rs.length:Int):=JK _ 'o';have a1:n / 22 % (rs.length:Int)<rs.length:=JI _ 'o';obtain⟨H11,hH⟩: ∃H11,H11=upd (upd H10 d (.lst [.int (n / 22)])) d (.lst [.int (n / 22 / (rs.length:Int))]):=⟨_,rfl⟩
  have b11:But lr H3 H11:=by rw[hH];exact((b9.trans (But.of s10)).new f3d).new f3d
  have e11l:H11 lr=some (yX rs):=by rw[hH,zT (Ne.symm dl)];exact e10l
  have e11d:H11 d=some (.lst [.int (n / 22 / (rs.length:Int))]):=by rw[hH];exact zP
  rw[<-hH];clear hH;generalize n / 22 / (rs.length:Int)=c at*;generalize n / 22 % (rs.length:Int)=at_ at*;have w0:0<=n % 22:=by omega
  have w1:n % 22<22:=by omega
  generalize n % 22=way at*;refine⟨lr,rs,way,at_,_,_,rfl,e11l,hb,'o','o',a0,a1,w0,w1,λrs1 H12 b12 e12 l12 hb12=>⟨_, .inl (SqL.of e12),?_⟩⟩;have e12d:=b12 _ _ dl e11d;rw[Ja];refine zA (λh3=>⟨_, .inl (SqL.of e12),_,rfl,by rw[Ja];omega,ixL (SqL.of e12d) (v:= .int c) rfl ⟨lr,rs1,way,_,c,_,_,rfl,e12,hb12,'o','o',JK _ (by rw[Ja];omega),?_,λrs2 H13 b13 e13 l13 hb13=> ?_⟩⟩) (λh3=> ?_)
  ·rw[Ja];exact JI _ 'o'
  ·have e13d:=b13 _ _ dl e12d;refine ixL (SqL.of e13d) (v:= .int c) rfl ⟨lr,rs2,way,c,_,_,rfl,e13,hb13,'o','o','o',λrs3 H14 b14 e14 l14 hb14=> ?_⟩;have e14d:=b14 _ _ dl e13d;refine ixL (SqL.of e14d) (v:= .int c) rfl ⟨lr,rs3,way,c,p,_,_,rfl,e14,hb14,'o','o','o',pb.1,pb.2,λrs4 H15 b15 e15 l15 hb15=> ?_⟩;rw[hPv];exact⟨rs4,(((b11.trans b12).trans b13).trans b14).trans b15,e15,hb15.up 'o' 'o','o',_,_,_,_,rfl⟩
  ·rw[hPv];exact⟨rs1,b11.trans b12,e12,hb12.up 'o' 'o','o',_,_,_,_,rfl⟩
 ·rw[hPv] at h;refine opq λ_ kq=> ?_;obtain⟨rs,b9,e9,hb,l4,x4,x5,x6,x7,rfl⟩:=h;apply kq;lge_open0
  obtain⟨jl1,jl2⟩:=zks (hb.up (n':=31) (m':=2315) 'o' 'o') 10;have eqt: ∀(x y:Addr) (HH:Hp) (R:VK),Dp K HH 5 (dueD (lnW (jn [10] rs))) (.ref x)->Dp K HH 5 (dueD (lnW (jn [10] rs))) (.ref y)->R (.bl true) HH->u3 K false (.ref x) (.ref y) HH R:=λx y HH R d1 d2 k=>⟨4,_,_,d1,d2,zkr _,zkr _,'d',j3 d1,by rw[uY d1];exact k⟩
  refine⟨rfl,rs,SqL.of e9,'o',_,rfl,'o',λr1 H10 s10 D1=>⟨_,rfl,'o',λr2 H11 s11 D2=>eqt _ _ _ _ D2 (D1.same s11) ⟨true,rfl,?_⟩⟩⟩;rw[Jg rfl];exact⟨_,rfl,'o',λr3 H12 s12 D3=>eqt _ _ _ _ D3 (D1.same (s11.trans s12)) (q _)⟩
end
theorem qa{P:List α->Prop}(h: ∀a0,P [a0])(us:List α)(l:us.length=1):P us:=match us,l with| [a0],_=>h a0
theorem xG{P:List α->Prop}(h: ∀a0 a1,P [a0,a1])(us:List α)(l:us.length=2):P us:=match us,l with| [a0,a1],_=>h a0 a1
theorem uG{P:List α->Prop}(h: ∀a0 a1 a2,P [a0,a1,a2])(us:List α)(l:us.length=3):P us:=match us,l with| [a0,a1,a2],_=>h a0 a1 a2
theorem zmI{P:List α->Prop}(h: ∀a0 a1 a2 a3,P [a0,a1,a2,a3])(us:List α)(l:us.length=4):P us:=match us,l with| [a0,a1,a2,a3],_=>h a0 a1 a2 a3
abbrev fnS(x q:Str)(s:Stmt)(tV kV dc pm:Value)(an:Option Addr)(cd ct:Value):=PySem.W.fnOf x q (wJ s) (xy s) (zC s) tV kV dc pm an cd ct
open PySem.W in
theorem txt_mk{h:Heap}{mg:Str->Option Value}(X:K.In h)(G:h.Ns mainGlobals mg)
  (ha0:nsIn K mainGlobals "is_whole"=some (some (.ref f0)))
  (hl0:K.lookup f0=some ⟨oc0,od0, .func (fnS "is_whole" "is_whole" s_00 .none kV0 dc0 pm0 an0 cd0 ct0),sl0⟩)
  (hc0:codeIn K cd0 "is_whole"=true)
  (hk0:keepIn K (.ref f0)=true)
  (ha1:nsIn K mainGlobals "is_whole_between"=some (some (.ref f1)))
  (hl1:K.lookup f1=some ⟨oc1,od1, .func (fnS "is_whole_between" "is_whole_between" s_01 .none kV1 dc1 pm1 an1 cd1 ct1),sl1⟩)
  (hc1:codeIn K cd1 "is_whole_between"=true)
  (hk1:keepIn K (.ref f1)=true)
  (ha2:nsIn K mainGlobals "is_name"=some (some (.ref f2)))
  (hl2:K.lookup f2=some ⟨oc2,od2, .func (fnS "is_name" "is_name" s_02 .none kV2 dc2 pm2 an2 cd2 ct2),sl2⟩)
  (hc2:codeIn K cd2 "is_name"=true)
  (hk2:keepIn K (.ref f2)=true)
  (ha3:nsIn K mainGlobals "is_price"=some (some (.ref f3)))
  (hl3:K.lookup f3=some ⟨oc3,od3, .func (fnS "is_price" "is_price" s_03 .none kV3 dc3 pm3 an3 cd3 ct3),sl3⟩)
  (hc3:codeIn K cd3 "is_price"=true)
  (hk3:keepIn K (.ref f3)=true)
  (ha4:nsIn K mainGlobals "is_plan"=some (some (.ref f4)))
  (hl4:K.lookup f4=some ⟨oc4,od4, .func (fnS "is_plan" "is_plan" s_04 .none kV4 dc4 pm4 an4 cd4 ct4),sl4⟩)
  (hc4:codeIn K cd4 "is_plan"=true)
  (hk4:keepIn K (.ref f4)=true)
  (ha5:nsIn K mainGlobals "is_cycle"=some (some (.ref f5)))
  (hl5:K.lookup f5=some ⟨oc5,od5, .func (fnS "is_cycle" "is_cycle" s_05 .none kV5 dc5 pm5 an5 cd5 ct5),sl5⟩)
  (hc5:codeIn K cd5 "is_cycle"=true)
  (hk5:keepIn K (.ref f5)=true)
  (ha6:nsIn K mainGlobals "check_plans"=some (some (.ref f6)))
  (hl6:K.lookup f6=some ⟨oc6,od6, .func (fnS "check_plans" "check_plans" s_06 .none kV6 dc6 pm6 an6 cd6 ct6),sl6⟩)
  (hc6:codeIn K cd6 "check_plans"=true)
  (hk6:keepIn K (.ref f6)=true)
  (ha7:nsIn K mainGlobals "check_account"=some (some (.ref f7)))
  (hl7:K.lookup f7=some ⟨oc7,od7, .func (fnS "check_account" "check_account" s_07 .none kV7 dc7 pm7 an7 cd7 ct7),sl7⟩)
  (hc7:codeIn K cd7 "check_account"=true)
  (hk7:keepIn K (.ref f7)=true)
  (ha8:nsIn K mainGlobals "has_leap_day"=some (some (.ref f8)))
  (hl8:K.lookup f8=some ⟨oc8,od8, .func (fnS "has_leap_day" "has_leap_day" s_08 .none kV8 dc8 pm8 an8 cd8 ct8),sl8⟩)
  (hc8:codeIn K cd8 "has_leap_day"=true)
  (hk8:keepIn K (.ref f8)=true)
  (ha9:nsIn K mainGlobals "days_in"=some (some (.ref f9)))
  (hl9:K.lookup f9=some ⟨oc9,od9, .func (fnS "days_in" "days_in" s_09 .none kV9 dc9 pm9 an9 cd9 ct9),sl9⟩)
  (hc9:codeIn K cd9 "days_in"=true)
  (hk9:keepIn K (.ref f9)=true)
  (ha10:nsIn K mainGlobals "days_ahead_of_year"=some (some (.ref f10)))
  (hl10:K.lookup f10=some ⟨oc10,od10, .func (fnS "days_ahead_of_year" "days_ahead_of_year" s_0a .none kV10 dc10 pm10 an10 cd10 ct10),sl10⟩)
  (hc10:codeIn K cd10 "days_ahead_of_year"=true)
  (hk10:keepIn K (.ref f10)=true)
  (ha11:nsIn K mainGlobals "day_of"=some (some (.ref f11)))
  (hl11:K.lookup f11=some ⟨oc11,od11, .func (fnS "day_of" "day_of" s_0b .none kV11 dc11 pm11 an11 cd11 ct11),sl11⟩)
  (hc11:codeIn K cd11 "day_of"=true)
  (hk11:keepIn K (.ref f11)=true)
  (ha12:nsIn K mainGlobals "year_of"=some (some (.ref f12)))
  (hl12:K.lookup f12=some ⟨oc12,od12, .func (fnS "year_of" "year_of" s_0c .none kV12 dc12 pm12 an12 cd12 ct12),sl12⟩)
  (hc12:codeIn K cd12 "year_of"=true)
  (hk12:keepIn K (.ref f12)=true)
  (ha13:nsIn K mainGlobals "date_of"=some (some (.ref f13)))
  (hl13:K.lookup f13=some ⟨oc13,od13, .func (fnS "date_of" "date_of" s_0d .none kV13 dc13 pm13 an13 cd13 ct13),sl13⟩)
  (hc13:codeIn K cd13 "date_of"=true)
  (hk13:keepIn K (.ref f13)=true)
  (ha14:nsIn K mainGlobals "show_date"=some (some (.ref f14)))
  (hl14:K.lookup f14=some ⟨oc14,od14, .func (fnS "show_date" "show_date" s_0e .none kV14 dc14 pm14 an14 cd14 ct14),sl14⟩)
  (hc14:codeIn K cd14 "show_date"=true)
  (hk14:keepIn K (.ref f14)=true)
  (ha15:nsIn K mainGlobals "read_figures"=some (some (.ref f15)))
  (hl15:K.lookup f15=some ⟨oc15,od15, .func (fnS "read_figures" "read_figures" s_0f .none kV15 dc15 pm15 an15 cd15 ct15),sl15⟩)
  (hc15:codeIn K cd15 "read_figures"=true)
  (hk15:keepIn K (.ref f15)=true)
  (ha16:nsIn K mainGlobals "read_date"=some (some (.ref f16)))
  (hl16:K.lookup f16=some ⟨oc16,od16, .func (fnS "read_date" "read_date" s_0g .none kV16 dc16 pm16 an16 cd16 ct16),sl16⟩)
  (hc16:codeIn K cd16 "read_date"=true)
  (hk16:keepIn K (.ref f16)=true)
  (ha17:nsIn K mainGlobals "show_amount"=some (some (.ref f17)))
  (hl17:K.lookup f17=some ⟨oc17,od17, .func (fnS "show_amount" "show_amount" s_0h (.ref T17) kV17 dc17 pm17 an17 cd17 ct17),sl17⟩)
  (hc17:codeIn K cd17 "show_amount"=true)
  (hk17:keepIn K (.ref f17)=true)
  (ht17:K.lookup T17=some ⟨.type "tuple",dd17, .seq #[.int 2 dk17] dn17,ds17⟩)
  (ha18:nsIn K mainGlobals "only_figures"=some (some (.ref f18)))
  (hl18:K.lookup f18=some ⟨oc18,od18, .func (fnS "only_figures" "only_figures" s_0i .none kV18 dc18 pm18 an18 cd18 ct18),sl18⟩)
  (hc18:codeIn K cd18 "only_figures"=true)
  (hk18:keepIn K (.ref f18)=true)
  (ha19:nsIn K mainGlobals "read_amount"=some (some (.ref f19)))
  (hl19:K.lookup f19=some ⟨oc19,od19, .func (fnS "read_amount" "read_amount" s_0j (.ref T19) kV19 dc19 pm19 an19 cd19 ct19),sl19⟩)
  (hc19:codeIn K cd19 "read_amount"=true)
  (hk19:keepIn K (.ref f19)=true)
  (ht19:K.lookup T19=some ⟨.type "tuple",dd19, .seq #[.int 2 dk19] dn19,ds19⟩)
  (ha20:nsIn K mainGlobals "is_number"=some (some (.ref f20)))
  (hl20:K.lookup f20=some ⟨oc20,od20, .func (fnS "is_number" "is_number" s_0k .none kV20 dc20 pm20 an20 cd20 ct20),sl20⟩)
  (hc20:codeIn K cd20 "is_number"=true)
  (hk20:keepIn K (.ref f20)=true)
  (ha21:nsIn K mainGlobals "fits_word"=some (some (.ref f21)))
  (hl21:K.lookup f21=some ⟨oc21,od21, .func (fnS "fits_word" "fits_word" s_0l .none kV21 dc21 pm21 an21 cd21 ct21),sl21⟩)
  (hc21:codeIn K cd21 "fits_word"=true)
  (hk21:keepIn K (.ref f21)=true)
  (ha22:nsIn K mainGlobals "fits_form"=some (some (.ref f22)))
  (hl22:K.lookup f22=some ⟨oc22,od22, .func (fnS "fits_form" "fits_form" s_0m .none kV22 dc22 pm22 an22 cd22 ct22),sl22⟩)
  (hc22:codeIn K cd22 "fits_form"=true)
  (hk22:keepIn K (.ref f22)=true)
  (ha23:nsIn K mainGlobals "fits_places"=some (some (.ref f23)))
  (hl23:K.lookup f23=some ⟨oc23,od23, .func (fnS "fits_places" "fits_places" s_0n .none kV23 dc23 pm23 an23 cd23 ct23),sl23⟩)
  (hc23:codeIn K cd23 "fits_places"=true)
  (hk23:keepIn K (.ref f23)=true)
  (ha24:nsIn K mainGlobals "fits_cycle"=some (some (.ref f24)))
  (hl24:K.lookup f24=some ⟨oc24,od24, .func (fnS "fits_cycle" "fits_cycle" s_0o .none kV24 dc24 pm24 an24 cd24 ct24),sl24⟩)
  (hc24:codeIn K cd24 "fits_cycle"=true)
  (hk24:keepIn K (.ref f24)=true)
  (ha25:nsIn K mainGlobals "fits_plan"=some (some (.ref f25)))
  (hl25:K.lookup f25=some ⟨oc25,od25, .func (fnS "fits_plan" "fits_plan" s_0p .none kV25 dc25 pm25 an25 cd25 ct25),sl25⟩)
  (hc25:codeIn K cd25 "fits_plan"=true)
  (hk25:keepIn K (.ref f25)=true)
  (ha26:nsIn K mainGlobals "fits_lines"=some (some (.ref f26)))
  (hl26:K.lookup f26=some ⟨oc26,od26, .func (fnS "fits_lines" "fits_lines" s_0q .none kV26 dc26 pm26 an26 cd26 ct26),sl26⟩)
  (hc26:codeIn K cd26 "fits_lines"=true)
  (hk26:keepIn K (.ref f26)=true)
  (ha27:nsIn K mainGlobals "read_plan"=some (some (.ref f27)))
  (hl27:K.lookup f27=some ⟨oc27,od27, .func (fnS "read_plan" "read_plan" s_0r .none kV27 dc27 pm27 an27 cd27 ct27),sl27⟩)
  (hc27:codeIn K cd27 "read_plan"=true)
  (hk27:keepIn K (.ref f27)=true)
  (ha28:nsIn K mainGlobals "read_account"=some (some (.ref f28)))
  (hl28:K.lookup f28=some ⟨oc28,od28, .func (fnS "read_account" "read_account" s_0s .none kV28 dc28 pm28 an28 cd28 ct28),sl28⟩)
  (hc28:codeIn K cd28 "read_account"=true)
  (hk28:keepIn K (.ref f28)=true)
  (ha29:nsIn K mainGlobals "_law_cell_at"=some (some (.ref f29)))
  (hl29:K.lookup f29=some ⟨oc29,od29, .func (fnS "_law_cell_at" "_law_cell_at" s_0t .none kV29 dc29 pm29 an29 cd29 ct29),sl29⟩)
  (hc29:codeIn K cd29 "_law_cell_at"=true)
  (hk29:keepIn K (.ref f29)=true)
  (ha30:nsIn K mainGlobals "_law_rich"=some (some (.ref f30)))
  (hl30:K.lookup f30=some ⟨oc30,od30, .func (fnS "_law_rich" "_law_rich" s_0u .none kV30 dc30 pm30 an30 cd30 ct30),sl30⟩)
  (hc30:codeIn K cd30 "_law_rich"=true)
  (hk30:keepIn K (.ref f30)=true)
  (ha31:nsIn K mainGlobals "_law_digits"=some (some (.ref f31)))
  (hl31:K.lookup f31=some ⟨oc31,od31, .func (fnS "_law_digits" "_law_digits" s_0v .none kV31 dc31 pm31 an31 cd31 ct31),sl31⟩)
  (hc31:codeIn K cd31 "_law_digits"=true)
  (hk31:keepIn K (.ref f31)=true)
  (ha32:nsIn K mainGlobals "_law_digit"=some (some (.ref f32)))
  (hl32:K.lookup f32=some ⟨oc32,od32, .func (fnS "_law_digit" "_law_digit" s_0w .none kV32 dc32 pm32 an32 cd32 ct32),sl32⟩)
  (hc32:codeIn K cd32 "_law_digit"=true)
  (hk32:keepIn K (.ref f32)=true)
  (ha33:nsIn K mainGlobals "_law_name"=some (some (.ref f33)))
  (hl33:K.lookup f33=some ⟨oc33,od33, .func (fnS "_law_name" "_law_name" s_0x .none kV33 dc33 pm33 an33 cd33 ct33),sl33⟩)
  (hc33:codeIn K cd33 "_law_name"=true)
  (hk33:keepIn K (.ref f33)=true)
  (ha34:nsIn K mainGlobals "_law_plan"=some (some (.ref f34)))
  (hl34:K.lookup f34=some ⟨oc34,od34, .func (fnS "_law_plan" "_law_plan" s_0y .none kV34 dc34 pm34 an34 cd34 ct34),sl34⟩)
  (hc34:codeIn K cd34 "_law_plan"=true)
  (hk34:keepIn K (.ref f34)=true)
  (ha35:nsIn K mainGlobals "_law_first"=some (some (.ref f35)))
  (hl35:K.lookup f35=some ⟨oc35,od35, .func (fnS "_law_first" "_law_first" s_0z .none kV35 dc35 pm35 an35 cd35 ct35),sl35⟩)
  (hc35:codeIn K cd35 "_law_first"=true)
  (hk35:keepIn K (.ref f35)=true)
  (ha36:nsIn K mainGlobals "_law_account"=some (some (.ref f36)))
  (hl36:K.lookup f36=some ⟨oc36,od36, .func (fnS "_law_account" "_law_account" s_10 .none kV36 dc36 pm36 an36 cd36 ct36),sl36⟩)
  (hc36:codeIn K cd36 "_law_account"=true)
  (hk36:keepIn K (.ref f36)=true)
  (ha37:nsIn K mainGlobals "_law_text"=some (some (.ref f37)))
  (hl37:K.lookup f37=some ⟨oc37,od37, .func (fnS "_law_text" "_law_text" s_11 .none kV37 dc37 pm37 an37 cd37 ct37),sl37⟩)
  (hc37:codeIn K cd37 "_law_text"=true)
  (hk37:keepIn K (.ref f37)=true)
  (ha38:nsIn K mainGlobals "_law_swapped"=some (some (.ref f38)))
  (hl38:K.lookup f38=some ⟨oc38,od38, .func (fnS "_law_swapped" "_law_swapped" s_12 .none kV38 dc38 pm38 an38 cd38 ct38),sl38⟩)
  (hc38:codeIn K cd38 "_law_swapped"=true)
  (hk38:keepIn K (.ref f38)=true)
  (ha39:nsIn K mainGlobals "_law_lines"=some (some (.ref f39)))
  (hl39:K.lookup f39=some ⟨oc39,od39, .func (fnS "_law_lines" "_law_lines" s_13 .none kV39 dc39 pm39 an39 cd39 ct39),sl39⟩)
  (hc39:codeIn K cd39 "_law_lines"=true)
  (hk39:keepIn K (.ref f39)=true)
  (ha40:nsIn K mainGlobals "_law_words"=some (some (.ref f40)))
  (hl40:K.lookup f40=some ⟨oc40,od40, .func (fnS "_law_words" "_law_words" s_14 .none kV40 dc40 pm40 an40 cd40 ct40),sl40⟩)
  (hc40:codeIn K cd40 "_law_words"=true)
  (hk40:keepIn K (.ref f40)=true)
  (ha41:nsIn K mainGlobals "_law_numbers"=some (some (.ref f41)))
  (hl41:K.lookup f41=some ⟨oc41,od41, .func (fnS "_law_numbers" "_law_numbers" s_15 .none kV41 dc41 pm41 an41 cd41 ct41),sl41⟩)
  (hc41:codeIn K cd41 "_law_numbers"=true)
  (hk41:keepIn K (.ref f41)=true)
  (ha42:nsIn K mainGlobals "_law_beyond"=some (some (.ref f42)))
  (hl42:K.lookup f42=some ⟨oc42,od42, .func (fnS "_law_beyond" "_law_beyond" s_16 .none kV42 dc42 pm42 an42 cd42 ct42),sl42⟩)
  (hc42:codeIn K cd42 "_law_beyond"=true)
  (hk42:keepIn K (.ref f42)=true)
  (ha43:nsIn K mainGlobals "_law_is_number"=some (some (.ref f43)))
  (hl43:K.lookup f43=some ⟨oc43,od43, .func (fnS "_law_is_number" "_law_is_number" s_17 .none kV43 dc43 pm43 an43 cd43 ct43),sl43⟩)
  (hc43:codeIn K cd43 "_law_is_number"=true)
  (hk43:keepIn K (.ref f43)=true)
  (ha44:nsIn K mainGlobals "_law_is_plan"=some (some (.ref f44)))
  (hl44:K.lookup f44=some ⟨oc44,od44, .func (fnS "_law_is_plan" "_law_is_plan" s_18 .none kV44 dc44 pm44 an44 cd44 ct44),sl44⟩)
  (hc44:codeIn K cd44 "_law_is_plan"=true)
  (hk44:keepIn K (.ref f44)=true)
  (ha45:nsIn K mainGlobals "_law_is_text"=some (some (.ref f45)))
  (hl45:K.lookup f45=some ⟨oc45,od45, .func (fnS "_law_is_text" "_law_is_text" s_19 .none kV45 dc45 pm45 an45 cd45 ct45),sl45⟩)
  (hc45:codeIn K cd45 "_law_is_text"=true)
  (hk45:keepIn K (.ref f45)=true)
  (ha46:nsIn K mainGlobals "_law_read"=some (some (.ref f46)))
  (hl46:K.lookup f46=some ⟨oc46,od46, .func (fnS "_law_read" "_law_read" s_1a .none kV46 dc46 pm46 an46 cd46 ct46),sl46⟩)
  (hc46:codeIn K cd46 "_law_read"=true)
  (hk46:keepIn K (.ref f46)=true)
  (ha47:nsIn K mainGlobals "_law_is_good"=some (some (.ref f47)))
  (hl47:K.lookup f47=some ⟨oc47,od47, .func (fnS "_law_is_good" "_law_is_good" s_1b .none kV47 dc47 pm47 an47 cd47 ct47),sl47⟩)
  (hc47:codeIn K cd47 "_law_is_good"=true)
  (hk47:keepIn K (.ref f47)=true)
  (ha48:nsIn K mainGlobals "_law_due"=some (some (.ref f48)))
  (hl48:K.lookup f48=some ⟨oc48,od48, .func (fnS "_law_due" "_law_due" s_1c .none kV48 dc48 pm48 an48 cd48 ct48),sl48⟩)
  (hc48:codeIn K cd48 "_law_due"=true)
  (hk48:keepIn K (.ref f48)=true)
  (ha49:nsIn K mainGlobals "_law_told"=some (some (.ref f49)))
  (hl49:K.lookup f49=some ⟨oc49,od49, .func (fnS "_law_told" "_law_told" s_1d .none kV49 dc49 pm49 an49 cd49 ct49),sl49⟩)
  (hc49:codeIn K cd49 "_law_told"=true)
  (hk49:keepIn K (.ref f49)=true)
  (ha50:nsIn K mainGlobals "law"=some (some (.ref f50)))
  (hl50:K.lookup f50=some ⟨oc50,od50, .func (fnS "law" "law" s_1e .none kV50 dc50 pm50 an50 cd50 ct50),sl50⟩)
  (hc50:codeIn K cd50 "law"=true)
  (hk50:keepIn K (.ref f50)=true)
  (g_Z0p:nsIn K mainGlobals "SpanError"=some (some (.ref C_Z0p)))
  (gc_Z0p:clsIn K C_Z0p=some cd_Z0p)
  (gt_Z0p:typeIn K (.ref C_Z0p)=some (.type "type"))
  (gm_Z0p:mroIn K C_Z0p (.ref C_Z0p)=some true)
  (g_Z0i:nsIn K mainGlobals "NoDate"=some (some (.ref C_Z0i)))
  (gc_Z0i:clsIn K C_Z0i=some cd_Z0i)
  (gt_Z0i:typeIn K (.ref C_Z0i)=some (.type "type"))
  (gm_Z0i:mroIn K C_Z0i (.ref C_Z0i)=some true)
  (g_Z0k:nsIn K mainGlobals "NoParts"=some (some (.ref C_Z0k)))
  (gc_Z0k:clsIn K C_Z0k=some cd_Z0k)
  (gt_Z0k:typeIn K (.ref C_Z0k)=some (.type "type"))
  (gm_Z0k:mroIn K C_Z0k (.ref C_Z0k)=some true)
  (g_Z0h:nsIn K mainGlobals "NoAmount"=some (some (.ref C_Z0h)))
  (gc_Z0h:clsIn K C_Z0h=some cd_Z0h)
  (gt_Z0h:typeIn K (.ref C_Z0h)=some (.type "type"))
  (gm_Z0h:mroIn K C_Z0h (.ref C_Z0h)=some true)
  (g_Z0m:nsIn K mainGlobals "NoSpan"=some (some (.ref C_Z0m)))
  (gc_Z0m:clsIn K C_Z0m=some cd_Z0m)
  (gt_Z0m:typeIn K (.ref C_Z0m)=some (.type "type"))
  (gm_Z0m:mroIn K C_Z0m (.ref C_Z0m)=some true)
  (g_Z0q:nsIn K mainGlobals "TooLong"=some (some (.ref C_Z0q)))
  (gc_Z0q:clsIn K C_Z0q=some cd_Z0q)
  (gt_Z0q:typeIn K (.ref C_Z0q)=some (.type "type"))
  (gm_Z0q:mroIn K C_Z0q (.ref C_Z0q)=some true)
  (g_Z0g:nsIn K mainGlobals "NoAccount"=some (some (.ref C_Z0g)))
  (gc_Z0g:clsIn K C_Z0g=some cd_Z0g)
  (gt_Z0g:typeIn K (.ref C_Z0g)=some (.type "type"))
  (gm_Z0g:mroIn K C_Z0g (.ref C_Z0g)=some true)
  (g_Z0n:nsIn K mainGlobals "NoText"=some (some (.ref C_Z0n)))
  (gc_Z0n:clsIn K C_Z0n=some cd_Z0n)
  (gt_Z0n:typeIn K (.ref C_Z0n)=some (.type "type"))
  (gm_Z0n:mroIn K C_Z0n (.ref C_Z0n)=some true)
  (g_Z0l:nsIn K mainGlobals "NoRow"=some (some (.ref C_Z0l)))
  (gc_Z0l:clsIn K C_Z0l=some cd_Z0l)
  (gt_Z0l:typeIn K (.ref C_Z0l)=some (.type "type"))
  (gm_Z0l:mroIn K C_Z0l (.ref C_Z0l)=some true)
  (g_Z0j:nsIn K mainGlobals "NoEntry"=some (some (.ref C_Z0j)))
  (gc_Z0j:clsIn K C_Z0j=some cd_Z0j)
  (gt_Z0j:typeIn K (.ref C_Z0j)=some (.type "type"))
  (gm_Z0j:mroIn K C_Z0j (.ref C_Z0j)=some true)
  (gx_Z0g:excIn K C_Z0g [.type "ValueError", .type "Exception", .type "BaseException", .type "object"] "ValueError.__new__"=true)
  (gx_Z0i:excIn K C_Z0i [.type "ValueError", .type "Exception", .type "BaseException", .type "object"] "ValueError.__new__"=true)
  (gx_Z0h:excIn K C_Z0h [.type "ValueError", .type "Exception", .type "BaseException", .type "object"] "ValueError.__new__"=true)
  (gx_Z0n:excIn K C_Z0n [.type "ValueError", .type "Exception", .type "BaseException", .type "object"] "ValueError.__new__"=true)
  (k_Z06:nsIn K mainGlobals "LETTERS"=some (some (.str "abcdefghijklmnopqrstuvwxyz" tk_Z06)))
  (k_Z0c:nsIn K mainGlobals "MOST_LETTERS"=some (some (.int 8 tk_Z0c)))
  (k_Z0f:nsIn K mainGlobals "MOST_PLANS"=some (some (.int 8 tk_Z0f)))
  (k_Z08:nsIn K mainGlobals "MOST_COUNT"=some (some (.int 400 tk_Z08)))
  (k_Z04:nsIn K mainGlobals "LAST_FIRST_DAY"=some (some (.int 3500000 tk_Z04)))
  (k_Z09:nsIn K mainGlobals "MOST_DAYS"=some (some (.int 400 tk_Z09)))
  (k_Z0d:nsIn K mainGlobals "MOST_MONTHS"=some (some (.int 12 tk_Z0d)))
  (k_Z05:nsIn K mainGlobals "LAST_YEAR"=some (some (.int 9999 tk_Z05)))
  (k_Z03:nsIn K mainGlobals "LAST_DAY"=some (some (.int 3652058 tk_Z03)))
  (k_Z07:nsIn K mainGlobals "MONTH_DAYS"=some (some (.ref A_Z07)))
  (kl_Z07:K.lookup A_Z07=some ⟨.type "tuple",od_Z07, .seq its_Z07 n_Z07,sl_Z07⟩)
  (kz_Z07:its_Z07.size<=sizeLine)
  (kv_Z07:zE [.int 31, .int 28, .int 31, .int 30, .int 31, .int 30, .int 31, .int 31, .int 30, .int 31, .int 30, .int 31] its_Z07.toList)
  (k_Z0o:nsIn K mainGlobals "ROUND_DAYS"=some (some (.int 146097 tk_Z0o)))
  (k_Z02:nsIn K mainGlobals "HUNDRED_YEARS_DAYS"=some (some (.int 36524 tk_Z02)))
  (k_Z01:nsIn K mainGlobals "FOUR_YEARS_DAYS"=some (some (.int 1461 tk_Z01)))
  (k_Z0r:nsIn K mainGlobals "YEAR_DAYS"=some (some (.int 365 tk_Z0r)))
  (k_Z00:nsIn K mainGlobals "FIGURES"=some (some (.str "0123456789" tk_Z00)))
  (k_Z0a:nsIn K mainGlobals "MOST_FIGURES"=some (some (.int 60 tk_Z0a)))
  (k_Z0b:nsIn K mainGlobals "MOST_FIGURES_OF_NUMBER"=some (some (.int 9 tk_Z0b)))
  (k_Z0e:nsIn K mainGlobals "MOST_PLACES"=some (some (.int 6 tk_Z0e)))
  (z_isinstance:nsIn K mainGlobals "isinstance"=some none)
  (z_int:nsIn K mainGlobals "int"=some none)
  (z_bool:nsIn K mainGlobals "bool"=some none)
  (z_str:nsIn K mainGlobals "str"=some none)
  (z_len:nsIn K mainGlobals "len"=some none)
  (z_range:nsIn K mainGlobals "range"=some none)
  (z_divmod:nsIn K mainGlobals "divmod"=some none)
  (z_min:nsIn K mainGlobals "min"=some none)
  (z_abs:nsIn K mainGlobals "abs"=some none)
  (z_all:nsIn K mainGlobals "all"=some none)
  (z_zip:nsIn K mainGlobals "zip"=some none)
  (z_any:nsIn K mainGlobals "any"=some none)
  (z_set:nsIn K mainGlobals "set"=some none)
  (z_ValueError:nsIn K mainGlobals "ValueError"=some none)
  (xga_NoText:findIn K (.ref C_Z0n) "__getattribute__"=some (some (.builtin "BaseException.__getattribute__")))
  (xgt_NoText:findIn K (.ref C_Z0n) "__getattr__"=some none)
  (xcl_NoText:findIn K (.ref C_Z0n) "__class__"=some (some (.builtin "object.__class__")))
  (xmo_NoText:mroIn K C_Z0n (.type "object")=some true)
  (xmb_NoText:mroIn K C_Z0n (.type "BaseException")=some true)
  (xga_NoDate:findIn K (.ref C_Z0i) "__getattribute__"=some (some (.builtin "BaseException.__getattribute__")))
  (xgt_NoDate:findIn K (.ref C_Z0i) "__getattr__"=some none)
  (xcl_NoDate:findIn K (.ref C_Z0i) "__class__"=some (some (.builtin "object.__class__")))
  (xmo_NoDate:mroIn K C_Z0i (.type "object")=some true)
  (xmb_NoDate:mroIn K C_Z0i (.type "BaseException")=some true)
  (xga_NoAmount:findIn K (.ref C_Z0h) "__getattribute__"=some (some (.builtin "BaseException.__getattribute__")))
  (xgt_NoAmount:findIn K (.ref C_Z0h) "__getattr__"=some none)
  (xcl_NoAmount:findIn K (.ref C_Z0h) "__class__"=some (some (.builtin "object.__class__")))
  (xmo_NoAmount:mroIn K C_Z0h (.type "object")=some true)
  (xmb_NoAmount:mroIn K C_Z0h (.type "BaseException")=some true)
  (xga_NoAccount:findIn K (.ref C_Z0g) "__getattribute__"=some (some (.builtin "BaseException.__getattribute__")))
  (xgt_NoAccount:findIn K (.ref C_Z0g) "__getattr__"=some none)
  (xcl_NoAccount:findIn K (.ref C_Z0g) "__class__"=some (some (.builtin "object.__class__")))
  (xmo_NoAccount:mroIn K C_Z0g (.type "object")=some true)
  (xmb_NoAccount:mroIn K C_Z0g (.type "BaseException")=some true)
  (m_NoText_SpanError:mroIn K C_Z0n (.ref C_Z0p)=some true)
  (m_NoText_NoDate:mroIn K C_Z0n (.ref C_Z0i)=some false)
  (m_NoText_NoParts:mroIn K C_Z0n (.ref C_Z0k)=some false)
  (m_NoText_NoAmount:mroIn K C_Z0n (.ref C_Z0h)=some false)
  (m_NoText_NoSpan:mroIn K C_Z0n (.ref C_Z0m)=some false)
  (m_NoText_TooLong:mroIn K C_Z0n (.ref C_Z0q)=some false)
  (m_NoText_NoAccount:mroIn K C_Z0n (.ref C_Z0g)=some false)
  (m_NoText_NoText:mroIn K C_Z0n (.ref C_Z0n)=some true)
  (m_NoText_NoRow:mroIn K C_Z0n (.ref C_Z0l)=some false)
  (m_NoText_NoEntry:mroIn K C_Z0n (.ref C_Z0j)=some false)
  (m_NoText_ValueError:mroIn K C_Z0n (.type "ValueError")=some true)
  (m_NoDate_SpanError:mroIn K C_Z0i (.ref C_Z0p)=some true)
  (m_NoDate_NoDate:mroIn K C_Z0i (.ref C_Z0i)=some true)
  (m_NoDate_NoParts:mroIn K C_Z0i (.ref C_Z0k)=some false)
  (m_NoDate_NoAmount:mroIn K C_Z0i (.ref C_Z0h)=some false)
  (m_NoDate_NoSpan:mroIn K C_Z0i (.ref C_Z0m)=some false)
  (m_NoDate_TooLong:mroIn K C_Z0i (.ref C_Z0q)=some false)
  (m_NoDate_NoAccount:mroIn K C_Z0i (.ref C_Z0g)=some false)
  (m_NoDate_NoText:mroIn K C_Z0i (.ref C_Z0n)=some false)
  (m_NoDate_NoRow:mroIn K C_Z0i (.ref C_Z0l)=some false)
  (m_NoDate_NoEntry:mroIn K C_Z0i (.ref C_Z0j)=some false)
  (m_NoDate_ValueError:mroIn K C_Z0i (.type "ValueError")=some true)
  (m_NoAmount_SpanError:mroIn K C_Z0h (.ref C_Z0p)=some true)
  (m_NoAmount_NoDate:mroIn K C_Z0h (.ref C_Z0i)=some false)
  (m_NoAmount_NoParts:mroIn K C_Z0h (.ref C_Z0k)=some false)
  (m_NoAmount_NoAmount:mroIn K C_Z0h (.ref C_Z0h)=some true)
  (m_NoAmount_NoSpan:mroIn K C_Z0h (.ref C_Z0m)=some false)
  (m_NoAmount_TooLong:mroIn K C_Z0h (.ref C_Z0q)=some false)
  (m_NoAmount_NoAccount:mroIn K C_Z0h (.ref C_Z0g)=some false)
  (m_NoAmount_NoText:mroIn K C_Z0h (.ref C_Z0n)=some false)
  (m_NoAmount_NoRow:mroIn K C_Z0h (.ref C_Z0l)=some false)
  (m_NoAmount_NoEntry:mroIn K C_Z0h (.ref C_Z0j)=some false)
  (m_NoAmount_ValueError:mroIn K C_Z0h (.type "ValueError")=some true)
  (m_NoAccount_SpanError:mroIn K C_Z0g (.ref C_Z0p)=some true)
  (m_NoAccount_NoDate:mroIn K C_Z0g (.ref C_Z0i)=some false)
  (m_NoAccount_NoParts:mroIn K C_Z0g (.ref C_Z0k)=some false)
  (m_NoAccount_NoAmount:mroIn K C_Z0g (.ref C_Z0h)=some false)
  (m_NoAccount_NoSpan:mroIn K C_Z0g (.ref C_Z0m)=some false)
  (m_NoAccount_TooLong:mroIn K C_Z0g (.ref C_Z0q)=some false)
  (m_NoAccount_NoAccount:mroIn K C_Z0g (.ref C_Z0g)=some true)
  (m_NoAccount_NoText:mroIn K C_Z0g (.ref C_Z0n)=some false)
  (m_NoAccount_NoRow:mroIn K C_Z0g (.ref C_Z0l)=some false)
  (m_NoAccount_NoEntry:mroIn K C_Z0g (.ref C_Z0j)=some false)
  (m_NoAccount_ValueError:mroIn K C_Z0g (.type "ValueError")=some true)
  (m_NoDate_BaseException:mroIn K C_Z0i (.type "BaseException")=some true)
  (m_NoAmount_BaseException:mroIn K C_Z0h (.type "BaseException")=some true)
  (m_SpanError_BaseException:mroIn K C_Z0p (.type "BaseException")=some true)
  : ∃t,Txt K mg t:=
 ⟨{a_00:=f0,d_00:=fnS "is_whole" "is_whole" s_00 .none kV0 dc0 pm0 an0 cd0 ct0,
   a_01:=f1,d_01:=fnS "is_whole_between" "is_whole_between" s_01 .none kV1 dc1 pm1 an1 cd1 ct1,
   a_02:=f2,d_02:=fnS "is_name" "is_name" s_02 .none kV2 dc2 pm2 an2 cd2 ct2,
   a_03:=f3,d_03:=fnS "is_price" "is_price" s_03 .none kV3 dc3 pm3 an3 cd3 ct3,
   a_04:=f4,d_04:=fnS "is_plan" "is_plan" s_04 .none kV4 dc4 pm4 an4 cd4 ct4,
   a_05:=f5,d_05:=fnS "is_cycle" "is_cycle" s_05 .none kV5 dc5 pm5 an5 cd5 ct5,
   a_06:=f6,d_06:=fnS "check_plans" "check_plans" s_06 .none kV6 dc6 pm6 an6 cd6 ct6,
   a_07:=f7,d_07:=fnS "check_account" "check_account" s_07 .none kV7 dc7 pm7 an7 cd7 ct7,
   a_08:=f8,d_08:=fnS "has_leap_day" "has_leap_day" s_08 .none kV8 dc8 pm8 an8 cd8 ct8,
   a_09:=f9,d_09:=fnS "days_in" "days_in" s_09 .none kV9 dc9 pm9 an9 cd9 ct9,
   a_0a:=f10,d_0a:=fnS "days_ahead_of_year" "days_ahead_of_year" s_0a .none kV10 dc10 pm10 an10 cd10 ct10,
   a_0b:=f11,d_0b:=fnS "day_of" "day_of" s_0b .none kV11 dc11 pm11 an11 cd11 ct11,
   a_0c:=f12,d_0c:=fnS "year_of" "year_of" s_0c .none kV12 dc12 pm12 an12 cd12 ct12,
   a_0d:=f13,d_0d:=fnS "date_of" "date_of" s_0d .none kV13 dc13 pm13 an13 cd13 ct13,
   a_0e:=f14,d_0e:=fnS "show_date" "show_date" s_0e .none kV14 dc14 pm14 an14 cd14 ct14,
   a_0f:=f15,d_0f:=fnS "read_figures" "read_figures" s_0f .none kV15 dc15 pm15 an15 cd15 ct15,
   a_0g:=f16,d_0g:=fnS "read_date" "read_date" s_0g .none kV16 dc16 pm16 an16 cd16 ct16,
   a_0h:=f17,d_0h:=fnS "show_amount" "show_amount" s_0h (.ref T17) kV17 dc17 pm17 an17 cd17 ct17,
   a_0i:=f18,d_0i:=fnS "only_figures" "only_figures" s_0i .none kV18 dc18 pm18 an18 cd18 ct18,
   a_0j:=f19,d_0j:=fnS "read_amount" "read_amount" s_0j (.ref T19) kV19 dc19 pm19 an19 cd19 ct19,
   a_0k:=f20,d_0k:=fnS "is_number" "is_number" s_0k .none kV20 dc20 pm20 an20 cd20 ct20,
   a_0l:=f21,d_0l:=fnS "fits_word" "fits_word" s_0l .none kV21 dc21 pm21 an21 cd21 ct21,
   a_0m:=f22,d_0m:=fnS "fits_form" "fits_form" s_0m .none kV22 dc22 pm22 an22 cd22 ct22,
   a_0n:=f23,d_0n:=fnS "fits_places" "fits_places" s_0n .none kV23 dc23 pm23 an23 cd23 ct23,
   a_0o:=f24,d_0o:=fnS "fits_cycle" "fits_cycle" s_0o .none kV24 dc24 pm24 an24 cd24 ct24,
   a_0p:=f25,d_0p:=fnS "fits_plan" "fits_plan" s_0p .none kV25 dc25 pm25 an25 cd25 ct25,
   a_0q:=f26,d_0q:=fnS "fits_lines" "fits_lines" s_0q .none kV26 dc26 pm26 an26 cd26 ct26,
   a_0r:=f27,d_0r:=fnS "read_plan" "read_plan" s_0r .none kV27 dc27 pm27 an27 cd27 ct27,
   a_0s:=f28,d_0s:=fnS "read_account" "read_account" s_0s .none kV28 dc28 pm28 an28 cd28 ct28,
   a_0t:=f29,d_0t:=fnS "_law_cell_at" "_law_cell_at" s_0t .none kV29 dc29 pm29 an29 cd29 ct29,
   a_0u:=f30,d_0u:=fnS "_law_rich" "_law_rich" s_0u .none kV30 dc30 pm30 an30 cd30 ct30,
   a_0v:=f31,d_0v:=fnS "_law_digits" "_law_digits" s_0v .none kV31 dc31 pm31 an31 cd31 ct31,
   a_0w:=f32,d_0w:=fnS "_law_digit" "_law_digit" s_0w .none kV32 dc32 pm32 an32 cd32 ct32,
   a_0x:=f33,d_0x:=fnS "_law_name" "_law_name" s_0x .none kV33 dc33 pm33 an33 cd33 ct33,
   a_0y:=f34,d_0y:=fnS "_law_plan" "_law_plan" s_0y .none kV34 dc34 pm34 an34 cd34 ct34,
   a_0z:=f35,d_0z:=fnS "_law_first" "_law_first" s_0z .none kV35 dc35 pm35 an35 cd35 ct35,
   a_10:=f36,d_10:=fnS "_law_account" "_law_account" s_10 .none kV36 dc36 pm36 an36 cd36 ct36,
   a_11:=f37,d_11:=fnS "_law_text" "_law_text" s_11 .none kV37 dc37 pm37 an37 cd37 ct37,
   a_12:=f38,d_12:=fnS "_law_swapped" "_law_swapped" s_12 .none kV38 dc38 pm38 an38 cd38 ct38,
   a_13:=f39,d_13:=fnS "_law_lines" "_law_lines" s_13 .none kV39 dc39 pm39 an39 cd39 ct39,
   a_14:=f40,d_14:=fnS "_law_words" "_law_words" s_14 .none kV40 dc40 pm40 an40 cd40 ct40,
   a_15:=f41,d_15:=fnS "_law_numbers" "_law_numbers" s_15 .none kV41 dc41 pm41 an41 cd41 ct41,
   a_16:=f42,d_16:=fnS "_law_beyond" "_law_beyond" s_16 .none kV42 dc42 pm42 an42 cd42 ct42,
   a_17:=f43,d_17:=fnS "_law_is_number" "_law_is_number" s_17 .none kV43 dc43 pm43 an43 cd43 ct43,
   a_18:=f44,d_18:=fnS "_law_is_plan" "_law_is_plan" s_18 .none kV44 dc44 pm44 an44 cd44 ct44,
   a_19:=f45,d_19:=fnS "_law_is_text" "_law_is_text" s_19 .none kV45 dc45 pm45 an45 cd45 ct45,
   a_1a:=f46,d_1a:=fnS "_law_read" "_law_read" s_1a .none kV46 dc46 pm46 an46 cd46 ct46,
   a_1b:=f47,d_1b:=fnS "_law_is_good" "_law_is_good" s_1b .none kV47 dc47 pm47 an47 cd47 ct47,
   a_1c:=f48,d_1c:=fnS "_law_due" "_law_due" s_1c .none kV48 dc48 pm48 an48 cd48 ct48,
   a_1d:=f49,d_1d:=fnS "_law_told" "_law_told" s_1d .none kV49 dc49 pm49 an49 cd49 ct49,
   a_1e:=f50,d_1e:=fnS "law" "law" s_1e .none kV50 dc50 pm50 an50 cd50 ct50,
   c_Z0p:=C_Z0p,
   c_Z0i:=C_Z0i,
   c_Z0k:=C_Z0k,
   c_Z0h:=C_Z0h,
   c_Z0m:=C_Z0m,
   c_Z0q:=C_Z0q,
   c_Z0g:=C_Z0g,
   c_Z0n:=C_Z0n,
   c_Z0l:=C_Z0l,
   c_Z0j:=C_Z0j},
  {mg_00:=mg_of X G ha0,
   fn_00:=zx (st:=s_00) hl0 hc0 hk0,
   b_00:=(zx (st:=s_00) hl0 hc0 hk0).binds λ_ _ _ _ _ _=>qa λ_=>rfl,
   mg_01:=mg_of X G ha1,
   fn_01:=zx (st:=s_01) hl1 hc1 hk1,
   b_01:=(zx (st:=s_01) hl1 hc1 hk1).binds λ_ _ _ _ _ _=>uG λ_ _ _=>rfl,
   mg_02:=mg_of X G ha2,
   fn_02:=zx (st:=s_02) hl2 hc2 hk2,
   b_02:=(zx (st:=s_02) hl2 hc2 hk2).binds λ_ _ _ _ _ _=>qa λ_=>rfl,
   mg_03:=mg_of X G ha3,
   fn_03:=zx (st:=s_03) hl3 hc3 hk3,
   b_03:=(zx (st:=s_03) hl3 hc3 hk3).binds λ_ _ _ _ _ _=>qa λ_=>rfl,
   mg_04:=mg_of X G ha4,
   fn_04:=zx (st:=s_04) hl4 hc4 hk4,
   b_04:=(zx (st:=s_04) hl4 hc4 hk4).binds λ_ _ _ _ _ _=>qa λ_=>rfl,
   mg_05:=mg_of X G ha5,
   fn_05:=zx (st:=s_05) hl5 hc5 hk5,
   b_05:=(zx (st:=s_05) hl5 hc5 hk5).binds λ_ _ _ _ _ _=>qa λ_=>rfl,
   mg_06:=mg_of X G ha6,
   fn_06:=zx (st:=s_06) hl6 hc6 hk6,
   b_06:=(zx (st:=s_06) hl6 hc6 hk6).binds λ_ _ _ _ _ _=>qa λ_=>rfl,
   mg_07:=mg_of X G ha7,
   fn_07:=zx (st:=s_07) hl7 hc7 hk7,
   b_07:=(zx (st:=s_07) hl7 hc7 hk7).binds λ_ _ _ _ _ _=>qa λ_=>rfl,
   mg_08:=mg_of X G ha8,
   fn_08:=zx (st:=s_08) hl8 hc8 hk8,
   b_08:=(zx (st:=s_08) hl8 hc8 hk8).binds λ_ _ _ _ _ _=>qa λ_=>rfl,
   mg_09:=mg_of X G ha9,
   fn_09:=zx (st:=s_09) hl9 hc9 hk9,
   b_09:=(zx (st:=s_09) hl9 hc9 hk9).binds λ_ _ _ _ _ _=>xG λ_ _=>rfl,
   mg_0a:=mg_of X G ha10,
   fn_0a:=zx (st:=s_0a) hl10 hc10 hk10,
   b_0a:=(zx (st:=s_0a) hl10 hc10 hk10).binds λ_ _ _ _ _ _=>qa λ_=>rfl,
   mg_0b:=mg_of X G ha11,
   fn_0b:=zx (st:=s_0b) hl11 hc11 hk11,
   b_0b:=(zx (st:=s_0b) hl11 hc11 hk11).binds λ_ _ _ _ _ _=>uG λ_ _ _=>rfl,
   mg_0c:=mg_of X G ha12,
   fn_0c:=zx (st:=s_0c) hl12 hc12 hk12,
   b_0c:=(zx (st:=s_0c) hl12 hc12 hk12).binds λ_ _ _ _ _ _=>qa λ_=>rfl,
   mg_0d:=mg_of X G ha13,
   fn_0d:=zx (st:=s_0d) hl13 hc13 hk13,
   b_0d:=(zx (st:=s_0d) hl13 hc13 hk13).binds λ_ _ _ _ _ _=>qa λ_=>rfl,
   mg_0e:=mg_of X G ha14,
   fn_0e:=zx (st:=s_0e) hl14 hc14 hk14,
   b_0e:=(zx (st:=s_0e) hl14 hc14 hk14).binds λ_ _ _ _ _ _=>qa λ_=>rfl,
   mg_0f:=mg_of X G ha15,
   fn_0f:=zx (st:=s_0f) hl15 hc15 hk15,
   b_0f:=(zx (st:=s_0f) hl15 hc15 hk15).binds λ_ _ _ _ _ _=>qa λ_=>rfl,
   mg_0g:=mg_of X G ha16,
   fn_0g:=zx (st:=s_0g) hl16 hc16 hk16,
   b_0g:=(zx (st:=s_0g) hl16 hc16 hk16).binds λ_ _ _ _ _ _=>qa λ_=>rfl,
   mg_0h:=mg_of X G ha17,
   fn_0h:=zia (st:=s_0h) hl17 hc17 hk17,
   b_0h:=zgl λs u v hk=> .of_defaults rfl (hk _ _ ht17) rfl rfl rfl,
   bd_0h:=⟨_,zfC λs u hk=> .of_defaults rfl (hk _ _ ht17) rfl rfl rfl⟩,
   kb_0h:=zfB λs u v hk=> .of_defaults rfl (hk _ _ ht17) rfl rfl rfl,
   mg_0i:=mg_of X G ha18,
   fn_0i:=zx (st:=s_0i) hl18 hc18 hk18,
   b_0i:=(zx (st:=s_0i) hl18 hc18 hk18).binds λ_ _ _ _ _ _=>qa λ_=>rfl,
   mg_0j:=mg_of X G ha19,
   fn_0j:=zia (st:=s_0j) hl19 hc19 hk19,
   b_0j:=zgl λs u v hk=> .of_defaults rfl (hk _ _ ht19) rfl rfl rfl,
   bd_0j:=⟨_,zfC λs u hk=> .of_defaults rfl (hk _ _ ht19) rfl rfl rfl⟩,
   kb_0j:=zfB λs u v hk=> .of_defaults rfl (hk _ _ ht19) rfl rfl rfl,
   mg_0k:=mg_of X G ha20,
   fn_0k:=zx (st:=s_0k) hl20 hc20 hk20,
   b_0k:=(zx (st:=s_0k) hl20 hc20 hk20).binds λ_ _ _ _ _ _=>qa λ_=>rfl,
   mg_0l:=mg_of X G ha21,
   fn_0l:=zx (st:=s_0l) hl21 hc21 hk21,
   b_0l:=(zx (st:=s_0l) hl21 hc21 hk21).binds λ_ _ _ _ _ _=>xG λ_ _=>rfl,
   mg_0m:=mg_of X G ha22,
   fn_0m:=zx (st:=s_0m) hl22 hc22 hk22,
   b_0m:=(zx (st:=s_0m) hl22 hc22 hk22).binds λ_ _ _ _ _ _=>xG λ_ _=>rfl,
   mg_0n:=mg_of X G ha23,
   fn_0n:=zx (st:=s_0n) hl23 hc23 hk23,
   b_0n:=(zx (st:=s_0n) hl23 hc23 hk23).binds λ_ _ _ _ _ _=>qa λ_=>rfl,
   mg_0o:=mg_of X G ha24,
   fn_0o:=zx (st:=s_0o) hl24 hc24 hk24,
   b_0o:=(zx (st:=s_0o) hl24 hc24 hk24).binds λ_ _ _ _ _ _=>qa λ_=>rfl,
   mg_0p:=mg_of X G ha25,
   fn_0p:=zx (st:=s_0p) hl25 hc25 hk25,
   b_0p:=(zx (st:=s_0p) hl25 hc25 hk25).binds λ_ _ _ _ _ _=>qa λ_=>rfl,
   mg_0q:=mg_of X G ha26,
   fn_0q:=zx (st:=s_0q) hl26 hc26 hk26,
   b_0q:=(zx (st:=s_0q) hl26 hc26 hk26).binds λ_ _ _ _ _ _=>qa λ_=>rfl,
   mg_0r:=mg_of X G ha27,
   fn_0r:=zx (st:=s_0r) hl27 hc27 hk27,
   b_0r:=(zx (st:=s_0r) hl27 hc27 hk27).binds λ_ _ _ _ _ _=>xG λ_ _=>rfl,
   mg_0s:=mg_of X G ha28,
   fn_0s:=zx (st:=s_0s) hl28 hc28 hk28,
   b_0s:=(zx (st:=s_0s) hl28 hc28 hk28).binds λ_ _ _ _ _ _=>qa λ_=>rfl,
   mg_0t:=mg_of X G ha29,
   fn_0t:=zx (st:=s_0t) hl29 hc29 hk29,
   b_0t:=(zx (st:=s_0t) hl29 hc29 hk29).binds λ_ _ _ _ _ _=>xG λ_ _=>rfl,
   mg_0u:=mg_of X G ha30,
   fn_0u:=zx (st:=s_0u) hl30 hc30 hk30,
   b_0u:=(zx (st:=s_0u) hl30 hc30 hk30).binds λ_ _ _ _ _ _=>xG λ_ _=>rfl,
   mg_0v:=mg_of X G ha31,
   fn_0v:=zx (st:=s_0v) hl31 hc31 hk31,
   b_0v:=(zx (st:=s_0v) hl31 hc31 hk31).binds λ_ _ _ _ _ _=>uG λ_ _ _=>rfl,
   mg_0w:=mg_of X G ha32,
   fn_0w:=zx (st:=s_0w) hl32 hc32 hk32,
   b_0w:=(zx (st:=s_0w) hl32 hc32 hk32).binds λ_ _ _ _ _ _=>xG λ_ _=>rfl,
   mg_0x:=mg_of X G ha33,
   fn_0x:=zx (st:=s_0x) hl33 hc33 hk33,
   b_0x:=(zx (st:=s_0x) hl33 hc33 hk33).binds λ_ _ _ _ _ _=>xG λ_ _=>rfl,
   mg_0y:=mg_of X G ha34,
   fn_0y:=zx (st:=s_0y) hl34 hc34 hk34,
   b_0y:=(zx (st:=s_0y) hl34 hc34 hk34).binds λ_ _ _ _ _ _=>xG λ_ _=>rfl,
   mg_0z:=mg_of X G ha35,
   fn_0z:=zx (st:=s_0z) hl35 hc35 hk35,
   b_0z:=(zx (st:=s_0z) hl35 hc35 hk35).binds λ_ _ _ _ _ _=>qa λ_=>rfl,
   mg_10:=mg_of X G ha36,
   fn_10:=zx (st:=s_10) hl36 hc36 hk36,
   b_10:=(zx (st:=s_10) hl36 hc36 hk36).binds λ_ _ _ _ _ _=>xG λ_ _=>rfl,
   mg_11:=mg_of X G ha37,
   fn_11:=zx (st:=s_11) hl37 hc37 hk37,
   b_11:=(zx (st:=s_11) hl37 hc37 hk37).binds λ_ _ _ _ _ _=>xG λ_ _=>rfl,
   mg_12:=mg_of X G ha38,
   fn_12:=zx (st:=s_12) hl38 hc38 hk38,
   b_12:=(zx (st:=s_12) hl38 hc38 hk38).binds λ_ _ _ _ _ _=>zmI λ_ _ _ _=>rfl,
   mg_13:=mg_of X G ha39,
   fn_13:=zx (st:=s_13) hl39 hc39 hk39,
   b_13:=(zx (st:=s_13) hl39 hc39 hk39).binds λ_ _ _ _ _ _=>uG λ_ _ _=>rfl,
   mg_14:=mg_of X G ha40,
   fn_14:=zx (st:=s_14) hl40 hc40 hk40,
   b_14:=(zx (st:=s_14) hl40 hc40 hk40).binds λ_ _ _ _ _ _=>zmI λ_ _ _ _=>rfl,
   mg_15:=mg_of X G ha41,
   fn_15:=zx (st:=s_15) hl41 hc41 hk41,
   b_15:=(zx (st:=s_15) hl41 hc41 hk41).binds λ_ _ _ _ _ _=>uG λ_ _ _=>rfl,
   mg_16:=mg_of X G ha42,
   fn_16:=zx (st:=s_16) hl42 hc42 hk42,
   b_16:=(zx (st:=s_16) hl42 hc42 hk42).binds λ_ _ _ _ _ _=>zmI λ_ _ _ _=>rfl,
   mg_17:=mg_of X G ha43,
   fn_17:=zx (st:=s_17) hl43 hc43 hk43,
   b_17:=(zx (st:=s_17) hl43 hc43 hk43).binds λ_ _ _ _ _ _=>qa λ_=>rfl,
   mg_18:=mg_of X G ha44,
   fn_18:=zx (st:=s_18) hl44 hc44 hk44,
   b_18:=(zx (st:=s_18) hl44 hc44 hk44).binds λ_ _ _ _ _ _=>qa λ_=>rfl,
   mg_19:=mg_of X G ha45,
   fn_19:=zx (st:=s_19) hl45 hc45 hk45,
   b_19:=(zx (st:=s_19) hl45 hc45 hk45).binds λ_ _ _ _ _ _=>qa λ_=>rfl,
   mg_1a:=mg_of X G ha46,
   fn_1a:=zx (st:=s_1a) hl46 hc46 hk46,
   b_1a:=(zx (st:=s_1a) hl46 hc46 hk46).binds λ_ _ _ _ _ _=>qa λ_=>rfl,
   mg_1b:=mg_of X G ha47,
   fn_1b:=zx (st:=s_1b) hl47 hc47 hk47,
   b_1b:=(zx (st:=s_1b) hl47 hc47 hk47).binds λ_ _ _ _ _ _=>xG λ_ _=>rfl,
   mg_1c:=mg_of X G ha48,
   fn_1c:=zx (st:=s_1c) hl48 hc48 hk48,
   b_1c:=(zx (st:=s_1c) hl48 hc48 hk48).binds λ_ _ _ _ _ _=>qa λ_=>rfl,
   mg_1d:=mg_of X G ha49,
   fn_1d:=zx (st:=s_1d) hl49 hc49 hk49,
   b_1d:=(zx (st:=s_1d) hl49 hc49 hk49).binds λ_ _ _ _ _ _=>qa λ_=>rfl,
   mg_1e:=mg_of X G ha50,
   fn_1e:=zx (st:=s_1e) hl50 hc50 hk50,
   b_1e:=(zx (st:=s_1e) hl50 hc50 hk50).binds λ_ _ _ _ _ _=>qa λ_=>rfl,
   mg_Z0p:=mg_of X G g_Z0p,
   cl_Z0p:=⟨by rw[gc_Z0p];rfl,gt_Z0p,gm_Z0p⟩,
   mg_Z0i:=mg_of X G g_Z0i,
   cl_Z0i:=⟨by rw[gc_Z0i];rfl,gt_Z0i,gm_Z0i⟩,
   mg_Z0k:=mg_of X G g_Z0k,
   cl_Z0k:=⟨by rw[gc_Z0k];rfl,gt_Z0k,gm_Z0k⟩,
   mg_Z0h:=mg_of X G g_Z0h,
   cl_Z0h:=⟨by rw[gc_Z0h];rfl,gt_Z0h,gm_Z0h⟩,
   mg_Z0m:=mg_of X G g_Z0m,
   cl_Z0m:=⟨by rw[gc_Z0m];rfl,gt_Z0m,gm_Z0m⟩,
   mg_Z0q:=mg_of X G g_Z0q,
   cl_Z0q:=⟨by rw[gc_Z0q];rfl,gt_Z0q,gm_Z0q⟩,
   mg_Z0g:=mg_of X G g_Z0g,
   cl_Z0g:=⟨by rw[gc_Z0g];rfl,gt_Z0g,gm_Z0g⟩,
   mg_Z0n:=mg_of X G g_Z0n,
   cl_Z0n:=⟨by rw[gc_Z0n];rfl,gt_Z0n,gm_Z0n⟩,
   mg_Z0l:=mg_of X G g_Z0l,
   cl_Z0l:=⟨by rw[gc_Z0l];rfl,gt_Z0l,gm_Z0l⟩,
   mg_Z0j:=mg_of X G g_Z0j,
   cl_Z0j:=⟨by rw[gc_Z0j];rfl,gt_Z0j,gm_Z0j⟩,
   ex_Z0g:=⟨_,_,_,PySem.F.excBase_ValueError,gx_Z0g⟩,
   ex_Z0i:=⟨_,_,_,PySem.F.excBase_ValueError,gx_Z0i⟩,
   ex_Z0h:=⟨_,_,_,PySem.F.excBase_ValueError,gx_Z0h⟩,
   ex_Z0n:=⟨_,_,_,PySem.F.excBase_ValueError,gx_Z0n⟩,
   k_Z06:=⟨_,mg_of X G k_Z06,⟨tk_Z06,congrArg (Value.str · tk_Z06) (by decide+kernel)⟩⟩,
   k_Z0c:=⟨_,mg_of X G k_Z0c,⟨_,rfl⟩⟩,
   k_Z0f:=⟨_,mg_of X G k_Z0f,⟨_,rfl⟩⟩,
   k_Z08:=⟨_,mg_of X G k_Z08,⟨_,rfl⟩⟩,
   k_Z04:=⟨_,mg_of X G k_Z04,⟨_,rfl⟩⟩,
   k_Z09:=⟨_,mg_of X G k_Z09,⟨_,rfl⟩⟩,
   k_Z0d:=⟨_,mg_of X G k_Z0d,⟨_,rfl⟩⟩,
   k_Z05:=⟨_,mg_of X G k_Z05,⟨_,rfl⟩⟩,
   k_Z03:=⟨_,mg_of X G k_Z03,⟨_,rfl⟩⟩,
   k_Z07:=⟨A_Z07,mg_of X G k_Z07,λH=> .inr ⟨_,its_Z07,n_Z07,kl_Z07,rfl,rfl,kz_Z07,kv_Z07⟩⟩,
   k_Z0o:=⟨_,mg_of X G k_Z0o,⟨_,rfl⟩⟩,
   k_Z02:=⟨_,mg_of X G k_Z02,⟨_,rfl⟩⟩,
   k_Z01:=⟨_,mg_of X G k_Z01,⟨_,rfl⟩⟩,
   k_Z0r:=⟨_,mg_of X G k_Z0r,⟨_,rfl⟩⟩,
   k_Z00:=⟨_,mg_of X G k_Z00,⟨tk_Z00,congrArg (Value.str · tk_Z00) (by decide+kernel)⟩⟩,
   k_Z0a:=⟨_,mg_of X G k_Z0a,⟨_,rfl⟩⟩,
   k_Z0b:=⟨_,mg_of X G k_Z0b,⟨_,rfl⟩⟩,
   k_Z0e:=⟨_,mg_of X G k_Z0e,⟨_,rfl⟩⟩,
   no_isinstance:=mg_none_of X G z_isinstance,
   no_int:=mg_none_of X G z_int,
   no_bool:=mg_none_of X G z_bool,
   no_str:=mg_none_of X G z_str,
   no_len:=mg_none_of X G z_len,
   no_range:=mg_none_of X G z_range,
   no_divmod:=mg_none_of X G z_divmod,
   no_min:=mg_none_of X G z_min,
   no_abs:=mg_none_of X G z_abs,
   no_all:=mg_none_of X G z_all,
   no_zip:=mg_none_of X G z_zip,
   no_any:=mg_none_of X G z_any,
   no_set:=mg_none_of X G z_set,
   no_ValueError:=mg_none_of X G z_ValueError,
   xc_NoText:=⟨by rw[gc_Z0n];rfl,xga_NoText,xgt_NoText,xcl_NoText,xmo_NoText,xmb_NoText⟩,
   xc_NoDate:=⟨by rw[gc_Z0i];rfl,xga_NoDate,xgt_NoDate,xcl_NoDate,xmo_NoDate,xmb_NoDate⟩,
   xc_NoAmount:=⟨by rw[gc_Z0h];rfl,xga_NoAmount,xgt_NoAmount,xcl_NoAmount,xmo_NoAmount,xmb_NoAmount⟩,
   xc_NoAccount:=⟨by rw[gc_Z0g];rfl,xga_NoAccount,xgt_NoAccount,xcl_NoAccount,xmo_NoAccount,xmb_NoAccount⟩,
   m_NoText_SpanError:=m_NoText_SpanError,
   m_NoText_NoDate:=m_NoText_NoDate,
   m_NoText_NoParts:=m_NoText_NoParts,
   m_NoText_NoAmount:=m_NoText_NoAmount,
   m_NoText_NoSpan:=m_NoText_NoSpan,
   m_NoText_TooLong:=m_NoText_TooLong,
   m_NoText_NoAccount:=m_NoText_NoAccount,
   m_NoText_NoText:=m_NoText_NoText,
   m_NoText_NoRow:=m_NoText_NoRow,
   m_NoText_NoEntry:=m_NoText_NoEntry,
   m_NoText_ValueError:=m_NoText_ValueError,
   m_NoDate_SpanError:=m_NoDate_SpanError,
   m_NoDate_NoDate:=m_NoDate_NoDate,
   m_NoDate_NoParts:=m_NoDate_NoParts,
   m_NoDate_NoAmount:=m_NoDate_NoAmount,
   m_NoDate_NoSpan:=m_NoDate_NoSpan,
   m_NoDate_TooLong:=m_NoDate_TooLong,
   m_NoDate_NoAccount:=m_NoDate_NoAccount,
   m_NoDate_NoText:=m_NoDate_NoText,
   m_NoDate_NoRow:=m_NoDate_NoRow,
   m_NoDate_NoEntry:=m_NoDate_NoEntry,
   m_NoDate_ValueError:=m_NoDate_ValueError,
   m_NoAmount_SpanError:=m_NoAmount_SpanError,
   m_NoAmount_NoDate:=m_NoAmount_NoDate,
   m_NoAmount_NoParts:=m_NoAmount_NoParts,
   m_NoAmount_NoAmount:=m_NoAmount_NoAmount,
   m_NoAmount_NoSpan:=m_NoAmount_NoSpan,
   m_NoAmount_TooLong:=m_NoAmount_TooLong,
   m_NoAmount_NoAccount:=m_NoAmount_NoAccount,
   m_NoAmount_NoText:=m_NoAmount_NoText,
   m_NoAmount_NoRow:=m_NoAmount_NoRow,
   m_NoAmount_NoEntry:=m_NoAmount_NoEntry,
   m_NoAmount_ValueError:=m_NoAmount_ValueError,
   m_NoAccount_SpanError:=m_NoAccount_SpanError,
   m_NoAccount_NoDate:=m_NoAccount_NoDate,
   m_NoAccount_NoParts:=m_NoAccount_NoParts,
   m_NoAccount_NoAmount:=m_NoAccount_NoAmount,
   m_NoAccount_NoSpan:=m_NoAccount_NoSpan,
   m_NoAccount_TooLong:=m_NoAccount_TooLong,
   m_NoAccount_NoAccount:=m_NoAccount_NoAccount,
   m_NoAccount_NoText:=m_NoAccount_NoText,
   m_NoAccount_NoRow:=m_NoAccount_NoRow,
   m_NoAccount_NoEntry:=m_NoAccount_NoEntry,
   m_NoAccount_ValueError:=m_NoAccount_ValueError,
   m_NoDate_BaseException:=m_NoDate_BaseException,
   m_NoAmount_BaseException:=m_NoAmount_BaseException,
   m_SpanError_BaseException:=m_SpanError_BaseException}⟩
theorem bind_law{mg:Str->Option Value}{t:Adr}(T:Txt K mg t): ∀(s:Shared) (u:Value),BindsTo s t.d_1e ⟨[u], []⟩ [("_law_script",u)]:=by
 obtain⟨oc,od,kV,doc,pm,an,cdv,ct,osl,e,lk,hcd⟩:=T.fn_1e.ex;intro s u;rw[e];exact .of_eq rfl
theorem walk{l:PySem.W.OpenLaw}{q:Program}{loose:List Str}{XP:(Str->Option Value)->Heap->Prop}{YP:World->Heap->Prop}{d:DefRec}{K:Params->Fg}(hn:l.most=some 63)(hdf:d.params.defaults= [])
  (hY: ∀(w:World) (h:Heap),YP w h->(K w.params).In h)
  (F: ∀(w:World) (mg:Str->Option Value) (fa:Addr) (h:Heap),(K w.params).In h->h.Ns mainGlobals mg->mg d.name=some (.ref fa)->
   ∃fd:FuncData,(∀(s:Shared) (u:Value),BindsTo s fd ⟨[u], []⟩ [("_law_script",u)])/\ ∀base:Heap,(K w.params).In base->base.Ns mainGlobals mg->FnOk l.prog w (K w.params) mg base (CXE l.prog w) 30 fa fd ["_law_script"] (zkt (K w.params))):
  PySem.W.WalkO q loose XP YP l.row.toRowW d [] (λf vs=>PySem.call f vs):=
 L2.walk_of (n:=63) (k:=30) (x:="_law_script") (CX:=λw=>CXE l.prog w) (sp:=λw=>zkt (K w.params)) hn 'd' hdf ⟨rfl,'d','d'⟩ hY F (λ_ _ a ns hl _ hS=>⟨a,ns,rfl,hS,hl,λ_=>rfl⟩) λ_ _ _ _ _ ⟨_,_,_,_,_,z⟩=>z
end K81
namespace PySem.W.Fast
theorem tw17579265588090412437:True:=⟨⟩
theorem tw11510193963209784142:True:=⟨⟩
theorem tw981384010016145719:True:=⟨⟩
theorem tw2235789997310309683:True:=⟨⟩
theorem tw5765464120731308107:True:=⟨⟩
theorem tw5915337406067091171:True:=⟨⟩
theorem tw15110245928407241590:True:=⟨⟩
theorem tw3136424017486885108:True:=⟨⟩
theorem tw12002041286501816430:True:=⟨⟩
theorem tw11992466614582102956:True:=⟨⟩
theorem tw13713963731863424709:True:=⟨⟩
theorem tw950111385728272948:True:=⟨⟩
theorem tw16395717163775015728:True:=⟨⟩
theorem tw2262181840083170078:True:=⟨⟩
theorem tw9830430749985957165:True:=⟨⟩
theorem tw15407688485933301618:True:=⟨⟩
theorem tw14871667925057662324:True:=⟨⟩
theorem tw15830514240487653540:True:=⟨⟩
theorem tw3352161012071712761:True:=⟨⟩
theorem tw3887010080334588834:True:=⟨⟩
theorem tw17813961721036776368:True:=⟨⟩
theorem tw171769404175226720:True:=⟨⟩
theorem tw15983717678825192891:True:=⟨⟩
theorem tw1324317358757704322:True:=⟨⟩
theorem tw12407108137200687411:True:=⟨⟩
theorem tw9039977327492844267:True:=⟨⟩
theorem tw6940514909152209745:True:=⟨⟩
theorem tw13695622281268261746:True:=⟨⟩
theorem tw5733330774655844106:True:=⟨⟩
theorem tw12319259266756356095:True:=⟨⟩
theorem tw12611760327498550856:True:=⟨⟩
theorem tw6131432659759373083:True:=⟨⟩
theorem tw17616095883242408079:True:=⟨⟩
theorem tw11840571067945541846:True:=⟨⟩
theorem tw16481106059840853728:True:=⟨⟩
theorem tw2990239481526271533:True:=⟨⟩
theorem tw13252848172548180518:True:=⟨⟩
theorem tw9583368138233974981:True:=⟨⟩
theorem tw6183398119701722900:True:=⟨⟩
theorem tw4020825239196068688:True:=⟨⟩
theorem tw13224714002337328693:True:=⟨⟩
theorem tw15808113084038981683:True:=⟨⟩
theorem tw893904557267043228:True:=⟨⟩
theorem tw16930191575768516454:True:=⟨⟩
theorem tw8866508335426896399:True:=⟨⟩
theorem tw14713437705931315378:True:=⟨⟩
theorem tw5469437190124279086:True:=⟨⟩
theorem tw275567113167622676:True:=⟨⟩
theorem tw13263299107138147869:True:=⟨⟩
theorem tw7111082271935111978:True:=⟨⟩
theorem tw9772638151995797667:True:=⟨⟩
theorem tw8423358820249258874:True:=⟨⟩
theorem tw5160895893434521243:True:=⟨⟩
theorem tw8546605657728845464:True:=⟨⟩
theorem tw17801993972502496138:True:=⟨⟩
theorem tw6402937820162197258:True:=⟨⟩
theorem tw12220334357209678921:True:=⟨⟩
theorem tw4670793587383048981:True:=⟨⟩
theorem tw12020837905353372827:True:=⟨⟩
theorem tw7245509423811008970:True:=⟨⟩
theorem tw16967749394042293867:True:=⟨⟩
theorem tw14492051158943172999:True:=⟨⟩
theorem tw15190350356966956495:True:=⟨⟩
theorem tw3149944523617913205:True:=⟨⟩
theorem tw2999512789244046388:True:=⟨⟩
theorem tw16801530620469541175:True:=⟨⟩
theorem tw13604536488158534801:True:=⟨⟩
theorem tw10445741293899983055:True:=⟨⟩
theorem tw2304752426819141782:True:=⟨⟩
theorem tw16827453403645346877:True:=⟨⟩
theorem tw6576644032902044107:True:=⟨⟩
theorem tw5869319930888282380:True:=⟨⟩
theorem tw3404864194980007236:True:=⟨⟩
theorem tw1643092469554619666:True:=⟨⟩
theorem tw9697911421126291360:True:=⟨⟩
theorem tw12823497829937271846:True:=⟨⟩
theorem tw16649200072212090028:True:=⟨⟩
theorem tw182795757738464515:True:=⟨⟩
theorem tw16217988408656648045:True:=⟨⟩
theorem tw13652080348756665831:True:=⟨⟩
theorem tw7081267574049463249:True:=⟨⟩
theorem tw8377418127456708411:True:=⟨⟩
theorem tw12215664228871824685:True:=⟨⟩
theorem tw2048167650628923965:True:=⟨⟩
theorem tw3238879712882066676:True:=⟨⟩
theorem tw16179831325123962668:True:=⟨⟩
theorem tw470855985997978396:True:=⟨⟩
theorem tw12659707185764957201:True:=⟨⟩
theorem tw7030525977173532892:True:=⟨⟩
theorem tw12792638338041381280:True:=⟨⟩
theorem tw15611073303627968684:True:=⟨⟩
theorem tw7549516568599336296:True:=⟨⟩
theorem tw8897441142104759961:True:=⟨⟩
theorem tw16893721379290074062:True:=⟨⟩
theorem tw2917277756606074891:True:=⟨⟩
theorem tw16118330014528401600:True:=⟨⟩
theorem tw503833156405851969:True:=⟨⟩
theorem tw3684731115010242198:True:=⟨⟩
theorem tw14445945996284861265:True:=⟨⟩
theorem tw7036861437619135829:True:=⟨⟩
theorem tw11715785877414217640:True:=⟨⟩
theorem tw2541481258773869909:True:=⟨⟩
theorem tw4493060502073284134:True:=⟨⟩
theorem tw164942212397843151:True:=⟨⟩
theorem tw18093509463779782407:True:=⟨⟩
theorem tw12336464901931184412:True:=⟨⟩
theorem tw16390886805268806101:True:=⟨⟩
theorem tw10707421288900440687:True:=⟨⟩
theorem tw391662049793721175:True:=⟨⟩
theorem tw976940876861893788:True:=⟨⟩
theorem tw4339624512524796458:True:=⟨⟩
theorem tw14662632383829015995:True:=⟨⟩
theorem tw9486947492192919522:True:=⟨⟩
theorem tw3777909841868556331:True:=⟨⟩
theorem tw14013005270067244153:True:=⟨⟩
theorem tw6209057557503981658:True:=⟨⟩
theorem tw16033401971022214170:True:=⟨⟩
theorem tw11906899676642371429:True:=⟨⟩
theorem tw7919845366774545198:True:=⟨⟩
theorem tw17532029944171946586:True:=⟨⟩
theorem tw15445746739017112423:True:=⟨⟩
theorem tw8233454490733449814:True:=⟨⟩
theorem tw7668721435145753573:True:=⟨⟩
theorem tw2892035317463285236:True:=⟨⟩
theorem tw3167505582290828135:True:=⟨⟩
theorem tw15807286364387314536:True:=⟨⟩
theorem tw3657020160262798679:True:=⟨⟩
theorem tw1159920135741565950:True:=⟨⟩
theorem tw11618923126730111102:True:=⟨⟩
theorem tw11901110638067109653:True:=⟨⟩
theorem tw7147011102317344007:True:=⟨⟩
theorem tw4490869717348410893:True:=⟨⟩
theorem tw5304661890873328040:True:=⟨⟩
theorem tw15544280638593547627:True:=⟨⟩
theorem tw17602391286877950833:True:=⟨⟩
theorem tw9050662100330272819:True:=⟨⟩
theorem tw15211587807708131939:True:=⟨⟩
theorem tw16837531996764568259:True:=⟨⟩
theorem tw154334817203261429:True:=⟨⟩
theorem tw16077538836498126725:True:=⟨⟩
theorem tw9387260421147273646:True:=⟨⟩
theorem tw3162657860227949731:True:=⟨⟩
theorem tw7557740219022505279:True:=⟨⟩
theorem tw11365044185836530965:True:=⟨⟩
theorem tw6421387092969060591:True:=⟨⟩
theorem tw8432765767704845203:True:=⟨⟩
theorem tw12525246662129581998:True:=⟨⟩
theorem tw10844080885168488632:True:=⟨⟩
theorem tw15412297435921586483:True:=⟨⟩
theorem tw8431942792524413538:True:=⟨⟩
theorem tw4180392953399205827:True:=⟨⟩
theorem tw8201749975414121113:True:=⟨⟩
theorem tw10251169169708477503:True:=⟨⟩
theorem tw3961074524735712643:True:=⟨⟩
theorem tw9796527660149010675:True:=⟨⟩
theorem tw487684251386487485:True:=⟨⟩
theorem tw6169229044511852642:True:=⟨⟩
theorem tw11237275895518744777:True:=⟨⟩
theorem tw9078087189601790705:True:=⟨⟩
theorem tw7416366566715080347:True:=⟨⟩
theorem tw11190642394231947190:True:=⟨⟩
theorem tw15362704920279471838:True:=⟨⟩
theorem tw4472772088595213481:True:=⟨⟩
theorem tw15553754615991975407:True:=⟨⟩
theorem tw9308327572794829643:True:=⟨⟩
theorem tw11962314136562212901:True:=⟨⟩
theorem tw12848455417591809756:True:=⟨⟩
theorem tw3955955024796865680:True:=⟨⟩
theorem tw13725047034566376489:True:=⟨⟩
theorem tw3976959294809614410:True:=⟨⟩
theorem tw3566908211422083450:True:=⟨⟩
set_option maxRecDepth 100000 in
def tw14534981530030505905:PySem.Program:=PySem.Challenge.pw_paidspan_k81_texts_of_no_account
set_option maxRecDepth 100000 in
theorem te14534981530030505905:PySem.Challenge.pw_paidspan_k81_texts_of_no_account=tw14534981530030505905:=rfl
end PySem.W.Fast
open PySem PySem.W PyProof.Rows
set_option maxRecDepth 100000 in
set_option maxHeartbeats 0 in
theorem PySem.Challenge.cw_paidspan_k81_texts_of_no_account_holds : PySem.Challenge.rw_paidspan_k81_texts_of_no_account.Holds := by
 w_on;o_law;k_head;(case hw=>w_witness2)
 k_fill
 refine K81.walk (l:=PySem.Challenge.rw_paidspan_k81_texts_of_no_account) rfl rfl (λw h Y=>PySem.W.kIn_of Y) ?F
 case F=>
  intro w mg fa h KX G hmg
  have T: ∃t,K81.Txt (L2.KOf KX) mg t:=by
   dsimp only[L2.KOf]
   refine' K81.txt_mk KX G ?ha0 ?hl0 ?hc0 ?hk0 ?ha1 ?hl1 ?hc1 ?hk1 ?ha2 ?hl2 ?hc2 ?hk2 ?ha3 ?hl3 ?hc3 ?hk3 ?ha4 ?hl4 ?hc4 ?hk4 ?ha5 ?hl5 ?hc5 ?hk5 ?ha6 ?hl6 ?hc6 ?hk6 ?ha7 ?hl7 ?hc7 ?hk7 ?ha8 ?hl8 ?hc8 ?hk8 ?ha9 ?hl9 ?hc9 ?hk9 ?ha10 ?hl10 ?hc10 ?hk10 ?ha11 ?hl11 ?hc11 ?hk11 ?ha12 ?hl12 ?hc12 ?hk12 ?ha13 ?hl13 ?hc13 ?hk13 ?ha14 ?hl14 ?hc14 ?hk14 ?ha15 ?hl15 ?hc15 ?hk15 ?ha16 ?hl16 ?hc16 ?hk16 ?ha17 ?hl17 ?hc17 ?hk17 ?ht17 ?ha18 ?hl18 ?hc18 ?hk18 ?ha19 ?hl19 ?hc19 ?hk19 ?ht19 ?ha20 ?hl20 ?hc20 ?hk20 ?ha21 ?hl21 ?hc21 ?hk21 ?ha22 ?hl22 ?hc22 ?hk22 ?ha23 ?hl23 ?hc23 ?hk23 ?ha24 ?hl24 ?hc24 ?hk24 ?ha25 ?hl25 ?hc25 ?hk25 ?ha26 ?hl26 ?hc26 ?hk26 ?ha27 ?hl27 ?hc27 ?hk27 ?ha28 ?hl28 ?hc28 ?hk28 ?ha29 ?hl29 ?hc29 ?hk29 ?ha30 ?hl30 ?hc30 ?hk30 ?ha31 ?hl31 ?hc31 ?hk31 ?ha32 ?hl32 ?hc32 ?hk32 ?ha33 ?hl33 ?hc33 ?hk33 ?ha34 ?hl34 ?hc34 ?hk34 ?ha35 ?hl35 ?hc35 ?hk35 ?ha36 ?hl36 ?hc36 ?hk36 ?ha37 ?hl37 ?hc37 ?hk37 ?ha38 ?hl38 ?hc38 ?hk38 ?ha39 ?hl39 ?hc39 ?hk39 ?ha40 ?hl40 ?hc40 ?hk40 ?ha41 ?hl41 ?hc41 ?hk41 ?ha42 ?hl42 ?hc42 ?hk42 ?ha43 ?hl43 ?hc43 ?hk43 ?ha44 ?hl44 ?hc44 ?hk44 ?ha45 ?hl45 ?hc45 ?hk45 ?ha46 ?hl46 ?hc46 ?hk46 ?ha47 ?hl47 ?hc47 ?hk47 ?ha48 ?hl48 ?hc48 ?hk48 ?ha49 ?hl49 ?hc49 ?hk49 ?ha50 ?hl50 ?hc50 ?hk50 ?g_Z0p ?gc_Z0p ?gt_Z0p ?gm_Z0p ?g_Z0i ?gc_Z0i ?gt_Z0i ?gm_Z0i ?g_Z0k ?gc_Z0k ?gt_Z0k ?gm_Z0k ?g_Z0h ?gc_Z0h ?gt_Z0h ?gm_Z0h ?g_Z0m ?gc_Z0m ?gt_Z0m ?gm_Z0m ?g_Z0q ?gc_Z0q ?gt_Z0q ?gm_Z0q ?g_Z0g ?gc_Z0g ?gt_Z0g ?gm_Z0g ?g_Z0n ?gc_Z0n ?gt_Z0n ?gm_Z0n ?g_Z0l ?gc_Z0l ?gt_Z0l ?gm_Z0l ?g_Z0j ?gc_Z0j ?gt_Z0j ?gm_Z0j ?gx_Z0g ?gx_Z0i ?gx_Z0h ?gx_Z0n ?k_Z06 ?k_Z0c ?k_Z0f ?k_Z08 ?k_Z04 ?k_Z09 ?k_Z0d ?k_Z05 ?k_Z03 ?k_Z07 ?kl_Z07 ?kz_Z07 ?kv_Z07 ?k_Z0o ?k_Z02 ?k_Z01 ?k_Z0r ?k_Z00 ?k_Z0a ?k_Z0b ?k_Z0e ?z_isinstance ?z_int ?z_bool ?z_str ?z_len ?z_range ?z_divmod ?z_min ?z_abs ?z_all ?z_zip ?z_any ?z_set ?z_ValueError ?xga_NoText ?xgt_NoText ?xcl_NoText ?xmo_NoText ?xmb_NoText ?xga_NoDate ?xgt_NoDate ?xcl_NoDate ?xmo_NoDate ?xmb_NoDate ?xga_NoAmount ?xgt_NoAmount ?xcl_NoAmount ?xmo_NoAmount ?xmb_NoAmount ?xga_NoAccount ?xgt_NoAccount ?xcl_NoAccount ?xmo_NoAccount ?xmb_NoAccount ?m_NoText_SpanError ?m_NoText_NoDate ?m_NoText_NoParts ?m_NoText_NoAmount ?m_NoText_NoSpan ?m_NoText_TooLong ?m_NoText_NoAccount ?m_NoText_NoText ?m_NoText_NoRow ?m_NoText_NoEntry ?m_NoText_ValueError ?m_NoDate_SpanError ?m_NoDate_NoDate ?m_NoDate_NoParts ?m_NoDate_NoAmount ?m_NoDate_NoSpan ?m_NoDate_TooLong ?m_NoDate_NoAccount ?m_NoDate_NoText ?m_NoDate_NoRow ?m_NoDate_NoEntry ?m_NoDate_ValueError ?m_NoAmount_SpanError ?m_NoAmount_NoDate ?m_NoAmount_NoParts ?m_NoAmount_NoAmount ?m_NoAmount_NoSpan ?m_NoAmount_TooLong ?m_NoAmount_NoAccount ?m_NoAmount_NoText ?m_NoAmount_NoRow ?m_NoAmount_NoEntry ?m_NoAmount_ValueError ?m_NoAccount_SpanError ?m_NoAccount_NoDate ?m_NoAccount_NoParts ?m_NoAccount_NoAmount ?m_NoAccount_NoSpan ?m_NoAccount_TooLong ?m_NoAccount_NoAccount ?m_NoAccount_NoText ?m_NoAccount_NoRow ?m_NoAccount_NoEntry ?m_NoAccount_ValueError ?m_NoDate_BaseException ?m_NoAmount_BaseException ?m_SpanError_BaseException
   (case g_Z0p|g_Z0i|g_Z0k|g_Z0h|g_Z0m|g_Z0q|g_Z0g|g_Z0n=>k_is)
   (case g_Z0l|g_Z0j|ha0|hl0|hc0|hk0|ha1|hl1=>k_is)
   (case hc1|hk1|ha2|hl2|hc2|hk2|ha3|hl3=>k_is)
   (case hc3|hk3|ha4|hl4|hc4|hk4|ha5|hl5=>k_is)
   (case hc5|hk5|ha6|hl6|hc6|hk6|ha7|hl7=>k_is)
   (case hc7|hk7|ha8|hl8|hc8|hk8|ha9|hl9=>k_is)
   (case hc9|hk9|ha10|hl10|hc10|hk10|ha11|hl11=>k_is)
   (case hc11|hk11|ha12|hl12|hc12|hk12|ha13|hl13=>k_is)
   (case hc13|hk13|ha14|hl14|hc14|hk14|ha15|hl15=>k_is)
   (case hc15|hk15|ha16|hl16|hc16|hk16|ha17|hl17=>k_is)
   (case hc17|hk17|ht17|ha18|hl18|hc18|hk18|ha19=>k_is)
   (case hl19|hc19|hk19|ht19|ha20|hl20|hc20|hk20=>k_is)
   (case ha21|hl21|hc21|hk21|ha22|hl22|hc22|hk22=>k_is)
   (case ha23|hl23|hc23|hk23|ha24|hl24|hc24|hk24=>k_is)
   (case ha25|hl25|hc25|hk25|ha26|hl26|hc26|hk26=>k_is)
   (case ha27|hl27|hc27|hk27|ha28|hl28|hc28|hk28=>k_is)
   (case ha29|hl29|hc29|hk29|ha30|hl30|hc30|hk30=>k_is)
   (case ha31|hl31|hc31|hk31|ha32|hl32|hc32|hk32=>k_is)
   (case ha33|hl33|hc33|hk33|ha34|hl34|hc34|hk34=>k_is)
   (case ha35|hl35|hc35|hk35|ha36|hl36|hc36|hk36=>k_is)
   (case ha37|hl37|hc37|hk37|ha38|hl38|hc38|hk38=>k_is)
   (case ha39|hl39|hc39|hk39|ha40|hl40|hc40|hk40=>k_is)
   (case ha41|hl41|hc41|hk41|ha42|hl42|hc42|hk42=>k_is)
   (case ha43|hl43|hc43|hk43|ha44|hl44|hc44|hk44=>k_is)
   (case ha45|hl45|hc45|hk45|ha46|hl46|hc46|hk46=>k_is)
   (case ha47|hl47|hc47|hk47|ha48|hl48|hc48|hk48=>k_is)
   (case ha49|hl49|hc49|hk49|ha50|hl50|hc50|hk50=>k_is)
   (case gc_Z0p|gt_Z0p|gm_Z0p|gc_Z0i|gt_Z0i|gm_Z0i|gc_Z0k|gt_Z0k=>k_is)
   (case gm_Z0k|gc_Z0h|gt_Z0h|gm_Z0h|gc_Z0m|gt_Z0m|gm_Z0m|gc_Z0q=>k_is)
   (case gt_Z0q|gm_Z0q|gc_Z0g|gt_Z0g|gm_Z0g|gc_Z0n|gt_Z0n|gm_Z0n=>k_is)
   (case gc_Z0l|gt_Z0l|gm_Z0l|gc_Z0j|gt_Z0j|gm_Z0j=>k_is)
   (case gx_Z0g=>k_exc)
   (case gx_Z0i=>k_exc)
   (case gx_Z0h=>k_exc)
   (case gx_Z0n=>k_exc)
   (case k_Z06|k_Z0c|k_Z0f|k_Z08|k_Z04|k_Z09|k_Z0d|k_Z05=>k_is)
   (case k_Z03|k_Z07|kl_Z07=>k_is)
   (case kz_Z07=>decide)
   (case kv_Z07=>exact(.cons ⟨_,rfl⟩ (.cons ⟨_,rfl⟩ (.cons ⟨_,rfl⟩ (.cons ⟨_,rfl⟩ (.cons ⟨_,rfl⟩ (.cons ⟨_,rfl⟩ (.cons ⟨_,rfl⟩ (.cons ⟨_,rfl⟩ (.cons ⟨_,rfl⟩ (.cons ⟨_,rfl⟩ (.cons ⟨_,rfl⟩ (.cons ⟨_,rfl⟩ .nil)))))))))))))
   (case k_Z0o|k_Z02|k_Z01|k_Z0r|k_Z00|k_Z0a|k_Z0b|k_Z0e=>k_is)
   (case z_isinstance|z_int|z_bool|z_str|z_len|z_range|z_divmod|z_min=>k_is)
   (case z_abs|z_all|z_zip|z_any|z_set|z_ValueError|xga_NoText|xgt_NoText=>k_is)
   (case xcl_NoText|xmo_NoText|xmb_NoText|xga_NoDate|xgt_NoDate|xcl_NoDate|xmo_NoDate|xmb_NoDate=>k_is)
   (case xga_NoAmount|xgt_NoAmount|xcl_NoAmount|xmo_NoAmount|xmb_NoAmount|xga_NoAccount|xgt_NoAccount|xcl_NoAccount=>k_is)
   (case xmo_NoAccount|xmb_NoAccount|m_NoText_SpanError|m_NoText_NoDate|m_NoText_NoParts|m_NoText_NoAmount|m_NoText_NoSpan|m_NoText_TooLong=>k_is)
   (case m_NoText_NoAccount|m_NoText_NoText|m_NoText_NoRow|m_NoText_NoEntry|m_NoText_ValueError|m_NoDate_SpanError|m_NoDate_NoDate|m_NoDate_NoParts=>k_is)
   (case m_NoDate_NoAmount|m_NoDate_NoSpan|m_NoDate_TooLong|m_NoDate_NoAccount|m_NoDate_NoText|m_NoDate_NoRow|m_NoDate_NoEntry|m_NoDate_ValueError=>k_is)
   (case m_NoAmount_SpanError|m_NoAmount_NoDate|m_NoAmount_NoParts|m_NoAmount_NoAmount|m_NoAmount_NoSpan|m_NoAmount_TooLong|m_NoAmount_NoAccount|m_NoAmount_NoText=>k_is)
   (case m_NoAmount_NoRow|m_NoAmount_NoEntry|m_NoAmount_ValueError|m_NoAccount_SpanError|m_NoAccount_NoDate|m_NoAccount_NoParts|m_NoAccount_NoAmount|m_NoAccount_NoSpan=>k_is)
   (case m_NoAccount_TooLong|m_NoAccount_NoAccount|m_NoAccount_NoText|m_NoAccount_NoRow|m_NoAccount_NoEntry|m_NoAccount_ValueError|m_NoDate_BaseException|m_NoAmount_BaseException=>k_is)
   (case m_SpanError_BaseException=>k_is)
  obtain⟨t,T⟩:=T
  have e0:=hmg.symm.trans T.mg_1e
  cases e0
  refine⟨_,?b,λbase _ _=>(K81.ok_1e T).mono 'd'⟩
  exact K81.bind_law T
