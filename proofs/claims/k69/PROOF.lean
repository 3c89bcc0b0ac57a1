import PyProof.Rows.All
import Wide.All
import OpenK.AllK
import Wide.FinOn
import PyProof.EqAt
import PyProof.EqKinds
import PyProof.TupleCall
import HandS.ForMost
import HandS.Codes
import HandS.Wide
import HandS.Style
import HandS.Flow
import HandS.TupAny
import HandS.IsInst
import HandS.ExcInit
import HandS.SortKw
import HandS.DictComp
import HandS.Exc
import HandS.WordsExc
import HandS.MakeKw
import HandS.ExcIs
import HandS.ExcField
import HandS.ExcValue
import PyProof.ReprRoads
import PySem.Challenge.RW_weighdoors_k69_ways_and_goals_by_other_n
import HandS.More
import HandS.Conv
import HandS.ListItems
import HandS.Iter
import KE.KDictList
import KE.KTupSum
import KE.SortKeyHeap
import HandS.Lambda
import PyProof.TupleOfSeq
import HandS.Keys
import HandS.TryOnly
import HandS.Walk
import PyProof.ReprLen
import HandS.SetFor
import PyProof.SeqRoads2
import KE.GoesZip
import KE.KDictZip
import HandS.Zip
import KE.SortData
import PyProof.FactsAll.dict_1
import PyProof.FactsAll.subtypes_3
import PyProof.FactsAll.subtypes_4
import HandS.Deep
import HandS.Text
import HandS.AnyAll
import HandS.Dict
import PyProof.StrLawsChain
import HandS.Sort
set_option Elab.async false
set_option linter.all false
set_option maxRecDepth 100000
set_option maxHeartbeats 4000000
/-! General rules by values, of which the ones of the hand layer are the cases. -/
namespace Wd
open PySem PySem.Spec PyProof.Rows L2

/-! ### operators whose meaning hangs on the values -/
def rAddG (K : PySem.W.Frag) : R2 := fun x y H Q => match x, y with
  | .int i, .int j => Q (.int (i + j)) H
  | .str a, .str b => a.length + b.length ≤ sizeLine ∧ Q (.str (a ++ b)) H
  | .ref a, .ref b => rCat (.ref a) (.ref b) H Q ∨ rCatA K (.ref a) (.ref b) H Q
  | _, _ => False
theorem op_addG {X : Cx} {K : PySem.W.Frag} (hK : X.K = K := by rfl) : OpR X (binaryOp .Add) (rAddG K) := by
  subst hK
  intro pins s σ H x y v u Q I rx ry h
  cases x <;> cases y <;> first | exact h.elim | skip
  case int.int i j => exact op_add pins s σ H _ _ v u Q I rx ry ⟨i, j, rfl, rfl, h⟩
  case str.str a b => exact op_add_str pins s σ H _ _ v u Q I rx ry ⟨a, b, rfl, rfl, h.1, h.2⟩
  case ref.ref a b =>
    rcases h with h | h
    · exact op_cat pins s σ H _ _ v u Q I rx ry h
    · exact op_catA pins s σ H _ _ v u Q I rx ry h
def rMulG (K : PySem.W.Frag) : R2 := fun x y H Q => match x, y with
  | .int i, .int j => CMul i j ∧ Q (.int (i * j)) H
  | .ref a, .int k => rRep (.ref a) (.int k) H Q
  | _, _ => False
theorem op_mulG {X : Cx} {K : PySem.W.Frag} (hK : X.K = K := by rfl) : OpR X (binaryOp .Mult) (rMulG K) := by
  subst hK
  intro pins s σ H x y v u Q I rx ry h
  cases x <;> cases y <;> first | exact h.elim | skip
  case int.int i j => exact op_mul pins s σ H _ _ v u Q I rx ry ⟨i, j, rfl, rfl, h.1, h.2⟩
  case ref.int a k => exact op_rep pins s σ H _ _ v u Q I rx ry h
def rEqX (K : PySem.W.Frag) : R2 := fun x y H Q => rEq x y H Q ∨ rEqD K x y H Q
def rNeX (K : PySem.W.Frag) : R2 := fun x y H Q => rNe x y H Q ∨ rNeD K x y H Q
theorem op_eqX {X : Cx} {K : PySem.W.Frag} (hu : X.A.units + 64 < cLine) (hK : X.K = K := by rfl) : OpR X (compareOp .Eq) (rEqX K) := by
  subst hK
  exact op_eq.or (op_eqD hu)
theorem op_neX {X : Cx} {K : PySem.W.Frag} (hu : X.A.units + 64 < cLine) (hK : X.K = K := by rfl) : OpR X (compareOp .NotEq) (rNeX K) := by
  subst hK
  exact op_ne.or (op_neD hu)
def rLenG (K : PySem.W.Frag) : List V → Hp → VK → Prop := fun xs H Q => match xs with
  | [.str z] => z.length ≤ sizeLine ∧ Q (.int z.length) H
  | [.ref p] => (∃ ys, (SqL K H p ys ∨ SqT K H p ys) ∧ Q (.int ys.length) H) ∨ ∃ kvs, H p = some (.dK kvs) ∧ Q (.int kvs.length) H
  | _ => False
theorem call_lenG {X : Cx} {K : PySem.W.Frag} (hK : X.K = K := by rfl) : CallR X (.builtin "len") (rLenG K) := by
  subst hK
  intro pins s σ H xs us Q I r h
  match xs, h with
  | [.str z], h => exact call_len_str pins s σ H _ us Q I r ⟨z, rfl, h.1, h.2⟩
  | [.ref p], h =>
    rcases h with ⟨ys, h1, h2⟩ | ⟨kvs, h1, h2⟩
    · exact call_len_seq pins s σ H _ us Q I r ⟨p, ys, rfl, h1, h2⟩
    · exact call_lenD pins s σ H _ us Q I r ⟨p, kvs, rfl, h1, h2⟩
  | [], h => exact h.elim
  | [.non], h => exact h.elim
  | [.bl _], h => exact h.elim
  | [.int _], h => exact h.elim
  | [.byt _], h => exact h.elim
  | [.flt _], h => exact h.elim
  | [.ty _], h => exact h.elim
  | a :: _ :: _, h => cases a <;> exact h.elim
def rSlG (K : PySem.W.Frag) : V → Option Int → Option Int → Hp → VK → Prop := fun x lo hi H Q => rSlL K x lo hi H Q ∨ (rSlA K x lo hi H Q ∨ C8.rSlX x lo hi H Q)
theorem sl_any {X : Cx} {K : PySem.W.Frag} (hK : X.K = K := by rfl) : SlR X (rSlG K) := by
  subst hK
  exact sl_list.or (sl_tupA.or C8.sl_txt)
theorem ixG {X : Cx} {K : PySem.W.Frag} (hK : X.K = K := by rfl) : IxR X (rIx K) := by
  subst hK
  exact ix_seq
theorem pe_andK {X : Cx} {K : PySem.W.Frag} {a b : Expr} {rest : List Expr} {pos : Pos} {ta tb : TE} (ha : PE X a ta) (hb : PE X (.BoolOp .And (b :: rest) pos) tb) (hK : X.K = K := by rfl) : PE X (.BoolOp .And (a :: b :: rest) pos) (tAndT K ta tb) := by
  subst hK
  exact pe_andT ha hb
theorem pe_orK {X : Cx} {K : PySem.W.Frag} {a b : Expr} {rest : List Expr} {pos : Pos} {ta tb : TE} (ha : PE X a ta) (hb : PE X (.BoolOp .Or (b :: rest) pos) tb) (hK : X.K = K := by rfl) : PE X (.BoolOp .Or (a :: b :: rest) pos) (tOrT K ta tb) := by
  subst hK
  exact pe_orT ha hb
theorem pe_notK {X : Cx} {K : PySem.W.Frag} {a : Expr} {pos : Pos} {ta : TE} (ha : PE X a ta) (hK : X.K = K := by rfl) : PE X (.UnaryOp .Not a pos) (tNotT K ta) := by
  subst hK
  exact pe_notT ha
def tTruK (K : PySem.W.Frag) (ta : TE) : TT := fun σ H Q => ta σ H fun x H' => ∃ k, TruV K x H' k ∧ Q k H'
theorem pt_truK {X : Cx} {K : PySem.W.Frag} {a : Expr} {ta : TE} (ha : PE X a ta) (he : ∀ whole, isTrue a X.env whole = (do let v ← whole; standAt a.pos; holding [v] (truthy v))) (hK : X.K = K := by rfl) : PT X a (tTruK K ta) := by
  subst hK
  exact pt_truth ha he
theorem pi_listK {X : Cx} {K : PySem.W.Frag} {tg l : Expr} {tl : TE} (h : PE X l tl) (hK : X.K = K := by rfl) : PI X tg l (iList K tl) := by
  subst hK
  exact pi_list h
theorem pi_tupK {X : Cx} {K : PySem.W.Frag} {tg l : Expr} {tl : TE} (h : PE X l tl) (hK : X.K = K := by rfl) : PI X tg l (iTup K tl) := by
  subst hK
  exact pi_tup h
theorem pg_tupK {X : Cx} {K : PySem.W.Frag} {es : List Expr} {k : _} {pos : Pos} {t : TGs} {n : Nat} (hc : X.calm = true) (h : PGs X es t) (hK : X.K = K := by rfl) (hn : (assignEach es X.env).length = n := by rfl) (hst : (assignEach es X.env).findIdx? (·.1) = none := by rfl) : PG X (.Tuple es k pos) (gTup K n t) := by
  subst hK
  exact pg_tup hc h hn hst
theorem bt_len : bootBuiltins "len" = some (.builtin "len") := by decide +kernel
theorem bt_abs : bootBuiltins "abs" = some (.builtin "abs") := by decide +kernel
theorem bt_list : bootBuiltins "list" = some (.type "list") := by decide +kernel
theorem bt_range : bootBuiltins "range" = some (.type "range") := by decide +kernel
theorem bt_min : bootBuiltins "min" = some (.builtin "min") := by decide +kernel
theorem bt_max : bootBuiltins "max" = some (.builtin "max") := by decide +kernel
theorem bt_repr : bootBuiltins "repr" = some (.builtin "repr") := by decide +kernel
theorem bt_isinstance : bootBuiltins "isinstance" = some (.builtin "isinstance") := by decide +kernel
theorem bt_sum : bootBuiltins "sum" = some (.builtin "sum") := by decide +kernel
theorem bt_sorted : bootBuiltins "sorted" = some (.builtin "sorted") := by decide +kernel
theorem bt_any : bootBuiltins "any" = some (.builtin "any") := by decide +kernel
theorem bt_all : bootBuiltins "all" = some (.builtin "all") := by decide +kernel
theorem bt_tuple : bootBuiltins "tuple" = some (.type "tuple") := by decide +kernel
theorem bt_dict : bootBuiltins "dict" = some (.type "dict") := by decide +kernel
theorem bt_int : bootBuiltins "int" = some (.type "int") := by decide +kernel
theorem bt_str : bootBuiltins "str" = some (.type "str") := by decide +kernel
theorem bt_enumerate : bootBuiltins "enumerate" = some (.type "enumerate") := by decide +kernel
theorem bt_zip : bootBuiltins "zip" = some (.type "zip") := by decide +kernel
theorem bt_reversed : bootBuiltins "reversed" = some (.type "reversed") := by decide +kernel
theorem hu64 {A : Around} {k : Nat} (hr : Room k A) : A.units + 64 < cLine := by
  have := hr.un
  omega
end Wd

set_option Elab.async false
set_option linter.all false
set_option maxRecDepth 100000
set_option maxHeartbeats 4000000
/-! Defs that are run where no guard is known to run (repr asks for that): FnG beside FnOk. -/
namespace Wd
open PySem PySem.Spec PyProof.Rows L2

/-- as FnOk, for an Around without guards -/
structure FnG (P : Program) (w : World) (K : PySem.W.Frag) (mg : Str → Option Value) (base : Heap) (CX : CXT) (k : Nat) (f : Addr) (fd : FuncData) (ps : List Str) (sp : Sp) : Prop where
  len : ∀ xs G R E, sp xs G R E → xs.length = ps.length
  run : ∀ (A : Around) (out : List Env) (z : Shared) (G : Hp) (args : Args) (us : List Value) (xs : List V) (R : VK) (E : XK), A.guards = some [] → Room k A → Env0 P w K mg base A out z G →
    BindsTo z fd args (ps.zip us) → Vals xs us → sp xs G R E → codeAny (model P w) A (.call (.ref f) args) (CR CX out P w G z R E) z
theorem FnG.mono {P : Program} {w : World} {K : PySem.W.Frag} {mg : Str → Option Value} {base : Heap} {CX : CXT} {j k : Nat} {f : Addr} {fd : FuncData} {ps : List Str} {sp : Sp}
    (F : FnG P w K mg base CX j f fd ps sp) (h : j ≤ k) : FnG P w K mg base CX k f fd ps sp :=
  ⟨F.len, fun A out z G args us xs R E hg hr => F.run A out z G args us xs R E hg (hr.mono h)⟩
theorem fng_ok {P : Program} {w : World} {K : PySem.W.Frag} {mg : Str → Option Value} {base : Heap} {CX : CXT} {k : Nat} {f : Addr} {fd : FuncData} {ps : List Str} {sp : Sp}
    (F : FnOk P w K mg base CX k f fd ps sp) : FnG P w K mg base CX k f fd ps sp :=
  ⟨F.len, fun A out z G args us xs R E _ hr => F.run A out z G args us xs R E hr⟩
/-- a def by its body -/
theorem fng_of {CX : CXT} {P : Program} {w : World} {K : PySem.W.Frag} {mg : Str → Option Value} {base : Heap} {k : Nat} {f : Addr} {nm ql : Str} {pa : Arguments} {bd : List Stmt} {sc : Scope} {dV kV doc pm cv ct oc : Value} {an od : Option Addr}
    {sl : Array (Option Value)} {N ps : List Str} {sp : Sp} (lk : K.lookup f = some ⟨oc, od, .func (PySem.W.fnOf nm ql pa bd sc dV kV doc pm an cv ct), sl⟩) (hc : PySem.W.codeIn K cv ql = true) (S : FnScope N ps sc)
    (len : ∀ xs G R E, sp xs G R E → xs.length = ps.length)
    (hb : ∀ (A : Around) (out : List Env) (z : Shared) (G : Hp) (xs : List V) (R : VK) (E : XK), A.guards = some [] → Room k (A.deeper (envOfC ql sc z.heap.objs.size f cv)) → sp xs G R E →
      ∃ t, PSs (cxOf CX P w K mg base N ql sc f cv A out z G E) bd t ∧ t { nx := fun _ G' => R .non G', rt := R } (start N xs) G) :
    FnG P w K mg base CX (k + 1) f (PySem.W.fnOf nm ql pa bd sc dV kV doc pm an cv ct) ps sp := by
  refine ⟨len, fun A out z G args us xs R E hgd hrm en bind rel hsp => ?_⟩
  have hlen := len _ _ _ _ hsp
  have inK : K.In z.heap := en.mod.kin.keeps fun b o e => (en.bs b o e).1
  have nolim : z.heap.NoLimit := en.mod.nolimit.keeps fun b o e => (en.bs b o e).1
  have kinds : ∀ y ∈ ps.zip us, sc.names.lookup y.1 = some .local ∨ (sc.names.lookup y.1 = some .cell ∧ ((cellsFrom (z.heap.objs.size + 1) sc.names []).lookup y.1).isSome = true) := by
    rintro ⟨n, v⟩ hy
    rcases S.par n (List.of_mem_zip hy).1 with q | q
    · exact .inl q
    · exact .inr ⟨q, PySem.W.cellsFrom_some _ _ _ (.inl q)⟩
  refine codeAny_call_function hrm.depth (inK _ _ lk) rfl S.co S.gen rfl (PySem.W.codeRec_of inK hc) (bind _ _ _ _ ?_)
  refine wpAny_newFunctionEnv_cells S.kind kinds fun env ee z1 xx => ?_
  subst ee
  refine ⟨nolim.keeps xx.toInCall.keep, codeAny_func ?_⟩
  obtain ⟨t, ht, hq⟩ := hb A out z G xs R E hgd (hrm.deeper _) hsp
  have J0 : Inv (cxOf CX P w K mg base N ql sc f cv A out z G E) [] (start N xs) G z1 := inv_start S hrm.hd en hlen rel xx
  refine wpAny_mono (ht.run [] z1 (start N xs) G _ J0 hq) (fun fl z2 hs => ?_) fun e z2 hs => hs
  have fin : ∀ {τ : L2.St} {G' : Hp} {v : V} {u : Value}, Inv (cxOf CX P w K mg base N ql sc f cv A out z G E) [] τ G' z2 → RelV v u → R v G' → CE out P w G z R u z2 :=
    fun {τ G' v u} J rv q => ⟨v, G', J.os, J.bare, J.base, J.hok, rv, q⟩
  match fl, hs with
  | .ret u, hs =>
    obtain ⟨v, τ, G', J, rv, q⟩ := hs
    exact fin J rv q
  | .next, hs =>
    obtain ⟨τ, G', J, q⟩ := hs
    exact fin (v := V.non) (u := Value.none) J rfl q
  | .brk, ⟨_, _, _, q⟩ => exact False.elim q
  | .cont, ⟨_, _, _, q⟩ => exact False.elim q

/-- a def that may be called by its name, where no guard runs -/
structure CalG (P : Program) (w : World) (K : PySem.W.Frag) (mg : Str → Option Value) (base : Heap) (k : Nat) (x : Str) (sp : Sp) : Prop where
  ex : ∃ (f : Addr) (fd : FuncData) (ps : List Str), FnG P w K mg base CX0 k f fd ps sp ∧ mg x = some (.ref f) ∧ PySem.W.keepIn K (.ref f) = true ∧ Binds K fd ps []
theorem C8cal_g {P : Program} {w : World} {K : PySem.W.Frag} {mg : Str → Option Value} {base : Heap} {k : Nat} {f : Addr} {fd : FuncData} {ps : List Str} {x : Str} {sp : Sp}
    (F : FnOk P w K mg base CX0 k f fd ps sp) (hm : mg x = some (.ref f)) (kp : PySem.W.keepIn K (.ref f) = true) (b : Binds K fd ps []) : CalG P w K mg base k x sp := ⟨f, fd, ps, fng_ok F, hm, kp, b⟩
section
variable {P : Program} {w : World} {K : PySem.W.Frag} {mg : Str → Option Value} {base : Heap}
theorem fng {x : Str} {st : Stmt} {f : Addr} {fd : FuncData} {N ps : List Str} {k : Nat} {sp : Sp} (F : C8.Def K mg x st f fd) (S : FnScope N ps (C8.fnScope st)) (len : ∀ xs G R E, sp xs G R E → xs.length = ps.length)
    (hb : ∀ (cv : Value) (A : Around) (out : List Env) (z : Shared) (G : Hp) (xs : List V) (R : VK) (E : XK), (A.deeper (envOfC x (C8.fnScope st) z.heap.objs.size f cv)).guards = some [] → Room k (A.deeper (envOfC x (C8.fnScope st) z.heap.objs.size f cv)) → sp xs G R E →
      ∃ t, PSs (cxOf CX0 P w K mg base N x (C8.fnScope st) f cv A out z G E).nox (C8.fnBody st) t ∧ t { nx := fun _ G' => R .non G', rt := R } (start N xs) G) : FnG P w K mg base CX0 (k + 1) f fd ps sp := by
  obtain ⟨oc, od, dV, kV, doc, pm, an, cv, ct, sl, rfl, lk, hc⟩ := F.fn.ex
  refine fng_of lk hc S len fun A out z G xs R E hg hr hsp => ?_
  obtain ⟨t, h, q⟩ := hb cv A out z G xs R E hg hr hsp
  exact ⟨t, h.nox, q⟩
theorem calg {x : Str} {st : Stmt} {f : Addr} {fd : FuncData} {N ps : List Str} {k : Nat} {sp : Sp} (F : C8.Def K mg x st f fd) (b : Binds K fd ps []) (S : FnScope N ps (C8.fnScope st)) (len : ∀ xs G R E, sp xs G R E → xs.length = ps.length)
    (hb : ∀ (cv : Value) (A : Around) (out : List Env) (z : Shared) (G : Hp) (xs : List V) (R : VK) (E : XK), (A.deeper (envOfC x (C8.fnScope st) z.heap.objs.size f cv)).guards = some [] → Room k (A.deeper (envOfC x (C8.fnScope st) z.heap.objs.size f cv)) → sp xs G R E →
      ∃ t, PSs (cxOf CX0 P w K mg base N x (C8.fnScope st) f cv A out z G E).nox (C8.fnBody st) t ∧ t { nx := fun _ G' => R .non G', rt := R } (start N xs) G) : CalG P w K mg base (k + 1) x sp := by
  refine ⟨f, fd, ps, ?_, F.mgf, F.kp, b⟩
  obtain ⟨oc, od, dV, kV, doc, pm, an, cv, ct, sl, rfl, lk, hc⟩ := F.fn.ex
  refine fng_of lk hc S len fun A out z G xs R E hg hr hsp => ?_
  obtain ⟨t, h, q⟩ := hb cv A out z G xs R E hg hr hsp
  exact ⟨t, h.nox, q⟩
end
section
variable {X : Cx} {k j : Nat} {f : Addr} {fd : FuncData} {ps : List Str} {x : Str} {sp : Sp} {CX : CXT} {E : XK} {p pos : Pos} {e : Expr} {es : List Expr} {t : TA}
theorem run_fng {pins : List (Addr × Obj)} {σ : L2.St} {H : Hp} {s : Shared} {R : VK} {us : List Value} {xs : List V} (F : FnG X.prog X.w X.K X.mg X.base CX k f fd ps sp) (hgd : X.A.guards = some []) (hr : Room k X.A) (b : Binds X.K fd ps [])
    (hx : Passes CX X E) (I : Inv X pins σ H s) (r : Vals xs us) (h : sp xs H R E) : wpAny (model X.prog X.w) X.A (call (.ref f) us) (EP X pins σ R) X.xe s := by
  have hl : us.length = ps.length := by rw [← r.length]; exact F.len _ _ _ _ h
  have bb := b s us I.kIn (by rw [List.append_nil]; exact hl)
  rw [List.append_nil] at bb
  refine wpAny_call (codeAny_mono (F.run X.A X.stack s H ⟨us, []⟩ us xs R E hgd hr I.env0 bb r h) fun rr z hq => ?_)
  match rr, hq with
  | .error e, hq => exact hx pins σ H s e z I hq
  | .ok (.ret u), hq => exact I.after hq
  | .ok .next, hq => exact False.elim hq
  | .ok .brk, hq => exact False.elim hq
  | .ok .cont, hq => exact False.elim hq
theorem pe_g (c : CalG X.prog X.w X.K X.mg X.base k x sp) (hgd : X.A.guards = some []) (hr : Room j X.A) (hk : k ≤ j) (hg : Gl X x) (ha : PA X (e :: es) t) (hdb : (x == ("__debug__" : Str)) = false := by decide)
    (he : starEach (e :: es) X.env = (false, eval e X.env) :: starEach es X.env := by rfl) (hpl : (backTo pos (starEach es X.env)).any (·.1) = false := by rfl) :
    PE X (.Call (.Name x p) (e :: es) [] pos) (tCall sp [] E0 t) := by
  obtain ⟨f, fd, ps, F, hm, kp, b⟩ := c.ex
  refine ⟨fun pins s σ H Q I h => ?_⟩
  refine wpAny_Call_Name_kw (ld_glob I hg hm ?_ hdb)
  refine PySem.W.callWith_K (h₀ := X.base) I.ok.mod.kin kp (thn (ha.run pos pins s σ H _ I h) fun us s1 ⟨xs, H1, I1, r, q⟩ => ⟨I1.kIn, ?_⟩) he hpl
  refine run_fng F hgd (hr.mono hk) b pass0 I1 r ?_
  rw [← List.append_nil xs]
  exact q
theorem pe_c0 {dvs : List V} (c : C8.Cal X.prog X.w X.K X.mg X.base k x sp dvs) (hr : Room j X.A) (hk : k ≤ j) (hg : Gl X x) (hdb : (x == ("__debug__" : Str)) = false := by decide) : PE X (.Call (.Name x p) [] [] pos) (tCall sp dvs E0 tNil) := by
  obtain ⟨f, fd, ps, ds, F, hm, kp, b, d⟩ := c.ex
  exact pe_call0 F (hr.mono hk) hg hm kp b d pass0 hdb
end
end Wd

set_option Elab.async false
set_option linter.all false
set_option maxRecDepth 100000
set_option maxHeartbeats 4000000
/-! Exceptions of own classes, straight under one of Python's own, whose __init__ stores fields: made as values that are tracked. -/
namespace PySem
namespace WX
open PySem.W PySem.Calls PyProof.Rows PySem.HandSPX
/-- the classes of Python's own above an own error class -/
structure Tail (B newId initId : String) (bmB T : List Value) : Prop where
  F : ExcBaseFacts B newId initId bmB
  hB : T.contains (.type B) = true
  hA : T.contains (.type "AttributeError") = false
  hN : T.contains (.type "NameError") = false
  hO : T.contains (.type "object") = true
  ne : T.isEmpty = false
  pass : ∀ self, refuseLoop self "__setattr__" T = pure ()
def tlV : List Value := [.type "ValueError", .type "Exception", .type "BaseException", .type "object"]
def tlK : List Value := [.type "KeyError", .type "LookupError", .type "Exception", .type "BaseException", .type "object"]
def tlI : List Value := [.type "IndexError", .type "LookupError", .type "Exception", .type "BaseException", .type "object"]
def tlL : List Value := [.type "LookupError", .type "Exception", .type "BaseException", .type "object"]
def tlA : List Value := [.type "ArithmeticError", .type "Exception", .type "BaseException", .type "object"]
def tlO : List Value := [.type "OverflowError", .type "ArithmeticError", .type "Exception", .type "BaseException", .type "object"]
def tlR : List Value := [.type "RuntimeError", .type "Exception", .type "BaseException", .type "object"]
theorem tail_V : Tail "ValueError" "ValueError.__new__" "ValueError.__init__" tlV tlV := ⟨F.excBase_ValueError, by decide +kernel, by decide +kernel, by decide +kernel, by decide +kernel, rfl, fun self => by kernel_rfl⟩
theorem tail_K : Tail "LookupError" "LookupError.__new__" "LookupError.__init__" tlL tlK := ⟨F.excBase_LookupError, by decide +kernel, by decide +kernel, by decide +kernel, by decide +kernel, rfl, fun self => by kernel_rfl⟩
theorem tail_I : Tail "IndexError" "IndexError.__new__" "IndexError.__init__" tlI tlI := ⟨F.excBase_IndexError, by decide +kernel, by decide +kernel, by decide +kernel, by decide +kernel, rfl, fun self => by kernel_rfl⟩
theorem tail_L : Tail "LookupError" "LookupError.__new__" "LookupError.__init__" tlL tlL := ⟨F.excBase_LookupError, by decide +kernel, by decide +kernel, by decide +kernel, by decide +kernel, rfl, fun self => by kernel_rfl⟩
theorem tail_A : Tail "ArithmeticError" "ArithmeticError.__new__" "ArithmeticError.__init__" tlA tlA := ⟨F.excBase_ArithmeticError, by decide +kernel, by decide +kernel, by decide +kernel, by decide +kernel, rfl, fun self => by kernel_rfl⟩
theorem tail_O : Tail "OverflowError" "OverflowError.__new__" "OverflowError.__init__" tlO tlO := ⟨F.excBase_OverflowError, by decide +kernel, by decide +kernel, by decide +kernel, by decide +kernel, rfl, fun self => by kernel_rfl⟩
theorem tail_R : Tail "RuntimeError" "RuntimeError.__new__" "RuntimeError.__init__" tlR tlR := ⟨F.excBase_RuntimeError, by decide +kernel, by decide +kernel, by decide +kernel, by decide +kernel, rfl, fun self => by kernel_rfl⟩
section
variable {prog : Program} {w : World} {M : Model} {A : Around} {E : Value → Shared → Prop} {R : Result → Shared → Prop} {h : Heap} {g : Array GenState} {d : Drawn} {t : Nat} {os : OsState}
variable {nm q : Str} {C N : Addr} {bs T bmB : List Value} {sn : List Str} {sub : List Value} {ab : Bool} {col : Option Bool} {dd : Option Addr} {k0 k1 k2 k3 k5 : Option Value} {B newId initId : String}
theorem xc_check (Z : Tail B newId initId bmB T) {more : List Value} {kw : List (Str × Value)} {Q : Unit → Shared → Prop} (cC : h.get? C = some (excClassObj nm q C N bs T true sn sub ab col dd k0 k1 k2 k3 k5 newId))
    (fin : Q () ⟨h, g, d, t, os⟩) : wpAny M A (checkBuiltinCall newId ⟨.ref C :: more, kw⟩) Q E ⟨h, g, d, t, os⟩ := by
  have inB : (Value.ref C :: T).contains (.type B) = true := by rw [List.contains_cons, Z.hB, Bool.or_true]
  have star := Z.F.noStar
  simp only [checkBuiltinCall, Z.F.newKind, Z.F.newSplit, Z.F.newRow]
  repeat (first | refine wpAny_loadPart_at cC ?_ | (refine wpAny_isSubtype_exc cC ?_; rw [inB]) | refine wpAny_staticBase_exc cC ?_ | refine wpAny_madeBy_exc cC ?_ | simp only [bne_self_eq_false, Bool.false_eq_true, if_false] | wp_step)
  exact fin
theorem xc_new (Z : Tail B newId initId bmB T) {more : List Value} {kw : List (Str × Value)} (cC : h.get? C = some (excClassObj nm q C N bs T true sn sub ab col dd k0 k1 k2 k3 k5 newId)) (hz : more.length ≤ sizeLine)
    (fin : R (.ok (.ret (.ref (h.objs.size + 1)))) ⟨(h.push { cls := .type "tuple", data := .seq more.toArray }).push { cls := .ref C, data := .fields #[.ref h.objs.size, .none, .none, .none, .bool false, .none] }, g, d, t, os⟩) :
    codeAny (model prog w) A (.builtin newId ⟨.ref C :: more, kw⟩) R ⟨h, g, d, t, os⟩ := by
  have ends := Z.F.ends
  have inB : (Value.ref C :: T).contains (.type B) = true := by rw [List.contains_cons, Z.hB, Bool.or_true]
  have noA : (Value.ref C :: T).contains (.type "AttributeError") = false := by rw [List.contains_cons, Z.hA]; rfl
  have noN : (Value.ref C :: T).contains (.type "NameError") = false := by rw [List.contains_cons, Z.hN]; rfl
  refine codeAny_builtinAt Z.F.entry ?_
  unfold Builtin.«BaseException.__new__»
  refine wpAt_bind ?_
  show wpAt _ _ _ (stack >>= _) _ _ _
  refine wpAt_bind (wpAt_stack fun p below => wpAt_of_wpAny ?_)
  wp_walk
  refine wpAt_of_wpAny ?_
  rw [Z.F.owner]
  repeat (first | with_reducible refine wpAny_madeHere_exc Z.F.canon cC ?_ | with_reducible refine wpAny_loadPart_at cC ?_ | (with_reducible refine wpAny_isSubtype_exc cC ?_; first | rw [inB] | rw [noA] | rw [noN]) | wp_step)
  show R _ _
  rw [Heap.size_push]
  exact fin
theorem xc_type_call (Z : Tail B newId initId bmB T) {more : List Value} {kw : List (Str × Value)} {fI : Addr} {Q : Fin → Shared → Prop} (cC : h.get? C = some (excClassObj nm q C N bs T true sn sub ab col dd k0 k1 k2 k3 k5 newId))
    (li : W.Looks (model prog w) h (typeLookup (.ref C) "__init__") (some (.ref fI))) (lb : ∀ self, W.Looks (model prog w) h (bindSpecial (.ref fI) self) (.ref fI, [self])) (hz : more.length ≤ sizeLine)
    (run : codeAny (model prog w) A (.call (.ref fI) ⟨.ref (h.objs.size + 1) :: more, kw⟩)
      (fun r s' => match r with | .ok (.ret v) => v = .none ∧ Q (.done (.ret (.ref (h.objs.size + 1)))) s' | .ok _ => False | .error e => E e s') ⟨(h.push (W.kdv_tup more)).push (excO C h.objs.size), g, d, t, os⟩) :
    wpAny (model prog w) A (Builtin.«type.__call__» ⟨.ref C :: more, kw⟩) Q E ⟨h, g, d, t, os⟩ := by
  repeat (first | with_reducible refine wpAny_loadPart_at cC ?_ | with_reducible refine wpAny_madeBy_exc cC ?_ | wp_step)
  refine codeAny_call_builtin_code (Code.quiet_builtin _ Z.F.quiet) (xc_check Z cC ?_)
  refine xc_new Z cC hz ?_
  show wpAny _ _ _ _ _ _
  have kk : ∀ b o, h.get? b = some o → ((h.push (W.kdv_tup more)).push (excO C h.objs.size)).get? b = some o := fun b o e => Heap.get?_push_of_some _ (Heap.get?_push_of_some _ e)
  have cC2 := kk _ _ cC
  have at1 : ((h.push (W.kdv_tup more)).push (excO C h.objs.size)).get? (h.objs.size + 1) = some (excO C h.objs.size) := by heap_get
  have self : (Value.ref C :: T).contains (.ref C) = true := by simp
  have l1 := li.keeps kk
  have l2 := (lb (.ref (h.objs.size + 1))).keeps kk
  unfold isInstance
  repeat (first | with_reducible refine wpAny_loadPart_at at1 ?_ | (with_reducible refine wpAny_isSubtype_exc cC2 ?_; rw [self]) | wp_step)
  show wpAny _ _ (typeLookup (.ref C) _) _ _ _
  refine l1.at ?_
  refine wpAny_holding (wpAny_bind (l2.at ?_))
  refine wpAny_bind (wpAny_call (codeAny_mono run fun r s' zz => ?_))
  rcases r with e | (v | _ | _ | _) <;> first | exact zz | exact zz.elim | skip
  obtain ⟨rfl, zz⟩ := zz
  first
    | exact wpAny_pure (wpAny_pure zz)
    | (wp_walk; exact zz)
theorem xc_call (Z : Tail B newId initId bmB T) {more : List Value} {kw : List (Str × Value)} {fI : Addr} (cC : h.get? C = some (excClassObj nm q C N bs T true sn sub ab col dd k0 k1 k2 k3 k5 newId))
    (li : W.Looks (model prog w) h (typeLookup (.ref C) "__init__") (some (.ref fI))) (lb : ∀ self, W.Looks (model prog w) h (bindSpecial (.ref fI) self) (.ref fI, [self])) (hz : more.length ≤ sizeLine)
    (run : codeAny (model prog w) (A.under (.builtin "type.__call__" ⟨.ref C :: more, kw⟩)) (.call (.ref fI) ⟨.ref (h.objs.size + 1) :: more, kw⟩) (W.InitBack (h.objs.size + 1) R)
      ⟨(h.push (W.kdv_tup more)).push (excO C h.objs.size), g, d, t, os⟩) :
    codeAny (model prog w) A (.call (.ref C) ⟨more, kw⟩) R ⟨h, g, d, t, os⟩ := by
  have e1 := tc_lookup
  have e2 := tc_bind (.ref C)
  have isTy : (⟨h, g, d, t, os⟩ : Shared).TypeIs (.ref C) "type" := ⟨_, cC, rfl⟩
  refine codeAny_of_tree ?_
  show wpAny _ _ (callAny (.ref C) _) _ _ _
  repeat (any_goals (first | assumption | with_reducible refine wpAny_loadPart_at cC ?_ | wp_step))
  refine ⟨rfl, ?_⟩
  refine codeAny_call_builtin_at (Code.quiet_builtin _ (by decide +kernel)) entry_typeCall (wpAny_check_type_call_sub cC (xc_type_call Z cC li lb hz ?_))
  refine codeAny_mono run fun r s' zz => ?_
  rcases r with e | (v | _ | _ | _) <;> exact zz
end
section
open Builtin Builtin.ObjectAttr
variable {prog : Program} {w : World} {A : Around} {R : Result → Shared → Prop} {hp : Heap} {g : Array GenState} {d : Drawn} {t : Nat} {os : OsState} {B newId initId : String} {bmB T : List Value}
/-- self.name = v, the first field -/
theorem xc_store1 (Z : Tail B newId initId bmB T) {K : W.Frag} {name nm qn : Str} {tk : Tok} {v : Value} {x C N : Addr} {fv : Array Value} {bs sb : List Value} {sn : List Str} {ab : Bool} {col : Option Bool} {del : Bool}
    (inK : K.In hp) (ox : hp.get? x = some { cls := .ref C, data := .fields fv })
    (cd : W.clsIn K C = some { name := nm, bases := bs, mro := .ref C :: T, ns := N, qualname := qn, hasDict := true, slotNames := sn, subclasses := sb, abstract := ab, collection := col, hasDel := del }) (off : W.findIn K (.ref C) name = some none)
    (fin : ∀ h' tk' dx, (∀ b o, b ≠ x → hp.get? b = some o → h'.get? b = some o) → hp.objs.size ≤ dx → dx ≠ x → h'.get? x = some { cls := .ref C, dict := some dx, data := .fields fv } →
      h'.Ns1 dx (fun y => if y = name then some v else none) → R (.ok (.ret .none)) ⟨h', g, d, tk', os⟩) :
    codeAny (model prog w) A (.call (.builtin "object.__setattr__") ⟨[.ref x, .str name tk, v], []⟩) R ⟨hp, g, d, t, os⟩ := by
  have at0 : W.InstAt hp x { cls := .ref C, data := .fields fv } C none := ⟨ox, rfl, rfl, trivial⟩
  have SF := F.store_object
  have hob : (Value.ref C :: T).contains (.type "object") = true := by rw [List.contains_cons, Z.hO, Bool.or_true]
  have ne : x ≠ hp.objs.size := Nat.ne_of_lt (Heap.lt_size ox)
  have isObj : W.Looks (model prog w) hp (isInstance (.ref x) (.type "object")) true := at0.type.andThen (W.looks_mroIn inK (by unfold W.mroIn; rw [cd, Option.bind_some, if_neg (by simp), hob]))
  refine codeAny_call_builtin SF.slot.plain SF.entry (@W.check_slot (model prog w) _ _ ⟨hp, g, d, t, os⟩ "object.__setattr__" "object" "__setattr__" (.ref x) [.str name tk, v] [] _ SF.kind SF.split isObj (SF.args (.ref x) (.str name tk) v) ?_)
  have l1 : W.Looks (model prog w) hp (mroOf (.ref C)) (.ref C :: T) := (W.looks_clsIn inK cd).andThen .now
  have l2 : W.Looks (model prog w) hp (storeTaker? none) none := .now
  have l3 := W.looks_clsIn (M := model prog w) inK cd
  rw [W.osa_eq, refuse_eq]
  refine wpAny_bind (wpAny_bind (at0.type.at (wpAny_bind (l1.at ?_))))
  rw [refuseLoop_ref, Z.pass]
  refine wpAny_pure (wpAny_bind (at0.type.at (wpAny_bind ((W.looks_findIn inK off).at (wpAny_bind (l2.at ?_))))))
  show wpAny _ _ (storeInOwnDict (.ref x) (.ref C) (.str name tk) name v false) _ _ _
  unfold storeInOwnDict ownDictForStores
  repeat (first | with_reducible refine store_in_new ?_ ?_ | with_reducible refine wpAny_loadPart_at ox ?_ | with_reducible refine l3.at ?_ | wp_step)
  · exact ⟨_, #[], _, (Heap.get?_update_ne _ _ _ _ ne.symm).trans (Heap.get?_push_at rfl rfl), rfl, fun e he => absurd he (by simp), fun _ => rfl⟩
  · intro h' tk' hn' same
    have ox2 : (hp.push { cls := .type "dict", data := .dict #[] }).get? x = some { cls := .ref C, data := .fields fv } := Heap.get?_push_of_some _ ox
    refine fin h' tk' hp.objs.size (fun b o hb ho => ?_) (Nat.le_refl _) ne.symm ?_ hn'
    · exact (same.2 b (Nat.ne_of_lt (Heap.lt_size ho))).trans ((Heap.get?_update_ne _ _ _ _ hb).trans (Heap.get?_push_of_some _ ho))
    · exact (same.2 x ne).trans (Heap.get?_update_self _ ox2 rfl)
/-- a further field -/
theorem xc_store2 (Z : Tail B newId initId bmB T) {K : W.Frag} {name nm qn : Str} {tk : Tok} {v : Value} {x C N dx : Addr} {fv : Array Value} {bs sb : List Value} {sn nl : List Str} {ab : Bool} {col : Option Bool} {del : Bool} {m0 : Str → Option Value}
    (inK : K.In hp) (ox : hp.get? x = some { cls := .ref C, dict := some dx, data := .fields fv }) (hns : hp.Ns1 dx m0) (hw : Within m0 nl) (hz : nl.length ≤ 1000)
    (cd : W.clsIn K C = some { name := nm, bases := bs, mro := .ref C :: T, ns := N, qualname := qn, hasDict := true, slotNames := sn, subclasses := sb, abstract := ab, collection := col, hasDel := del }) (off : W.findIn K (.ref C) name = some none)
    (fin : ∀ h' tk', (∀ b o, b ≠ dx → hp.get? b = some o → h'.get? b = some o) → h'.Ns1 dx (fun y => if y = name then some v else m0 y) → R (.ok (.ret .none)) ⟨h', g, d, tk', os⟩) :
    codeAny (model prog w) A (.call (.builtin "object.__setattr__") ⟨[.ref x, .str name tk, v], []⟩) R ⟨hp, g, d, t, os⟩ := by
  obtain ⟨oD, esD, epD, hoD, hdD, _⟩ := hns.count hw
  have at0 : W.InstAt hp x { cls := .ref C, dict := some dx, data := .fields fv } C (some oD) := ⟨ox, rfl, rfl, hoD⟩
  have SF := F.store_object
  have hob : (Value.ref C :: T).contains (.type "object") = true := by rw [List.contains_cons, Z.hO, Bool.or_true]
  have isObj : W.Looks (model prog w) hp (isInstance (.ref x) (.type "object")) true := at0.type.andThen (W.looks_mroIn inK (by unfold W.mroIn; rw [cd, Option.bind_some, if_neg (by simp), hob]))
  refine codeAny_call_builtin SF.slot.plain SF.entry (@W.check_slot (model prog w) _ _ ⟨hp, g, d, t, os⟩ "object.__setattr__" "object" "__setattr__" (.ref x) [.str name tk, v] [] _ SF.kind SF.split isObj (SF.args (.ref x) (.str name tk) v) ?_)
  have l1 : W.Looks (model prog w) hp (mroOf (.ref C)) (.ref C :: T) := (W.looks_clsIn inK cd).andThen .now
  have l2 : W.Looks (model prog w) hp (storeTaker? none) none := .now
  have l3 := W.looks_clsIn (M := model prog w) inK cd
  rw [W.osa_eq, refuse_eq]
  refine wpAny_bind (wpAny_bind (at0.type.at (wpAny_bind (l1.at ?_))))
  rw [refuseLoop_ref, Z.pass]
  refine wpAny_pure (wpAny_bind (at0.type.at (wpAny_bind ((W.looks_findIn inK off).at (wpAny_bind (l2.at ?_))))))
  show wpAny _ _ (storeInOwnDict (.ref x) (.ref C) (.str name tk) name v false) _ _ _
  unfold storeInOwnDict ownDictForStores
  repeat (first | with_reducible refine OEX.store_in_old hns hw hz ?_ | with_reducible refine wpAny_loadPart_at ox ?_ | with_reducible refine l3.at ?_ | wp_step)
  intro h' tk' hn' same
  exact fin h' tk' (fun b o hb ho => (same.2 b hb).trans ho) hn'
end
end WX
end PySem

namespace Wd
open PySem PySem.Spec PyProof.Rows L2
/-- what the written part says of an own error class at C (fields' names never found on the class) -/
structure Xc (K : PySem.W.Frag) (C : Addr) (B newId initId : String) (bmB T : List Value) : Prop where
  Z : PySem.WX.Tail B newId initId bmB T
  cls : ∃ nm q N bs sn sub ab col dd k0 k1 k2 k3 k5, K.lookup C = some (excClassObj nm q C N bs T true sn sub ab col dd k0 k1 k2 k3 k5 newId)
  sa : PySem.W.findIn K (.ref C) "__setattr__" = some (some (.builtin "object.__setattr__"))
  ga : PySem.W.findIn K (.ref C) "__getattribute__" = some (some (.builtin "BaseException.__getattribute__"))
  gg : PySem.W.findIn K (.ref C) "__getattr__" = some none
  exC : PySem.W.subIn K (.ref C) (.type "BaseException") = some true
  tyC : PySem.W.typeIn K (.ref C) = some (.type "type")
  kC : PySem.W.keepIn K (.ref C) = true
theorem Xc.cd {K : PySem.W.Frag} {C : Addr} {B newId initId : String} {bmB T : List Value} (c : Xc K C B newId initId bmB T) :
    ∃ nm bs N q sn sub ab col, PySem.W.clsIn K C = some { name := nm, bases := bs, mro := .ref C :: T, ns := N, qualname := q, hasDict := true, slotNames := sn, subclasses := sub, abstract := ab, collection := col, hasDel := false } := by
  obtain ⟨nm, q, N, bs, sn, sub, ab, col, dd, k0, k1, k2, k3, k5, hC⟩ := c.cls
  exact ⟨nm, bs, N, q, sn, sub, ab, col, by unfold PySem.W.clsIn; rw [hC] <;> rfl⟩
section
variable {X : Cx} {pins : List (Addr × Obj)} {σ : L2.St} {H : Hp} {s : Shared} {a C dx : Addr} {f : Str} {y : V} {u : Value} {fs : List (Str × V)} {Q : Unit → Shared → Prop} {E : Value → Shared → Prop} {A : Around} {B newId initId : String} {bmB T : List Value}
theorem xst_new (c : Xc X.K C B newId initId bmB T) (I : Inv X pins σ H s) (e : H a = some (exo a C none)) (off : PySem.W.findIn X.K (.ref C) f = some none) (ry : RelV y u)
    (k : ∀ dx s', H dx = none → dx ≠ a → Inv X pins σ (upd (upd H dx (exd dx [(f, y)])) a (exo a C (some dx))) s' → Q () s') : wpAny (model X.prog X.w) A (setAttr (.ref a) f u) Q E s := by
  obtain ⟨nm, bs, N, q, sn, sub, ab, col, cd⟩ := c.cd
  obtain ⟨t1, ho⟩ := exo_at I.hok e
  obtain ⟨hp, g, d, t, os⟩ := s
  refine PySem.W.set_plain I.kIn (ox := { cls := .ref C, dict := none, data := .fields #[.ref t1, .none, .none, .none, .bool false, .none] }) (od := none) ⟨ho, rfl, rfl, trivial⟩ c.sa ?_
  refine PySem.WX.xc_store1 c.Z I.kIn ho cd off (fun h' tk' dx kp dn dne hx hn => ?_)
  have free : H dx = none := I.hok.fresh dn
  have old : ∀ {b : Addr} {o : Obj}, hp.get? b = some o → b ≠ dx := fun {b o} z => Nat.ne_of_lt (Nat.lt_of_lt_of_le (Heap.lt_size z) dn)
  have na : ∀ {b : Addr}, H b = none → b ≠ a := fun {b} n z => by
    rw [z, e] at n
    cases n
  have U : Un X.fs [] H (upd (upd H dx (exd dx [(f, y)])) a (exo a C (some dx))) hp h' := {
    keep := fun b o z n _ _ => kp b o (na n) z
    slot := fun b o z n _ _ => ⟨o.slots, kp b o (na n) z⟩
    free := fun b o z n _ => by
      rw [upd_ne (na n), upd_ne (old z)]
      exact n
    there := fun b o z _ => by
      by_cases hb : b = a
      · exact ⟨_, by rw [hb]; exact hx⟩
      · exact ⟨o, kp b o hb z⟩
    tups := fun b xs z => by
      rw [upd_ne (at_ne e z exo_tup), upd_ne (ne_of_none z free)]
      exact z
    frzs := fun b o v z => by
      rw [upd_ne (at_ne e z exo_frz), upd_ne (ne_of_none z free)]
      exact z
    tbls := fun b ps z => ⟨#[], by rw [upd_ne (at_ne e z exo_tbl), upd_ne (ne_of_none z free), z]; simp⟩ }
  refine k dx _ free dne (I.un (t' := tk') U fun b o z => ?_)
  by_cases hb : b = a
  · subst hb
    rw [upd_same] at z
    cases z
    exact exo_ok hx
  · rw [upd_ne hb] at z
    by_cases hd : b = dx
    · subst hd
      rw [upd_same] at z
      cases z
      exact exd_ok hn (relO_put (fs := []) ry fun g => True.intro)
    · rw [upd_ne hd] at z
      refine (I.hok b o z).stay (fun c' v hc zz => kp c' v ?_ zz) (fun c' hc => ?_) (fun c' xs hc => ?_)
      · rcases hc with hc | hc
        · rw [hc]
          exact hb
        · exact at_ne e hc exo_own
      · rw [upd_ne (at_ne e hc exo_own), upd_ne (ne_of_none hc free)]
        exact hc
      · rw [upd_ne (at_ne e hc exo_tup), upd_ne (ne_of_none hc free)]
        exact hc
theorem xst_old (c : Xc X.K C B newId initId bmB T) (I : Inv X pins σ H s) (e : H a = some (exo a C (some dx))) (ed : H dx = some (exd dx fs)) (hl : fs.length ≤ 900) (off : PySem.W.findIn X.K (.ref C) f = some none) (ry : RelV y u)
    (k : ∀ s', Inv X pins σ (upd H dx (exd dx ((f, y) :: fs))) s' → Q () s') : wpAny (model X.prog X.w) A (setAttr (.ref a) f u) Q E s := by
  obtain ⟨nm, bs, N, q, sn, sub, ab, col, cd⟩ := c.cd
  obtain ⟨t1, ho⟩ := exo_at I.hok e
  obtain ⟨mA, hns, rel⟩ := exd_at I.hok ed
  have hw := within_of rel
  obtain ⟨hp, g, d, t, os⟩ := s
  obtain ⟨oD, _, _, hoD, _, _⟩ := hns.count hw
  refine PySem.W.set_plain I.kIn (ox := { cls := .ref C, dict := some dx, data := .fields #[.ref t1, .none, .none, .none, .bool false, .none] }) (od := some oD) ⟨ho, rfl, rfl, hoD⟩ c.sa ?_
  refine PySem.WX.xc_store2 c.Z I.kIn ho hns hw (by rw [List.length_map]; omega) cd off (fun h' tk' kp hn => ?_)
  have there : ∃ o, h'.get? dx = some o := by
    obtain ⟨o, _, _, e', _⟩ := hn
    exact ⟨o, e'⟩
  exact k _ (I.write (t' := tk') (x := dx) (e := dx) (o := exd dx ((f, y) :: fs)) (by rw [ed]; exact True.intro) (.inl rfl) kp there (exd_ok hn (relO_put ry rel)))
/-- self.f = e within an own error's __init__ -/
def tXst (K : PySem.W.Frag) (f : Str) (to te : TE) : TS := fun D σ H => te σ H fun y H1 => to σ H1 fun x H2 => ∃ (a C : Addr) (B newId initId : String) (bmB T : List Value), x = .ref a ∧ Xc K C B newId initId bmB T ∧ PySem.W.findIn K (.ref C) f = some none ∧
  ((H2 a = some (exo a C none) ∧ ∀ dx, H2 dx = none → dx ≠ a → D.nx σ (upd (upd H2 dx (exd dx [(f, y)])) a (exo a C (some dx)))) ∨
    ∃ (dx : Addr) (fs : List (Str × V)), H2 a = some (exo a C (some dx)) ∧ H2 dx = some (exd dx fs) ∧ fs.length ≤ 900 ∧ D.nx σ (upd H2 dx (exd dx ((f, y) :: fs))))
theorem ps_xst {o e : Expr} {to te : TE} {p' pos : Pos} (ho : PE X o to) (he : PE X e te) (hs : swapsWith e (some (.Attribute o f p')) pos.line X.env = pure false := by rfl) : PS X (.Assign [.Attribute o f p'] e pos) (tXst X.K f to te) := by
  refine ⟨fun pins s σ H D I h => ?_⟩
  refine plainObj_wpAny_Assign_Attribute (thn (he.run pins s σ H _ I h) fun v s1 ⟨y, H1, I1, r1, q1⟩ => thn (ho.run pins s1 σ H1 _ I1 q1) fun u s2 ⟨x, H2, I2, r2, a, C, B, newId, initId, bmB, T, ex, c, off, q⟩ => ?_) hs
  subst ex
  obtain rfl : u = Value.ref a := r2
  rcases q with ⟨ea, q⟩ | ⟨dx, fs, ea, ed, hl, q⟩
  · exact xst_new c I2 ea off r1 fun dx s' n ne J => ⟨σ, _, J, q dx n ne⟩
  · exact xst_old c I2 ea ed hl off r1 fun s' J => ⟨σ, _, J, q⟩
end

/-- C(e, .., k = v, ..) of an own error class with an __init__ -/
def tXmake (C : Addr) (n m : Nat) (sp : Sp) (gV : List V → List V → List V) (t tk : TA) : TE := fun σ H Q => t σ H fun vs H1 => tk σ H1 fun zs H2 => vs.length = n ∧ zs.length = m ∧
  ∀ a, H2 a = none → sp (gV (.ref a :: vs) zs) (upd H2 a (exo a C none)) (fun v H3 => v = .non ∧ Q (.ref a) H3) E0
section
variable {X : Cx} {k n : Nat} {fI C : Addr} {fd : FuncData} {ps ks : List Str} {sp : Sp} {x : Str} {p pos : Pos} {e : Expr} {es : List Expr} {kws : List Keyword} {t tk : TA} {g : List Value → List Value → List Value} {gV : List V → List V → List V} {B newId initId : String} {bmB T : List Value}
theorem run_xmake {pins : List (Addr × Obj)} {σ : L2.St} {H : Hp} {s : Shared} {Q : VK} {us ws : List Value} {vs zs : List V} (c : Xc X.K C B newId initId bmB T) (iC : PySem.W.findIn X.K (.ref C) "__init__" = some (some (.ref fI)))
    (tI : PySem.W.typeIn X.K (.ref fI) = some (.type "function")) (F : FnOk X.prog X.w X.K X.mg X.base CX0 k fI fd ps sp) (hr : Room (k + 1) X.A) (hb : KBn X.K fd ps (n + 1) ks g gV) (I : Inv X pins σ H s) (r : Vals vs us) (rz : Vals zs ws)
    (l1 : vs.length = n) (l2 : zs.length = ks.length) (hn : n ≤ 1000) (h : ∀ a, H a = none → sp (gV (.ref a :: vs) zs) (upd H a (exo a C none)) (fun v H3 => v = .non ∧ Q (.ref a) H3) E0) :
    wpAny (model X.prog X.w) X.A (call (.ref C) us (ks.zip ws)) (EP X pins σ Q) X.xe s := by
  obtain ⟨nm, q, N, bs, sn, sub, ab, col, dd, k0, k1, k2, k3, k5, hC⟩ := c.cls
  obtain ⟨hp, gn, dr, tk0, os⟩ := s
  have up : hp.objs.size ≤ hp.objs.size + 1 := Nat.le_succ _
  have hq := h (hp.objs.size + 1) (I.hok.fresh up)
  have kk : ∀ b o, hp.get? b = some o → ((hp.push (PySem.W.kdv_tup us)).push (PySem.HandSPX.excO C hp.objs.size)).get? b = some o := fun b o e => Heap.get?_push_of_some _ (Heap.get?_push_of_some _ e)
  have at1 : ((hp.push (PySem.W.kdv_tup us)).push (PySem.HandSPX.excO C hp.objs.size)).get? (hp.objs.size + 1) = some (PySem.HandSPX.excO C hp.objs.size) := by heap_get
  have J : Inv X pins σ (upd H (hp.objs.size + 1) (exo (hp.objs.size + 1) C none)) ⟨(hp.push (PySem.W.kdv_tup us)).push (PySem.HandSPX.excO C hp.objs.size), gn, dr, tk0, os⟩ :=
    I.laid (t' := tk0) (a := hp.objs.size + 1) (o := exo (hp.objs.size + 1) C none) (h' := (hp.push (PySem.W.kdv_tup us)).push (PySem.HandSPX.excO C hp.objs.size)) kk up (exo_ok at1)
  have r1 : Vals (V.ref (hp.objs.size + 1) :: vs) (Value.ref (hp.objs.size + 1) :: us) := .cons rfl r
  have r2 := hb.rel r1 rz
  have e1 : (Value.ref (hp.objs.size + 1) :: us).length = n + 1 := r1.length.symm.trans (congrArg Nat.succ l1)
  have e2 : ws.length = ks.length := rz.length.symm.trans l2
  have hus : us.length ≤ sizeLine := by
    rw [← Paired.length r, sizeLine_eq]
    omega
  refine wpAny_call (PySem.WX.xc_call c.Z (I.kIn _ _ hC) (PySem.W.looks_findIn I.kIn iC) (fun self => PySem.W.bind_fn I.kIn self tI) hus
    (codeAny_mono (F.run _ X.stack _ _ ⟨Value.ref (hp.objs.size + 1) :: us, ks.zip ws⟩ (g (Value.ref (hp.objs.size + 1) :: us) ws) _ _ E0 (hr.make C us (ks.zip ws)) (J.env0.make C us (ks.zip ws)) (hb.to _ (Value.ref (hp.objs.size + 1) :: us) ws J.kIn e1 e2) r2 hq) fun rr z hq' => ?_))
  match rr, hq' with
  | .error e, hq' => exact pass0 pins σ _ _ e z J hq'
  | .ok (.ret u), hq' =>
    obtain ⟨v, H', J3, rv, ev, q3⟩ := J.after hq'
    subst ev
    exact ⟨rv, V.ref (hp.objs.size + 1), H', J3, rfl, q3⟩
  | .ok .next, hq' => exact False.elim hq'
  | .ok .brk, hq' => exact False.elim hq'
  | .ok .cont, hq' => exact False.elim hq'
theorem pe_xmake (c : Xc X.K C B newId initId bmB T) (iC : PySem.W.findIn X.K (.ref C) "__init__" = some (some (.ref fI))) (tI : PySem.W.typeIn X.K (.ref fI) = some (.type "function")) (F : FnOk X.prog X.w X.K X.mg X.base CX0 k fI fd ps sp) (hr : Room (k + 1) X.A)
    (hb : KBn X.K fd ps (n + 1) [] g gV) (hn : n ≤ 1000) (hg : Gl X x) (hm : X.mg x = some (.ref C)) (ha : PA X (e :: es) t) (hdb : (x == ("__debug__" : Str)) = false := by decide)
    (he : starEach (e :: es) X.env = (false, eval e X.env) :: starEach es X.env := by rfl) (hpl : (backTo pos (starEach es X.env)).any (·.1) = false := by rfl) :
    PE X (.Call (.Name x p) (e :: es) [] pos) (tXmake C n 0 sp gV t tNil) := by
  refine ⟨fun pins s σ H Q I h => ?_⟩
  refine wpAny_Call_Name_kw (ld_glob I hg hm ?_ hdb)
  refine PySem.W.callWith_K (h₀ := X.base) I.ok.mod.kin c.kC (thn (ha.run pos pins s σ H _ I h) fun us s1 ⟨vs, H1, I1, r, l1, _, q⟩ => ⟨I1.kIn, ?_⟩) he hpl
  exact run_xmake (ks := []) (ws := []) (zs := []) c iC tI F hr hb I1 r .nil l1 rfl hn q
theorem pe_xmakeK (c : Xc X.K C B newId initId bmB T) (iC : PySem.W.findIn X.K (.ref C) "__init__" = some (some (.ref fI))) (tI : PySem.W.typeIn X.K (.ref fI) = some (.type "function")) (F : FnOk X.prog X.w X.K X.mg X.base CX0 k fI fd ps sp) (hr : Room (k + 1) X.A)
    (hb : KBn X.K fd ps 1 ks g gV) (hg : Gl X x) (hm : X.mg x = some (.ref C)) (hkw : PK X kws tk) (hdb : (x == ("__debug__" : Str)) = false := by decide) (hall : (backToKw pos (keywordEach kws X.env)).all (·.1.isSome) = true := by rfl)
    (hks : (backToKw pos (keywordEach kws X.env)).filterMap (·.1) = ks := by rfl) (hpl : ((backTo pos (starEach [] X.env)).any (·.1) || (backToKw pos (keywordEach kws X.env)).any (·.1.isNone)) = false := by rfl) :
    PE X (.Call (.Name x p) [] kws pos) (tXmake C 0 ks.length sp gV tNil tk) := by
  refine ⟨fun pins s σ H Q I h => ?_⟩
  refine wpAny_Call_Name_kw (ld_glob I hg hm ?_ hdb)
  refine PySem.W.callWith_KW0 (h₀ := X.base) I.ok.mod.kin c.kC hall ?_ hpl
  refine thn (hkw.run pos pins s σ H _ I h) fun ws s2 ⟨zs, H2, I2, rz, _, l2, q2⟩ => ⟨I2.kIn, ?_⟩
  rw [hks]
  exact run_xmake (n := 0) (vs := []) (us := []) c iC tI F hr hb I2 .nil rz rfl l2 (by decide) q2
end
end Wd
namespace PySem.W
open PySem PySem.Spec PySem.Calls PyProof.Rows
section
variable {prog : Program} {w : World} {A : Around} {E : Value → Shared → Prop} {s : Shared} {K : Frag} {x D : Addr} {ox : Obj} {od : Option Obj}
theorem xfind_cls {g a : Value} {nm : Str} (hc : (clsIn K D).isSome = true) (f1 : findIn K (.ref D) nm = some (some a)) (f2 : specialIn K a "__get__" = some (some g)) (f3 : takesIn K a = some true) : findObj K D od nm = some (.bind g a) := by
  obtain ⟨cd, hc⟩ := Option.isSome_iff_exists.mp hc
  unfold findObj
  rw [hc, Option.bind_some, f1, Option.bind_some]
  cases od <;> simp [f2, f3]
end
end PySem.W

set_option Elab.async false
set_option linter.all false
set_option maxRecDepth 100000
set_option maxHeartbeats 4000000
/-! Tracked exceptions: their fields read, isinstance of them, such without an __init__ made. -/
namespace PySem.W
open PySem PySem.Spec PySem.Calls PyProof.Rows
section
variable {prog : Program} {w : World} {A : Around} {E : Value → Shared → Prop} {s : Shared} {K : Frag} {x D : Addr} {ox : Obj} {od : Option Obj}
/-- what the class at D says so that its instances may be asked by isinstance -/
structure XIs (K : Frag) (D : Addr) : Prop where
  hga : findIn K (.ref D) "__getattribute__" = some (some (.builtin "BaseException.__getattribute__"))
  hgt : findIn K (.ref D) "__getattr__" = some none
  hsub : subIn K (.ref D) (.type "BaseException") = some true
  hdct : hasDictIn K D = true
  ha : findIn K (.ref D) "__class__" = some (some (.builtin "object.__class__"))
  hn : specialIn K (.builtin "object.__class__") "__get__" = some (some (.builtin "getset_descriptor.__get__"))
  htk : takesIn K (.builtin "object.__class__") = some true
  hm : mroIn K D (.type "object") = some true
theorem x_class {Q : Option Value → Shared → Prop} (Z : XIs K D) (inK : K.In s.heap) (I : InstAt s.heap x ox D od) (fin : Q (some (.ref D)) { s with toks := s.toks + 1 }) : wpAny (model prog w) A (getAttr? (.ref x) "__class__") Q E s := by
  have found : findObj K D od "__class__" = some (.bind (.builtin "getset_descriptor.__get__") (.builtin "object.__class__")) := xfind_cls (by obtain ⟨cd, hc, _⟩ := any_some Z.hdct; rw [hc]; rfl) Z.ha Z.hn Z.htk
  obtain ⟨hp, g, d, t, os⟩ := s
  have l0 := I.type (M := model prog w)
  have l1 := looks_findIn (M := model prog w) inK Z.hga
  have l2 := looks_findIn (M := model prog w) inK Z.hgt
  have l3 := looks_find (M := model prog w) inK I found
  have isB : Looks (model prog w) hp (isInstance (.ref x) (.type "BaseException")) true := l0.andThen (looks_subIn inK Z.hsub)
  have q0 : (false && onTheHeap (Value.builtin "BaseException.__getattribute__")) = false := rfl
  have q2 : (Value.builtin "BaseException.__getattribute__" == Value.builtin "object.__getattribute__") = false := by decide +kernel
  have q1 : (onTheHeap (Value.ref D) && Value.builtin "BaseException.__getattribute__" == Value.builtin "object.__getattribute__") = false := by rw [q2]; rfl
  unfold getAttr? getAttrBy? getAttrBy
  refine wpAny_bind (wpAny_mkText (wpAny_bind (wpAny_attempt (wpAny_holding (wpAny_bind (l0.at (wpAny_bind (l1.at ?_))))))))
  show wpAny _ _ (if (onTheHeap (Value.ref D) && Value.builtin "BaseException.__getattribute__" == Value.builtin "object.__getattribute__") = true then _ else _) _ _ _
  rw [q1, if_neg Bool.false_ne_true]
  unfold getAttrByItsOwn hookBefore
  refine wpAny_bind ?_
  rw [if_pos (show onTheHeap (Value.ref D) = true from rfl)]
  refine l2.at ?_
  refine wpAny_bind (wpAny_attempt (wpAny_holding ?_))
  unfold callGetattribute
  rw [q0, if_neg Bool.false_ne_true]
  unfold boundAndCalled
  rw [PySem.F.excAttr_ValueError.ga.bind (.ref x)]
  refine wpAny_bind (wpAny_pure ?_)
  show wpAny _ _ (call (.builtin "BaseException.__getattribute__") [.ref x, .str "__class__" t]) _ _ _
  refine wpAny_call (codeAny_call_builtin PySem.F.excAttr_ValueError.ga.plain PySem.F.entry_bexc_ga ?_)
  refine @check_slot (model prog w) _ _ ⟨hp, g, d, t + 1, os⟩ "BaseException.__getattribute__" "BaseException" "__getattribute__" (.ref x) [.str "__class__" t] [] _ (by decide +kernel) (by decide +kernel) isB (PySem.F.args_bexc_ga (.ref x) (.str "__class__" t)) ?_
  unfold Builtin.«object.__getattribute__»
  refine wpAny_bind (wpAny_of_eq (a := ((Value.ref x : Value), [Value.str "__class__" t])) (by first | rfl | (simp only [slotArgs]; rfl)) ?_)
  refine wpAny_bind (wpAny_pure (wpAny_bind (l0.at (wpAny_bind (l3.at ?_)))))
  show wpAny _ _ (holding [Value.builtin "object.__class__"] (call (.builtin "getset_descriptor.__get__") [.builtin "object.__class__", .ref x, .ref D]) >>= ret) _ _ _
  refine wpAny_bind (wpAny_holding (wpAny_call (class_get (s := ⟨hp, g, d, t + 1, os⟩) (ox := ox) (od := od) inK I Z.hm ?_)))
  refine wpAny_pure ?_
  show wpAny _ _ (handedOut (.ref D)) _ _ _
  rw [handedOut_of (v := .ref D) rfl]
  first
    | exact wpAny_pure (wpAny_pure fin)
    | exact wpAny_pure fin
    | exact wpAny_pure (wpAny_bind (wpAny_pure (wpAny_pure fin)))
theorem x_kit (Z : XIs K D) : KitX K (.ref x) (.ref D) (fun h => ∃ ox od, InstAt h x ox D od) where
  ty := fun _ _ _ ⟨_, _, I⟩ => I.type
  it := fun _ _ inK _ => by
    obtain ⟨cdD, hcD, _⟩ := any_some Z.hdct
    unfold clsIn at hcD
    split at hcD
    · rename_i c' d' cd' sl' ho
      intro A' Q' E' s' k q
      unfold isType loadHead
      exact wpAny_bind (wpAny_loadPart (k _ _ (inK _ _ ho)) (wpAny_pure q))
    · cases hcD
  ne := fun h tp dd its n sl inK htp => by
    obtain ⟨cdD, hcD, _⟩ := any_some Z.hdct
    refine Bool.eq_false_iff.mpr fun q => ?_
    have e : D = tp := Value.ref.inj (beq_iff_eq.mp q)
    subst e
    unfold clsIn at hcD
    split at hcD
    · rename_i c' d' cd' sl' ho
      have z := (inK _ _ ho).symm.trans htp
      cases z
    · cases hcD
  ca := fun inK ⟨_, _, I⟩ k => x_class Z inK I k
end
end PySem.W
namespace Wd
open PySem PySem.Spec PyProof.Rows L2
/-- a caught exception that is kept -/
def exk (a C : Addr) (d : Option Addr) : HO := .ext fun h => ∃ (oe : Obj) (vs : Array Value), h.get? a = some oe ∧ oe.cls = .ref C ∧ oe.dict = d ∧ oe.data = .fields vs
theorem exk_ok {P : Program} {w : World} {H : Hp} {h : Heap} {a C : Addr} {d : Option Addr} {oe : Obj} {vs : Array Value} (e : h.get? a = some oe) (c : oe.cls = .ref C) (dd : oe.dict = d) (f : oe.data = .fields vs) : ObjOk P w H h a (exk a C d) :=
  ⟨⟨oe, vs, e, c, dd, f⟩, ⟨oe, e⟩, fun _ _ ⟨o, v, q, r⟩ k => ⟨o, v, k o q, r⟩⟩
/-- at a: an exception of the class at C, its dict d -/
def ExAt (H : Hp) (a C : Addr) (d : Option Addr) : Prop := H a = some (exo a C d) ∨ H a = some (exk a C d) ∨ (d = none ∧ H a = some (ExO (.ref C) a))
def ExD (H : Hp) (dx : Addr) (fs : List (Str × V)) : Prop := H dx = some (exd dx fs) ∨ H dx = some (.xd fs)
theorem ExAt.get {P : Program} {w : World} {H : Hp} {h : Heap} {a C : Addr} {d : Option Addr} (x : ExAt H a C d) (ok : HOk P w H h) : ∃ (oe : Obj) (vs : Array Value), h.get? a = some oe ∧ oe.cls = .ref C ∧ oe.dict = d ∧ oe.data = .fields vs := by
  rcases x with x | x | ⟨rfl, x⟩
  · obtain ⟨t1, e⟩ := exo_at ok x
    exact ⟨_, _, e, rfl, rfl, rfl⟩
  · have z : ObjOk P w H h a (.ext _) := ok a _ x
    exact z.1
  · have z : ObjOk P w H h a (.ext _) := ok a _ x
    obtain ⟨oe, vs, e, zc, dd, _⟩ := z.1
    exact ⟨oe, vs, e, zc.1, zc.2, dd⟩
theorem ExD.get {P : Program} {w : World} {H : Hp} {h : Heap} {dx : Addr} {fs : List (Str × V)} (x : ExD H dx fs) (ok : HOk P w H h) : ∃ mA, h.Ns1 dx mA ∧ ∀ f, RelO (fs.lookup f) (mA f) := by
  rcases x with x | x
  · exact exd_at ok x
  · exact ok dx _ x
def ExF (H : Hp) (d : Option Addr) : Prop := d = none ∨ ∃ dx fs, d = some dx ∧ ExD H dx fs
section
variable {X : Cx} {pins : List (Addr × Obj)} {σ : L2.St} {H : Hp} {s : Shared}
theorem inst_of {a C : Addr} {d : Option Addr} (I : Inv X pins σ H s) (x : ExAt H a C d) (f : ExF H d) : ∃ ox od, PySem.W.InstAt s.heap a ox C od := by
  obtain ⟨oe, vs, e, c, dd, dt⟩ := x.get I.hok
  rcases f with rfl | ⟨dx, fs, rfl, y⟩
  · exact ⟨oe, none, e, c, by unfold PySem.W.notCls; rw [dt] <;> rfl, by rw [dd]; exact True.intro⟩
  · obtain ⟨mA, hns, _⟩ := y.get I.hok
    obtain ⟨od, ho, _⟩ := lookIn_ns hns
    exact ⟨oe, some od, e, c, by unfold PySem.W.notCls; rw [dt] <;> rfl, by rw [dd]; exact ho⟩
end
/-- isinstance(e, C), e a tracked exception -/
def rIsX (K : PySem.W.Frag) : List V → Hp → VK → Prop := fun xs H Q => ∃ (a C : Addr) (d : Option Addr) (c : V) (u : Value) (b : Bool), xs = [.ref a, c] ∧ PySem.W.XIs K C ∧ ExAt H a C d ∧ ExF H d ∧ ClsV c u ∧ PySem.W.kitOne K (.ref C) u = some b ∧ Q (.bl b) H
def rIsXT (K : PySem.W.Frag) : List V → Hp → VK → Prop := fun xs H Q => ∃ (a C : Addr) (d : Option Addr) (tp : Addr) (cs : List V) (us : List Value) (b : Bool), xs = [.ref a, .ref tp] ∧ H tp = some (.tup cs) ∧ Paired ClsV cs us ∧ PySem.W.XIs K C ∧ ExAt H a C d ∧ ExF H d ∧
  PySem.W.kitAny K (.ref C) us = some b ∧ Q (.bl b) H
/-- e.f, e a tracked exception -/
def tXattr (K : PySem.W.Frag) (te : TE) (n : Str) : TE := fun σ H Q => te σ H fun x H1 => ∃ (a C dx : Addr) (fs : List (Str × V)) (v : V), x = .ref a ∧ PySem.W.XIs K C ∧ ExAt H1 a C (some dx) ∧ ExD H1 dx fs ∧ PySem.W.findIn K (.ref C) n = some none ∧ fs.lookup n = some v ∧ Q v H1
section
variable {X : Cx}
theorem call_isX : CallR X (.builtin "isinstance") (rIsX X.K) := by
  intro pins s σ H xs us Q I r h
  obtain ⟨a, C, d, c, u, b, rfl, Z, x, f, k, e, q⟩ := h
  obtain ⟨u1, u2, rfl, r1, r2⟩ := vals2 r
  have e2 := k.eq r2
  subst e2
  cases (show u1 = Value.ref a from r1)
  exact PySem.W.kia_one (PySem.W.x_kit Z) I.kIn (inst_of I x f) e (fun z => nomatch z) fun tk => ⟨.bl b, H, I.tok tk, rfl, q⟩
theorem call_isXT : CallR X (.builtin "isinstance") (rIsXT X.K) := by
  intro pins s σ H xs us Q I r h
  obtain ⟨a, C, d, tp, cs, ws, b, rfl, hT, k, Z, x, f, e, q⟩ := h
  obtain ⟨u1, u2, rfl, r1, r2⟩ := vals2 r
  cases (show u2 = Value.ref tp from r2)
  cases (show u1 = Value.ref a from r1)
  obtain ⟨_, its, rv, o, h1, h2, n, h3⟩ := (show ObjOk X.prog X.w H s.heap tp (.tup cs) from I.hok tp _ hT)
  have e3 := ClsV.all k rv
  subst e3
  obtain ⟨oc, od, dt, sl⟩ := o
  simp only at h2 h3
  subst h2 h3
  exact PySem.W.kia_tup (PySem.W.x_kit Z) I.kIn (inst_of I x f) h1 e (fun z => nomatch z) fun tk => ⟨.bl b, H, I.tok tk, rfl, q⟩
/-- isinstance of anything that is told, by one class or a tuple of them -/
def rIsAny (K : PySem.W.Frag) : List V → Hp → VK → Prop := fun xs H Q => (rIsX K xs H Q ∨ rIsXT K xs H Q) ∨ (rIsi K xs H Q ∨ rIsiT K xs H Q)
theorem call_isAny : CallR X (.builtin "isinstance") (rIsAny X.K) := by
  intro pins s σ H xs us Q I r h
  rcases h with (h | h) | (h | h)
  · exact call_isX pins s σ H xs us Q I r h
  · exact call_isXT pins s σ H xs us Q I r h
  · exact call_isi pins s σ H xs us Q I r h
  · exact call_isiT pins s σ H xs us Q I r h
theorem pe_xattr {e : Expr} {te : TE} {n : Str} {pos : Pos} (he : PE X e te) (hb : attributeBase e n X.env (eval e X.env) = eval e X.env := by rfl) : PE X (.Attribute e n pos) (tXattr X.K te n) := by
  refine ⟨fun pins s σ H Q I h => ?_⟩
  refine attr_of hb (thn (he.run pins s σ H _ I h) fun u s1 ⟨y, H1, I1, rx, a, C, dx, fs, v, ey, Z, x, dct, off, l, q⟩ => ?_)
  subst ey
  obtain rfl : u = Value.ref a := rx
  obtain ⟨oe, vs, e1, c1, d1, t1⟩ := x.get I1.hok
  obtain ⟨mA, hns, hr⟩ := dct.get I1.hok
  obtain ⟨od, ho, hl⟩ := lookIn_ns hns
  obtain ⟨u2, hu, ru⟩ := RelO.some_of (v := v) (o := mA n) (by rw [← l]; exact hr n)
  have J : PySem.W.InstAt s1.heap a oe C (some od) := ⟨e1, c1, by unfold PySem.W.notCls; rw [t1] <;> rfl, by rw [d1]; exact ho⟩
  exact HandSPX.exc_get I1.kIn J Z.hga Z.hgt Z.hsub (PySem.W.findObj_own Z.hdct off rfl (by rw [hl, hu])) (handed_of ru) ⟨v, H1, I1.tok _, ru, q⟩
/-- C() of an own error class without __init__ -/
theorem pe_xmake0 {C : Addr} {bmB : List Value} {B newId initId : String} {x : Str} {p pos : Pos} (F : ExcBaseFacts B newId initId bmB) (q : PySem.W.excIn X.K C bmB newId = true) (gC : X.mg x = some (.ref C)) (kC : PySem.W.keepIn X.K (.ref C) = true) (hg : Gl X x)
    (hdb : (x == ("__debug__" : Str)) = false := by decide) : PE X (.Call (.Name x p) [] [] pos) (fun _ H Q => ∀ a, H a = none → Q (.ref a) (upd H a (ExO (.ref C) a))) := by
  refine ⟨fun pins s σ H Q I h => ?_⟩
  refine wpAny_Call_Name_kw (ld_glob I hg gC ?_ hdb)
  refine PySem.W.callWith_K0 I.kIn kC ?_
  show wpAny _ _ (call (.ref C) []) _ _ _
  obtain ⟨bm, N, nm, qn, bs, hdct, sn, sub, ab, col, dd, k0, k1, k2, k3, k5, mN, hC, hN, hni, T⟩ := exc_obj I.kIn q
  refine wpAny_call_exc_subT F T hC hN hni (fun h' a hm => ?_) (by show 0 ≤ sizeLine; omega)
  have hn : H a = none := I.hok.gone hm.new
  obtain ⟨t, ht, _, _⟩ := hm.there
  exact ⟨.ref a, upd H a (ExO (.ref C) a), I.laidN hm.keeps hm.new hn (exO_ok ht ⟨rfl, rfl⟩ rfl rfl rfl (show 4 < 6 by decide)), rfl, h a hn⟩
end
end Wd

set_option Elab.async false
set_option linter.all false
set_option maxRecDepth 100000
set_option maxHeartbeats 4000000
/-! Own error classes of one field, of two, of none: what a text's class must show, what making one answers. -/
namespace Wd
open PySem PySem.Spec PyProof.Rows L2
/-- at a: an exception of the class at C with these fields -/
def ExOne (H : Hp) (a C : Addr) (fs : List (Str × V)) : Prop := ∃ d, ExAt H a C d ∧ ((fs = [] ∧ d = none) ∨ ∃ dx, d = some dx ∧ ExD H dx fs)
theorem ExAt.mono {H H' : Hp} {a C : Addr} {d : Option Addr} (s : Same H H') (x : ExAt H a C d) : ExAt H' a C d := by
  rcases x with x | x | ⟨e, x⟩
  · exact .inl (s _ _ x)
  · exact .inr (.inl (s _ _ x))
  · exact .inr (.inr ⟨e, s _ _ x⟩)
theorem ExD.mono {H H' : Hp} {dx : Addr} {fs : List (Str × V)} (s : Same H H') (x : ExD H dx fs) : ExD H' dx fs := by
  rcases x with x | x
  · exact .inl (s _ _ x)
  · exact .inr (s _ _ x)
theorem ExOne.mono {H H' : Hp} {a C : Addr} {fs : List (Str × V)} (s : Same H H') (x : ExOne H a C fs) : ExOne H' a C fs := by
  obtain ⟨d, x, y⟩ := x
  refine ⟨d, x.mono s, ?_⟩
  rcases y with y | ⟨dx, e, y⟩
  · exact .inl y
  · exact .inr ⟨dx, e, y.mono s⟩
theorem ExOne.f {H : Hp} {d : Option Addr} {fs : List (Str × V)} (y : (fs = [] ∧ d = none) ∨ ∃ dx, d = some dx ∧ ExD H dx fs) : ExF H d := by
  rcases y with ⟨_, e⟩ | ⟨dx, e, y⟩
  · exact .inl e
  · exact .inr ⟨dx, _, e, y⟩
/-- all but what stands at p is as it was -/
def Kp (p : Addr) (H H' : Hp) : Prop := ∀ a o, a ≠ p → H a = some o → H' a = some o
theorem Kp.refl (p : Addr) (H : Hp) : Kp p H H := fun _ _ _ h => h
theorem Kp.trans {p : Addr} {H H1 H2 : Hp} (a : Kp p H H1) (b : Kp p H1 H2) : Kp p H H2 := fun x o n h => b x o n (a x o n h)
theorem Kp.at {p : Addr} {H H1 : Hp} {o : HO} (a : Kp p H H1) : Kp p H (upd H1 p o) := fun x u n h => by rw [upd_ne n]; exact a x u n h
theorem Kp.new {p l : Addr} {H H1 : Hp} {o : HO} (a : Kp p H H1) (h : H1 l = none) : Kp p H (upd H1 l o) := fun x u n e => by rw [upd_ne (ne_of_none (a x u n e) h)]; exact a x u n e
theorem Kp.same {p : Addr} {H H1 H2 : Hp} (a : Kp p H H1) (s : Same H1 H2) : Kp p H H2 := fun x o n h => s x o (a x o n h)
theorem same_new {H : Hp} {l : Addr} {o : HO} (n : H l = none) : Same H (upd H l o) := fun b u e => by rw [upd_ne (ne_of_none e n)]; exact e
/-- a new thing at a, changed while it is made: all that was known stays -/
theorem Kp.born {a : Addr} {o : HO} {H H' : Hp} (k : Kp a (upd H a o) H') (n : H a = none) : Same H H' := fun b u e => by
  have ne : b ≠ a := ne_of_none e n
  exact k b u ne (by rw [upd_ne ne]; exact e)
/-! ### the promises of an __init__ -/
def XcE (K : PySem.W.Frag) (C : Addr) : Prop := ∃ (B newId initId : String) (bmB T : List Value), Xc K C B newId initId bmB T
def spI1 (K : PySem.W.Frag) (f : Str) : Sp := fun vs H Q _ => ∃ (a C : Addr) (y : V), vs = [.ref a, y] ∧ XcE K C ∧ PySem.W.findIn K (.ref C) f = some none ∧ H a = some (exo a C none) ∧ ∀ H', Kp a H H' → ExOne H' a C [(f, y)] → Q .non H'
def spI2 (K : PySem.W.Frag) (f g : Str) : Sp := fun vs H Q _ => ∃ (a C : Addr) (y z : V), vs = [.ref a, y, z] ∧ XcE K C ∧ PySem.W.findIn K (.ref C) f = some none ∧ PySem.W.findIn K (.ref C) g = some none ∧ H a = some (exo a C none) ∧
  ∀ H', Kp a H H' → ExOne H' a C [(g, z), (f, y)] → Q .non H'
/-- what making one answers -/
theorem x1_ans {K : PySem.W.Frag} {C : Addr} {f : Str} {y : V} {H : Hp} {Q : VK} (c : XcE K C) (off : PySem.W.findIn K (.ref C) f = some none) (k : ∀ a H', H a = none → Same H H' → ExOne H' a C [(f, y)] → Q (.ref a) H') :
    ∀ a, H a = none → spI1 K f [.ref a, y] (upd H a (exo a C none)) (fun v H3 => v = .non ∧ Q (.ref a) H3) E0 :=
  fun a n => ⟨a, C, y, rfl, c, off, upd_same, fun H' kp x => ⟨rfl, k a H' n (kp.born n) x⟩⟩
theorem x2_ans {K : PySem.W.Frag} {C : Addr} {f g : Str} {y z : V} {H : Hp} {Q : VK} (c : XcE K C) (off : PySem.W.findIn K (.ref C) f = some none) (off2 : PySem.W.findIn K (.ref C) g = some none) (k : ∀ a H', H a = none → Same H H' → ExOne H' a C [(g, z), (f, y)] → Q (.ref a) H') :
    ∀ a, H a = none → spI2 K f g [.ref a, y, z] (upd H a (exo a C none)) (fun v H3 => v = .non ∧ Q (.ref a) H3) E0 :=
  fun a n => ⟨a, C, y, z, rfl, c, off, off2, upd_same, fun H' kp x => ⟨rfl, k a H' n (kp.born n) x⟩⟩
structure XA where
  C : Addr
  fI : Addr
  fd : FuncData
section
variable (P : Program) (w : World) (K : PySem.W.Frag) (mg : Str → Option Value) (base : Heap)
structure XOne (x : Str) (q : XA) (f : Str) (B newId initId : String) (bmB T : List Value) : Prop where
  gC : mg x = some (.ref q.C)
  xc : Xc K q.C B newId initId bmB T
  xi : PySem.W.XIs K q.C
  off : PySem.W.findIn K (.ref q.C) f = some none
  iC : PySem.W.findIn K (.ref q.C) "__init__" = some (some (.ref q.fI))
  tI : PySem.W.typeIn K (.ref q.fI) = some (.type "function")
  F : FnOk P w K mg base CX0 1 q.fI q.fd ["self", f] (spI1 K f)
  bp : KBn K q.fd ["self", f] 2 [] (fun us _ => us) (fun vs _ => vs)
  bk : KBn K q.fd ["self", f] 1 [f] (fun us ws => us ++ ws) (fun vs zs => vs ++ zs)
structure XTwo (x : Str) (q : XA) (f g : Str) (B newId initId : String) (bmB T : List Value) : Prop where
  gC : mg x = some (.ref q.C)
  xc : Xc K q.C B newId initId bmB T
  xi : PySem.W.XIs K q.C
  off : PySem.W.findIn K (.ref q.C) f = some none
  off2 : PySem.W.findIn K (.ref q.C) g = some none
  iC : PySem.W.findIn K (.ref q.C) "__init__" = some (some (.ref q.fI))
  tI : PySem.W.typeIn K (.ref q.fI) = some (.type "function")
  F : FnOk P w K mg base CX0 1 q.fI q.fd ["self", f, g] (spI2 K f g)
  bp : KBn K q.fd ["self", f, g] 3 [] (fun us _ => us) (fun vs _ => vs)
  bk : KBn K q.fd ["self", f, g] 1 [g, f] (fun us ws => us ++ ws.reverse) (fun vs zs => vs ++ zs.reverse)
structure XNil (x : Str) (q : XA) (B newId initId : String) (bmB T : List Value) : Prop where
  gC : mg x = some (.ref q.C)
  xc : Xc K q.C B newId initId bmB T
  xi : PySem.W.XIs K q.C
  kC : PySem.W.keepIn K (.ref q.C) = true
  eF : ExcBaseFacts B newId initId bmB
  eq : PySem.W.excIn K q.C bmB newId = true
end
/-! ### isinstance among own error classes -/
theorem kit_self {K : PySem.W.Frag} {C : Addr} : PySem.W.kitOne K (.ref C) (.ref C) = some true := by
  unfold PySem.W.kitOne
  rw [if_pos (by simp)]
theorem Xc.sub {K : PySem.W.Frag} {C : Addr} {B newId initId : String} {bmB T : List Value} (c : Xc K C B newId initId bmB T) (v : Value) : PySem.W.subIn K (.ref C) v = some ((Value.ref C :: T).contains v) := by
  obtain ⟨nm, bs, N, q, sn, sub, ab, col, cd⟩ := c.cd
  show PySem.W.mroIn K C v = _
  unfold PySem.W.mroIn
  rw [cd, Option.bind_some, if_neg (by simp)]
def isTyV : Value → Bool
  | .type _ => true
  | _ => false
def noRefs (T : List Value) : Bool := T.all isTyV
theorem noRefs_ref {a : Addr} : ∀ {T : List Value}, noRefs T = true → T.contains (.ref a) = false
  | [], _ => rfl
  | v :: T, h => by
    have h' : isTyV v = true ∧ noRefs T = true := by
      have z : (isTyV v && T.all isTyV) = true := h
      rw [Bool.and_eq_true] at z
      exact z
    rw [List.contains_cons, noRefs_ref h'.2]
    cases v <;> first | rfl | exact absurd h'.1 Bool.false_ne_true
theorem kit_two {K : PySem.W.Frag} {C D : Addr} {B newId initId B' newId' initId' : String} {bmB T bmB' T' : List Value} (c : Xc K C B newId initId bmB T) (d : Xc K D B' newId' initId' bmB' T') (nr : noRefs T = true) :
    PySem.W.kitOne K (.ref C) (.ref D) = some (decide (C = D)) := by
  by_cases e : C = D
  · subst e
    rw [decide_eq_true rfl]
    exact kit_self
  · obtain ⟨nm, bs, N, q, sn, sub, ab, col, cd⟩ := d.cd
    have ne : (Value.ref C == Value.ref D) = false := beq_eq_false_iff_ne.mpr fun z => e (Value.ref.inj z)
    have ne2 : (Value.ref D == Value.ref C) = false := beq_eq_false_iff_ne.mpr fun z => e (Value.ref.inj z).symm
    unfold PySem.W.kitOne PySem.W.kitCls
    rw [if_neg (by rw [ne]; simp)]
    show (if ((PySem.W.clsIn K D).isSome && PySem.W.typeIn K (Value.ref D) == some (Value.type "type")) = true then PySem.W.subIn K (Value.ref C) (Value.ref D) else none) = _
    rw [d.tyC, cd, if_pos (by simp), c.sub, List.contains_cons, ne2, noRefs_ref nr, decide_eq_false e]
    rfl
theorem kit_base {K : PySem.W.Frag} {C : Addr} {B newId initId : String} {bmB T : List Value} (c : Xc K C B newId initId bmB T) {S : String} (m : PySem.W.kitMeta S = true) : PySem.W.kitOne K (.ref C) (.type S) = some (T.contains (.type S)) := by
  unfold PySem.W.kitOne PySem.W.kitCls
  rw [if_neg (by simp)]
  show (if PySem.W.kitMeta S = true then PySem.W.subIn K (Value.ref C) (Value.type S) else none) = _
  rw [if_pos m, c.sub, List.contains_cons]
  rfl
theorem nr_V : noRefs PySem.WX.tlV = true := rfl
theorem nr_K : noRefs PySem.WX.tlK = true := rfl
theorem nr_I : noRefs PySem.WX.tlI = true := rfl
theorem nr_L : noRefs PySem.WX.tlL = true := rfl
theorem nr_A : noRefs PySem.WX.tlA = true := rfl
theorem nr_O : noRefs PySem.WX.tlO = true := rfl
theorem nr_R : noRefs PySem.WX.tlR = true := rfl
end Wd

set_option Elab.async false
set_option linter.all false
set_option maxRecDepth 100000
set_option maxHeartbeats 4000000
/-! The end of a law whose def is an FnG. -/
namespace Wd
open PySem PySem.Spec PyProof.Rows L2 PySem.W PySem.Calls
theorem end_core {P : Program} {w : World} {K : PySem.W.Frag} {mg mb : Str → Option Value} {k : Nat} {fa a : Addr} {fd : FuncData} {x : Str} {sp : Sp} {z : Shared} {us : List Value} {ks : List Int}
    (inK : K.In z.heap) (hns : z.heap.Ns mainGlobals mg) (hb : z.heap.Ns builtinsNs mb) (hbb : ∀ x : Str, x ≠ "__name__" → mb x = bootBuiltins x) (nolim : z.heap.NoLimit) (hgn : z.gens = #[])
    (obj : z.heap.get? a = some { cls := .type "list", data := .seq us.toArray }) (hr : Room k callerA)
    (F : ∀ base : Heap, K.In base → base.Ns mainGlobals mg → FnG P w K mg base CX0 k fa fd [x] sp) (bind : ∀ (s : Shared) (u : Value), BindsTo s fd ⟨[u], []⟩ [(x, u)])
    (G : Hp) (only : Only G) (hsp : sp [.ref a] G (fun v _ => v = .bl true) fun _ _ _ => False) (ok : HOk P w G z.heap) (trackA : ∀ b, G b ≠ none → b = a) (offK : G a ≠ none → K.lookup a = none) :
    codeAny (model P w) callerA (.call (.ref fa) ⟨[.ref a], []⟩) (fun r z2 => r = .ok (.ret (.bool true)) ∧ OldK z.heap z2.heap ∧ z2.os = z.os ∧ AllBare z2.gens) z := by
  have notDict : ∀ {b : Addr} {o : Obj} {es : Array DictEntry} {ep : Nat}, z.heap.get? b = some o → o.data = .dict es ep → G b = none := by
    intro b o es ep e d
    cases q : G b with
    | none => rfl
    | some u =>
      have eb : b = a := trackA b (by rw [q]; simp)
      subst eb
      rw [obj] at e
      cases e
      have dd : Data.seq us.toArray _ = Data.dict es ep := d
      cases dd
  have ns2 : ∀ {b : Addr} {m : Str → Option Value}, z.heap.Ns b m → (hidT z.heap G).Ns b m := fun {b m} ⟨o, es, ep, e, d, r⟩ => ⟨o, es, ep, hidT_get e (notDict e d), d, r⟩
  have inB : K.In (hidT z.heap G) := by
    intro b o e
    refine hidT_get (inK b o e) ?_
    cases q : G b with
    | none => rfl
    | some u =>
      have eb : b = a := trackA b (by rw [q]; simp)
      subst eb
      rw [offK (by rw [q]; simp)] at e
      cases e
  have hM : Mod K mg (hidT z.heap G) := ⟨inB, ns2 hns, ⟨mb, ns2 hb, hbb⟩, let ⟨mc, h1, h2⟩ := nolim; ⟨mc, ns2 h1, h2⟩⟩
  have en : Env0 P w K mg (hidT z.heap G) callerA [] z G := ⟨rfl, hM, fun b o e => of_hidT e, Nat.le_of_eq (hidT_size _ _), trivial, (by intro b hb; cases hb), ok, .of_eq hgn⟩
  refine codeAny_mono ((F _ inB (ns2 hns)).run callerA [] z G ⟨[.ref a], []⟩ [.ref a] [.ref a] _ _ rfl hr en (bind z (.ref a)) (.cons rfl .nil) hsp) fun r z2 h => ?_
  match r, h with
  | .error e, h => exact False.elim h
  | .ok .next, h => exact False.elim h
  | .ok .brk, h => exact False.elim h
  | .ok .cont, h => exact False.elim h
  | .ok (.ret u), ⟨v, G', os, bare, un, ok', rv, q⟩ =>
    have q' : v = .bl true := q
    subst q'
    obtain rfl : u = Value.bool true := rv
    refine ⟨rfl, OldK.of_keep fun b o e => ?_, os, bare⟩
    cases q : G b with
    | none => exact un.keep b o e q (by intro t; cases t) (by simp)
    | some u =>
      rcases only b with t | ⟨ob, xs, t⟩
      · rw [q] at t; cases t
      · have t2 := un.frzs b ob _ t
        obtain ⟨e1, _⟩ := ok b _ t
        obtain ⟨e2, _⟩ := ok' b _ t2
        rw [e] at e1
        cases e1
        exact e2
theorem end_call {P : Program} {w : World} {K : PySem.W.Frag} {mg mb : Str → Option Value} {k : Nat} {fa a : Addr} {fd : FuncData} {x : Str} {sp : Sp} {z : Shared} {us : List Value} {ks : List Int}
    (inK : K.In z.heap) (hns : z.heap.Ns mainGlobals mg) (hb : z.heap.Ns builtinsNs mb) (hbb : ∀ x : Str, x ≠ "__name__" → mb x = bootBuiltins x) (nolim : z.heap.NoLimit) (hgn : z.gens = #[])
    (obj : z.heap.get? a = some { cls := .type "list", data := .seq us.toArray }) (hi : IntsAre us ks) (hl : ks.length ≤ sizeLine) (hr : Room k callerA)
    (F : ∀ base : Heap, K.In base → base.Ns mainGlobals mg → FnG P w K mg base CX0 k fa fd [x] sp) (bind : ∀ (s : Shared) (u : Value), BindsTo s fd ⟨[u], []⟩ [(x, u)])
    (hsp : ∀ G : Hp, Only G → SqL K G a (ks.map V.int) → sp [.ref a] G (fun v _ => v = .bl true) fun _ _ _ => False) :
    codeAny (model P w) callerA (.call (.ref fa) ⟨[.ref a], []⟩) (fun r z2 => r = .ok (.ret (.bool true)) ∧ OldK z.heap z2.heap ∧ z2.os = z.os ∧ AllBare z2.gens) z := by
  have rv := vals_ints hi
  have hlen := hi.length
  cases hk : K.lookup a with
  | some o =>
    have e := inK a o hk
    rw [obj] at e
    cases e
    have nn : ∀ b : Addr, (fun _ => none : Hp) b = none := fun _ => rfl
    exact end_core (ks := ks) inK hns hb hbb nolim hgn obj hr F bind (fun _ => none) (fun _ => .inl rfl) (hsp _ (fun _ => .inl rfl) (.inr ⟨_, us.toArray, _, hk, rfl, rfl, rfl, by rw [List.size_toArray, hlen]; exact hl, by simpa using rv⟩))
      (fun b u t => by have t' : (none : Option HO) = some u := t; cases t') (fun b t => absurd rfl t) (fun t => absurd rfl t)
  | none =>
    have only : Only (fun b => if b = a then some (.frz { cls := .type "list", data := .seq us.toArray } (.lst (ks.map V.int))) else none) := by
      intro b
      by_cases eb : b = a
      · exact .inr ⟨_, _, if_pos eb⟩
      · exact .inl (if_neg eb)
    refine end_core (ks := ks) inK hns hb hbb nolim hgn obj hr F bind _ only (hsp _ only (.inl (.inr ⟨_, if_pos rfl⟩))) (fun b u t => ?_) (fun b t => ?_) fun _ => hk
    · by_cases eb : b = a
      · have t' := (if_pos eb).symm.trans t
        cases t'
        subst eb
        exact ⟨obj, by rw [List.length_map]; exact hl, us, _, rv, obj⟩
      · have t' := (if_neg eb).symm.trans t
        cases t'
    · by_cases eb : b = a
      · exact eb
      · exact absurd (if_neg eb) t
theorem walk_g {l : PySem.W.OpenLaw} {n k : Nat} {q : Program} {loose : List Str} {XP : (Str → Option Value) → Heap → Prop} {YP : World → Heap → Prop} {d : DefRec} {K : Params → PySem.W.Frag} {sp : World → Sp} {x : Str}
    (hn : l.most = some n) (hn2 : n ≤ sizeLine) (hdf : d.params.defaults = []) (hr : Room k callerA) (hY : ∀ (w : World) (h : Heap), YP w h → (K w.params).In h)
    (F : ∀ (w : World) (mg : Str → Option Value) (fa : Addr) (h : Heap), (K w.params).In h → h.Ns mainGlobals mg → mg d.name = some (.ref fa) →
      ∃ fd : FuncData, (∀ (s : Shared) (u : Value), BindsTo s fd ⟨[u], []⟩ [(x, u)]) ∧ ∀ base : Heap, (K w.params).In base → base.Ns mainGlobals mg → FnG l.prog w (K w.params) mg base CX0 k fa fd [x] (sp w))
    (hsp : ∀ (w : World) (G : Hp) (a : Addr) (ks : List Int), ks.length ≤ n → Only G → SqL (K w.params) G a (ks.map V.int) → sp w [.ref a] G (fun v _ => v = .bl true) fun _ _ _ => False) :
    PySem.W.WalkO q loose XP YP l.row.toRowW d [] (fun f vs => PySem.call f vs) := by
  refine Att.attach_call hn hdf fun w z0 z1 mg mb fa o pm cd doc a us ks Gr Y ho hd hcd hmg hobj hints hlen hg => ?_
  have inK := hY w _ Y
  obtain ⟨fd, hb, hF⟩ := F w mg fa _ inK Gr.T.g hmg
  exact end_call inK Gr.T.g Gr.T.b Gr.T.builtins Gr.T.nolimit hg hobj hints (Nat.le_trans hlen hn2) hr hF hb fun G hO hS => hsp w G a ks hlen hO hS
end Wd

set_option Elab.async false
set_option linter.all false
set_option maxRecDepth 100000
set_option maxHeartbeats 4000000
/-! repr of data at any depth: none, bools, ints, texts, lists, tuples, dicts with ints and texts as keys. -/
namespace Wd
open PySem PySem.Spec PyProof.Rows L2
def keyD : Key → PyData
  | .inl i => .int i
  | .inr x => .str x
mutual
/-- v is the data d; each list, tuple, dict in it stands at an address of which N is true -/
inductive Dq (N : Addr → Prop) (K : PySem.W.Frag) (H : Hp) : V → PyData → Prop
  | non : Dq N K H .non .none
  | bl (b : Bool) : Dq N K H (.bl b) (.bool b)
  | int (i : Int) : Dq N K H (.int i) (.int i)
  | str (x : Str) : Dq N K H (.str x) (.str x)
  | lst {a : Addr} {xs : List V} {ds : List PyData} : N a → SqL K H a xs → DqAll N K H xs ds → Dq N K H (.ref a) (.list ds)
  | tup {a : Addr} {xs : List V} {ds : List PyData} : N a → SqT K H a xs → DqAll N K H xs ds → Dq N K H (.ref a) (.tuple ds)
  | dct {a : Addr} {kvs : List (Key × V)} {ds : List (PyData × PyData)} : N a → Rd H a (.dK kvs) → DqKv N K H kvs ds → Dq N K H (.ref a) (.dict ds)
inductive DqAll (N : Addr → Prop) (K : PySem.W.Frag) (H : Hp) : List V → List PyData → Prop
  | nil : DqAll N K H [] []
  | cons {v : V} {vs : List V} {d : PyData} {ds : List PyData} : Dq N K H v d → DqAll N K H vs ds → DqAll N K H (v :: vs) (d :: ds)
inductive DqKv (N : Addr → Prop) (K : PySem.W.Frag) (H : Hp) : List (Key × V) → List (PyData × PyData) → Prop
  | nil : DqKv N K H [] []
  | cons {k : Key} {v : V} {kvs : List (Key × V)} {d : PyData} {ds : List (PyData × PyData)} : Dq N K H v d → DqKv N K H kvs ds → DqKv N K H ((k, v) :: kvs) ((keyD k, d) :: ds)
end
def anyA : Addr → Prop := fun _ => True
section
variable {N N' : Addr → Prop} {K : PySem.W.Frag} {H H' : Hp}
theorem sqL_at {a : Addr} {xs : List V} (s : ∀ o, H a = some o → H' a = some o) (h : SqL K H a xs) : SqL K H' a xs := by
  rcases h with (h | ⟨o, h⟩) | h
  · exact .inl (.inl (s _ h))
  · exact .inl (.inr ⟨o, s _ h⟩)
  · exact .inr h
theorem sqT_at {a : Addr} {xs : List V} (s : ∀ o, H a = some o → H' a = some o) (h : SqT K H a xs) : SqT K H' a xs := by
  rcases h with (h | ⟨o, h⟩) | h
  · exact .inl (.inl (s _ h))
  · exact .inl (.inr ⟨o, s _ h⟩)
  · exact .inr h
theorem rd_at {a : Addr} {u : HO} (s : ∀ o, H a = some o → H' a = some o) (h : Rd H a u) : Rd H' a u := by
  rcases h with h | ⟨o, h⟩
  · exact .inl (s _ h)
  · exact .inr ⟨o, s _ h⟩
mutual
theorem Dq.move (n : ∀ a, N a → N' a) (s : ∀ a o, N a → H a = some o → H' a = some o) : ∀ (d : PyData) (v : V), Dq N K H v d → Dq N' K H' v d
  | .none, _, h => by cases h; exact .non
  | .bool b, _, h => by cases h; exact .bl b
  | .int i, _, h => by cases h; exact .int i
  | .str x, _, h => by cases h; exact .str x
  | .list ds, _, h => by
    cases h with
    | lst na hq ha => exact .lst (n _ na) (sqL_at (fun o => s _ o na) hq) (DqAll.move n s ds _ ha)
  | .tuple ds, _, h => by
    cases h with
    | tup na hq ha => exact .tup (n _ na) (sqT_at (fun o => s _ o na) hq) (DqAll.move n s ds _ ha)
  | .dict ds, _, h => by
    cases h with
    | dct na hq ha => exact .dct (n _ na) (rd_at (fun o => s _ o na) hq) (DqKv.move n s ds _ ha)
theorem DqAll.move (n : ∀ a, N a → N' a) (s : ∀ a o, N a → H a = some o → H' a = some o) : ∀ (ds : List PyData) (vs : List V), DqAll N K H vs ds → DqAll N' K H' vs ds
  | [], _, h => by cases h; exact .nil
  | d :: ds, _, h => by
    cases h with
    | cons h1 h2 => exact .cons (Dq.move n s d _ h1) (DqAll.move n s ds _ h2)
theorem DqKv.move (n : ∀ a, N a → N' a) (s : ∀ a o, N a → H a = some o → H' a = some o) : ∀ (ds : List (PyData × PyData)) (vs : List (Key × V)), DqKv N K H vs ds → DqKv N' K H' vs ds
  | [], _, h => by cases h; exact .nil
  | (k, d) :: ds, _, h => by
    cases h with
    | cons h1 h2 => exact .cons (Dq.move n s d _ h1) (DqKv.move n s ds _ h2)
end
theorem Dq.mono {v : V} {d : PyData} (s : Same H H') (h : Dq N K H v d) : Dq N K H' v d := Dq.move (fun _ n => n) (fun a o _ => s a o) d v h
theorem DqAll.mono {v : List V} {d : List PyData} (s : Same H H') (h : DqAll N K H v d) : DqAll N K H' v d := DqAll.move (fun _ n => n) (fun a o _ => s a o) d v h
theorem DqKv.mono {v : List (Key × V)} {d : List (PyData × PyData)} (s : Same H H') (h : DqKv N K H v d) : DqKv N K H' v d := DqKv.move (fun _ n => n) (fun a o _ => s a o) d v h
theorem Dq.any {v : V} {d : PyData} (h : Dq N K H v d) : Dq anyA K H v d := Dq.move (fun _ _ => trivial) (fun _ _ _ e => e) d v h
theorem DqAll.any {v : List V} {d : List PyData} (h : DqAll N K H v d) : DqAll anyA K H v d := DqAll.move (fun _ _ => trivial) (fun _ _ _ e => e) d v h
theorem DqAll.snoc : ∀ {vs : List V} {ds : List PyData} {v : V} {d : PyData}, DqAll N K H vs ds → Dq N K H v d → DqAll N K H (vs ++ [v]) (ds ++ [d])
  | _, _, _, _, .nil, x => .cons x .nil
  | _, _, _, _, .cons y r, x => .cons y (r.snoc x)
theorem DqAll.app : ∀ {vs vs' : List V} {ds ds' : List PyData}, DqAll N K H vs ds → DqAll N K H vs' ds' → DqAll N K H (vs ++ vs') (ds ++ ds')
  | _, _, _, _, .nil, x => x
  | _, _, _, _, .cons y r, x => .cons y (r.app x)
theorem DqAll.length : ∀ {vs : List V} {ds : List PyData}, DqAll N K H vs ds → vs.length = ds.length
  | _, _, .nil => rfl
  | _, _, .cons y r => by rw [List.length_cons, List.length_cons, r.length]
theorem DqAll.bools : ∀ bs : List Bool, DqAll N K H (bs.map V.bl) (bs.map PyData.bool)
  | [] => .nil
  | b :: bs => .cons (.bl b) (DqAll.bools bs)
theorem DqAll.strs : ∀ bs : List Str, DqAll N K H (bs.map V.str) (bs.map PyData.str)
  | [] => .nil
  | b :: bs => .cons (.str b) (DqAll.strs bs)
mutual
/-- without dicts it is the layer's own -/
theorem Dq.dp : ∀ (d : PyData) (v : V), d.hasDict = false → Dq N K H v d → Dp K H v d
  | .none, _, _, h => by cases h; exact .non
  | .bool b, _, _, h => by cases h; exact .bl b
  | .int i, _, _, h => by cases h; exact .int i
  | .str x, _, _, h => by cases h; exact .str x
  | .list ds, _, e, h => by
    cases h with
    | lst _ hq ha => exact .lst hq (DqAll.dp ds _ (by simpa [PyData.hasDict] using e) ha)
  | .tuple ds, _, e, h => by
    cases h with
    | tup _ hq ha => exact .tup hq (DqAll.dp ds _ (by simpa [PyData.hasDict] using e) ha)
  | .dict ds, _, e, h => by
    rw [PyData.hasDict] at e
    cases e
theorem DqAll.dp : ∀ (ds : List PyData) (vs : List V), PyData.hasDictAll ds = false → DqAll N K H vs ds → DpAll K H vs ds
  | [], _, _, h => by cases h; exact .nil
  | d :: ds, _, e, h => by
    cases h with
    | cons h1 h2 =>
      have e' : d.hasDict = false ∧ PyData.hasDictAll ds = false := by simpa [PyData.hasDictAll] using e
      exact .cons (Dq.dp d _ e'.1 h1) (DqAll.dp ds _ e'.2 h2)
end
end
section
variable {X : Cx} {pins : List (Addr × Obj)} {σ : L2.St} {H : Hp} {s : Shared} {N : Addr → Prop}
/-- what an object shows: where it is read, its text -/
structure Rk (P : Program) (w : World) (h : Heap) (u : Value) (d : PyData) : Prop where
  ex : ∃ as bs, Reads h u d as ∧ ReadAtMost h d.depth bs ∧ ReprK P w bs h d.depth u d.shown
structure Rks (P : Program) (w : World) (h : Heap) (us : List Value) (ds : List PyData) : Prop where
  ex : ∃ as bs, ReadsAll h us ds as ∧ ReadAtMost h (PyData.depthAll ds) bs ∧ ReprAllK P w bs h (PyData.depthAll ds) us (PyData.shownAll ds)
theorem Rks.nil {P : Program} {w : World} {h : Heap} : Rks P w h [] [] := ⟨[], [], .nil, (fun _ m => nomatch m), by simp only [PyData.shownAll]; exact .nil⟩
theorem Rks.cons {P : Program} {w : World} {h : Heap} {u : Value} {us : List Value} {d : PyData} {ds : List PyData} (a : Rk P w h u d) (b : Rks P w h us ds) : Rks P w h (u :: us) (d :: ds) := by
  obtain ⟨as, bs, r1, m1, k1⟩ := a.ex
  obtain ⟨cs, es, r2, m2, k2⟩ := b.ex
  refine ⟨as ++ cs, bs ++ es, .cons r1 r2, fun c hm => ?_, ?_⟩
  · simp only [PyData.depthAll]
    rcases List.mem_append.mp hm with hm | hm
    · obtain ⟨d', as', r', hd⟩ := m1 c hm
      exact ⟨d', as', r', Nat.le_trans hd (Nat.le_max_left _ _)⟩
    · obtain ⟨d', as', r', hd⟩ := m2 c hm
      exact ⟨d', as', r', Nat.le_trans hd (Nat.le_max_right _ _)⟩
  · simp only [PyData.depthAll, PyData.shownAll]
    exact .cons ((k1.more fun c hc => List.mem_append_left _ hc).level_le (Nat.le_max_left _ _)) (k2.more_le (fun c hc => List.mem_append_right _ hc) (Nat.le_max_right _ _))
theorem rk_scal {P : Program} {w : World} {h : Heap} {u : Value} {d : PyData} (r : Reads h u d []) (k : ReprIs P w u d.shown) : Rk P w h u d := ⟨[], [], r, (fun _ m => nomatch m), .of_is k _ _ _⟩
theorem rk_list {P : Program} {w : World} {h : Heap} {a : Addr} {o : Obj} {us : List Value} {n : Nat} {ds : List PyData} (h1 : h.get? a = some o) (h2 : o.cls = .type "list") (h3 : o.data = .seq us.toArray n) (q : Rks P w h us ds) : Rk P w h (.ref a) (.list ds) := by
  obtain ⟨as, bs, r, hb, hk⟩ := q.ex
  have rr : Reads h (.ref a) (.list ds) (a :: as) := .list h1 h2 h3 r
  have off : a ∉ bs := not_mem_of_deeper rr (by simp only [PyData.depth]; omega) hb
  refine ⟨a :: as, a :: bs, rr, ReadAtMost.cons rr (by simp only [PyData.depth]; omega) hb, ?_⟩
  simp only [PyData.depth, PyData.shown]
  cases us with
  | nil =>
    cases r
    simp only [PyData.shownAll, listText_nil]
    exact ReprK.listEmpty h1 h2 h3
  | cons x l => exact ReprK.list h1 h2 h3 off (by simpa using hk.length_eq) fun i y e => hk.item i y (by simpa using e)
theorem rk_tuple {P : Program} {w : World} {h : Heap} {a : Addr} {o : Obj} {us : List Value} {n : Nat} {ds : List PyData} (h1 : h.get? a = some o) (h2 : o.cls = .type "tuple") (h3 : o.data = .seq us.toArray n) (q : Rks P w h us ds) : Rk P w h (.ref a) (.tuple ds) := by
  obtain ⟨as, bs, r, hb, hk⟩ := q.ex
  have rr : Reads h (.ref a) (.tuple ds) as := .tuple h1 h2 h3 r
  have off : a ∉ bs := not_mem_of_deeper rr (by simp only [PyData.depth]; omega) hb
  refine ⟨as, a :: bs, rr, ReadAtMost.cons rr (by simp only [PyData.depth]; omega) hb, ?_⟩
  simp only [PyData.depth, PyData.shown]
  exact ReprK.tuple h1 h2 h3 off hk
theorem rk_dict {P : Program} {w : World} {h : Heap} {a : Addr} {o : Obj} {es : Array DictEntry} {n : Nat} {ds : List (PyData × PyData)} (h1 : h.get? a = some o) (h2 : o.cls = .type "dict") (h3 : o.data = .dict es n) (hsys : (a == sysModules) = false)
    (q1 : Rks P w h (es.toList.map (·.key)) (ds.map (·.1))) (q2 : Rks P w h (es.toList.map (·.val)) (ds.map (·.2))) : Rk P w h (.ref a) (.dict ds) := by
  obtain ⟨as, bs, r1, hb1, hk1⟩ := q1.ex
  obtain ⟨cs, es', r2, hb2, hk2⟩ := q2.ex
  have rr : Reads h (.ref a) (.dict ds) (a :: as ++ cs) := .dict h1 h2 h3 r1 r2
  have hb : ReadAtMost h (PyData.depthKv ds) (bs ++ es') := (hb1.mono (PyData.depthAll_keys_le ds)).append (hb2.mono (PyData.depthAll_vals_le ds))
  have off : a ∉ bs ++ es' := not_mem_of_deeper rr (by simp only [PyData.depth]; omega) hb
  refine ⟨_, a :: (bs ++ es'), rr, ReadAtMost.cons rr (by simp only [PyData.depth]; omega) hb, ?_⟩
  simp only [PyData.depth, PyData.shown, PyData.shownKv_eq]
  refine ReprK.dict h1 h2 h3 hsys off (ReprEntriesK.of_two es.toList _ _ (hk1.more_le (fun b hb => List.mem_append_left _ hb) ?_) (hk2.more_le (fun b hb => List.mem_append_right _ hb) ?_))
  · exact PyData.depthAll_keys_le ds
  · exact PyData.depthAll_vals_le ds
theorem rk_key {P : Program} {w : World} {h : Heap} {k : Key} {v : Value} (e : (mixKind P w).is k v = true) (hs : (keyD k).showable = true) (hz : (keyD k).shown.length ≤ sizeLine) : Rk P w h v (keyD k) := by
  rcases keyIs_shape (k := k) (v := v) e with ⟨i, t, rfl, rfl⟩ | ⟨x, t, rfl, rfl⟩
  · exact rk_scal (.int i t) (by simp only [keyD, PyData.shown]; exact ReprIs.int t (by simpa [keyD, PyData.showable] using hs))
  · exact rk_scal (.str x t) (by simp only [keyD, PyData.shown]; exact ReprIs.str x t (by simpa only [keyD, PyData.shown] using hz))
mutual
theorem Dq.rk (I : Inv X pins σ H s) : ∀ (d : PyData) (v : V) (u : Value), Dq N X.K H v d → RelV v u → d.showable = true → d.shown.length ≤ sizeLine → Rk X.prog X.w s.heap u d
  | .none, _, _, h, r, _, _ => by
    cases h
    cases r
    exact rk_scal .none (by simp only [PyData.shown]; exact ReprIs.none)
  | .bool b, _, _, h, r, _, _ => by
    cases h
    cases r
    exact rk_scal (.bool b) (by simp only [PyData.shown]; exact ReprIs.bool b)
  | .int i, _, _, h, r, hs, _ => by
    cases h
    obtain ⟨t, rfl⟩ := r
    exact rk_scal (.int i t) (by simp only [PyData.shown]; exact ReprIs.int t (by simpa [PyData.showable] using hs))
  | .str x, _, _, h, r, _, hz => by
    cases h
    obtain ⟨t, rfl⟩ := r
    exact rk_scal (.str x t) (by simp only [PyData.shown]; exact ReprIs.str x t (by simpa only [PyData.shown] using hz))
  | .list ds, _, _, h, r, hs, hz => by
    cases h with
    | lst _ hq ha =>
      cases r
      have hz' : (listText (PyData.shownAll ds)).length ≤ sizeLine := by simpa only [PyData.shown] using hz
      obtain ⟨its, rv, ⟨o, n, ho, hc, _, hd⟩, _⟩ := I.list hq
      exact rk_list ho hc hd (Dq.rks I ds _ its ha rv (by simpa [PyData.showable] using hs) fun t ht => Nat.le_trans (listText_mem_le ht) hz')
  | .tuple ds, _, _, h, r, hs, hz => by
    cases h with
    | tup _ hq ha =>
      cases r
      have hz' : (tupleText (PyData.shownAll ds)).length ≤ sizeLine := by simpa only [PyData.shown] using hz
      obtain ⟨its, rv, ⟨o, ho, hc, n, hd⟩, _⟩ := I.tuple hq
      exact rk_tuple ho hc hd (Dq.rks I ds _ its ha rv (by simpa [PyData.showable] using hs) fun t ht => Nat.le_trans (tupleText_mem_le ht) hz')
  | .dict ds, _, _, h, r, hs, hz => by
    cases h with
    | dct _ hq ha =>
      cases r
      have hz' : (dictText (PyData.shownKv ds)).length ≤ sizeLine := by simpa only [PyData.shown] using hz
      obtain ⟨_, hsys, vs, rv, o, es, ep, ho, hx, hd, _, hp, _⟩ := dk_rd I.hok hq
      obtain ⟨q1, q2⟩ := Dq.rkv I ds _ vs es.toList ha rv hp (by simpa [PyData.showable] using hs) fun t ht => Nat.le_trans (dictText_mem_le ht) hz'
      exact rk_dict ho hx.1 hd hsys q1 q2
theorem Dq.rks (I : Inv X pins σ H s) : ∀ (ds : List PyData) (vs : List V) (us : List Value), DqAll N X.K H vs ds → Vals vs us → PyData.showableAll ds = true → (∀ t ∈ PyData.shownAll ds, t.length ≤ sizeLine) → Rks X.prog X.w s.heap us ds
  | [], _, _, h, r, _, _ => by
    cases h
    cases r
    exact Rks.nil
  | d :: ds, _, _, h, r, hs, hz => by
    cases h with
    | cons h1 h2 =>
      cases r with
      | cons r1 r2 =>
        have hs' : d.showable = true ∧ PyData.showableAll ds = true := by simpa [PyData.showableAll] using hs
        exact Rks.cons (Dq.rk I d _ _ h1 r1 hs'.1 (hz _ (by simp only [PyData.shownAll]; exact List.mem_cons_self ..))) (Dq.rks I ds _ _ h2 r2 hs'.2 fun t ht => hz t (by simp only [PyData.shownAll]; exact List.mem_cons_of_mem _ ht))
theorem Dq.rkv (I : Inv X pins σ H s) : ∀ (ds : List (PyData × PyData)) (kvs : List (Key × V)) (vs : List (Key × Value)) (es : List DictEntry), DqKv N X.K H kvs ds → KV kvs vs → Pairs (mixKind X.prog X.w) es vs → PyData.showableKv ds = true →
    (∀ t ∈ PyData.shownKv ds, t.length ≤ sizeLine) → Rks X.prog X.w s.heap (es.map (·.key)) (ds.map (·.1)) ∧ Rks X.prog X.w s.heap (es.map (·.val)) (ds.map (·.2))
  | [], _, _, _, h, r, p, _, _ => by
    cases h
    cases r
    cases p
    exact ⟨Rks.nil, Rks.nil⟩
  | (kd, d) :: ds, _, _, _, h, r, p, hs, hz => by
    cases h with
    | cons h1 h2 =>
      cases r with
      | cons r1 r2 =>
        cases p with
        | cons p1 p2 p3 =>
          rename_i k v kvs kv0 vs0 e0 es0
          obtain ⟨ek, rv⟩ := r1
          have hs' : ((keyD k).showable = true ∧ d.showable = true) ∧ PyData.showableKv ds = true := by simpa [PyData.showableKv] using hs
          have h0 := hz _ (by simp only [PyData.shownKv]; exact List.mem_cons_self ..)
          rw [strLen_append, strLen_append] at h0
          obtain ⟨q1, q2⟩ := Dq.rkv I ds _ _ _ h2 r2 p3 hs'.2 fun t ht => hz t (by simp only [PyData.shownKv]; exact List.mem_cons_of_mem _ ht)
          have ek' : k = kv0.1 := ek
          refine ⟨Rks.cons (rk_key (by rw [ek']; exact p1) hs'.1.1 (by omega)) q1, Rks.cons ?_ q2⟩
          show Rk _ _ _ e0.val d
          rw [p2]
          exact Dq.rk I d _ _ h1 rv hs'.1.2 (by omega)
end
end
section
variable {X : Cx}
/-- repr(x) -/
def rRepr (K : PySem.W.Frag) : List V → Hp → VK → Prop := fun xs H Q => ∃ v d, xs = [v] ∧ Dq anyA K H v d ∧ d.showable = true ∧ d.shown.length ≤ sizeLine ∧ d.depth ≤ 60 ∧ Q (.str d.shown) H
theorem call_reprG (hgd : X.A.guards = some []) (hu : X.A.units + 64 < cLine) : CallR X (.builtin "repr") (rRepr X.K) := by
  intro pins s σ H xs us Q I r h
  obtain ⟨v, d, rfl, hd, hs, hz, hdep, q⟩ := h
  obtain ⟨u, rfl, rv⟩ := vals1 r
  have back : ∀ (h' : Heap) (t : Tok) (tk : Nat), (∀ b o, s.heap.get? b = some o → h'.get? b = some o) → EP X pins σ Q (.str d.shown t) { s with heap := h', toks := tk } :=
    fun h' t tk k => ⟨.str d.shown, H, I.kept k, ⟨t, rfl⟩, q⟩
  cases hd with
  | non =>
    cases rv
    simp only [PyData.shown] at back
    exact call_repr_gives (typeIs_none s) F.slot_NoneType_repr F.entry_NoneType_repr (F.args_NoneType_repr_1 _) gives_none_repr (back s.heap _ _ fun _ _ e => e)
  | bl b =>
    cases rv
    simp only [PyData.shown] at back
    exact call_repr_gives (PySem.typeIs_bool s b) F.slot_bool_repr F.entry_bool_repr (F.args_bool_repr_1 _) (gives_bool_repr b) (back s.heap _ _ fun _ _ e => e)
  | int i =>
    obtain ⟨t, rfl⟩ := rv
    have hi : i.natAbs.log2 < 1920 := by simpa [PyData.showable] using hs
    simp only [PyData.shown] at back
    exact PySem.P.repr_of_int hi (back s.heap _ _ fun _ _ e => e)
  | str x =>
    obtain ⟨t, rfl⟩ := rv
    simp only [PyData.shown] at back hz
    exact call_repr_gives (typeIs_str s x t) F.slot_str_repr F.entry_str_repr (F.args_str_repr_1 _) (gives_str_repr x t) (back s.heap _ _ fun _ _ e => e) (hx := hz)
  | @lst a ys ds _ hq ha =>
    cases rv
    have hz' : (listText (PyData.shownAll ds)).length ≤ sizeLine := by simpa only [PyData.shown] using hz
    obtain ⟨its, rv, ⟨o, n, ho, hc, _, hdd⟩, _⟩ := I.list hq
    obtain ⟨as, bs, rr, hb, hk⟩ := (Dq.rks I ds _ its ha rv (by simpa [PyData.showable] using hs) fun t ht => Nat.le_trans (listText_mem_le ht) hz').ex
    have r1 : Reads s.heap (.ref a) (.list ds) (a :: as) := .list ho hc hdd rr
    have off : a ∉ bs := not_mem_of_deeper r1 (by simp only [PyData.depth]; omega) hb
    simp only [PyData.shown] at back
    simp only [PyData.depth] at hdep
    refine call_repr_slot (by omega) ⟨o, ho, hc⟩ F.slot_list_repr.toG ?_
    cases its with
    | nil =>
      cases rr
      simp only [PyData.shownAll, listText_nil] at back
      exact call_list_repr_empty ⟨o, ho, hc⟩ ho hdd ⟨_, _, rfl, back s.heap _ _ fun _ _ e => e⟩
    | cons y l =>
      exact call_list_reprK ho hc hdd off (by simpa using hk.length_eq) (fun i y e => hk.item i y (by simpa using e)) hgd (fun b _ => Clear.nil b) (by show X.A.units + 1 + _ < _; omega) (fun _ _ e => e) (fun h' t tk k => ⟨_, _, rfl, back h' t tk k⟩) hz'
  | @tup a ys ds _ hq ha =>
    cases rv
    have hz' : (tupleText (PyData.shownAll ds)).length ≤ sizeLine := by simpa only [PyData.shown] using hz
    obtain ⟨its, rv, ⟨o, ho, hc, n, hdd⟩, _⟩ := I.tuple hq
    obtain ⟨as, bs, rr, hb, hk⟩ := (Dq.rks I ds _ its ha rv (by simpa [PyData.showable] using hs) fun t ht => Nat.le_trans (tupleText_mem_le ht) hz').ex
    have r1 : Reads s.heap (.ref a) (.tuple ds) as := .tuple ho hc hdd rr
    have off : a ∉ bs := not_mem_of_deeper r1 (by simp only [PyData.depth]; omega) hb
    simp only [PyData.shown] at back
    simp only [PyData.depth] at hdep
    refine call_repr_slot (by omega) ⟨o, ho, hc⟩ F.slot_tuple_repr ?_
    exact call_tuple_reprK ho hc hdd off hk hgd (fun b _ => Clear.nil b) (by show X.A.units + 1 + _ < _; omega) (fun _ _ e => e) (fun h' t tk k => ⟨_, _, rfl, back h' t tk k⟩) hz'
  | @dct a kvs ds _ hq ha =>
    cases rv
    have hz' : (dictText (PyData.shownKv ds)).length ≤ sizeLine := by simpa only [PyData.shown] using hz
    obtain ⟨_, hsys, vs, rv, o, es, ep, ho, hx, hdd, _, hp, _⟩ := dk_rd I.hok hq
    obtain ⟨q1, q2⟩ := Dq.rkv I ds _ vs es.toList ha rv hp (by simpa [PyData.showable] using hs) fun t ht => Nat.le_trans (dictText_mem_le ht) hz'
    obtain ⟨as, bs, rr1, hb1, hk1⟩ := q1.ex
    obtain ⟨cs, es', rr2, hb2, hk2⟩ := q2.ex
    have r1 : Reads s.heap (.ref a) (.dict ds) (a :: as ++ cs) := .dict ho hx.1 hdd rr1 rr2
    have hb : ReadAtMost s.heap (PyData.depthKv ds) (bs ++ es') := (hb1.mono (PyData.depthAll_keys_le ds)).append (hb2.mono (PyData.depthAll_vals_le ds))
    have off : a ∉ bs ++ es' := not_mem_of_deeper r1 (by simp only [PyData.depth]; omega) hb
    simp only [PyData.shown, PyData.shownKv_eq] at back
    simp only [PyData.depth] at hdep
    refine call_repr_slot (by omega) ⟨o, ho, hx.1⟩ F.slot_dict_repr ?_
    exact call_dict_reprK ho hx.1 hdd hsys off (ReprEntriesK.of_two es.toList _ _ (hk1.more_le (fun b hb => List.mem_append_left _ hb) (PyData.depthAll_keys_le ds)) (hk2.more_le (fun b hb => List.mem_append_right _ hb) (PyData.depthAll_vals_le ds)))
      hgd (fun b _ => Clear.nil b) (by show X.A.units + 1 + _ < _; omega) (fun _ _ e => e) (fun h' t tk k => ⟨_, _, rfl, back h' t tk k⟩) (by rw [← PyData.shownKv_eq]; exact hz')
end
end Wd

set_option Elab.async false
set_option linter.all false
set_option maxRecDepth 100000
set_option maxHeartbeats 4000000
namespace Wd
open PySem PySem.Spec PyProof.Rows L2
def topS (i : Nat) : Stmt := PySem.Challenge.pw_weighdoors_k69_ways_and_goals_by_other_n.main.body.getD i (.Pass ⟨0, 0, 0, 0⟩)
structure CA where

/-! ### what the top has written -/
section
variable (P : Program) (w : World) (K : PySem.W.Frag) (mg : Str → Option Value) (base : Heap)
structure Txt (c : CA) : Prop where
  b_len : mg "len" = none
  b_abs : mg "abs" = none
  b_list : mg "list" = none
  b_range : mg "range" = none
  b_min : mg "min" = none
  b_max : mg "max" = none
  b_sum : mg "sum" = none
  b_sorted : mg "sorted" = none
  b_tuple : mg "tuple" = none
  b_int : mg "int" = none
  b_str : mg "str" = none
  b_isinstance : mg "isinstance" = none
  b_repr : mg "repr" = none
  b_dict : mg "dict" = none
  b_zip : mg "zip" = none
  b_KeyError : mg "KeyError" = none
  u_ : (P, w, K, base) = (P, w, K, base) := rfl
end
abbrev s__law_pen : Stmt := topS 13
theorem sc__law_pen : FnScope ["script"] ["script"] (C8.fnScope s__law_pen) := ⟨rfl, rfl, rfl, by decide +kernel, rfl, by decide +kernel, by decide +kernel⟩
abbrev s__law_draw : Stmt := topS 14
theorem sc__law_draw : FnScope ["pen", "many", "digit", "turn", "cell", "primes", "prime", "drawn"] ["pen", "many"] (C8.fnScope s__law_draw) := ⟨rfl, rfl, rfl, by decide +kernel, rfl, by decide +kernel, by decide +kernel⟩
abbrev s__law_pick : Stmt := topS 15
theorem sc__law_pick : FnScope ["pen", "some"] ["pen", "some"] (C8.fnScope s__law_pick) := ⟨rfl, rfl, rfl, by decide +kernel, rfl, by decide +kernel, by decide +kernel⟩
/-! ### the pen: n is at least the number of turns so far -/
def penK (c : Addr) (t r : Int) : HO := .dK [(.inr "cells", .ref c), (.inr "turn", .int t), (.inr "rest", .int r)]
def Pen (K : PySem.W.Frag) (H : Hp) (p : Addr) (q : Addr × List Int) (n : Nat) : Prop := ∃ t r : Int, H p = some (penK q.1 t r) ∧ SqL K H q.1 (q.2.map V.int) ∧ q.1 ≠ p ∧ q.2.length ≤ 63 ∧ 0 ≤ t ∧ t ≤ n ∧ 0 ≤ r
theorem pen_cells {H : Hp} {p c : Addr} {t r : Int} (h : H p = some (penK c t r)) : DGet H p (.str "cells") (some (.ref c)) := DGet.k (k := .inr "cells") h
theorem pen_turn {H : Hp} {p c : Addr} {t r : Int} (h : H p = some (penK c t r)) : DGet H p (.str "turn") (some (.int t)) := DGet.k (k := .inr "turn") h
theorem pen_rest {H : Hp} {p c : Addr} {t r : Int} (h : H p = some (penK c t r)) : DGet H p (.str "rest") (some (.int r)) := DGet.k (k := .inr "rest") h
theorem pen_putT {H : Hp} {p c : Addr} {t r : Int} (t' : Int) (h : H p = some (penK c t r)) : DPut H p (.str "turn") (.int t') (upd H p (penK c t' r)) := DPut.k (k := .inr "turn") h (by show 3 < sizeLine; decide)
theorem pen_putR {H : Hp} {p c : Addr} {t r : Int} (r' : Int) (h : H p = some (penK c t r)) : DPut H p (.str "rest") (.int r') (upd H p (penK c t r')) := DPut.k (k := .inr "rest") h (by show 3 < sizeLine; decide)
theorem seqL_upd {K : PySem.W.Frag} {H : Hp} {p c : Addr} {o o' : HO} {xs : List V} (ho : H p = some o) (nl : ∀ ys, o ≠ .lst ys) (nf : ∀ u y, o ≠ .frz u y) (h : SqL K H c xs) : SqL K (upd H p o') c xs := by
  rcases h with (h | ⟨u, h⟩) | h
  · exact .inl (.inl (by rw [upd_ne (fun e => by rw [e, ho] at h; exact nl _ (Option.some.inj h))]; exact h))
  · exact .inl (.inr ⟨u, by rw [upd_ne (fun e => by rw [e, ho] at h; exact nf _ _ (Option.some.inj h))]; exact h⟩)
  · exact .inr h
theorem pow60 {m : Int} (h0 : 0 < m) (h : m < 2 ^ 60) (i : Int) : CDivW i m := wide_div h0 (b := 60) (by omega) (by decide) (by decide)
theorem at_in {α : Type} {xs : List α} {i : Int} {j : Nat} {v : α} (e : i = j) (h : xs[j]? = some v) : atI xs i = some v := by subst e; exact atI_nat h
theorem atI_in {xs : List V} {i : Int} {j : Nat} {v : V} (e : i = j) (h : xs[j]? = some v) : atI xs i = some v := by subst e; exact atI_nat h
theorem seq_new {K : PySem.W.Frag} {H : Hp} {l c : Addr} {o : HO} {xs : List V} (n : H l = none) (h : SqL K H c xs) : SqL K (upd H l o) c xs :=
  Same.seq (fun b u e => by rw [upd_ne (ne_of_none e n)]; exact e) h
theorem dp_ints {K : PySem.W.Frag} {H : Hp} : ∀ L : List Int, DpAll K H (L.map V.int) (L.map PyData.int)
  | [] => .nil
  | x :: r => .cons (.int x) (dp_ints r)
theorem lay_ints : ∀ L : List Int, PyData.canLayAll0 (L.map PyData.int) = true
  | [] => by simp [PyData.canLayAll0]
  | x :: r => by simp [PyData.canLayAll0, PyData.canLay0, lay_ints r]
theorem depth_ints : ∀ L : List Int, PyData.depthAll (L.map PyData.int) ≤ 0
  | [] => by simp [PyData.depthAll]
  | x :: r => by
    have h := depth_ints r
    simp only [List.map_cons, PyData.depthAll, PyData.depth]
    omega
theorem shaped_ints (L : List Int) : SeqAt.shaped (.list (L.map PyData.int)) = true := by
  have h := depth_ints L
  show (PyData.canLay0 _ && decide _) = true
  rw [Bool.and_eq_true]
  exact ⟨by simp only [PyData.canLay0]; exact lay_ints L, decide_eq_true (by simp only [PyData.depth]; omega)⟩
theorem eqv_ints_nil (L : List Int) : (!PyData.eqv (.list (L.map PyData.int)) (.list [])) = !L.isEmpty := by
  cases L <;> simp [PyData.eqv, PyData.eqvAll]
theorem cut63 {xs : List V} (h : xs.length ≤ 63) : cutV xs none (some 63) = xs := by
  unfold cutV
  rw [show HT.sIx xs.length xs.length (some 63) = min 63 xs.length from HT.sIx_nat xs.length xs.length 63, HT.sIx_none]
  rw [show min 63 xs.length = xs.length by omega]
  simp
def primesL : List Int := [2147483647, 2147483629, 2147483587, 2147483579, 2147483563]
theorem primes_at (t : Int) : ∃ p : Int, atI (primesL.map V.int) (t % 5) = some (.int p) ∧ 2147483563 ≤ p ∧ p ≤ 2147483647 := by
  have h0 := Int.emod_nonneg t (show (5 : Int) ≠ 0 by decide)
  have h1 := Int.emod_lt_of_pos t (show (0 : Int) < 5 by decide)
  generalize t % 5 = i at h0 h1
  have h : i = 0 ∨ i = 1 ∨ i = 2 ∨ i = 3 ∨ i = 4 := by omega
  rcases h with rfl | rfl | rfl | rfl | rfl <;> exact ⟨_, rfl, by decide, by decide⟩
theorem Pen.same {K : PySem.W.Frag} {H H' : Hp} {p : Addr} {q : Addr × List Int} {n : Nat} (hp : Pen K H p q n) (s : Same H H') : Pen K H' p q n := by
  obtain ⟨t, r, h1, h2, h3⟩ := hp
  exact ⟨t, r, s _ _ h1, s.seq h2, h3⟩
theorem Pen.off {K : PySem.W.Frag} {H : Hp} {p l : Addr} {q : Addr × List Int} {n : Nat} (hp : Pen K H p q n) (n' : H l = none) : l ≠ p := by
  obtain ⟨t, r, h1, h2⟩ := hp
  intro e
  rw [e, h1] at n'
  cases n'
/-- what was free when the pen was made is written -/
theorem Pen.wr {K : PySem.W.Frag} {H G : Hp} {p l : Addr} {q : Addr × List Int} {m n : Nat} {u : HO} (hg : Pen K G p q n) (hp : Pen K H p q m) (nl : H l = none) : Pen K (upd G l u) p q n := by
  have ne := hp.off nl
  obtain ⟨t, r, h1, h2, h3⟩ := hg
  obtain ⟨t', r', g1, g2, g3⟩ := hp
  refine ⟨t, r, by rw [upd_ne ne.symm]; exact h1, ?_, h3⟩
  rcases g2 with (g2 | ⟨z, g2⟩) | g2
  · have nc : q.1 ≠ l := fun e => by rw [e, nl] at g2; cases g2
    rcases h2 with (h2 | ⟨z, h2⟩) | h2
    · exact .inl (.inl (by rw [upd_ne nc]; exact h2))
    · exact .inl (.inr ⟨z, by rw [upd_ne nc]; exact h2⟩)
    · exact .inr h2
  · have nc : q.1 ≠ l := fun e => by rw [e, nl] at g2; cases g2
    rcases h2 with (h2 | ⟨z, h2⟩) | h2
    · exact .inl (.inl (by rw [upd_ne nc]; exact h2))
    · exact .inl (.inr ⟨z, by rw [upd_ne nc]; exact h2⟩)
    · exact .inr h2
  · exact .inr g2
section
variable {P : Program} {w : World} {K : PySem.W.Frag} {mg : Str → Option Value} {base : Heap}
def spDraw (K : PySem.W.Frag) : Sp := fun vs H Q _ => ∃ (p : Addr) (qc : Addr × List Int) (m : Int) (n : Nat), vs = [.ref p, .int m] ∧ Pen K H p qc n ∧ n < 1000000 ∧ 0 < m ∧ m < 2 ^ 60 ∧
  ∀ (d : Int) (H' : Hp), 0 ≤ d → d < m → Kp p H H' → Pen K H' p qc (n + 1) → Q (.int d) H'
theorem c_draw {c : CA} (T : Txt P w K mg base c) {f : Addr} {fd : FuncData} (F : C8.Def K mg "_law_draw" s__law_draw f fd) (b : Binds K fd ["pen", "many"] []) : C8.Cal P w K mg base 1 "_law_draw" (spDraw K) [] := by
  refine C8.cal0 F b .nil sc__law_draw (fun vs H Q E h => ?_) (fun cdv A outer s H vs Q E hr h => ?_)
  · obtain ⟨p, qc, m, n, rfl, _⟩ := h
    rfl
  · obtain ⟨p, ⟨c, L⟩, m, n, rfl, hp, hn, hm, hm2, q⟩ := h
    have hu := hu_of hr
    have hu6 := hu64 hr
    refine ⟨_, (pss_cons (ps_if (pt_cmpR (op_gt) (pe_dget hu (pv 0) pe_str (fun _ _ => rfl)) pe_int (nomark _)) (pss_cons (ps_set (i := 2) sc__law_draw.nd rfl (.inl rfl) (pe_op (op_mod) (pe_dget hu (pv 0) pe_str (fun _ _ => rfl)) (pv 1)))
  (pss_cons (ps_dput hu (pv 0) pe_str (pe_op (op_fdivW) (pe_dget hu (pv 0) pe_str (fun _ _ => rfl)) (pv 1)) rfl)
  (pss_one (ps_ret (pv 2))))) pss_nil)
  (pss_cons (ps_set (i := 3) sc__law_draw.nd rfl (.inl rfl) (pe_dget hu (pv 0) pe_str (fun _ _ => rfl)))
  (pss_cons (ps_dput hu (pv 0) pe_str (pe_op (op_addG (K := K)) (pv 3) pe_int) rfl)
  (pss_cons (ps_set (i := 4) sc__law_draw.nd rfl (.inl rfl) (pe_op (op_addG (K := K)) (pe_op (op_mulG (K := K)) pe_int (pv 3)) pe_int))
  (C8.pss_cut (ps_if (pt_cmpR (op_neX (K := K) hu6) (pe_dget hu (pv 0) pe_str (fun _ _ => rfl)) (pe_lst pa_nil) (nomark _)) (pss_one (ps_set (i := 4) sc__law_draw.nd rfl (.inl rfl) (pe_ix (ixG (K := K)) (pe_dget hu (pv 0) pe_str (fun _ _ => rfl)) (pe_op (op_mod) (pv 3) (pe_callB (call_lenG (K := K)) (by rfl) T.b_len bt_len (pa_cons (pe_dget hu (pv 0) pe_str (fun _ _ => rfl)) pa_nil))) (fun _ _ => rfl)))) pss_nil)
  (C8.pss_cut (ps_if (PW.pt (pw_and (pt_cmpR (op_lt) (pv 3) (pe_callB (call_lenG (K := K)) (by rfl) T.b_len bt_len (pa_cons (pe_dget hu (pv 0) pe_str (fun _ _ => rfl)) pa_nil)) (nomark _)) (pw_and1 (pt_cmpR (op_ge) (pe_callB (call_abs) (by rfl) T.b_abs bt_abs (pa_cons (pv 4) pa_nil)) (pe_op (op_pow) pe_int pe_int) (nomark _))))) (pss_cons (ps_dput hu (pv 0) pe_str (pe_op (op_fdivW) (pe_op (op_sub) (pe_callB (call_abs) (by rfl) T.b_abs bt_abs (pa_cons (pv 4) pa_nil)) (pe_op (op_pow) pe_int pe_int)) (pv 1)) rfl)
  (pss_one (ps_ret (pe_op (op_mod) (pe_op (op_sub) (pe_callB (call_abs) (by rfl) T.b_abs bt_abs (pa_cons (pv 4) pa_nil)) (pe_op (op_pow) pe_int pe_int)) (pv 1))))) pss_nil)
  (pss_cons (ps_set (i := 5) sc__law_draw.nd rfl (.inl rfl) (pe_lst (pa_cons pe_int (pa_cons pe_int (pa_cons pe_int (pa_cons pe_int (pa_cons pe_int pa_nil)))))))
  (pss_cons (ps_set (i := 6) sc__law_draw.nd rfl (.inl rfl) (pe_ix (ixG (K := K)) (pv 5) (pe_op (op_mod) (pv 3) pe_int) (fun _ _ => rfl)))
  (pss_cons (ps_set (i := 7) sc__law_draw.nd rfl (.inl rfl) (pe_op (op_mod) (pe_op (op_addG (K := K)) (pe_op (op_addG (K := K)) (pe_op (op_mulG (K := K)) (pe_op (op_mod) (pv 4) (pv 6)) pe_int) (pe_op (op_mulG (K := K)) (pe_op (op_mulG (K := K)) pe_int (pv 3)) (pv 3))) pe_int) (pv 6)))
  (pss_cons (ps_set (i := 7) sc__law_draw.nd rfl (.inl rfl) (pe_op (op_mod) (pe_op (op_mulG (K := K)) (pv 7) (pe_op (op_addG (K := K)) (pv 7) pe_int)) (pe_ix (ixG (K := K)) (pv 5) (pe_op (op_mod) (pe_op (op_addG (K := K)) (pv 3) pe_int) pe_int) (fun _ _ => rfl))))
  (pss_one (ps_ret (pe_op (op_mod) (pe_op (op_fdivW) (pe_op (op_mod) (pe_op (op_mulG (K := K)) (pv 7) (pv 7)) pe_int) pe_int) (pv 1)))))))))))))), ?_⟩
    obtain ⟨t, r, hH, hc, hcp, hL, ht0, htn, hr0⟩ := hp
    dsimp only at hH hc hcp hL
    refine ⟨.ref p, rfl, p, .int r, rfl, pen_rest hH, r, 0, rfl, rfl, _, rfl, ite2 (fun e => ?_) (fun e => ?_)⟩
    · -- a great cell's next digit
      refine ⟨.ref p, rfl, p, .int r, rfl, pen_rest hH, .int m, rfl, r, m, rfl, rfl, hm, ?_⟩
      refine ⟨.ref p, rfl, p, .int r, rfl, pen_rest hH, .int m, rfl, r, m, rfl, rfl, pow60 hm hm2 r, .ref p, rfl, p, _, rfl, pen_putR _ hH, _, rfl, ?_⟩
      exact q _ _ (Int.emod_nonneg _ (by omega)) (Int.emod_lt_of_pos _ hm) (Kp.at (Kp.refl _ _)) ⟨t, r / m, upd_same, seqL_upd hH (fun _ z => by cases z) (fun _ _ z => by cases z) hc, hcp, hL, ht0, by omega, Int.ediv_nonneg hr0 (by omega)⟩
    -- the turn
    refine ⟨.ref p, rfl, p, .int t, rfl, pen_turn hH, ?_⟩
    refine ⟨.int t, rfl, .ref p, rfl, p, _, rfl, pen_putT _ hH, ?_⟩
    have k1 : Kp p H (upd H p (penK c (t + 1) r)) := Kp.at (Kp.refl _ _)
    have h1 : (upd H p (penK c (t + 1) r)) p = some (penK c (t + 1) r) := upd_same
    have c1 : SqL K (upd H p (penK c (t + 1) r)) c (L.map V.int) := seqL_upd hH (fun _ z => by cases z) (fun _ _ z => by cases z) hc
    generalize upd H p (penK c (t + 1) r) = H1 at k1 h1 c1 ⊢
    refine ⟨.int t, rfl, .inl ⟨by decide, by decide⟩, ?_⟩
    -- if pen['cells'] != []
    refine ⟨fun σ H' => ∃ (x : Int) (d5 d6 d7 d8 : Option V), σ = [some (.ref p), some (.int m), d5, some (.int t), some (.int x), d6, d7, d8] ∧ Kp p H H' ∧ H' p = some (penK c (t + 1) r) ∧ SqL K H' c (L.map V.int), ?_, ?_⟩
    · refine ⟨.ref p, rfl, p, .ref c, rfl, pen_cells h1, Nat.zero_le _, fun l nl => ?_⟩
      have k2 := k1.new nl (o := .lst [])
      have h2 : (upd H1 l (.lst [])) p = some (penK c (t + 1) r) := by rw [upd_ne (ne_of_none h1 nl)]; exact h1
      have c2 : SqL K (upd H1 l (.lst [])) c (L.map V.int) := seq_new nl c1
      have e2 : SqL K (upd H1 l (.lst [])) l [] := .inl (.inl upd_same)
      generalize upd H1 l (.lst []) = H2 at k2 h2 c2 e2 ⊢
      refine .inr ⟨_, _, .lst c2 (dp_ints L), .lst e2 .nil, shaped_ints L, by decide, _, rfl, ?_⟩
      rw [eqv_ints_nil]
      cases hLe : L with
      | nil => exact iteF ⟨_, _, _, _, _, rfl, k2, h2, hLe ▸ c2⟩
      | cons z zs =>
        refine iteT ?_
        rw [← hLe]
        have hlen : 0 < L.length := by rw [hLe]; simp
        have hlt : (t % (L.length : Int)).toNat < L.length := by
          have a1 := Int.emod_nonneg t (show (L.length : Int) ≠ 0 by omega)
          have a2 := Int.emod_lt_of_pos t (show (0 : Int) < L.length by omega)
          omega
        refine ⟨.ref p, rfl, p, .ref c, rfl, pen_cells h2, .int t, rfl, .ref p, rfl, p, .ref c, rfl, pen_cells h2, .inl ⟨_, .inl c2, t, _, rfl, rfl, ?_, .inl ⟨c, L.map V.int, _, .int L[(t % (L.length : Int)).toNat], rfl, rfl, c2, ?_, ?_⟩⟩⟩
        · show (0 : Int) < ((L.map V.int).length : Int)
          rw [List.length_map]; omega
        · refine atI_in (j := (t % (L.length : Int)).toNat) ?_ ?_
          · rw [List.length_map, Int.toNat_of_nonneg (Int.emod_nonneg _ (by omega))]
          · rw [List.getElem?_map, List.getElem?_eq_getElem hlt]; rfl
        · exact ⟨_, _, _, _, _, rfl, k2, h2, c2⟩
    · rintro σ' H2 ⟨x, d5, d6, d7, d8, rfl, k2, h2, c2⟩
      -- a great cell
      refine ⟨fun σ H' => σ = [some (.ref p), some (.int m), d5, some (.int t), some (.int x), d6, d7, d8] ∧ H' = H2, ?_, ?_⟩
      · refine ⟨.int t, rfl, .ref p, rfl, p, .ref c, rfl, pen_cells h2, .inl ⟨_, .inl c2, t, _, rfl, rfl, _, rfl, ite2 (fun e1 => ?_) (fun e1 => iteF ⟨rfl, rfl⟩)⟩⟩
        refine ⟨.int x, rfl, x, rfl, 10, 18, rfl, rfl, ⟨by decide, by decide, by decide⟩, _, _, rfl, rfl, _, rfl, ite2 (fun e2 => ?_) (fun e2 => ⟨rfl, rfl⟩)⟩
        have e3 := of_decide_eq_true e2
        refine ⟨.int x, rfl, x, rfl, 10, 18, rfl, rfl, ⟨by decide, by decide, by decide⟩, _, _, rfl, rfl, .int m, rfl, _, m, rfl, rfl, pow60 hm hm2 _, .ref p, rfl, p, _, rfl, pen_putR _ h2, ?_⟩
        refine ⟨.int x, rfl, x, rfl, 10, 18, rfl, rfl, ⟨by decide, by decide, by decide⟩, _, _, rfl, rfl, .int m, rfl, _, m, rfl, rfl, hm, ?_⟩
        exact q _ _ (Int.emod_nonneg _ (by omega)) (Int.emod_lt_of_pos _ hm) k2.at ⟨t + 1, _, upd_same, seqL_upd h2 (fun _ z => by cases z) (fun _ _ z => by cases z) c2, hcp, hL, by omega, by omega, Int.ediv_nonneg (by omega) (by omega)⟩
      · rintro σ3 H3 ⟨rfl, rfl⟩
        -- a mixed one
        refine ⟨(by show 5 ≤ sizeLine; decide), fun l nl => ?_⟩
        have k3 := k2.new nl (o := .lst (primesL.map V.int))
        have h3 : (upd H3 l (.lst (primesL.map V.int))) p = some (penK c (t + 1) r) := by rw [upd_ne (ne_of_none h2 nl)]; exact h2
        have c3 : SqL K (upd H3 l (.lst (primesL.map V.int))) c (L.map V.int) := seq_new nl c2
        have e3 : SqL K (upd H3 l (.lst (primesL.map V.int))) l (primesL.map V.int) := .inl (.inl upd_same)
        show _
        obtain ⟨p1, g1, g2, g3⟩ := primes_at t
        obtain ⟨p2, f1, f2, f3⟩ := primes_at (t + 3)
        refine ⟨.ref l, rfl, .int t, rfl, t, 5, rfl, rfl, (by show (0 : Int) < 5; decide), .inl ⟨l, _, _, _, rfl, rfl, e3, g1, ?_⟩⟩
        have a0 := Int.emod_nonneg x (show p1 ≠ 0 by omega)
        have a1 := Int.emod_lt_of_pos x (show 0 < p1 by omega)
        refine ⟨.int x, rfl, .int p1, rfl, x, p1, rfl, rfl, by omega, .inr ⟨by decide, by decide⟩, .int t, rfl, .inl ⟨by decide, by decide⟩, .int t, rfl, .inr ⟨by omega, by omega⟩, .int p1, rfl, _, p1, rfl, rfl, by omega, ?_⟩
        generalize (x % p1 * 69621 + 40692 * t * t + 11) = y1
        have b0 := Int.emod_nonneg y1 (show p1 ≠ 0 by omega)
        have b1 := Int.emod_lt_of_pos y1 (show 0 < p1 by omega)
        refine ⟨.int (y1 % p1), rfl, .int (y1 % p1), rfl, .inl ⟨by omega, by omega⟩, .ref l, rfl, .int t, rfl, t + 3, 5, rfl, rfl, (by show (0 : Int) < 5; decide), .inl ⟨l, _, _, _, rfl, rfl, e3, f1, _, p2, rfl, rfl, by omega, ?_⟩⟩
        have d0 := Int.emod_nonneg (y1 % p1 * (y1 % p1 + 48271)) (show p2 ≠ 0 by omega)
        have d1 := Int.emod_lt_of_pos (y1 % p1 * (y1 % p1 + 48271)) (show 0 < p2 by omega)
        refine ⟨.int (y1 % p1 * (y1 % p1 + 48271) % p2), rfl, .int (y1 % p1 * (y1 % p1 + 48271) % p2), rfl, .inl ⟨by omega, by omega⟩, _, 2147483549, rfl, rfl, (by show (0 : Int) < 2147483549; decide), _, 64, rfl, rfl, wide_div (b := 7) (by decide) (by decide) (by decide) (by decide), .int m, rfl, _, m, rfl, rfl, hm, ?_⟩
        exact q _ _ (Int.emod_nonneg _ (by omega)) (Int.emod_lt_of_pos _ hm) k3 ⟨t + 1, r, h3, c3, hcp, hL, by omega, by omega, hr0⟩
/-- what is picked of: a list, a tuple, a text -/
def PickOf (K : PySem.W.Frag) (H : Hp) (p : Addr) (sv : V) (xs : List V) : Prop := (∃ a, sv = .ref a ∧ a ≠ p ∧ (SqL K H a xs ∨ SqT K H a xs)) ∨ ∃ z : Str, sv = .str z ∧ z.length ≤ sizeLine ∧ xs = z.cps.toList.map fun o => V.str ⟨#[o]⟩
def spPick (K : PySem.W.Frag) : Sp := fun vs H Q _ => ∃ (p : Addr) (sv : V) (qc : Addr × List Int) (n : Nat) (xs : List V), vs = [.ref p, sv] ∧ Pen K H p qc n ∧ n < 1000000 ∧ PickOf K H p sv xs ∧ 0 < xs.length ∧ xs.length < 1000000 ∧
  ∀ (v : V) (H' : Hp), v ∈ xs → Kp p H H' → Pen K H' p qc (n + 1) → Q v H'
theorem c_pick {c : CA} (T : Txt P w K mg base c) (c_law_draw : C8.Cal P w K mg base 1 "_law_draw" (spDraw K) []) {f : Addr} {fd : FuncData} (F : C8.Def K mg "_law_pick" s__law_pick f fd) (b : Binds K fd ["pen", "some"] []) : C8.Cal P w K mg base 2 "_law_pick" (spPick K) [] := by
  refine C8.cal0 F b .nil sc__law_pick (fun vs H Q E h => ?_) (fun cdv A outer s H vs Q E hr h => ?_)
  · obtain ⟨p, sv, qc, n, xs, rfl, _⟩ := h
    rfl
  · obtain ⟨p, sv, qc, n, xs, rfl, hp, hn, hs, h0, h1, q⟩ := h
    have hu := hu_of hr
    have hu6 := hu64 hr
    refine ⟨_, (pss_one (ps_ret (pe_ix (ixG (K := K)) (pv 1) (C8.pe_c c_law_draw hr (by decide) (by rfl) (pa_cons (pv 0) (pa_cons (pe_callB (call_lenG (K := K)) (by rfl) T.b_len bt_len (pa_cons (pv 1) pa_nil)) pa_nil))) (fun _ _ => rfl)))), ?_⟩
    rcases hs with ⟨a, rfl, hap, hs⟩ | ⟨z, rfl, hz, rfl⟩
    · refine ⟨.ref a, rfl, .ref p, rfl, .ref a, rfl, .inl ⟨xs, hs, ?_⟩⟩
      refine ⟨p, qc, _, n, rfl, hp, hn, by omega, by omega, fun d H' d0 d1 k hp' => ?_⟩
      have hlt : d.toNat < xs.length := by omega
      have hat : atI xs d = some xs[d.toNat] := atI_in (by omega) (List.getElem?_eq_getElem hlt)
      rcases hs with hs | hs
      · refine .inl ⟨a, xs, d, _, rfl, rfl, ?_, hat, q _ _ (List.getElem_mem hlt) k hp'⟩
        rcases hs with (h | ⟨u, h⟩) | h
        · exact .inl (.inl (k _ _ hap h))
        · exact .inl (.inr ⟨u, k _ _ hap h⟩)
        · exact .inr h
      · refine .inr (.inl ⟨a, xs, d, _, rfl, rfl, ?_, hat, q _ _ (List.getElem_mem hlt) k hp'⟩)
        rcases hs with (h | ⟨u, h⟩) | h
        · exact .inl (.inl (k _ _ hap h))
        · exact .inl (.inr ⟨u, k _ _ hap h⟩)
        · exact .inr h
    · rw [List.length_map, Array.length_toList] at h0 h1
      refine ⟨.str z, rfl, .ref p, rfl, .str z, rfl, hz, ?_⟩
      refine ⟨p, qc, _, n, rfl, hp, hn, by show (0 : Int) < z.cps.size; omega, by show (z.cps.size : Int) < 2 ^ 60; omega, fun d H' d0 d1 k hp' => ?_⟩
      have hlt : d.toNat < z.cps.toList.length := by rw [Array.length_toList]; have : d < z.cps.size := d1; omega
      exact .inr (.inr ⟨z, d, _, rfl, rfl, hz, at_in (j := d.toNat) (by omega) (List.getElem?_eq_getElem hlt), q _ _ (List.mem_map.mpr ⟨_, List.getElem_mem hlt, rfl⟩) k hp'⟩)
def spPen (K : PySem.W.Frag) : Sp := fun vs H Q _ => ∃ (a : Addr) (L : List Int), vs = [.ref a] ∧ SqL K H a (L.map V.int) ∧ L.length ≤ 63 ∧
  ∀ (p : Addr) (qc : Addr × List Int) (H' : Hp), H p = none → Same H H' → Pen K H' p qc 0 → Q (.ref p) H'
theorem c_pen {c : CA} (T : Txt P w K mg base c) {f : Addr} {fd : FuncData} (F : C8.Def K mg "_law_pen" s__law_pen f fd) (b : Binds K fd ["script"] []) : C8.Cal P w K mg base 1 "_law_pen" (spPen K) [] := by
  refine C8.cal0 F b .nil sc__law_pen (fun vs H Q E h => ?_) (fun cdv A outer s H vs Q E hr h => ?_)
  · obtain ⟨a, L, rfl, _⟩ := h
    rfl
  · obtain ⟨a, L, rfl, hs, hl, q⟩ := h
    have hu := hu_of hr
    have hu6 := hu64 hr
    refine ⟨_, (pss_one (ps_ret (pe_disp (pps_cons pe_str (pe_callTy (call_list_of) (by rfl) T.b_list bt_list (pa_cons (pe_slice (sl_any (K := K)) (pv 0) po_none (po_some pe_int)) pa_nil)) (pps_cons pe_str pe_int (pps_cons pe_str pe_int pps_nil))) rfl rfl (by simp) (by decide)))), ?_⟩
    intro p np
    have s1 : Same H (upd H p (.dK [])) := fun b o e => by rw [upd_ne (ne_of_none e np)]; exact e
    -- the cells: a copy of the script
    refine ⟨.ref a, rfl, 63, rfl, .inl ⟨a, L.map V.int, rfl, s1.seq hs, fun l1 n1 => ?_⟩⟩
    rw [cut63 (by rw [List.length_map]; exact hl)]
    have s2 : Same (upd H p (.dK [])) (upd (upd H p (.dK [])) l1 (.lst (L.map V.int))) := fun b o e => by rw [upd_ne (ne_of_none e n1)]; exact e
    refine ⟨l1, L.map V.int, rfl, .inl (.inl (.inl upd_same)), fun l2 n2 => ?_⟩
    have s3 : Same (upd (upd H p (.dK [])) l1 (.lst (L.map V.int))) (upd (upd (upd H p (.dK [])) l1 (.lst (L.map V.int))) l2 (.lst (L.map V.int))) := fun b o e => by rw [upd_ne (ne_of_none e n2)]; exact e
    have hp3 : (upd (upd (upd H p (.dK [])) l1 (.lst (L.map V.int))) l2 (.lst (L.map V.int))) p = some (.dK []) := s3 _ _ (s2 _ _ upd_same)
    have hl2 : (upd (upd (upd H p (.dK [])) l1 (.lst (L.map V.int))) l2 (.lst (L.map V.int))) l2 = some (.lst (L.map V.int)) := upd_same
    have sA := s1.trans (s2.trans s3)
    generalize upd (upd (upd H p (.dK [])) l1 (.lst (L.map V.int))) l2 (.lst (L.map V.int)) = H3 at hp3 hl2 sA
    refine ⟨hp3, [(.inr "cells", .ref l2), (.inr "turn", .int 0), (.inr "rest", .int 0)], rfl, (by show 3 ≤ 15; decide), ?_⟩
    have ne : l2 ≠ p := ne_of hl2 hp3 (by intro z; cases z)
    refine q p (l2, L) _ np (fun b o e => ?_) ⟨0, 0, upd_same, .inl (.inl ?_), ne, hl, by decide, by decide, by decide⟩
    · rw [upd_ne (ne_of_none e np)]
      exact sA b o e
    · rw [upd_ne ne]
      exact hl2
end

end Wd

set_option Elab.async false
set_option linter.all false
set_option maxRecDepth 100000
set_option maxHeartbeats 4000000
/-! More rules by values: list(..) and tuple(..) of lists, tuples, dicts; data without dicts that may be compared. -/
namespace Wd
open PySem PySem.Spec PyProof.Rows L2
theorem same_mut {H H' : Hp} {p : Addr} {o : HO} (s : Same H H') (n : H p = none) : Same H (upd H' p o) := fun a u e => by
  rw [upd_ne (ne_of_none e n)]
  exact s a u e
theorem take_snoc {α : Type} {l : List α} {i : Nat} {x : α} (h : l[i]? = some x) : l.take (i + 1) = l.take i ++ [x] := by
  rw [List.take_add_one, h]
  rfl
theorem yes_if {σ : L2.St} {H : Hp} {A B : Bool → Hp → Prop} (h : A true H) : tYes σ H fun b H3 => if b = true then A b H3 else B b H3 := by
  show (if true = true then A true H else B true H)
  rw [if_pos rfl]
  exact h
def rListG (K : PySem.W.Frag) : List V → Hp → VK → Prop := fun xs H Q => ∃ p, xs = [.ref p] ∧ ((∃ ys, (SqL K H p ys ∨ SqT K H p ys) ∧ ∀ l, H l = none → Q (.ref l) (upd H l (.lst ys))) ∨
  ∃ kvs : List (Key × V), Rd H p (.dK kvs) ∧ ∀ l, H l = none → Q (.ref l) (upd H l (.lst (kvs.map fun kv => kV kv.1))))
theorem call_listG {X : Cx} {K : PySem.W.Frag} (hc : X.calm = true) (hK : X.K = K := by rfl) : CallR X (.type "list") (rListG K) := by
  subst hK
  intro pins s σ H xs us Q I r h
  obtain ⟨p, rfl, h⟩ := h
  rcases h with ⟨ys, h1, h2⟩ | ⟨kvs, h1, h2⟩
  · exact call_list_of pins s σ H _ us Q I r ⟨p, ys, rfl, h1, h2⟩
  · exact call_listD hc pins s σ H _ us Q I r ⟨p, kvs, rfl, h1, h2⟩
/-- may be compared -/
def Plain (d : PyData) : Prop := d.hasDict = false ∧ d.canLay0 = true ∧ d.depth ≤ 10
theorem plain_str {x : Str} (h : PyData.strOk x = true) : Plain (.str x) := ⟨rfl, by simp only [PyData.canLay0]; exact h, by simp only [PyData.depth]; omega⟩
theorem plain_int (i : Int) : Plain (.int i) := ⟨rfl, by simp only [PyData.canLay0], by simp only [PyData.depth]; omega⟩
theorem plain_none : Plain .none := ⟨rfl, by simp only [PyData.canLay0], by simp only [PyData.depth]; omega⟩
theorem plain_all {N : Addr → Prop} {K : PySem.W.Frag} {H : Hp} : ∀ {ys : List V}, (∀ y ∈ ys, ∃ d, Dq N K H y d ∧ Plain d) →
    ∃ ds, DpAll K H ys ds ∧ PyData.canLayAll0 ds = true ∧ PyData.depthAll ds ≤ 10 ∧ ds.length = ys.length
  | [], _ => ⟨[], .nil, by simp only [PyData.canLayAll0], by simp only [PyData.depthAll]; omega, rfl⟩
  | y :: ys, h => by
    obtain ⟨d, h1, h2, h3, h4⟩ := h y List.mem_cons_self
    obtain ⟨ds, g1, g2, g3, g4⟩ := plain_all (ys := ys) fun z hz => h z (List.mem_cons_of_mem _ hz)
    exact ⟨d :: ds, .cons (Dq.dp d y h2 h1) g1, by simp only [PyData.canLayAll0, h3, g2, Bool.and_self], by simp only [PyData.depthAll]; omega, by simp only [List.length_cons, g4]⟩
theorem shaped_list {ds : List PyData} (h : PyData.canLayAll0 ds = true) (h2 : PyData.depthAll ds ≤ 10) : SeqAt.shaped (.list ds) = true := by
  show (PyData.canLay0 _ && decide _) = true
  rw [Bool.and_eq_true]
  exact ⟨by simp only [PyData.canLay0]; exact h, decide_eq_true (by simp only [PyData.depth]; omega)⟩
theorem eqv_nil (ds : List PyData) : (!PyData.eqv (.list ds) (.list [])) = !ds.isEmpty := by
  cases ds <;> simp [PyData.eqv, PyData.eqvAll]
/-- xs != [] where [] was just made -/
theorem ne_nil {N : Addr → Prop} {K : PySem.W.Frag} {H : Hp} {a l : Addr} {ys : List V} {Q : VK} (ha : SqL K H a ys) (hl : SqL K H l []) (hy : ∀ y ∈ ys, ∃ d, Dq N K H y d ∧ Plain d) (q : Q (.bl (!ys.isEmpty)) H) : rNe (.ref a) (.ref l) H Q ∨ rNeD K (.ref a) (.ref l) H Q := by
  obtain ⟨ds, g1, g2, g3, g4⟩ := plain_all hy
  refine .inr ⟨.list ds, .list [], .lst ha g1, .lst hl .nil, shaped_list g2 g3, by decide, ?_⟩
  rw [eqv_nil]
  have : ds.isEmpty = ys.isEmpty := by cases ds <;> cases ys <;> simp_all
  rw [this]
  exact q
theorem seqI {n : Nat} {d : Int} (h0 : 0 ≤ d) (h1 : d < n) : seqIndex? d n = some d.toNat := by
  unfold seqIndex?
  simp only []
  split <;> first | (simp; omega) | skip
  all_goals omega
end Wd

set_option Elab.async false
set_option linter.all false
set_option maxRecDepth 100000
set_option maxHeartbeats 4000000
namespace Wd
open PySem PySem.Spec PyProof.Rows L2
abbrev s__law_heft : Stmt := topS 18
theorem sc__law_heft : FnScope ["pen"] ["pen"] (C8.fnScope s__law_heft) := ⟨rfl, rfl, rfl, by decide +kernel, rfl, by decide +kernel, by decide +kernel⟩
section
variable {P : Program} {w : World} {K : PySem.W.Frag} {mg : Str → Option Value} {base : Heap}
def spHeft (K : PySem.W.Frag) : Sp := fun vs H Q _ => ∃ (p : Addr) (qc : Addr × List Int) (n : Nat), vs = [.ref p] ∧ Pen K H p qc n ∧ n < 1000000 ∧
  ∀ (h : Int) (H' : Hp), 0 ≤ h → h ≤ 9999999 → Kp p H H' → Pen K H' p qc (n + 1) → Q (.int h) H'
def heftsL : List Int := [0, 1, 1, 2, 3, 5, 9, 10, 4, 9999999]
theorem hefts_in {h : Int} (e : h ∈ heftsL) : 0 ≤ h ∧ h ≤ 9999999 := by
  revert h
  decide
theorem c_heft {c : CA} (T : Txt P w K mg base c) (c_law_draw : C8.Cal P w K mg base 1 "_law_draw" (spDraw K) []) {f : Addr} {fd : FuncData} (F : C8.Def K mg "_law_heft" s__law_heft f fd) (b : Binds K fd ["pen"] []) : C8.Cal P w K mg base 2 "_law_heft" (spHeft K) [] := by
  refine C8.cal0 F b .nil sc__law_heft (fun vs H Q E h => ?_) (fun cdv A outer s H vs Q E hr h => ?_)
  · obtain ⟨p, qc, n, rfl, _⟩ := h
    rfl
  · obtain ⟨p, qc, n, rfl, hp, hn, q⟩ := h
    have hu := hu_of hr
    have hu6 := hu64 hr
    refine ⟨_, (pss_one (ps_ret (pe_ix (ixG (K := K)) (pe_lst (pa_cons pe_int (pa_cons pe_int (pa_cons pe_int (pa_cons pe_int (pa_cons pe_int (pa_cons pe_int (pa_cons pe_int (pa_cons pe_int (pa_cons pe_int (pa_cons pe_int pa_nil))))))))))) (C8.pe_c c_law_draw hr (by decide) (by rfl) (pa_cons (pv 0) (pa_cons pe_int pa_nil))) (fun _ _ => rfl)))), ?_⟩
    refine ⟨by show 10 ≤ sizeLine; decide, fun l nl => ?_⟩
    have hp1 := hp.same (same_new nl (o := .lst (heftsL.map V.int)))
    refine ⟨.ref p, rfl, p, qc, _, n, rfl, hp1, hn, by decide, by decide, fun d H' d0 d1 k hp' => ?_⟩
    have hl : SqL K H' l (heftsL.map V.int) := .inl (.inl (k _ _ (hp.off nl) upd_same))
    have hlt : d.toNat < heftsL.length := by show _ < 10; omega
    refine .inl ⟨l, _, d, .int heftsL[d.toNat], rfl, rfl, hl, atI_in (j := d.toNat) (by omega) (by rw [List.getElem?_map, List.getElem?_eq_getElem hlt]; rfl), ?_⟩
    have hh := hefts_in (List.getElem_mem hlt)
    exact q _ _ hh.1 hh.2 (fun b o nb e => k b o nb (same_new nl b o e)) hp'
/-! ### a drawn order -/
def Src (K : PySem.W.Frag) (H : Hp) (a : Addr) (ys : List V) : Prop := SqL K H a ys ∨ SqT K H a ys ∨ ∃ kvs : List (Key × V), Rd H a (.dK kvs) ∧ ys = kvs.map fun kv => kV kv.1
theorem perm_get {α : Type} : ∀ {xs : List α} {i : Nat} (h : i < xs.length), (xs[i] :: xs.eraseIdx i).Perm xs
  | x :: xs, 0, _ => List.Perm.refl _
  | x :: xs, i + 1, h => by
    have h' : i < xs.length := by simpa using h
    have := perm_get h'
    simp only [List.getElem_cons_succ, List.eraseIdx_cons_succ]
    exact (List.Perm.swap _ _ _).trans (this.cons x)
theorem small60 {n : Nat} (h : n < 1000000) : (n : Int) < 2 ^ 60 := by omega
theorem perm_move {α : Type} {xs ys : List α} {i : Nat} (h : i < xs.length) : (xs.eraseIdx i ++ (ys ++ [xs[i]])).Perm (xs ++ ys) := by
  have a : (xs.eraseIdx i ++ (ys ++ [xs[i]])).Perm ((xs[i] :: xs.eraseIdx i) ++ ys) := by
    rw [← List.append_assoc]
    exact (List.perm_append_singleton _ _).trans (List.Perm.refl _)
  exact a.trans ((perm_get h).append_right ys)
theorem small1000000 {n : Nat} (h : n < 1000000) : n < sizeLine := by rw [sizeLine_eq]; omega
theorem Src.list {K : PySem.W.Frag} {H : Hp} {a : Addr} {ys : List V} {C : List V → Prop} (h : Src K H a ys) (q : C ys) : (∃ ys, (SqL K H a ys ∨ SqT K H a ys) ∧ C ys) ∨ ∃ kvs : List (Key × V), Rd H a (.dK kvs) ∧ C (kvs.map fun kv => kV kv.1) := by
  rcases h with h | h | ⟨kvs, h, rfl⟩
  · exact .inl ⟨ys, .inl h, q⟩
  · exact .inl ⟨ys, .inr h, q⟩
  · exact .inr ⟨kvs, h, q⟩
theorem Dq.kp {K : PySem.W.Frag} {H H' : Hp} {p : Addr} {v : V} {d : PyData} (h : Dq (· ≠ p) K H v d) (k : Kp p H H') : Dq (· ≠ p) K H' v d := Dq.move (fun _ n => n) (fun a o n e => k a o n e) d v h
theorem DqAll.kp {K : PySem.W.Frag} {H H' : Hp} {p : Addr} {v : List V} {d : List PyData} (h : DqAll (· ≠ p) K H v d) (k : Kp p H H') : DqAll (· ≠ p) K H' v d := DqAll.move (fun _ n => n) (fun a o n e => k a o n e) d v h
end
end Wd

set_option Elab.async false
set_option linter.all false
set_option maxRecDepth 100000
set_option maxHeartbeats 4000000
/-! Names by draws: lists of signs. -/
namespace Wd
open PySem PySem.Spec PyProof.Rows L2 SX
def IsName (l : List Nat) : Prop := 1 ≤ l.length ∧ l.length ≤ 8 ∧ ∀ c ∈ l, 97 ≤ c ∧ c ≤ 122
def NameOk (x : Str) : Prop := IsName x.cps.toList
theorem joinL_ones : ∀ zs : List Nat, TL.joinL [] (zs.map fun c => [c]) = zs
  | [] => rfl
  | [c] => rfl
  | c :: d :: r => by
    have := joinL_ones (d :: r)
    simp only [List.map_cons] at this ⊢
    rw [TL.joinL, this]
    simp
def nmAt (bl : List Nat) (at' first step k m : Nat) : List Nat := bl.take at' ++ (97 + (first + step * k) % 26) :: (bl.drop (at' + 1)).take m
theorem nmAt_len {bl : List Nat} {a f s k m : Nat} (h : a < bl.length) : a + 1 ≤ (nmAt bl a f s k m).length ∧ (nmAt bl a f s k m).length ≤ bl.length := by
  unfold nmAt
  rw [List.length_append, List.length_cons, List.length_take, List.length_take, List.length_drop]
  omega
theorem nmAt_name {bl : List Nat} {a f s k m : Nat} (h : a < bl.length) (hb : bl.length ≤ 8) (hc : ∀ c ∈ bl, 97 ≤ c ∧ c ≤ 122) : IsName (nmAt bl a f s k m) := by
  have hl := nmAt_len (f := f) (s := s) (k := k) (m := m) h
  refine ⟨by omega, by omega, fun c hm => ?_⟩
  unfold nmAt at hm
  rcases List.mem_append.mp hm with hm | hm
  · exact hc _ (List.mem_of_mem_take hm)
  · rcases List.mem_cons.mp hm with rfl | hm
    · have := Nat.mod_lt (f + s * k) (show 0 < 26 by decide)
      omega
    · exact hc _ (List.mem_of_mem_drop (List.mem_of_mem_take hm))
theorem nmAt_get {bl : List Nat} {a f s k m : Nat} (h : a < bl.length) : (nmAt bl a f s k m)[a]? = some (97 + (f + s * k) % 26) := by
  unfold nmAt
  have e : (bl.take a).length = a := by rw [List.length_take]; omega
  rw [List.getElem?_append_right (by omega), e, Nat.sub_self]
  rfl
def stepsL : List Nat := [1, 3, 5, 7, 9, 11, 15, 17, 19, 21, 23, 25]
theorem steps_apart {s : Nat} (h : s ∈ stepsL) {f j k : Nat} (hj : j < 18) (hk : k < 18) (e : (f + s * j) % 26 = (f + s * k) % 26) : j = k := by
  simp only [stepsL, List.mem_cons, List.mem_nil_iff, or_false] at h
  rcases h with rfl | rfl | rfl | rfl | rfl | rfl | rfl | rfl | rfl | rfl | rfl | rfl <;> omega
theorem nmAt_inj {bl : List Nat} {a f s j k m m' : Nat} (h : a < bl.length) (hs : s ∈ stepsL) (hj : j < 18) (hk : k < 18) (e : nmAt bl a f s j m = nmAt bl a f s k m') : j = k := by
  have h1 := nmAt_get (f := f) (s := s) (k := j) (m := m) h
  have h2 := nmAt_get (f := f) (s := s) (k := k) (m := m') h
  rw [e, h2] at h1
  have h3 := Option.some.inj h1
  exact steps_apart hs (f := f) hj hk (by omega)
theorem nodup_range {α : Type} {f : Nat → α} {n : Nat} (h : ∀ i j, i < n → j < n → f i = f j → i = j) : ((List.range n).map f).Nodup := by
  unfold List.Nodup
  rw [List.pairwise_map]
  refine List.Pairwise.imp_of_mem (R := (· < ·)) (fun {a b} ha hb hlt e => ?_) List.pairwise_lt_range
  have := h a b (List.mem_range.mp ha) (List.mem_range.mp hb) e
  omega
theorem nodup_set {α : Type} {xs : List α} {i : Nat} {v : α} (h : xs.Nodup) (hv : v ∉ xs) : (xs.set i v).Nodup := by
  induction xs generalizing i with
  | nil => exact h
  | cons x r ih =>
    cases i with
    | zero =>
      rw [List.set_cons_zero, List.nodup_cons]
      exact ⟨fun m => hv (List.mem_cons_of_mem _ m), (List.nodup_cons.mp h).2⟩
    | succ i =>
      rw [List.set_cons_succ, List.nodup_cons]
      refine ⟨fun m => ?_, ih (List.nodup_cons.mp h).2 fun m => hv (List.mem_cons_of_mem _ m)⟩
      rcases List.mem_or_eq_of_mem_set m with m | e
      · exact (List.nodup_cons.mp h).1 m
      · exact hv (e ▸ List.mem_cons_self)
theorem S_cps (l : List Nat) : (S l).cps.toList = l := by simp
theorem name_S {l : List Nat} (h : IsName l) : NameOk (S l) := by
  unfold NameOk
  rw [S_cps]
  exact h
theorem name_ok {x : Str} (h : NameOk x) : PyData.strOk x = true := by
  unfold PyData.strOk
  rw [← Array.all_toList, List.all_eq_true]
  intro c hc
  have := (h.2.2 c hc).2
  exact decide_eq_true (by omega)
theorem name_len {x : Str} (h : NameOk x) : 1 ≤ x.length ∧ x.length ≤ 8 := by
  have e : x.length = x.cps.toList.length := by simp [Str.length]
  rw [e]
  exact ⟨h.1, h.2.1⟩
/-! ### the words -/
def wordsA : List Str := ["room", "door", "stone", "walker", "go", "lift", "lay", "wait", "both", "on", "turn", "at", "lies"]
def wordsB : List Str := ["do", "heft", "rows", "wall", "open"]
def wordsL : List Str := wordsA ++ wordsB
def wordsCut (turn many : Nat) : List Str := ((wordsL ++ wordsL).drop turn).take many
instance (l : List Nat) : Decidable (IsName l) := by unfold IsName; infer_instance
instance (x : Str) : Decidable (NameOk x) := by unfold NameOk; infer_instance
theorem words_names : ∀ x ∈ wordsL ++ wordsL, NameOk x := by decide +kernel
theorem words_18 : ∀ t : Fin 18, (((wordsL ++ wordsL).drop t).take 18).Nodup := by decide +kernel
theorem wordsCut_ok {t m : Nat} (ht : t < 18) (hm : m ≤ 18) : (wordsCut t m).Nodup ∧ (wordsCut t m).length = m ∧ ∀ x ∈ wordsCut t m, NameOk x := by
  refine ⟨?_, ?_, fun x hx => words_names x (List.mem_of_mem_drop (List.mem_of_mem_take hx))⟩
  · have h := words_18 ⟨t, ht⟩
    have e : wordsCut t m = ((((wordsL ++ wordsL).drop t).take 18)).take m := by
      unfold wordsCut
      rw [List.take_take, Nat.min_eq_left hm]
    rw [e]
    exact h.sublist (List.take_sublist _ _)
  · unfold wordsCut
    rw [List.length_take, List.length_drop, show (wordsL ++ wordsL).length = 36 from rfl]
    omega
end Wd

set_option Elab.async false
set_option linter.all false
set_option maxRecDepth 100000
set_option maxHeartbeats 4000000
namespace Wd
open PySem PySem.Spec PyProof.Rows L2
abbrev s__law_names : Stmt := topS 17
theorem sc__law_names : FnScope ["pen", "many", "words", "turn", "letters", "k", "base", "at", "first", "cut", "step", "found", "tail"] ["pen", "many"] (C8.fnScope s__law_names) := ⟨rfl, rfl, rfl, by decide +kernel, rfl, by decide +kernel, by decide +kernel⟩
def lettersZ : Str := "abcdefghijklmnopqrstuvwxyz"
theorem letters_in : ∀ c ∈ lettersZ.cps.toList, 97 ≤ c ∧ c ≤ 122 := by decide +kernel
def mk (cu : Int) (k : Nat) : Nat := if cu = 0 then 8 else k % 3
theorem mk_at {cu : Int} {i : Nat} (h0 : 0 ≤ cu) (h1 : cu < 2) : atI [V.int 8, V.int ((0 + (i : Int)) % 3)] cu = some (.int (mk cu i)) := by
  have h : cu = 0 ∨ cu = 1 := by omega
  rcases h with rfl | rfl
  · rfl
  · have e : ((mk 1 i : Nat) : Int) = (0 + (i : Int)) % 3 := by
      show ((i % 3 : Nat) : Int) = _
      omega
    rw [e]
    rfl
theorem steps_le : ∀ {s : Nat}, s ∈ stepsL → s ≤ 25 := by decide
theorem letters_at : ∀ j : Nat, j < 26 → lettersZ.cps.toList[j]? = some (97 + j) := by decide +kernel
theorem ones_sum : ∀ bl : List Nat, (bl.map fun c => (SX.S [c]).length).sum = bl.length
  | [] => rfl
  | c :: r => by
    rw [List.map_cons, List.sum_cons, ones_sum r, List.length_cons]
    show 1 + _ = _
    omega
theorem Kp.free {p l : Addr} {H H' : Hp} (k : Kp p H H') (ne : l ≠ p) (n : H' l = none) : H l = none := by
  cases e : H l with
  | none => rfl
  | some o =>
    rw [k _ _ ne e] at n
    cases n
theorem cutV_from {xs : List V} {t : Int} (h : 0 ≤ t) : cutV xs (some t) none = xs.drop t.toNat := by
  obtain ⟨m, rfl⟩ := Int.eq_ofNat_of_zero_le h
  unfold cutV
  rw [HT.sIx_nat, HT.sIx_none, Int.toNat_natCast]
  by_cases c : m ≤ xs.length
  · rw [Nat.min_eq_left c, List.take_of_length_le (by rw [List.length_drop]; omega)]
  · rw [Nat.min_eq_right (by omega), Nat.sub_self, List.take_zero, List.drop_eq_nil_of_le (by omega)]
theorem cutV_to {xs : List V} {t : Int} (h : 0 ≤ t) : cutV xs none (some t) = xs.take t.toNat := by
  obtain ⟨m, rfl⟩ := Int.eq_ofNat_of_zero_le h
  unfold cutV
  rw [HT.sIx_nat, HT.sIx_none, Int.toNat_natCast, List.drop_zero, Nat.sub_zero]
  by_cases c : m ≤ xs.length
  · rw [Nat.min_eq_left c]
  · rw [Nat.min_eq_right (by omega), List.take_of_length_le (by omega), List.take_of_length_le (by omega)]
theorem Pen.le {K : PySem.W.Frag} {H : Hp} {p : Addr} {q : Addr × List Int} {n m : Nat} (h : Pen K H p q n) (l : n ≤ m) : Pen K H p q m := by
  obtain ⟨t, r, h1, h2, h3, h4, h5, h6, h7⟩ := h
  exact ⟨t, r, h1, h2, h3, h4, h5, by omega, h7⟩
section
variable {P : Program} {w : World} {K : PySem.W.Frag} {mg : Str → Option Value} {base : Heap}
def spNames (K : PySem.W.Frag) : Sp := fun vs H Q _ => ∃ (p : Addr) (qc : Addr × List Int) (n many : Nat), vs = [.ref p, .int many] ∧ Pen K H p qc n ∧ n + 20 < 1000000 ∧ 1 ≤ many ∧ many ≤ 18 ∧
  ∀ (l : Addr) (xs : List Str) (H' : Hp), xs.length = many → xs.Nodup → (∀ x ∈ xs, NameOk x) → H l = none → H' l = some (.lst (xs.map V.str)) → l ≠ p → Kp p H H' → Pen K H' p qc (n + 20) → Q (.ref l) H'
theorem c_names {c : CA} (T : Txt P w K mg base c) (c_law_draw : C8.Cal P w K mg base 1 "_law_draw" (spDraw K) []) (c_law_pick : C8.Cal P w K mg base 2 "_law_pick" (spPick K) []) {f : Addr} {fd : FuncData} (F : C8.Def K mg "_law_names" s__law_names f fd) (b : Binds K fd ["pen", "many"] []) : C8.Cal P w K mg base 3 "_law_names" (spNames K) [] := by
  refine C8.cal0 F b .nil sc__law_names (fun vs H Q E h => ?_) (fun cdv A outer s H vs Q E hr h => ?_)
  · obtain ⟨p, qc, n, many, rfl, _⟩ := h
    rfl
  · obtain ⟨p, qc, n, many, rfl, hp, hn, m1, m2, q⟩ := h
    have hu := hu_of hr
    have hu6 := hu64 hr
    refine ⟨_, (pss_cons (ps_if (pt_cmpR (op_eqX (K := K) hu6) (C8.pe_c c_law_draw hr (by decide) (by rfl) (pa_cons (pv 0) (pa_cons pe_int pa_nil))) pe_int (nomark _)) (pss_cons (ps_set (i := 2) sc__law_names.nd rfl (.inl rfl) (pe_lst (pa_cons pe_str (pa_cons pe_str (pa_cons pe_str (pa_cons pe_str (pa_cons pe_str (pa_cons pe_str (pa_cons pe_str (pa_cons pe_str (pa_cons pe_str (pa_cons pe_str (pa_cons pe_str (pa_cons pe_str (pa_cons pe_str pa_nil)))))))))))))))
  (pss_cons (ps_set (i := 3) sc__law_names.nd rfl (.inl rfl) (C8.pe_c c_law_draw hr (by decide) (by rfl) (pa_cons (pv 0) (pa_cons pe_int pa_nil))))
  (pss_one (ps_ret (pe_slice (sl_any (K := K)) (pe_slice (sl_any (K := K)) (pe_op (op_mulG (K := K)) (pe_op (op_addG (K := K)) (pv 2) (pe_lst (pa_cons pe_str (pa_cons pe_str (pa_cons pe_str (pa_cons pe_str (pa_cons pe_str pa_nil))))))) pe_int) (po_some (pv 3)) po_none) po_none (po_some (pv 1))))))) pss_nil)
  (pss_cons (ps_set (i := 4) sc__law_names.nd rfl (.inr rfl) pe_str)
  (pss_cons (ps_set (i := 6) sc__law_names.nd rfl (.inl rfl) (pe_bm PySem.F.plainAttrs_str PySem.F.slot_str_join PySem.F.type_str_join mt_join pe_str (pa_cons (pe_lc (own := [("k", 5)]) rfl sc__law_names.nd (pi_range1 rfl T.b_range (pa_cons (pe_op (op_addG (K := K)) pe_int (C8.pe_c c_law_draw hr (by decide) (by rfl) (pa_cons (pv 0) (pa_cons pe_int pa_nil)))) pa_nil)) (blkOk_by (by kernel_rfl)) (fun _ _ _ _ _ => (pg_name (i := 5) sc__law_names.nd rfl (.inl rfl))) (fun _ _ _ _ _ => pts_nil)
      (fun _ _ _ _ _ => (C8.pe_c c_law_pick hr (by decide) (by rfl) (pa_cons (pv 0) (pa_cons (pv 4) pa_nil))))) pa_nil)))
  (pss_cons (ps_par3 (i := 7) (j := 8) (l := 9) rfl sc__law_names.nd rfl rfl rfl (by decide) (by decide) (by decide) rfl rfl rfl (pa_cons (C8.pe_c c_law_draw hr (by decide) (by rfl) (pa_cons (pv 0) (pa_cons (pe_callB (call_lenG (K := K)) (by rfl) T.b_len bt_len (pa_cons (pv 6) pa_nil)) pa_nil))) (pa_cons (C8.pe_c c_law_draw hr (by decide) (by rfl) (pa_cons (pv 0) (pa_cons pe_int pa_nil))) (pa_cons (C8.pe_c c_law_draw hr (by decide) (by rfl) (pa_cons (pv 0) (pa_cons pe_int pa_nil))) pa_nil))) rfl)
  (pss_cons (ps_par (i := 10) (j := 11) rfl sc__law_names.nd rfl rfl (by decide) rfl rfl (pa_cons (C8.pe_c c_law_pick hr (by decide) (by rfl) (pa_cons (pv 0) (pa_cons (pe_lst (pa_cons pe_int (pa_cons pe_int (pa_cons pe_int (pa_cons pe_int (pa_cons pe_int (pa_cons pe_int (pa_cons pe_int (pa_cons pe_int (pa_cons pe_int (pa_cons pe_int (pa_cons pe_int (pa_cons pe_int pa_nil))))))))))))) pa_nil))) (pa_cons (pe_lst pa_nil) pa_nil)) rfl)
  (pss_cons (ps_for PassesOwn.never rfl (pi_range1 rfl T.b_range (pa_cons (pv 1) pa_nil)) (pg_name (i := 5) sc__law_names.nd rfl (.inl rfl))
    (pss_cons (ps_set (i := 12) sc__law_names.nd rfl (.inl rfl) (pe_slice (sl_any (K := K)) (pe_slice (sl_any (K := K)) (pv 6) (po_some (pe_op (op_addG (K := K)) (pv 7) pe_int)) po_none) po_none (po_some (pe_ix (ixG (K := K)) (pe_lst (pa_cons pe_int (pa_cons (pe_op (op_mod) (pv 5) pe_int) pa_nil))) (pv 9) (fun _ _ => rfl)))))
  (pss_one (ps_expr (pe_bm PySem.F.plainAttrs_list PySem.F.slot_list_append PySem.F.type_list_append mt_append (pv 11) (pa_cons (pe_op (op_addG (K := K)) (pe_op (op_addG (K := K)) (pe_slice (sl_any (K := K)) (pv 6) po_none (po_some (pv 7))) (pe_ix (ixG (K := K)) (pv 4) (pe_op (op_mod) (pe_op (op_addG (K := K)) (pv 8) (pe_op (op_mulG (K := K)) (pv 10) (pv 5))) pe_int) (fun _ _ => rfl))) (pv 12)) pa_nil))))))
  (C8.pss_cut (ps_if (PW.pt (pw_and (pt_cmpR (op_gt) (pv 7) pe_int (nomark _)) (pw_and1 (pt_cmpR (op_eqX (K := K) hu6) (C8.pe_c c_law_draw hr (by decide) (by rfl) (pa_cons (pv 0) (pa_cons pe_int pa_nil))) pe_int (nomark _))))) (pss_one (ps_asg (pe_slice (sl_any (K := K)) (pv 6) po_none (po_some (pv 7))) (pg_sub (pv 11) (C8.pe_c c_law_draw hr (by decide) (by rfl) (pa_cons (pv 0) (pa_cons (pv 1) pa_nil))) set_list))) pss_nil)
  (pss_one (ps_ret (pv 11)))))))))), ?_⟩
    refine ⟨.ref p, rfl, p, qc, 7, n, rfl, hp, by omega, by decide, by decide, fun d H1 d0 d1 k1 p1 => ?_⟩
    refine .inl ⟨rfl, _, rfl, ite2 (fun e => ?_) (fun e => ?_)⟩
    · -- words
      refine ⟨by show 13 ≤ sizeLine; decide, fun a0 na0 => ?_⟩
      refine ⟨.ref p, rfl, p, qc, 18, n + 1, rfl, p1.same (same_new na0), by omega, by decide, by decide, fun t H3 t0 t1 k3 p3 => ?_⟩
      have e0 : H3 a0 = some (.lst (wordsA.map V.str)) := k3 _ _ (p1.off na0) upd_same
      refine ⟨.ref a0, rfl, by show 5 ≤ sizeLine; decide, fun a1 na1 => .inl ⟨a0, a1, wordsA.map V.str, wordsB.map V.str, rfl, rfl, same_new na1 _ _ e0, upd_same, by show 13 + 5 ≤ sizeLine; decide, fun a2 na2 => ?_⟩⟩
      refine ⟨a2, 2, _, rfl, rfl, upd_same, by decide, by decide, by show 18 * 2 ≤ sizeLine; decide, fun a3 na3 => ?_⟩
      refine ⟨.int t, rfl, t, rfl, .inl ⟨a3, _, rfl, .inl (.inl upd_same), fun a4 na4 => ?_⟩⟩
      refine ⟨.int many, rfl, many, rfl, .inl ⟨a4, _, rfl, .inl (.inl upd_same), fun a5 na5 => ?_⟩⟩
      have ok := wordsCut_ok (t := t.toNat) (m := many) (by omega) m2
      have s4 : Same H3 _ := ((((same_new (o := .lst (wordsB.map V.str)) na1).trans (same_new (o := .lst (wordsA.map V.str ++ wordsB.map V.str)) na2)).trans (same_new (o := .lst (List.replicate (2 : Int).toNat (wordsA.map V.str ++ wordsB.map V.str)).flatten) na3)).trans (same_new (o := .lst (cutV (List.replicate (2 : Int).toNat (wordsA.map V.str ++ wordsB.map V.str)).flatten (some t) none)) na4))
      have s5 : Same H3 (upd (upd (upd (upd (upd H3 a1 (.lst (wordsB.map V.str))) a2 (.lst (wordsA.map V.str ++ wordsB.map V.str))) a3 (.lst (List.replicate (2 : Int).toNat (wordsA.map V.str ++ wordsB.map V.str)).flatten)) a4 (.lst (cutV (List.replicate (2 : Int).toNat (wordsA.map V.str ++ wordsB.map V.str)).flatten (some t) none))) a5 (.lst (cutV (cutV (List.replicate (2 : Int).toNat (wordsA.map V.str ++ wordsB.map V.str)).flatten (some t) none) none (some many)))) :=
        s4.trans (same_new na5)
      have ew : cutV (cutV (List.replicate (2 : Int).toNat (wordsA.map V.str ++ wordsB.map V.str)).flatten (some t) none) none (some many) = (wordsCut t.toNat many).map V.str := by
        rw [cutV_from t0, cutV_to (by omega)]
        unfold wordsCut
        rw [List.map_take, List.map_drop, Int.toNat_natCast]
        rfl
      have of5 : a5 ≠ p := (p3.same s4).off na5
      have fr : H a5 = none := k1.free of5 ((same_new na0).free (k3.free of5 (s4.free na5)))
      refine q a5 _ _ ok.2.1 ok.1 ok.2.2 fr (by rw [← ew]; exact upd_same) of5 ?_ ?_
      · exact fun b o nb e => s5 _ _ (k3 _ _ nb (same_new na0 _ _ (k1 _ _ nb e)))
      · exact (p3.same s5).le (by omega)
    -- letters
    refine ⟨rfl, ?_⟩
    refine ⟨.ref p, rfl, p, qc, 8, n + 1, rfl, p1, by omega, by decide, by decide, fun d2 H2 d20 d21 k2 p2 => ?_⟩
    refine ⟨1 + d2, rfl, by omega, by omega, fun D nD => ?_⟩
    have ofD : D ≠ p := p2.off nD
    have zD : H D = none := k1.free ofD (k2.free ofD nD)
    refine lc_range (fun i G => ∃ cs : List Nat, cs.length = i ∧ (∀ c ∈ cs, 97 ≤ c ∧ c ≤ 122) ∧ G D = some (.lst (cs.map fun c => V.str (SX.S [c]))) ∧ Kp p H G ∧ Pen K G p qc (n + 2 + i)) ⟨[], rfl, by simp, upd_same, (k1.trans k2).new nD, p2.same (same_new nD)⟩ (fun i G hi pv => ?_) (fun G pv => ?_)
    · obtain ⟨cs, c1, c2, c3, c4, c5⟩ := pv
      have hi8 : i < 9 := by omega
      refine ⟨rfl, ?_⟩
      refine yes_if ?_
      refine ⟨.ref p, rfl, .str lettersZ, rfl, p, .str lettersZ, qc, n + 2 + i, _, rfl, c5, by omega, .inr ⟨lettersZ, rfl, by decide +kernel, rfl⟩, by decide +kernel, by decide +kernel, fun v G' hv k hp' => ?_⟩
      obtain ⟨ch, hch, rfl⟩ := List.mem_map.mp hv
      refine ⟨_, k _ _ ofD c3, by rw [List.length_map]; exact small1000000 (by omega), cs ++ [ch], by rw [List.length_append, c1]; rfl, ?_, ?_, ?_, hp'.wr hp zD⟩
      · intro c hc
        rcases List.mem_append.mp hc with hc | hc
        · exact c2 c hc
        · rw [List.mem_singleton.mp hc]
          exact letters_in ch hch
      · rw [upd_same, List.map_append]
        rfl
      · intro b o nb e
        have : b ≠ D := fun z => by rw [z, zD] at e; cases e
        rw [upd_ne this]
        exact k _ _ nb (c4 _ _ nb e)
    obtain ⟨bl, c1, c2, c3, c4, c5⟩ := pv
    have b1 : 1 ≤ bl.length := by omega
    have b8 : bl.length ≤ 8 := by omega
    refine ⟨"", D, bl.map fun c => SX.S [c], rfl, rfl, .inl (.inl (.inl (by rw [List.map_map]; exact c3))), ?_, ?_⟩
    · rw [List.map_map, List.length_map, show (("" : Str)).length = 0 from rfl, Nat.mul_zero]
      have := ones_sum bl
      show (bl.map fun c => (SX.S [c]).length).sum + 0 ≤ _
      omega
    have eb : Txt.join "" (bl.map fun c => SX.S [c]) = SX.S bl := by
      have := SX.join_S [] (bl.map fun c => [c])
      rw [List.map_map, joinL_ones] at this
      exact this
    rw [eb]
    have p5 : Pen K G p qc (n + 11) := c5.le (by omega)
    clear c5 p2 p1 k1 k2 nD
    have elen : (SX.S bl).length = bl.length := SX.S_len bl
    -- at, first, cut
    refine ⟨.ref p, rfl, .str (SX.S bl), rfl, by rw [elen, sizeLine_eq]; omega, ?_⟩
    refine ⟨p, qc, _, n + 11, rfl, p5, by omega, by rw [elen]; omega, by rw [elen]; omega, fun a H5 a0 a1 k5 p6 => ?_⟩
    rw [elen] at a1
    refine ⟨.ref p, rfl, p, qc, 26, n + 12, rfl, p6, by omega, by decide, by decide, fun fi H6 f0 f1 k6 p7 => ?_⟩
    refine ⟨.ref p, rfl, p, qc, 2, n + 13, rfl, p7, by omega, by decide, by decide, fun cu H7 u0 u1 k7 p8 => ?_⟩
    refine ⟨_, _, _, rfl, ?_⟩
    -- step, found
    have kA : Kp p H H7 := ((c4.trans k5).trans k6).trans k7
    clear k5 k6 k7 p5 p6 p7 c3 c4
    refine ⟨.ref p, rfl, by show 12 ≤ sizeLine; decide, fun l0 n0 => ?_⟩
    refine ⟨p, .ref l0, qc, n + 14, stepsL.map fun (s : Nat) => V.int (s : Int), rfl, p8.same (same_new n0), by omega, .inl ⟨l0, rfl, p8.off n0, .inl (.inl (.inl upd_same))⟩, by decide, by decide, fun v H9 hv k9 p9 => ?_⟩
    obtain ⟨sp, hsp, rfl⟩ := List.mem_map.mp hv
    refine ⟨Nat.zero_le _, fun lf nf => ⟨_, _, rfl, ?_⟩⟩
    have kB : Kp p H H9 := fun b o nb e => k9 _ _ nb (same_new n0 _ _ (kA _ _ nb e))
    have of' : lf ≠ p := p9.off nf
    have zf : H lf = none := kB.free of' nf
    have kC : Kp p H (upd H9 lf (.lst [])) := kB.new nf
    have pC := p9.same (same_new nf (o := .lst []))
    have eC : (upd H9 lf (.lst [])) lf = some (.lst []) := upd_same
    generalize upd H9 lf (.lst []) = HC at kC pC eC
    clear kA kB k9 p9 p8 n0 nf hv
    -- the names one by one
    obtain ⟨a', rfl⟩ := Int.eq_ofNat_of_zero_le a0
    obtain ⟨fi', rfl⟩ := Int.eq_ofNat_of_zero_le f0
    refine ⟨.int many, rfl, many, rfl, by omega, by omega, ?_⟩
    refine for_range (fun i σ G => ∃ d5 d12 : Option V, σ = [some (.ref p), some (.int many), none, none, some (.str lettersZ), d5, some (.str (SX.S bl)), some (.int (a' : Int)), some (.int (fi' : Int)), some (.int cu), some (.int (sp : Int)), some (.ref lf), d12] ∧ Kp p H G ∧ Pen K G p qc (n + 15) ∧ G lf = some (.lst ((List.range i).map fun k => V.str (SX.S (nmAt bl a' fi' sp k (mk cu k)))))) ⟨_, _, rfl, kC, pC.le (by omega), eC⟩ (fun i σ G hi pv => ?_) (fun σ G pv => ?_)
    · obtain ⟨d5, d12, rfl, g1, g2, g3⟩ := pv
      have hlen8 : (SX.S bl).length ≤ sizeLine := by rw [elen, sizeLine_eq]; omega
      have hI : i < 18 := by omega
      refine ⟨.str (SX.S bl), rfl, .int a', rfl, _, rfl, .inr (.inr ⟨SX.S bl, rfl, hlen8, ?_⟩)⟩
      rw [SX.slice_from (by omega), show ((a' : Int) + 1).toNat = a' + 1 by omega]
      refine ⟨.int (0 + i), rfl, _, 3, rfl, rfl, (by show (0 : Int) < 3; decide), by show 2 ≤ sizeLine; decide, fun l3 n3 => ?_⟩
      refine ⟨.int cu, rfl, .inl ⟨l3, _, cu, .int (mk cu i), rfl, rfl, .inl (.inl upd_same), mk_at u0 u1, _, rfl, .inr (.inr ⟨SX.S (bl.drop (a' + 1)), rfl, ?_, ?_⟩)⟩⟩
      · rw [SX.S_len, List.length_drop, sizeLine_eq]; omega
      rw [SX.slice_to (by omega), Int.toNat_natCast]
      have g3' := same_new (o := .lst [V.int 8, V.int ((0 + (i : Int)) % 3)]) n3 _ _ g3
      have g2' := g2.same (same_new (o := .lst [V.int 8, V.int ((0 + (i : Int)) % 3)]) n3)
      have g1' := g1.new (o := .lst [V.int 8, V.int ((0 + (i : Int)) % 3)]) n3
      have hs25 : sp ≤ 25 := steps_le hsp
      refine ⟨.ref lf, rfl, .inl ⟨rfl, _, .inl (.inl g3')⟩, ?_⟩
      refine ⟨.str (SX.S bl), rfl, .int a', rfl, _, rfl, .inr (.inr ⟨SX.S bl, rfl, hlen8, ?_⟩)⟩
      rw [SX.slice_to (by omega), Int.toNat_natCast]
      refine ⟨.str lettersZ, rfl, .int fi', rfl, .int sp, rfl, .int (0 + i), rfl, .inl ⟨by omega, by omega⟩, _, 26, rfl, rfl, (by show (0 : Int) < 26; decide), ?_⟩
      refine .inr (.inr ⟨lettersZ, _, 97 + (fi' + sp * i) % 26, rfl, rfl, by decide +kernel, ?_, ?_⟩)
      · refine at_in (j := (fi' + sp * i) % 26) ?_ (letters_at _ (Nat.mod_lt _ (by decide)))
        rw [Int.zero_add]
        push_cast
        rfl
      refine ⟨?_, .str (SX.S ((bl.drop (a' + 1)).take (mk cu i))), rfl, ?_, ?_⟩
      · show (SX.S (bl.take a')).length + (SX.S [97 + (fi' + sp * i) % 26]).length ≤ sizeLine
        rw [SX.S_len, SX.S_len, List.length_take, sizeLine_eq]
        show _ + 1 ≤ _
        omega
      · show (SX.S (bl.take a') ++ SX.S [97 + (fi' + sp * i) % 26]).length + (SX.S ((bl.drop (a' + 1)).take (mk cu i))).length ≤ sizeLine
        rw [SX.S_cat, SX.S_len, SX.S_len, List.length_append, List.length_take, List.length_take, List.length_drop, sizeLine_eq]
        show _ + 1 + _ ≤ _
        omega
      refine ⟨lf, _, _, rfl, rfl, g3', ?_, ?_⟩
      · rw [List.length_map, List.length_range]; exact small1000000 (by omega)
      refine ⟨_, _, rfl, ?_, g2'.wr hp zf, ?_⟩
      · intro b o nb e
        have : b ≠ lf := fun z => by rw [z, zf] at e; cases e
        rw [upd_ne this]
        exact g1' _ _ nb e
      · rw [upd_same, List.range_succ, List.map_append]
        have e : SX.S (bl.take a') ++ SX.S [97 + (fi' + sp * i) % 26] ++ SX.S ((bl.drop (a' + 1)).take (mk cu i)) = SX.S (nmAt bl a' fi' sp i (mk cu i)) := by
          rw [SX.S_cat, SX.S_cat]
          unfold nmAt
          rw [List.append_assoc]
          rfl
        exact congrArg (fun z => some (HO.lst (_ ++ [V.str z]))) e
    obtain ⟨d5, d12, rfl, g1, g2, g3⟩ := pv
    rw [Int.toNat_natCast] at g3
    have good : ∃ xs : List Str, xs.length = many ∧ xs.Nodup ∧ (∀ x ∈ xs, NameOk x) ∧ (∀ x ∈ xs, a' + 1 ≤ x.length) ∧ G lf = some (.lst (xs.map V.str)) := by
      refine ⟨(List.range many).map fun k => SX.S (nmAt bl a' fi' sp k (mk cu k)), by rw [List.length_map, List.length_range], ?_, ?_, ?_, by rw [List.map_map]; exact g3⟩
      · refine nodup_range fun i j hi hj e => ?_
        exact nmAt_inj (by omega) hsp (by omega) (by omega) (SX.S_inj e)
      · intro x hx
        obtain ⟨k, _, rfl⟩ := List.mem_map.mp hx
        exact name_S (nmAt_name (by omega) b8 c2)
      · intro x hx
        obtain ⟨k, _, rfl⟩ := List.mem_map.mp hx
        rw [SX.S_len]
        exact (nmAt_len (by omega)).1
    clear g3
    obtain ⟨xs, x1, x2, x3, x4, x5⟩ := good
    refine ⟨fun σ G' => ∃ (d5 d12 : Option V) (ys : List Str), σ = [some (.ref p), some (.int many), none, none, some (.str lettersZ), d5, some (.str (SX.S bl)), some (.int (a' : Int)), some (.int (fi' : Int)), some (.int cu), some (.int (sp : Int)), some (.ref lf), d12] ∧ Kp p H G' ∧ Pen K G' p qc (n + 20) ∧ ys.length = many ∧ ys.Nodup ∧ (∀ x ∈ ys, NameOk x) ∧ G' lf = some (.lst (ys.map V.str)), ?_, ?_⟩
    · refine ⟨.int a', rfl, _, 0, rfl, rfl, _, rfl, ite2 (fun e1 => ?_) (fun e1 => iteF ⟨_, _, xs, rfl, g1, g2.le (by omega), x1, x2, x3, x5⟩)⟩
      have e3 := of_decide_eq_true e1
      refine ⟨.ref p, rfl, p, qc, 3, n + 15, rfl, g2, by omega, by decide, by decide, fun d3 G3 d30 d31 k3 p3 => .inl ⟨rfl, _, rfl, ite2 (fun e2 => ?_) (fun e2 => ⟨_, _, xs, rfl, g1.trans k3, p3.le (by omega), x1, x2, x3, k3 _ _ of' x5⟩)⟩⟩
      refine ⟨.str (SX.S bl), rfl, .int a', rfl, _, rfl, .inr (.inr ⟨SX.S bl, rfl, by rw [elen, sizeLine_eq]; omega, ?_⟩)⟩
      rw [SX.slice_to (by omega), Int.toNat_natCast]
      refine ⟨.ref lf, rfl, .ref p, rfl, .int many, rfl, p, qc, many, n + 16, rfl, p3, by omega, by omega, by omega, fun d4 G4 d40 d41 k4 p4 => ?_⟩
      have x6 := k4 _ _ of' (k3 _ _ of' x5)
      refine ⟨lf, _, d4, d4.toNat, rfl, rfl, x6, ?_, ?_⟩
      · rw [List.length_map, x1]
        unfold ixN
        rw [if_pos d40, if_pos d41]
      have hn1 : IsName (bl.take a') := by
        refine ⟨by rw [List.length_take]; omega, by rw [List.length_take]; omega, fun c hc => c2 _ (List.mem_of_mem_take hc)⟩
      have hn2 : SX.S (bl.take a') ∉ xs := fun hm => by
        have := x4 _ hm
        rw [SX.S_len, List.length_take] at this
        omega
      refine ⟨_, _, xs.set d4.toNat (SX.S (bl.take a')), rfl, ?_, ?_, by rw [List.length_set]; exact x1, nodup_set x2 hn2, ?_, ?_⟩
      · intro b o nb e
        have : b ≠ lf := fun z => by rw [z, zf] at e; cases e
        rw [upd_ne this]
        exact k4 _ _ nb (k3 _ _ nb (g1 _ _ nb e))
      · exact (p4.wr hp zf).le (by omega)
      · intro x hx
        rcases List.mem_or_eq_of_mem_set hx with hx | rfl
        · exact x3 _ hx
        · exact name_S hn1
      · rw [upd_same, List.map_set]
    · rintro σ' G' ⟨d5, d12, ys, rfl, h1, h2, h3, h4, h5, h6⟩
      exact ⟨.ref lf, rfl, q lf ys G' h3 h4 h5 zf h6 of' h1 h2⟩
end
end Wd

set_option Elab.async false
set_option linter.all false
set_option maxRecDepth 100000
set_option maxHeartbeats 4000000
/-! Halls as plain data. -/
namespace Wd
open PySem PySem.Spec PyProof.Rows L2
/-- a row: the room, the least, the most if there is one -/
structure RowH where
  room : Str
  least : Int
  most : Option Int
def RowH.ok (r : RowH) : Prop := 0 ≤ r.least ∧ r.least ≤ 9999999 ∧ ∀ m, r.most = some m → r.least ≤ m ∧ m ≤ 9999999
def RowH.data (r : RowH) : PyData := .tuple [.str r.room, .int r.least, r.most.elim .none .int]
def optV (m : Option Int) : V := m.elim .non .int
def rowsData (rs : List RowH) : PyData := .tuple (rs.map RowH.data)
structure RowsOk (rooms : List Str) (rs : List RowH) : Prop where
  sub : (rs.map RowH.room).Sublist rooms
  few : rs.length ≤ 4
  each : ∀ r ∈ rs, r.ok
theorem dq_row {N : Addr → Prop} {K : PySem.W.Frag} {H : Hp} {a : Addr} {r : RowH} (n : N a) (e : SqT K H a [.str r.room, .int r.least, optV r.most]) : Dq N K H (.ref a) r.data := by
  refine .tup n e (.cons (.str _) (.cons (.int _) (.cons ?_ .nil)))
  cases r.most with
  | none => exact .non
  | some m => exact .int m
theorem depth_opt (m : Option Int) : (m.elim PyData.none PyData.int).depth = 0 := by
  cases m <;> rfl
theorem plain_row {r : RowH} (h : PyData.strOk r.room = true) : Plain r.data := by
  refine ⟨?_, ?_, ?_⟩
  · cases e : r.most <;> simp [RowH.data, e, PyData.hasDict, PyData.hasDictAll]
  · cases e : r.most <;> simp [RowH.data, e, PyData.canLay0, PyData.canLayAll0, h]
  · cases e : r.most <;> simp [RowH.data, e, PyData.depth, PyData.depthAll]
/-- a door -/
structure DoorH where
  name : Str
  one : Str
  other : Str
  way : Str
  rows : List RowH
def DoorH.data (d : DoorH) : PyData := .tuple [.str d.one, .str d.other, .str d.way, rowsData d.rows]
structure WalkH where
  name : Str
  heft : Int
  hands : Int
def WalkH.data (x : WalkH) : PyData := .tuple [.str x.name, .int x.heft, .int x.hands]
def WalkH.ok (x : WalkH) : Prop := 0 ≤ x.heft ∧ x.heft ≤ 9999999 ∧ (x.hands = 0 ∨ x.hands = 1 ∨ x.hands = 2 ∨ x.hands = 3 ∨ x.hands = 9)
structure HallH where
  rooms : List Str
  doors : List DoorH
  stones : List (Str × Int)
  walkers : List WalkH
structure DoorOk (rooms : List Str) (d : DoorH) : Prop where
  one : d.one ∈ rooms
  other : d.other ∈ rooms
  apart : d.one ≠ d.other
  way : (d.way = "both" ∧ sortedS [d.one, d.other] = true) ∨ d.way = "on"
  rows : RowsOk rooms d.rows
def HallH.names (h : HallH) : List Str := h.rooms ++ (h.walkers.map WalkH.name ++ (h.stones.map Prod.fst ++ h.doors.map DoorH.name))
structure HallOk (sr sd ss sw : Nat) (h : HallH) : Prop where
  r1 : 1 ≤ h.rooms.length
  r2 : h.rooms.length ≤ sr
  r3 : sortedS h.rooms = true
  d0 : h.rooms.length = 1 → h.doors = []
  d2 : h.doors.length ≤ sd
  d3 : sortedS (h.doors.map DoorH.name) = true
  d4 : ∀ d ∈ h.doors, DoorOk h.rooms d
  s2 : h.stones.length ≤ ss
  s3 : sortedS (h.stones.map Prod.fst) = true
  s4 : ∀ s ∈ h.stones, 0 ≤ s.2 ∧ s.2 ≤ 9999999
  w1 : 1 ≤ h.walkers.length
  w2 : h.walkers.length ≤ sw
  w3 : ∀ x ∈ h.walkers, x.ok
  n1 : h.names.Nodup
  n2 : ∀ x ∈ h.names, NameOk x
def doorsKv (ds : List DoorH) : List (PyData × PyData) := ds.map fun d => (.str d.name, d.data)
def stonesKv (ss : List (Str × Int)) : List (Key × V) := ss.map fun s => (.inr s.1, .int s.2)
/-- a hall as the law's dict -/
def HallAt (N : Addr → Prop) (K : PySem.W.Frag) (H : Hp) (h : Addr) (x : HallH) : Prop := ∃ (d s w r : Addr) (dkv : List (Key × V)) (wvs : List V), N h ∧ N d ∧ N s ∧ N w ∧ N r ∧
  H h = some (.dK [(.inr "doors", .ref d), (.inr "stones", .ref s), (.inr "walkers", .ref w), (.inr "rooms", .ref r)]) ∧
  H d = some (.dK dkv) ∧ DqKv N K H dkv (doorsKv x.doors) ∧ H s = some (.dK (stonesKv x.stones)) ∧ H w = some (.lst wvs) ∧ DqAll N K H wvs (x.walkers.map WalkH.data) ∧ H r = some (.lst (x.rooms.map V.str))
theorem HallAt.move {N N' : Addr → Prop} {K : PySem.W.Frag} {H H' : Hp} {h : Addr} {x : HallH} (n : ∀ a, N a → N' a) (s : ∀ a o, N a → H a = some o → H' a = some o) (hh : HallAt N K H h x) : HallAt N' K H' h x := by
  obtain ⟨d, st, w, r, dkv, wvs, n1, n2, n3, n4, n5, h1, h2, h3, h4, h5, h6, h7⟩ := hh
  exact ⟨d, st, w, r, dkv, wvs, n _ n1, n _ n2, n _ n3, n _ n4, n _ n5, s _ _ n1 h1, s _ _ n2 h2, DqKv.move n s _ _ h3, s _ _ n3 h4, s _ _ n4 h5, DqAll.move n s _ _ h6, s _ _ n5 h7⟩
theorem valV_off {k : Key} : ∀ {kvs : List (Key × V)}, k ∉ kvs.map (·.1) → valV kvs k = none
  | [], _ => rfl
  | x :: r, h => by
    rw [valV_neg (fun e => h (by rw [← e]; exact List.mem_cons_self)), valV_off fun m => h (List.mem_cons_of_mem _ m)]
theorem stonesKv_keys (ss : List (Str × Int)) : (stonesKv ss).map (·.1) = (ss.map Prod.fst).map Sum.inr := by
  unfold stonesKv
  rw [List.map_map, List.map_map]
  rfl
theorem not_in_take {xs : List Str} (h : xs.Nodup) {i : Nat} (hi : i < xs.length) : xs[i] ∉ xs.take i := by
  intro m
  have e : xs.take (i + 1) = xs.take i ++ [xs[i]] := by rw [List.take_add_one, List.getElem?_eq_getElem hi]; rfl
  have n := h.sublist (List.take_sublist (i + 1) xs)
  rw [e] at n
  exact (List.nodup_append.mp n).2.2 _ m _ List.mem_cons_self rfl
theorem inr_in {x : Str} {xs : List Str} (h : (Sum.inr x : Key) ∈ xs.map Sum.inr) : x ∈ xs := by
  obtain ⟨y, hy, e⟩ := List.mem_map.mp h
  exact (Sum.inr.inj e) ▸ hy
theorem walk_inv {N : Addr → Prop} {K : PySem.W.Frag} {H : Hp} {v : V} {x : WalkH} (h : Dq N K H v x.data) : ∃ a, v = .ref a ∧ N a ∧ SqT K H a [.str x.name, .int x.heft, .int x.hands] := by
  cases h with
  | tup n e d =>
    cases d with
    | cons h1 d =>
      cases d with
      | cons h2 d =>
        cases d with
        | cons h3 d =>
          cases d
          cases h1
          cases h2
          cases h3
          exact ⟨_, rfl, n, e⟩
theorem DqAll.get {N : Addr → Prop} {K : PySem.W.Frag} {H : Hp} : ∀ {vs : List V} {ds : List PyData} {i : Nat} {v : V}, DqAll N K H vs ds → vs[i]? = some v → ∃ d, ds[i]? = some d ∧ Dq N K H v d
  | _, _, 0, v, .cons h _, e => by
    cases e
    exact ⟨_, rfl, h⟩
  | _, _, i + 1, v, .cons _ r, e => DqAll.get (i := i) r e
/-- what is no dict -/
def NoDk (o : HO) : Prop := ∀ kvs, o ≠ .dK kvs
section
variable {N N' : Addr → Prop} {K : PySem.W.Frag} {H H' : Hp}
theorem sqLD {a : Addr} {xs : List V} (s : ∀ o, NoDk o → H a = some o → H' a = some o) (h : SqL K H a xs) : SqL K H' a xs := by
  rcases h with (h | ⟨o, h⟩) | h
  · exact .inl (.inl (s _ (fun _ z => by cases z) h))
  · exact .inl (.inr ⟨o, s _ (fun _ z => by cases z) h⟩)
  · exact .inr h
theorem sqTD {a : Addr} {xs : List V} (s : ∀ o, NoDk o → H a = some o → H' a = some o) (h : SqT K H a xs) : SqT K H' a xs := by
  rcases h with (h | ⟨o, h⟩) | h
  · exact .inl (.inl (s _ (fun _ z => by cases z) h))
  · exact .inl (.inr ⟨o, s _ (fun _ z => by cases z) h⟩)
  · exact .inr h
mutual
theorem Dq.moveD (n : ∀ a, N a → N' a) (s : ∀ a o, N a → NoDk o → H a = some o → H' a = some o) : ∀ (d : PyData) (v : V), d.hasDict = false → Dq N K H v d → Dq N' K H' v d
  | .none, _, _, h => by cases h; exact .non
  | .bool b, _, _, h => by cases h; exact .bl b
  | .int i, _, _, h => by cases h; exact .int i
  | .str x, _, _, h => by cases h; exact .str x
  | .list ds, _, f, h => by
    cases h with
    | lst z hq ha => exact .lst (n _ z) (sqLD (fun o => s _ o z) hq) (DqAll.moveD n s ds _ (by simpa [PyData.hasDict] using f) ha)
  | .tuple ds, _, f, h => by
    cases h with
    | tup z hq ha => exact .tup (n _ z) (sqTD (fun o => s _ o z) hq) (DqAll.moveD n s ds _ (by simpa [PyData.hasDict] using f) ha)
  | .dict ds, _, f, _ => by simp [PyData.hasDict] at f
theorem DqAll.moveD (n : ∀ a, N a → N' a) (s : ∀ a o, N a → NoDk o → H a = some o → H' a = some o) : ∀ (ds : List PyData) (vs : List V), PyData.hasDictAll ds = false → DqAll N K H vs ds → DqAll N' K H' vs ds
  | [], _, _, h => by cases h; exact .nil
  | d :: ds, _, f, h => by
    have f' : d.hasDict = false ∧ PyData.hasDictAll ds = false := by simpa [PyData.hasDictAll] using f
    cases h with
    | cons h1 h2 => exact .cons (Dq.moveD n s d _ f'.1 h1) (DqAll.moveD n s ds _ f'.2 h2)
end
theorem walks_noDict : ∀ ws : List WalkH, PyData.hasDictAll (ws.map WalkH.data) = false
  | [] => rfl
  | x :: r => by
    rw [List.map_cons]
    simp only [PyData.hasDictAll, walks_noDict r, Bool.or_false]
    rfl
theorem rows_noDict : ∀ rs : List RowH, PyData.hasDictAll (rs.map RowH.data) = false
  | [] => rfl
  | x :: r => by
    rw [List.map_cons]
    simp only [PyData.hasDictAll, rows_noDict r, Bool.or_false]
    cases e : x.most <;> simp [RowH.data, e, PyData.hasDict, PyData.hasDictAll]
theorem door_noDict (d : DoorH) : d.data.hasDict = false := by
  simp only [DoorH.data, rowsData, PyData.hasDict, PyData.hasDictAll, rows_noDict, Bool.or_false]
theorem DqKv.moveD (n : ∀ a, N a → N' a) (s : ∀ a o, N a → NoDk o → H a = some o → H' a = some o) : ∀ (ds : List DoorH) (kvs : List (Key × V)), DqKv N K H kvs (doorsKv ds) → DqKv N' K H' kvs (doorsKv ds)
  | [], _, h => by cases h; exact .nil
  | d :: ds, kvs, h => by
    have e : doorsKv (d :: ds) = (.str d.name, d.data) :: doorsKv ds := rfl
    rw [e] at h ⊢
    generalize hx : PyData.str d.name = x at h ⊢
    cases h with
    | cons h1 h2 => exact .cons (Dq.moveD n s _ _ (door_noDict d) h1) (DqKv.moveD n s ds _ h2)
theorem DqKv.snoc {k : Key} {v : V} {d : PyData} : ∀ {kvs : List (Key × V)} {ds : List (PyData × PyData)}, DqKv N K H kvs ds → Dq N K H v d → DqKv N K H (kvs ++ [(k, v)]) (ds ++ [(keyD k, d)])
  | _, _, .nil, x => .cons x .nil
  | _, _, .cons a r, x => .cons a (DqKv.snoc r x)
theorem DqKv.keys : ∀ {kvs : List (Key × V)} {ds : List (PyData × PyData)}, DqKv N K H kvs ds → ds.map Prod.fst = kvs.map fun z => keyD z.1
  | _, _, .nil => rfl
  | _, _, .cons _ r => by
    rw [List.map_cons, List.map_cons, DqKv.keys r]
end
theorem doors_fresh {N : Addr → Prop} {K : PySem.W.Frag} {H : Hp} {kvs : List (Key × V)} {ds : List DoorH} {nm : Str} (h : DqKv N K H kvs (doorsKv ds)) (n : nm ∉ ds.map DoorH.name) : valV kvs (.inr nm) = none := by
  refine valV_off fun m => n ?_
  have e := h.keys
  obtain ⟨z, hz, ez⟩ := List.mem_map.mp m
  have m2 : keyD z.1 ∈ (doorsKv ds).map Prod.fst := by
    rw [e]
    exact List.mem_map.mpr ⟨z, hz, rfl⟩
  rw [ez] at m2
  unfold doorsKv at m2
  rw [List.map_map] at m2
  obtain ⟨d, hd, ed⟩ := List.mem_map.mp m2
  have : PyData.str d.name = PyData.str nm := ed
  cases this
  exact List.mem_map.mpr ⟨d, hd, rfl⟩
theorem two_of {x y : Str} {ys : List Str} (h : ys.Perm [x, y]) : ∃ a b, ys = [a, b] ∧ ((a = x ∧ b = y) ∨ (a = y ∧ b = x)) := by
  have l := h.length_eq
  match ys, l with
  | [a, b], _ =>
    have m : a ∈ [x, y] := h.subset List.mem_cons_self
    refine ⟨a, b, rfl, ?_⟩
    rcases List.mem_cons.mp m with rfl | m
    · have := (List.perm_cons a).mp h
      have := List.perm_singleton.mp this
      exact .inl ⟨rfl, by injection this⟩
    · have e := List.mem_singleton.mp m
      subst e
      have h2 : [a, b].Perm [a, x] := h.trans (List.Perm.swap _ _ _)
      have := List.perm_singleton.mp ((List.perm_cons a).mp h2)
      exact .inr ⟨rfl, by injection this⟩
/-- parts of a list of unlike names -/
theorem cut4 {names A B C D : List Str} {sr sw ss a b c d : Nat} (nd : names.Nodup) (ha : A.Perm (names.take a)) (al : a ≤ sr) (hb : B.Perm ((names.drop sr).take b)) (bl : b ≤ sw) (hc : C.Perm (((names.drop sr).drop sw).take c)) (cl : c ≤ ss)
    (hd : D.Perm ((((names.drop sr).drop sw).drop ss).take d)) : (A ++ (B ++ (C ++ D))).Nodup ∧ ∀ x ∈ A ++ (B ++ (C ++ D)), x ∈ names := by
  have sub : (names.take a ++ ((names.drop sr).take b ++ (((names.drop sr).drop sw).take c ++ (((names.drop sr).drop sw).drop ss).take d))).Sublist names := by
    have e1 : names = names.take sr ++ names.drop sr := (List.take_append_drop sr names).symm
    have e2 : names.drop sr = (names.drop sr).take sw ++ (names.drop sr).drop sw := (List.take_append_drop sw _).symm
    have e3 : (names.drop sr).drop sw = ((names.drop sr).drop sw).take ss ++ ((names.drop sr).drop sw).drop ss := (List.take_append_drop ss _).symm
    have s3 : (((names.drop sr).drop sw).take c ++ (((names.drop sr).drop sw).drop ss).take d).Sublist ((names.drop sr).drop sw) := by
      conv => rhs; rw [e3]
      exact (List.take_sublist_take_left cl).append (List.take_sublist _ _)
    have s2 : ((names.drop sr).take b ++ (((names.drop sr).drop sw).take c ++ (((names.drop sr).drop sw).drop ss).take d)).Sublist (names.drop sr) := by
      conv => rhs; rw [e2]
      exact (List.take_sublist_take_left bl).append s3
    conv => rhs; rw [e1]
    exact (List.take_sublist_take_left al).append s2
  have pm : (A ++ (B ++ (C ++ D))).Perm (names.take a ++ ((names.drop sr).take b ++ (((names.drop sr).drop sw).take c ++ (((names.drop sr).drop sw).drop ss).take d))) := ha.append (hb.append (hc.append hd))
  exact ⟨pm.nodup_iff.mpr (nd.sublist sub), fun x hx => sub.subset (pm.subset hx)⟩
end Wd

set_option Elab.async false
set_option linter.all false
set_option maxRecDepth 100000
set_option maxHeartbeats 4000000
namespace Wd
open PySem PySem.Spec PyProof.Rows L2
abbrev s__law_rows : Stmt := topS 19
theorem sc__law_rows : FnScope ["pen", "rooms", "hefts", "found", "room", "least", "top"] ["pen", "rooms", "hefts"] (C8.fnScope s__law_rows) := ⟨rfl, rfl, rfl, by decide +kernel, rfl, by decide +kernel, by decide +kernel⟩
section
variable {P : Program} {w : World} {K : PySem.W.Frag} {mg : Str → Option Value} {base : Heap}
theorem sum_pos : ∀ {hs : List Int}, (∀ h ∈ hs, 0 ≤ h ∧ h ≤ 9999999) → 0 ≤ hs.sum
  | [], _ => by simp
  | h :: r, a => by
    have h1 := (a h List.mem_cons_self).1
    have h2 := sum_pos (hs := r) fun x m => a x (List.mem_cons_of_mem _ m)
    rw [List.sum_cons]
    omega
theorem pick_int {hs : List Int} {v : V} (a : ∀ h ∈ hs, 0 ≤ h ∧ h ≤ 9999999) (m : v ∈ [0, 1, 2, 3].map V.int ++ hs.map V.int ++ [V.int (hs.take 2).sum, V.int hs.sum]) : ∃ y : Int, 0 ≤ y ∧ v = .int y := by
  rcases List.mem_append.mp m with m | m
  · rcases List.mem_append.mp m with m | m
    · obtain ⟨y, hy, rfl⟩ := List.mem_map.mp m
      refine ⟨y, ?_, rfl⟩
      simp at hy
      omega
    · obtain ⟨y, hy, rfl⟩ := List.mem_map.mp m
      exact ⟨y, (a y hy).1, rfl⟩
  · rcases List.mem_cons.mp m with rfl | m
    · exact ⟨_, sum_pos fun h x => a h (List.mem_of_mem_take x), rfl⟩
    · rw [List.mem_singleton.mp m]
      exact ⟨_, sum_pos a, rfl⟩
theorem at_three (z : Int) {d : Int} (h0 : 0 ≤ d) (h1 : d < 3) : ∃ m : Option Int, atI [V.non, V.non, V.int z] d = some (optV m) ∧ ∀ m', m = some m' → m' = z := by
  have h : d = 0 ∨ d = 1 ∨ d = 2 := by omega
  rcases h with rfl | rfl | rfl
  · exact ⟨none, rfl, fun _ e => by cases e⟩
  · exact ⟨none, rfl, fun _ e => by cases e⟩
  · exact ⟨some z, rfl, fun _ e => (Option.some.inj e).symm⟩
theorem sq_kp {H H' : Hp} {p a : Addr} {xs : List V} (k : Kp p H H') (ne : a ≠ p) (h : SqL K H a xs) : SqL K H' a xs := by
  rcases h with (h | ⟨u, h⟩) | h
  · exact .inl (.inl (k _ _ ne h))
  · exact .inl (.inr ⟨u, k _ _ ne h⟩)
  · exact .inr h
/-- the pen, and a list of data that grows -/
def RB (K : PySem.W.Frag) (H G : Hp) (p : Addr) (qc : Addr × List Int) (lf : Addr) (n : Nat) (vs : List V) (ds : List PyData) : Prop := Kp p H G ∧ Pen K G p qc n ∧ G lf = some (.lst vs) ∧ DqAll (fun x => x ≠ p ∧ x ≠ lf) K G vs ds
theorem RB.new {H G : Hp} {p l lf : Addr} {qc : Addr × List Int} {n : Nat} {vs : List V} {ds : List PyData} {o : HO} (r : RB K H G p qc lf n vs ds) (of' : lf ≠ p) (nl : G l = none) : RB K H (upd G l o) p qc lf n vs ds :=
  ⟨r.1.new nl, r.2.1.same (same_new nl), same_new nl _ _ r.2.2.1, r.2.2.2.mono (same_new nl)⟩
theorem RB.kp {H G G' : Hp} {p lf : Addr} {qc : Addr × List Int} {n m : Nat} {vs : List V} {ds : List PyData} (r : RB K H G p qc lf n vs ds) (of' : lf ≠ p) (k : Kp p G G') (hp : Pen K G' p qc m) : RB K H G' p qc lf m vs ds :=
  ⟨r.1.trans k, hp, k _ _ of' r.2.2.1, r.2.2.2.move (fun _ z => z) fun a o z e => k a o z.1 e⟩
def spRows (K : PySem.W.Frag) : Sp := fun vs H Q _ => ∃ (p a b : Addr) (qc : Addr × List Int) (n : Nat) (rooms : List Str) (hefts : List Int), vs = [.ref p, .ref a, .ref b] ∧ Pen K H p qc n ∧ n + 4 * rooms.length < 1000000 ∧ rooms.length ≤ 40 ∧ hefts.length ≤ 40 ∧
  a ≠ p ∧ SqL K H a (rooms.map V.str) ∧ b ≠ p ∧ H b = some (.lst (hefts.map V.int)) ∧ (∀ h ∈ hefts, 0 ≤ h ∧ h ≤ 9999999) ∧
  ∀ (t : Addr) (rs : List RowH) (H' : Hp), RowsOk rooms rs → Kp p H H' → Pen K H' p qc (n + 4 * rooms.length) → H t = none → Dq (· ≠ p) K H' (.ref t) (rowsData rs) → Q (.ref t) H'
theorem c_rows {c : CA} (T : Txt P w K mg base c) (c_law_draw : C8.Cal P w K mg base 1 "_law_draw" (spDraw K) []) (c_law_pick : C8.Cal P w K mg base 2 "_law_pick" (spPick K) []) {f : Addr} {fd : FuncData} (F : C8.Def K mg "_law_rows" s__law_rows f fd) (b : Binds K fd ["pen", "rooms", "hefts"] []) : C8.Cal P w K mg base 3 "_law_rows" (spRows K) [] := by
  refine C8.cal0 F b .nil sc__law_rows (fun vs H Q E h => ?_) (fun cdv A outer s H vs Q E hr h => ?_)
  · obtain ⟨p, a, b, qc, n, rooms, hefts, rfl, _⟩ := h
    rfl
  · obtain ⟨p, a, b, qc, n, rooms, hefts, rfl, hp, hn, r40, h40, ap, ha, bp, hb, hh, q⟩ := h
    have hu := hu_of hr
    have hu6 := hu64 hr
    refine ⟨_, (pss_cons (ps_set (i := 3) sc__law_rows.nd rfl (.inl rfl) (pe_lst pa_nil))
  (pss_cons (ps_for PassesOwn.never rfl (pi_listK (K := K) (pv 1)) (pg_name (i := 4) sc__law_rows.nd rfl (.inl rfl))
    (pss_one (ps_if (PW.pt (pw_and (pt_cmpR (op_lt) (pe_callB (call_lenG (K := K)) (by rfl) T.b_len bt_len (pa_cons (pv 3) pa_nil)) pe_int (nomark _)) (pw_and1 (pt_cmpR (op_eqX (K := K) hu6) (C8.pe_c c_law_draw hr (by decide) (by rfl) (pa_cons (pv 0) (pa_cons pe_int pa_nil))) pe_int (nomark _))))) (pss_cons (ps_set (i := 5) sc__law_rows.nd rfl (.inl rfl) (pe_callB (call_min2 rfl) (by rfl) T.b_min bt_min (pa_cons pe_int (pa_cons (C8.pe_c c_law_pick hr (by decide) (by rfl) (pa_cons (pv 0) (pa_cons (pe_op (op_addG (K := K)) (pe_op (op_addG (K := K)) (pe_lst (pa_cons pe_int (pa_cons pe_int (pa_cons pe_int (pa_cons pe_int pa_nil))))) (pv 2)) (pe_lst (pa_cons (pe_callB (cr_sum rfl) (by rfl) T.b_sum bt_sum (pa_cons (pe_slice (sl_any (K := K)) (pv 2) po_none (po_some pe_int)) pa_nil)) (pa_cons (pe_callB (cr_sum rfl) (by rfl) T.b_sum bt_sum (pa_cons (pv 2) pa_nil)) pa_nil)))) pa_nil))) pa_nil))))
  (pss_cons (ps_set (i := 6) sc__law_rows.nd rfl (.inl rfl) (pe_ix (ixG (K := K)) (pe_lst (pa_cons pe_non (pa_cons pe_non (pa_cons (pe_callB (call_min2 rfl) (by rfl) T.b_min bt_min (pa_cons pe_int (pa_cons (pe_op (op_addG (K := K)) (pv 5) (C8.pe_c c_law_draw hr (by decide) (by rfl) (pa_cons (pv 0) (pa_cons pe_int pa_nil)))) pa_nil))) pa_nil)))) (C8.pe_c c_law_draw hr (by decide) (by rfl) (pa_cons (pv 0) (pa_cons pe_int pa_nil))) (fun _ _ => rfl)))
  (pss_one (ps_expr (pe_bm PySem.F.plainAttrs_list PySem.F.slot_list_append PySem.F.type_list_append mt_append (pv 3) (pa_cons (pe_tup (pa_cons (pv 4) (pa_cons (pv 5) (pa_cons (pv 6) pa_nil)))) pa_nil)))))) pss_nil)))
  (pss_one (ps_ret (pe_tupleOf (by rfl) T.b_tuple (pv 3)))))), ?_⟩
    refine ⟨Nat.zero_le _, fun lf nf => ?_⟩
    have of' := hp.off nf
    have zf := nf
    have p0 := hp.same (same_new nf (o := .lst []))
    have k0 : Kp p H (upd H lf (.lst [])) := (Kp.refl p H).new nf
    have e0 : (upd H lf (.lst [])) lf = some (.lst []) := upd_same
    generalize upd H lf (.lst []) = H0 at p0 k0 e0
    have r0 : RB K H H0 p qc lf n [] [] := ⟨k0, p0, e0, .nil⟩
    clear k0 p0 e0 nf
    refine ⟨.ref a, rfl, ?_⟩
    refine ⟨a, rfl, ⟨_, sq_kp r0.1 ap ha⟩, ?_⟩
    refine for_list (a := a) (xs := rooms.map V.str) (fun i σ G => ∃ (d4 d5 d6 : Option V) (rs : List RowH) (vs : List V), σ = [some (.ref p), some (.ref a), some (.ref b), some (.ref lf), d4, d5, d6] ∧ RB K H G p qc lf (n + 4 * i) vs (rs.map RowH.data) ∧ (rs.map RowH.room).Sublist (rooms.take i) ∧ rs.length ≤ 4 ∧ ∀ r ∈ rs, r.ok) ⟨_, _, _, [], [], rfl, r0, .slnil, Nat.zero_le _, by simp⟩ (fun i σ G _ pv => ?_) (fun i x σ G hx pv => ?_) (fun σ G pv => ?_)
    · obtain ⟨d4, d5, d6, rs, vs, rfl, rb, s1, s2, s3⟩ := pv
      exact sq_kp rb.1 ap ha
    · obtain ⟨d4, d5, d6, rs, vs, rfl, rb, s1, s2, s3⟩ := pv
      rw [List.getElem?_map] at hx
      obtain ⟨room, hroom, rfl⟩ := Option.map_eq_some_iff.mp hx
      have hiR : i < rooms.length := (List.getElem?_eq_some_iff.mp hroom).1
      have vl : vs.length = rs.length := by rw [rb.2.2.2.length, List.length_map]
      have stay : ∀ G' m, RB K H G' p qc lf m vs (rs.map RowH.data) → m ≤ n + 4 * (i + 1) → RB K H G' p qc lf (n + 4 * (i + 1)) vs (rs.map RowH.data) := fun G' m z l => ⟨z.1, z.2.1.le l, z.2.2⟩
      have sub' : (rs.map RowH.room).Sublist (rooms.take (i + 1)) := s1.trans (List.take_sublist_take_left (Nat.le_succ i))
      refine ⟨.ref lf, rfl, .inl ⟨vs, .inl (.inl (.inl rb.2.2.1)), _, 4, rfl, rfl, _, rfl, ite2 (fun e1 => ?_) (fun e1 => iteF ⟨_, _, _, rs, vs, rfl, stay _ _ rb (by omega), sub', s2, s3⟩)⟩⟩
      have hlt4 : rs.length < 4 := by
        have := of_decide_eq_true e1
        omega
      refine ⟨.ref p, rfl, p, qc, 3, n + 4 * i, rfl, rb.2.1, by omega, by decide, by decide, fun d1 G1 _ _ k1 p1 => .inl ⟨rfl, _, rfl, ite2 (fun e2 => ?_) (fun e2 => ⟨_, _, _, rs, vs, rfl, stay _ _ (rb.kp of' k1 p1) (by omega), sub', s2, s3⟩)⟩⟩
      replace rb := rb.kp of' k1 p1
      clear k1 p1 e1 e2
      -- the least
      refine ⟨.ref p, rfl, by show 4 ≤ sizeLine; decide, fun l1 n1 => ?_⟩
      replace rb := rb.new of' n1 (o := .lst [V.int 0, V.int 1, V.int 2, V.int 3])
      have f1 : (upd G1 l1 (.lst [V.int 0, V.int 1, V.int 2, V.int 3])) l1 = some (.lst [V.int 0, V.int 1, V.int 2, V.int 3]) := upd_same
      generalize upd G1 l1 (.lst [V.int 0, V.int 1, V.int 2, V.int 3]) = G2 at rb f1
      refine ⟨.ref b, rfl, .inl ⟨l1, b, [0, 1, 2, 3].map V.int, hefts.map V.int, rfl, rfl, f1, rb.1 _ _ bp hb, by rw [List.length_map, List.length_map, sizeLine_eq]; show 4 + _ ≤ _; omega, fun l2 n2 => ?_⟩⟩
      replace rb := rb.new of' n2 (o := .lst ([0, 1, 2, 3].map V.int ++ hefts.map V.int))
      have f2 : (upd G2 l2 (.lst ([0, 1, 2, 3].map V.int ++ hefts.map V.int))) l2 = some (.lst ([0, 1, 2, 3].map V.int ++ hefts.map V.int)) := upd_same
      clear f1
      generalize upd G2 l2 (.lst ([0, 1, 2, 3].map V.int ++ hefts.map V.int)) = G3 at rb f2
      have hb3 := rb.1 _ _ bp hb
      refine ⟨.ref b, rfl, 2, rfl, .inl ⟨b, hefts.map V.int, rfl, .inl (.inl hb3), fun l3 n3 => ?_⟩⟩
      rw [cutV_to (by decide), show (2 : Int).toNat = 2 from rfl, ← List.map_take]
      replace rb := rb.new of' n3 (o := .lst ((hefts.take 2).map V.int))
      have f3 : (upd G3 l3 (.lst ((hefts.take 2).map V.int))) l3 = some (.lst ((hefts.take 2).map V.int)) := upd_same
      replace f2 := same_new n3 (o := .lst ((hefts.take 2).map V.int)) _ _ f2
      replace hb3 := same_new n3 (o := .lst ((hefts.take 2).map V.int)) _ _ hb3
      generalize upd G3 l3 (.lst ((hefts.take 2).map V.int)) = G4 at rb f2 f3 hb3
      refine ⟨l3, hefts.take 2, rfl, .inl (.inl f3), .ref b, rfl, b, hefts, rfl, .inl (.inl hb3), by show 2 ≤ sizeLine; decide, fun l4 n4 => ?_⟩
      replace rb := rb.new of' n4 (o := .lst [V.int (hefts.take 2).sum, V.int hefts.sum])
      have f4 : (upd G4 l4 (.lst [V.int (hefts.take 2).sum, V.int hefts.sum])) l4 = some (.lst [V.int (hefts.take 2).sum, V.int hefts.sum]) := upd_same
      replace f2 := same_new n4 (o := .lst [V.int (hefts.take 2).sum, V.int hefts.sum]) _ _ f2
      generalize upd G4 l4 (.lst [V.int (hefts.take 2).sum, V.int hefts.sum]) = G5 at rb f2 f4
      refine .inl ⟨l2, l4, _, _, rfl, rfl, f2, f4, by simp only [List.length_append, List.length_map, sizeLine_eq]; show 4 + _ + 2 ≤ _; omega, fun l5 n5 => ?_⟩
      have o5 : l5 ≠ p := rb.2.1.off n5
      replace rb := rb.new of' n5 (o := .lst ([0, 1, 2, 3].map V.int ++ hefts.map V.int ++ [V.int (hefts.take 2).sum, V.int hefts.sum]))
      have f5 : (upd G5 l5 (.lst ([0, 1, 2, 3].map V.int ++ hefts.map V.int ++ [V.int (hefts.take 2).sum, V.int hefts.sum]))) l5 = some (.lst ([0, 1, 2, 3].map V.int ++ hefts.map V.int ++ [V.int (hefts.take 2).sum, V.int hefts.sum])) := upd_same
      generalize upd G5 l5 (.lst ([0, 1, 2, 3].map V.int ++ hefts.map V.int ++ [V.int (hefts.take 2).sum, V.int hefts.sum])) = G6 at rb f5
      refine ⟨p, .ref l5, qc, n + 4 * i + 1, _, rfl, rb.2.1, by omega, .inl ⟨l5, rfl, o5, .inl (.inl (.inl f5))⟩, by simp, by simp; omega, fun v G7 hv k7 p7 => ?_⟩
      obtain ⟨y, hy0, rfl⟩ := pick_int hh hv
      replace rb := rb.kp of' k7 p7
      clear k7 p7 f5 n1 n2 n3 n4 n5 f2 f3 f4 hb3 hv
      refine ⟨9999999, y, rfl, ?_⟩
      generalize hy : (if y < 9999999 then y else 9999999) = least
      have l0 : 0 ≤ least := by split at hy <;> omega
      have l1 : least ≤ 9999999 := by split at hy <;> omega
      -- the most
      refine ⟨.int least, rfl, .ref p, rfl, p, qc, 4, n + 4 * i + 1 + 1, rfl, rb.2.1, by omega, by decide, by decide, fun d2 G8 d20 d21 k8 p8 => ⟨9999999, least + d2, rfl, by show 3 ≤ sizeLine; decide, fun l6 n6 => ?_⟩⟩
      replace rb := rb.kp of' k8 p8
      have o6 : l6 ≠ p := p8.off n6
      generalize hz : (if least + d2 < 9999999 then least + d2 else 9999999) = z at n6 ⊢
      have z0 : least ≤ z ∧ z ≤ 9999999 := by split at hz <;> omega
      replace rb := rb.new of' n6 (o := .lst [V.non, V.non, V.int z])
      have f6 : (upd G8 l6 (.lst [V.non, V.non, V.int z])) l6 = some (.lst [V.non, V.non, V.int z]) := upd_same
      clear k8 p8 n6
      generalize upd G8 l6 (.lst [V.non, V.non, V.int z]) = G9 at rb f6
      refine ⟨.ref p, rfl, p, qc, 3, _, rfl, rb.2.1, by omega, by decide, by decide, fun d3 Ga d30 d31 ka pa => ?_⟩
      obtain ⟨m, hm, hmz⟩ := at_three z d30 d31
      refine .inl ⟨l6, _, d3, optV m, rfl, rfl, .inl (.inl (ka _ _ o6 f6)), hm, ?_⟩
      replace rb := rb.kp of' ka pa
      refine ⟨.ref lf, rfl, .inl ⟨rfl, _, .inl (.inl rb.2.2.1)⟩, .str room, rfl, .int least, rfl, optV m, rfl, by show 3 ≤ sizeLine; decide, fun l7 n7 => ?_⟩
      have o7 : l7 ≠ p := rb.2.1.off n7
      have o7' : l7 ≠ lf := fun e => by rw [e, rb.2.2.1] at n7; cases n7
      replace rb := rb.new of' n7 (o := .tup [V.str room, V.int least, optV m])
      have f7 : (upd Ga l7 (.tup [V.str room, V.int least, optV m])) l7 = some (.tup [V.str room, V.int least, optV m]) := upd_same
      generalize upd Ga l7 (.tup [V.str room, V.int least, optV m]) = Gb at rb f7
      refine ⟨lf, vs, .ref l7, rfl, rfl, rb.2.2.1, small1000000 (by omega), _, _, _, rs ++ [⟨room, least, m⟩], vs ++ [.ref l7], rfl, ?_, ?_, by rw [List.length_append]; show _ + 1 ≤ 4; omega, ?_⟩
      · refine ⟨?_, (rb.2.1.wr hp zf).le (by omega), upd_same, ?_⟩
        · intro b o nb e
          have : b ≠ lf := fun z => by rw [z, zf] at e; cases e
          rw [upd_ne this]
          exact rb.1 _ _ nb e
        · rw [List.map_append]
          refine DqAll.move (fun _ n => n) (fun x o nx e => by rw [upd_ne nx.2]; exact e) _ _ (DqAll.snoc rb.2.2.2 ?_)
          exact dq_row (r := ⟨room, least, m⟩) ⟨o7, o7'⟩ (.inl (.inl f7))
      · rw [List.map_append, take_snoc hroom]
        exact s1.append (List.Sublist.refl _)
      · intro r hr
        rcases List.mem_append.mp hr with hr | hr
        · exact s3 r hr
        · rw [List.mem_singleton.mp hr]
          exact ⟨l0, l1, fun m' e => by
            have := hmz m' e
            subst this
            exact ⟨z0.1, z0.2⟩⟩
    · obtain ⟨d4, d5, d6, rs, vs, rfl, rb, s1, s2, s3⟩ := pv
      refine ⟨.ref lf, rfl, .inl ⟨lf, vs, rfl, .inl (.inl rb.2.2.1), fun t nt => ?_⟩⟩
      have ot : t ≠ p := rb.2.1.off nt
      refine q t rs _ ⟨by rw [List.length_map, List.take_length] at s1; exact s1, s2, s3⟩ (rb.1.new nt) ?_ (rb.1.free ot nt) ?_
      · rw [List.length_map] at rb
        exact rb.2.1.same (same_new nt)
      · exact .tup ot (.inl (.inl upd_same)) (DqAll.move (fun _ z => z.1) (fun x o _ e => same_new nt x o e) _ _ rb.2.2.2)
end
end Wd

set_option Elab.async false
set_option linter.all false
set_option maxRecDepth 100000
set_option maxHeartbeats 4000000
/-! list(d.values()) -/
namespace Wd
open PySem PySem.Spec PyProof.Rows L2
def rValsL : V → Hp → VK → Prop := fun x H Q => ∃ (d : Addr) (kvs : List (Key × V)), x = .ref d ∧ H d = some (.dK kvs) ∧ ∀ l, H l = none → Q (.ref l) (upd H l (.lst (kvs.map fun kv => kv.2)))
def tListVals (te : TE) : TE := fun σ H Q => te σ H fun x H1 => rValsL x H1 Q
section
variable {X : Cx} {e : Expr} {te : TE} {p apos cpos pos : Pos}
theorem vals_by {kvs : List (Key × V)} {vs : List (Key × Value)} (kv : KV kvs vs) : ∀ {acc : List Value}, acc.length = vs.length → (∀ (j : Nat) (v : Value), acc[j]? = some v → ∃ k : Key, vs[j]? = some (k, v)) → Vals (kvs.map fun z => z.2) acc := by
  induction kv with
  | nil =>
    intro acc h _
    cases acc with
    | nil => exact .nil
    | cons _ _ => cases h
  | cons hd _ ih =>
    intro acc h g
    cases acc with
    | nil => cases h
    | cons a r =>
      obtain ⟨k, hk⟩ := g 0 a rfl
      cases hk
      exact .cons hd.2 (ih (Nat.succ.inj h) fun j v hj => g (j + 1) v hj)
theorem pe_listVals (hcalm : X.calm = true) (hte : PE X e te) (hgl : Gl X "list") (hmg : X.mg "list" = none) (ab : attributeBase e "values" X.env (eval e X.env) = eval e X.env := by rfl) (ln : (apos.endLine == cpos.line) = true := by rfl)
    (se : starEach [.Call (.Attribute e "values" apos) [] [] cpos] X.env = (false, eval (.Call (.Attribute e "values" apos) [] [] cpos) X.env) :: starEach [] X.env := by rfl) :
    PE X (.Call (.Name "list" p) [.Call (.Attribute e "values" apos) [] [] cpos] [] pos) (tListVals te) := by
  refine ⟨fun pins s σ H Q I q0 => ?_⟩
  refine wpAny_Call_Name_kw (ld_blt I hgl hmg bt_list (PyProof.Rows.callWith_type1 ?_ se rfl))
  rw [se]
  refine show wpAny _ _ (spliced ((false, eval (.Call (.Attribute e "values" apos) [] [] cpos) X.env) :: backTo pos (starEach [] X.env))) _ _ s from Calls.spliced_cons ?_
  refine wpAny_Call_method (T := "dict") (id := "dict.values") ab rfl ln F.plainAttrs_dict F.slot_dict_values F.type_dict_values (thn (hte.run pins s σ H _ I q0) fun u s1 ⟨x, H1, I1, rx, d, kvs, ex, hd, q⟩ => ?_)
  subst ex
  cases rx
  obtain ⟨hz, hs0, vs, kv, hdo⟩ := I1.hok d _ hd
  obtain ⟨ep, hat⟩ := hdo.dictAt
  have lk : kvs.length = vs.length := Paired.length kv
  have I2 : Inv X pins σ H1 { s1 with heap := s1.heap.push { cls := .type "dict_values", data := .fields #[.ref d] } } := I1.kept (t' := s1.toks) fun b ob q => Heap.get?_push_of_some _ q
  refine ⟨hdo.typeIs, hdo.mapOf.noDict, show wpAny _ _ (callWith cpos (.builtin "dict.values") [.ref d] [] []) _ X.xe s1 from ?_⟩
  refine method_meetsIn F.slot_dict_values F.entry_dict_values rfl (PySem.evalArgs_none ⟨rfl, hdo.typeIs, F.args_dict_values_1 _, _, meets_dict_values (mixKind X.prog X.w) d hs0, ⟨vs, hdo⟩, Calls.spliced_nil ?_⟩)
  refine PySem.W.kdl_call (PySem.W.kdl_values (knd := mixKind X.prog X.w) (kvs := vs) (d := d) (ep := ep)) (I1.ok.hd hcalm) ⟨⟨_, Heap.get?_push_size _ rfl, rfl, rfl⟩, hat.push _⟩ (by omega) fun h' tk acc c' hk hD hacc => ?_
  have hv : Vals (kvs.map fun z => z.2) acc.toList := vals_by kv (by rw [Array.length_toList]; exact hacc.1) fun j v g => hacc.2 j v (by rw [← Array.getElem?_toList]; exact g)
  refine ⟨.ref _, upd H1 _ (.lst (kvs.map fun z => z.2)), I2.laid (t' := tk) hk (Nat.le_refl _) (show ObjOk X.prog X.w _ _ _ (.lst (kvs.map fun z => z.2)) from ⟨by rw [List.length_map]; exact hz, acc.toList, c', hv, by rw [Array.toArray_toList]; exact hD⟩), rfl, q _ (I2.hok.fresh (Nat.le_refl _))⟩
end
/-! ### sum of a list or a tuple -/
def rSumG (K : PySem.W.Frag) : List V → Hp → VK → Prop := fun vs H Q => ∃ (a : Addr) (ns : List Int), vs = [V.ref a] ∧ (SqL K H a (ns.map V.int) ∨ SqT K H a (ns.map V.int)) ∧ Q (.int ns.sum) H
theorem cr_sumG {X : Cx} {K : PySem.W.Frag} (hc : X.calm = true) (hK : X.K = K := by rfl) : CallR X (.builtin "sum") (rSumG K) := by
  subst hK
  intro pins s σ H vs us Q I r h
  obtain ⟨a, ns, rfl, hs | hs, q⟩ := h
  · exact cr_sum hc pins s σ H _ us Q I r ⟨a, ns, rfl, hs, q⟩
  · obtain ⟨its, rv, ht, _⟩ := I.tuple hs
    rw [Vals.ref1 r]
    have hi := rv.ints
    obtain ⟨xs, e⟩ := hi.allInts.items
    have hn : numsOf (intItems xs).toList = ns := by rw [← e]; exact hi.numsOf
    rw [nums_intItems] at hn
    rw [e] at ht
    refine PySem.W.ktm_sumG (I.ok.hd hc) ht fun h' tk t' hk => ?_
    rw [preSum_eq, List.take_of_length_le (by simp), hn]
    exact ⟨.int _, H, I.kept hk, ⟨_, rfl⟩, q⟩
end Wd

set_option Elab.async false
set_option linter.all false
set_option maxRecDepth 100000
set_option maxHeartbeats 4000000
namespace Wd
open PySem PySem.Spec PyProof.Rows L2
abbrev s__law_hall_of : Stmt := topS 21
theorem sc__law_hall_of : FnScope ["pen", "names", "size", "hall", "k", "name", "rooms", "hefts", "at", "far", "ends", "way", "one"] ["pen", "names", "size"] (C8.fnScope s__law_hall_of) := ⟨rfl, rfl, rfl, by decide +kernel, rfl, by decide +kernel, by decide +kernel⟩
def KpN (N : Addr → Prop) (H H' : Hp) : Prop := ∀ a o, N a → H a = some o → H' a = some o
theorem KpN.refl (N : Addr → Prop) (H : Hp) : KpN N H H := fun _ _ _ e => e
theorem KpN.new {N : Addr → Prop} {H G : Hp} {l : Addr} {o : HO} (k : KpN N H G) (nl : G l = none) : KpN N H (upd G l o) := fun a u n e => same_new nl _ _ (k a u n e)
theorem KpN.kp {N : Addr → Prop} {H G G' : Hp} {p : Addr} (k : KpN N H G) (np : ∀ a, N a → a ≠ p) (k2 : Kp p G G') : KpN N H G' := fun a u n e => k2 _ _ (np a n) (k a u n e)
theorem KpN.wr {N : Addr → Prop} {H G : Hp} {l : Addr} {o : HO} (k : KpN N H G) (nl : ¬ N l) : KpN N H (upd G l o) := fun a u n e => by
  have ne : a ≠ l := fun z => nl (by rw [← z]; exact n)
  rw [upd_ne ne]
  exact k a u n e
theorem KpN.sqL {N : Addr → Prop} {K : PySem.W.Frag} {H G : Hp} {a : Addr} {xs : List V} (k : KpN N H G) (n : N a) (h : SqL K H a xs) : SqL K G a xs := by
  rcases h with (h | ⟨u, h⟩) | h
  · exact .inl (.inl (k _ _ n h))
  · exact .inl (.inr ⟨u, k _ _ n h⟩)
  · exact .inr h
theorem KpN.sqT {N : Addr → Prop} {K : PySem.W.Frag} {H G : Hp} {a : Addr} {xs : List V} (k : KpN N H G) (n : N a) (h : SqT K H a xs) : SqT K G a xs := by
  rcases h with (h | ⟨u, h⟩) | h
  · exact .inl (.inl (k _ _ n h))
  · exact .inl (.inr ⟨u, k _ _ n h⟩)
  · exact .inr h
theorem at_way {d : Int} (h0 : 0 ≤ d) (h1 : d < 3) : ∃ m : Str, atI [V.str "both", V.str "both", V.str "on"] d = some (.str m) ∧ (m = "both" ∨ m = "on") := by
  have h : d = 0 ∨ d = 1 ∨ d = 2 := by omega
  rcases h with rfl | rfl | rfl
  · exact ⟨_, rfl, .inl rfl⟩
  · exact ⟨_, rfl, .inl rfl⟩
  · exact ⟨_, rfl, .inr rfl⟩
theorem nodup_get {α : Type} {xs : List α} (h : xs.Nodup) {i j : Nat} (hi : i < xs.length) (hj : j < xs.length) (e : xs[i] = xs[j]) : i = j := by
  have p := List.pairwise_iff_getElem.mp h
  rcases Nat.lt_trichotomy i j with c | c | c
  · exact absurd e (p i j hi hj c)
  · exact c
  · exact absurd e.symm (p j i hj hi c)
theorem at_five {d : Int} (h0 : 0 ≤ d) (h1 : d < 5) : ∃ m : Int, atI [V.int 0, V.int 1, V.int 2, V.int 3, V.int 9] d = some (.int m) ∧ (m = 0 ∨ m = 1 ∨ m = 2 ∨ m = 3 ∨ m = 9) := by
  have h : d = 0 ∨ d = 1 ∨ d = 2 ∨ d = 3 ∨ d = 4 := by omega
  rcases h with rfl | rfl | rfl | rfl | rfl <;> exact ⟨_, rfl, by decide⟩
section
variable {P : Program} {w : World} {K : PySem.W.Frag} {mg : Str → Option Value} {base : Heap}
/-- the doors' dict isn't the hall's own -/
def ApartH (H : Hp) (h : Addr) : Prop := ∀ d s w r : Addr, H h = some (.dK [(.inr "doors", .ref d), (.inr "stones", .ref s), (.inr "walkers", .ref w), (.inr "rooms", .ref r)]) → h ≠ d
theorem cal_imp {k : Nat} {n : Str} {sp sp' : Sp} {dvs : List V} (c : C8.Cal P w K mg base k n sp dvs) (h : ∀ vs H Q E, sp' vs H Q E → sp vs H Q E) : C8.Cal P w K mg base k n sp' dvs := by
  obtain ⟨f, fd, ps, ds, F, r⟩ := c.ex
  exact ⟨f, fd, ps, ds, F.imp h, r⟩
def spHallOf (K : PySem.W.Frag) : Sp := fun vs H Q _ => ∃ (p a b : Addr) (qc : Addr × List Int) (n : Nat) (names : List Str) (sr sd ss sw : Nat), vs = [.ref p, .ref a, .ref b] ∧ Pen K H p qc n ∧ n + 2000 < 1000000 ∧ a ≠ p ∧ SqL K H a (names.map V.str) ∧ b ≠ p ∧ SqT K H b [.int sr, .int sd, .int ss, .int sw] ∧
  sr + sd + ss + sw ≤ names.length ∧ names.length ≤ 18 ∧ names.Nodup ∧ (∀ x ∈ names, NameOk x) ∧ 1 ≤ sr ∧ 1 ≤ sw ∧
  ∀ (h : Addr) (x : HallH) (H' : Hp), HallOk sr sd ss sw x → HallAt (· ≠ p) K H' h x → Kp p H H' → Pen K H' p qc (n + 2000) → H h = none → Q (.ref h) H'
def spHallOfD (K : PySem.W.Frag) : Sp := fun vs H Q _ => ∃ (p a b : Addr) (qc : Addr × List Int) (n : Nat) (names : List Str) (sr sd ss sw : Nat), vs = [.ref p, .ref a, .ref b] ∧ Pen K H p qc n ∧ n + 2000 < 1000000 ∧ a ≠ p ∧ SqL K H a (names.map V.str) ∧ b ≠ p ∧ SqT K H b [.int sr, .int sd, .int ss, .int sw] ∧
  sr + sd + ss + sw ≤ names.length ∧ names.length ≤ 18 ∧ names.Nodup ∧ (∀ x ∈ names, NameOk x) ∧ 1 ≤ sr ∧ 1 ≤ sw ∧
  ∀ (h : Addr) (x : HallH) (H' : Hp), HallOk sr sd ss sw x → HallAt (· ≠ p) K H' h x → ApartH H' h → Kp p H H' → Pen K H' p qc (n + 2000) → H h = none → Q (.ref h) H'
theorem c_hallOfD {c : CA} (T : Txt P w K mg base c) (c_law_draw : C8.Cal P w K mg base 1 "_law_draw" (spDraw K) []) (c_law_pick : C8.Cal P w K mg base 2 "_law_pick" (spPick K) []) (c_law_heft : C8.Cal P w K mg base 2 "_law_heft" (spHeft K) []) (c_law_rows : C8.Cal P w K mg base 3 "_law_rows" (spRows K) []) {f : Addr} {fd : FuncData} (F : C8.Def K mg "_law_hall_of" s__law_hall_of f fd) (b : Binds K fd ["pen", "names", "size"] []) : C8.Cal P w K mg base 4 "_law_hall_of" (spHallOfD K) [] := by
  refine C8.cal0 F b .nil sc__law_hall_of (fun vs H Q E h => ?_) (fun cdv A outer s H vs Q E hr h => ?_)
  · obtain ⟨p, a, b, qc, n, names, sr, sd, ss, sw, rfl, _⟩ := h
    rfl
  · obtain ⟨p, a, b, qc, n, names, sr, sd, ss, sw, rfl, hp, hn, ap, ha, bp, hb, l1, l2, nd, nk, r1, w1, q⟩ := h
    have hu := hu_of hr
    have hu6 := hu64 hr
    refine ⟨_, (pss_cons (ps_set (i := 3) sc__law_hall_of.nd rfl (.inl rfl) (pe_disp (pps_cons pe_str pe_dnewK (pps_cons pe_str pe_dnewK (pps_cons pe_str (pe_lst pa_nil) pps_nil))) rfl rfl (by simp) (by decide)))
  (pss_cons (ps_dput hu (pv 3) pe_str (pe_callB (cr_sortedS) (by rfl) T.b_sorted bt_sorted (pa_cons (pe_slice (sl_any (K := K)) (pv 1) po_none (po_some (pe_op (op_addG (K := K)) pe_int (C8.pe_c c_law_draw hr (by decide) (by rfl) (pa_cons (pv 0) (pa_cons (pe_ix (ixG (K := K)) (pv 2) pe_int (fun _ _ => rfl)) pa_nil)))))) pa_nil)) rfl)
  (pss_cons (ps_set (i := 1) sc__law_hall_of.nd rfl (.inl rfl) (pe_slice (sl_any (K := K)) (pv 1) (po_some (pe_ix (ixG (K := K)) (pv 2) pe_int (fun _ _ => rfl))) po_none))
  (pss_cons (ps_for PassesOwn.never rfl (pi_range1 rfl T.b_range (pa_cons (pe_op (op_addG (K := K)) pe_int (C8.pe_c c_law_draw hr (by decide) (by rfl) (pa_cons (pv 0) (pa_cons (pe_ix (ixG (K := K)) (pv 2) pe_int (fun _ _ => rfl)) pa_nil)))) pa_nil)) (pg_name (i := 4) sc__law_hall_of.nd rfl (.inl rfl))
    (pss_one (ps_expr (pe_bm PySem.F.plainAttrs_list PySem.F.slot_list_append PySem.F.type_list_append mt_append (pe_dget hu (pv 3) pe_str (fun _ _ => rfl)) (pa_cons (pe_tup (pa_cons (pe_ix (ixG (K := K)) (pv 1) (pv 4) (fun _ _ => rfl)) (pa_cons (C8.pe_c c_law_heft hr (by decide) (by rfl) (pa_cons (pv 0) pa_nil)) (pa_cons (pe_ix (ixG (K := K)) (pe_lst (pa_cons pe_int (pa_cons pe_int (pa_cons pe_int (pa_cons pe_int (pa_cons pe_int pa_nil)))))) (C8.pe_c c_law_draw hr (by decide) (by rfl) (pa_cons (pv 0) (pa_cons pe_int pa_nil))) (fun _ _ => rfl)) pa_nil)))) pa_nil)))))
  (pss_cons (ps_set (i := 1) sc__law_hall_of.nd rfl (.inl rfl) (pe_slice (sl_any (K := K)) (pv 1) (po_some (pe_ix (ixG (K := K)) (pv 2) pe_int (fun _ _ => rfl))) po_none))
  (pss_cons (ps_for PassesOwn.never rfl (pi_listK (K := K) (pe_callB (cr_sortedS) (by rfl) T.b_sorted bt_sorted (pa_cons (pe_slice (sl_any (K := K)) (pv 1) po_none (po_some (C8.pe_c c_law_draw hr (by decide) (by rfl) (pa_cons (pv 0) (pa_cons (pe_op (op_addG (K := K)) (pe_ix (ixG (K := K)) (pv 2) pe_int (fun _ _ => rfl)) pe_int) pa_nil))))) pa_nil))) (pg_name (i := 5) sc__law_hall_of.nd rfl (.inl rfl))
    (pss_one (ps_dput hu (pe_dget hu (pv 3) pe_str (fun _ _ => rfl)) (pv 5) (C8.pe_c c_law_heft hr (by decide) (by rfl) (pa_cons (pv 0) pa_nil)) rfl)))
  (pss_cons (ps_par (i := 6) (j := 7) rfl sc__law_hall_of.nd rfl rfl (by decide) rfl rfl (pa_cons (pe_dget hu (pv 3) pe_str (fun _ _ => rfl)) (pa_cons (pe_lc (own := [("one", 12)]) rfl sc__law_hall_of.nd (pi_listK (K := K) (pe_dget hu (pv 3) pe_str (fun _ _ => rfl))) (blkOk_by (by kernel_rfl)) (fun _ _ _ _ _ => (pg_name (i := 12) sc__law_hall_of.nd rfl (.inl rfl))) (fun _ _ _ _ _ => pts_nil)
      (fun _ _ _ _ _ => (pe_ix (ixG (K := K)) (pv 12) pe_int (fun _ _ => rfl)))) pa_nil)) rfl)
  (pss_cons (ps_set (i := 7) sc__law_hall_of.nd rfl (.inl rfl) (pe_op (op_addG (K := K)) (pv 7) (pe_listVals (by rfl) (pe_dget hu (pv 3) pe_str (fun _ _ => rfl)) (by rfl) T.b_list)))
  (pss_cons (ps_for PassesOwn.never rfl (pi_listK (K := K) (pe_callB (cr_sortedS) (by rfl) T.b_sorted bt_sorted (pa_cons (pe_slice (sl_any (K := K)) (pe_slice (sl_any (K := K)) (pv 1) (po_some (pe_ix (ixG (K := K)) (pv 2) pe_int (fun _ _ => rfl))) po_none) po_none (po_some (pe_op (op_mulG (K := K)) (C8.pe_c c_law_draw hr (by decide) (by rfl) (pa_cons (pv 0) (pa_cons (pe_op (op_addG (K := K)) (pe_ix (ixG (K := K)) (pv 2) pe_int (fun _ _ => rfl)) pe_int) pa_nil))) (pe_callTy (call_int1) (by rfl) T.b_int bt_int (pa_cons (pe_cmpR (op_gt) (pe_callB (call_lenG (K := K)) (by rfl) T.b_len bt_len (pa_cons (pv 6) pa_nil)) pe_int (nomark _)) pa_nil))))) pa_nil))) (pg_name (i := 5) sc__law_hall_of.nd rfl (.inl rfl))
    (pss_cons (ps_set (i := 8) sc__law_hall_of.nd rfl (.inl rfl) (C8.pe_c c_law_draw hr (by decide) (by rfl) (pa_cons (pv 0) (pa_cons (pe_callB (call_lenG (K := K)) (by rfl) T.b_len bt_len (pa_cons (pv 6) pa_nil)) pa_nil))))
  (pss_cons (ps_set (i := 9) sc__law_hall_of.nd rfl (.inl rfl) (pe_op (op_addG (K := K)) (pe_op (op_addG (K := K)) (pv 8) pe_int) (C8.pe_c c_law_draw hr (by decide) (by rfl) (pa_cons (pv 0) (pa_cons (pe_callB (call_max2 rfl) (by rfl) T.b_max bt_max (pa_cons pe_int (pa_cons (pe_op (op_sub) (pe_callB (call_lenG (K := K)) (by rfl) T.b_len bt_len (pa_cons (pv 6) pa_nil)) pe_int) pa_nil))) pa_nil)))))
  (pss_cons (ps_set (i := 10) sc__law_hall_of.nd rfl (.inl rfl) (pe_lst (pa_cons (pe_ix (ixG (K := K)) (pv 6) (pv 8) (fun _ _ => rfl)) (pa_cons (pe_ix (ixG (K := K)) (pv 6) (pe_op (op_mod) (pv 9) (pe_callB (call_lenG (K := K)) (by rfl) T.b_len bt_len (pa_cons (pv 6) pa_nil))) (fun _ _ => rfl)) pa_nil))))
  (pss_cons (ps_set (i := 11) sc__law_hall_of.nd rfl (.inl rfl) (pe_ix (ixG (K := K)) (pe_lst (pa_cons pe_str (pa_cons pe_str (pa_cons pe_str pa_nil)))) (C8.pe_c c_law_draw hr (by decide) (by rfl) (pa_cons (pv 0) (pa_cons pe_int pa_nil))) (fun _ _ => rfl)))
  (C8.pss_cut (ps_if (pt_cmpR (op_eqX (K := K) hu6) (pv 11) pe_str (nomark _)) (pss_one (ps_set (i := 10) sc__law_hall_of.nd rfl (.inl rfl) (pe_callB (cr_sortedS) (by rfl) T.b_sorted bt_sorted (pa_cons (pv 10) pa_nil)))) pss_nil)
  (pss_one (ps_dput hu (pe_dget hu (pv 3) pe_str (fun _ _ => rfl)) (pv 5) (pe_tup (pa_cons (pe_ix (ixG (K := K)) (pv 10) pe_int (fun _ _ => rfl)) (pa_cons (pe_ix (ixG (K := K)) (pv 10) pe_int (fun _ _ => rfl)) (pa_cons (pv 11) (pa_cons (C8.pe_c c_law_rows hr (by decide) (by rfl) (pa_cons (pv 0) (pa_cons (pv 6) (pa_cons (pv 7) pa_nil)))) pa_nil))))) rfl))))))))
  (pss_one (ps_ret (pv 3)))))))))))), ?_⟩
    -- the dict
    intro h nh
    have oh := hp.off nh
    have s1 := same_new nh (o := .dK [])
    have g1 : (upd H h (.dK [])) h = some (.dK []) := upd_same
    have p1 := hp.same s1
    generalize upd H h (.dK []) = G1 at s1 g1 p1
    intro d ndd
    have od := p1.off ndd
    have zd := s1.free ndd
    have s2 := s1.trans (same_new ndd (o := .dK []))
    have g2 := same_new ndd (o := .dK []) _ _ g1
    have d2 : (upd G1 d (.dK [])) d = some (.dK []) := upd_same
    have hd : h ≠ d := ne_of_none g1 ndd
    have p2 := p1.same (same_new ndd (o := .dK []))
    generalize upd G1 d (.dK []) = G2 at s2 g2 d2 p2
    intro st nst
    have os := p2.off nst
    have zs := s2.free nst
    have s3 := s2.trans (same_new nst (o := .dK []))
    have g3 := same_new nst (o := .dK []) _ _ g2
    have d3 := same_new nst (o := .dK []) _ _ d2
    have t3 : (upd G2 st (.dK [])) st = some (.dK []) := upd_same
    have hs : h ≠ st := ne_of_none g2 nst
    have hds : d ≠ st := ne_of_none d2 nst
    have p3 := p2.same (same_new nst (o := .dK []))
    generalize upd G2 st (.dK []) = G3 at s3 g3 d3 t3 p3
    refine ⟨Nat.zero_le _, fun wl nw => ?_⟩
    have ow := p3.off nw
    have zw := s3.free nw
    have s4 := s3.trans (same_new nw (o := .lst []))
    have g4 := same_new nw (o := .lst []) _ _ g3
    have d4 := same_new nw (o := .lst []) _ _ d3
    have t4 := same_new nw (o := .lst []) _ _ t3
    have w4 : (upd G3 wl (.lst [])) wl = some (.lst []) := upd_same
    have p4 := p3.same (same_new nw (o := .lst []))
    generalize upd G3 wl (.lst []) = G4 at s4 g4 d4 t4 w4 p4
    refine ⟨g4, [(.inr "doors", .ref d), (.inr "stones", .ref st), (.inr "walkers", .ref wl)], rfl, (by show 3 ≤ 15; decide), ?_⟩
    clear p1 p2 p3 s1 s2 s3 g1 g2 g3 d2 d3 t3 nw nst ndd
    rw [show mergeK [] [((.inr "doors" : Key), V.ref d), (.inr "stones", .ref st), (.inr "walkers", .ref wl)] = [(.inr "doors", .ref d), (.inr "stones", .ref st), (.inr "walkers", .ref wl)] from rfl]
    have hw : h ≠ wl := fun e => by rw [e, w4] at g4; cases g4
    have dw : d ≠ wl := fun e => by rw [e, w4] at d4; cases d4
    have sw' : st ≠ wl := fun e => by rw [e, w4] at t4; cases t4
    have k5 : Kp p H (upd G4 h (.dK [(.inr "doors", .ref d), (.inr "stones", .ref st), (.inr "walkers", .ref wl)])) := fun b o _ e => by
      rw [upd_ne (ne_of_none e nh)]
      exact s4 _ _ e
    have p5 : Pen K (upd G4 h (.dK [(.inr "doors", .ref d), (.inr "stones", .ref st), (.inr "walkers", .ref wl)])) p qc n := p4.wr hp nh
    have h5 : (upd G4 h (.dK [(.inr "doors", .ref d), (.inr "stones", .ref st), (.inr "walkers", .ref wl)])) h = some (.dK [(.inr "doors", .ref d), (.inr "stones", .ref st), (.inr "walkers", .ref wl)]) := upd_same
    have d5 : (upd G4 h (.dK [(.inr "doors", .ref d), (.inr "stones", .ref st), (.inr "walkers", .ref wl)])) d = some (.dK []) := by rw [upd_ne hd.symm]; exact d4
    have t5 : (upd G4 h (.dK [(.inr "doors", .ref d), (.inr "stones", .ref st), (.inr "walkers", .ref wl)])) st = some (.dK []) := by rw [upd_ne hs.symm]; exact t4
    have w5 : (upd G4 h (.dK [(.inr "doors", .ref d), (.inr "stones", .ref st), (.inr "walkers", .ref wl)])) wl = some (.lst []) := by rw [upd_ne hw.symm]; exact w4
    clear g4 d4 t4 w4 p4 s4
    generalize upd G4 h (.dK [(.inr "doors", .ref d), (.inr "stones", .ref st), (.inr "walkers", .ref wl)]) = G5 at k5 p5 h5 d5 t5 w5
    -- the rooms
    refine ⟨.ref a, rfl, .ref p, rfl, .ref b, rfl, .inr (.inl ⟨b, _, 0, .int sr, rfl, rfl, KpN.sqT (N := (· ≠ p)) k5 bp hb, rfl, ?_⟩)⟩
    refine ⟨p, qc, sr, n, rfl, p5, by omega, by omega, by omega, fun e G6 e0 e1 k6 p6 => ?_⟩
    refine ⟨1 + e, rfl, .inl ⟨a, names.map V.str, rfl, KpN.sqL (N := (· ≠ p)) (k5.trans k6) ap ha, fun l7 n7 => ?_⟩⟩
    rw [cutV_to (by omega), ← List.map_take]
    refine ⟨l7, names.take (1 + e).toNat, rfl, .inl (.inl upd_same), by rw [List.length_take]; omega, fun rooms r rperm rsort nr => ?_⟩
    have k8 : Kp p H (upd (upd G6 l7 (.lst ((names.take (1 + e).toNat).map V.str))) r (.lst (rooms.map V.str))) := ((k5.trans k6).new n7).new nr
    have p8 := (p6.same (same_new n7 (o := .lst ((names.take (1 + e).toNat).map V.str)))).same (same_new nr (o := .lst (rooms.map V.str)))
    have keep : ∀ x o, x ≠ p → G5 x = some o → (upd (upd G6 l7 (.lst ((names.take (1 + e).toNat).map V.str))) r (.lst (rooms.map V.str))) x = some o := fun x o nx ex => same_new nr _ _ (same_new n7 _ _ (k6 _ _ nx ex))
    have r8 : (upd (upd G6 l7 (.lst ((names.take (1 + e).toNat).map V.str))) r (.lst (rooms.map V.str))) r = some (.lst (rooms.map V.str)) := upd_same
    have or' : r ≠ p := (p6.same (same_new n7 (o := .lst ((names.take (1 + e).toNat).map V.str)))).off nr
    have wr : wl ≠ r := ne_of_none (same_new n7 _ _ (k6 _ _ ow w5)) nr
    have zr : H r = none := k5.free or' (k6.free or' ((same_new n7).free nr))
    have h8 := keep _ _ oh h5
    have d8 := keep _ _ od d5
    have t8 := keep _ _ os t5
    have w8 := keep _ _ ow w5
    clear h5 d5 t5 w5 p5 p6 n7 nr
    generalize upd (upd G6 l7 (.lst ((names.take (1 + e).toNat).map V.str))) r (.lst (rooms.map V.str)) = G8 at k8 p8 keep r8 h8 d8 t8 w8
    have hr' : h ≠ r := fun z => by rw [z, r8] at h8; cases h8
    have dr : d ≠ r := fun z => by rw [z, r8] at d8; cases d8
    have sr' : st ≠ r := fun z => by rw [z, r8] at t8; cases t8
    refine ⟨.ref h, rfl, h, _, rfl, DPut.k (k := .inr "rooms") h8 (by show 3 < sizeLine; decide), ?_⟩
    rw [show putK [((.inr "doors" : Key), V.ref d), (.inr "stones", .ref st), (.inr "walkers", .ref wl)] (.inr "rooms") (.ref r) = [(.inr "doors", .ref d), (.inr "stones", .ref st), (.inr "walkers", .ref wl), (.inr "rooms", .ref r)] from rfl]
    have k9 : Kp p H (upd G8 h (.dK [(.inr "doors", .ref d), (.inr "stones", .ref st), (.inr "walkers", .ref wl), (.inr "rooms", .ref r)])) := fun b o nb e => by
      rw [upd_ne (ne_of_none e nh)]
      exact k8 _ _ nb e
    have p9 : Pen K (upd G8 h (.dK [(.inr "doors", .ref d), (.inr "stones", .ref st), (.inr "walkers", .ref wl), (.inr "rooms", .ref r)])) p qc (n + 1) := p8.wr hp nh
    have h9 : (upd G8 h (.dK [(.inr "doors", .ref d), (.inr "stones", .ref st), (.inr "walkers", .ref wl), (.inr "rooms", .ref r)])) h = some (.dK [(.inr "doors", .ref d), (.inr "stones", .ref st), (.inr "walkers", .ref wl), (.inr "rooms", .ref r)]) := upd_same
    have d9 : (upd G8 h (.dK [(.inr "doors", .ref d), (.inr "stones", .ref st), (.inr "walkers", .ref wl), (.inr "rooms", .ref r)])) d = some (.dK []) := by rw [upd_ne hd.symm]; exact d8
    have t9 : (upd G8 h (.dK [(.inr "doors", .ref d), (.inr "stones", .ref st), (.inr "walkers", .ref wl), (.inr "rooms", .ref r)])) st = some (.dK []) := by rw [upd_ne hs.symm]; exact t8
    have w9 : (upd G8 h (.dK [(.inr "doors", .ref d), (.inr "stones", .ref st), (.inr "walkers", .ref wl), (.inr "rooms", .ref r)])) wl = some (.lst []) := by rw [upd_ne hw.symm]; exact w8
    have r9 : (upd G8 h (.dK [(.inr "doors", .ref d), (.inr "stones", .ref st), (.inr "walkers", .ref wl), (.inr "rooms", .ref r)])) r = some (.lst (rooms.map V.str)) := by rw [upd_ne hr'.symm]; exact r8
    clear h8 d8 t8 w8 r8 p8 k8 keep k5 k6
    generalize upd G8 h (.dK [(.inr "doors", .ref d), (.inr "stones", .ref st), (.inr "walkers", .ref wl), (.inr "rooms", .ref r)]) = G9 at k9 p9 h9 d9 t9 w9 r9
    -- the other names
    refine ⟨.ref a, rfl, .ref b, rfl, .inr (.inl ⟨b, _, 0, .int sr, rfl, rfl, KpN.sqT (N := (· ≠ p)) k9 bp hb, rfl, sr, rfl, .inl ⟨a, names.map V.str, rfl, KpN.sqL (N := (· ≠ p)) k9 ap ha, fun la na => ?_⟩⟩)⟩
    rw [cutV_from (by omega), Int.toNat_natCast, ← List.map_drop]
    have oa : la ≠ p := p9.off na
    have ka := k9.new na (o := .lst ((names.drop sr).map V.str))
    have pa := p9.same (same_new na (o := .lst ((names.drop sr).map V.str)))
    have a10 : (upd G9 la (.lst ((names.drop sr).map V.str))) la = some (.lst ((names.drop sr).map V.str)) := upd_same
    have aw : wl ≠ la := ne_of_none w9 na
    have ad : d ≠ la := ne_of_none d9 na
    have as : st ≠ la := ne_of_none t9 na
    have ah : h ≠ la := ne_of_none h9 na
    have ar : r ≠ la := ne_of_none r9 na
    have h10 := same_new na (o := .lst ((names.drop sr).map V.str)) _ _ h9
    have d10 := same_new na (o := .lst ((names.drop sr).map V.str)) _ _ d9
    have t10 := same_new na (o := .lst ((names.drop sr).map V.str)) _ _ t9
    have w10 := same_new na (o := .lst ((names.drop sr).map V.str)) _ _ w9
    have r10 := same_new na (o := .lst ((names.drop sr).map V.str)) _ _ r9
    clear h9 d9 t9 w9 r9 na k9 p9
    generalize upd G9 la (.lst ((names.drop sr).map V.str)) = H0 at ka pa a10 h10 d10 t10 w10 r10
    -- the walkers
    refine ⟨.ref p, rfl, .ref b, rfl, .inr (.inl ⟨b, _, 3, .int sw, rfl, rfl, KpN.sqT (N := (· ≠ p)) ka bp hb, rfl, ?_⟩)⟩
    refine ⟨p, qc, sw, n + 1, rfl, pa, by omega, by omega, by omega, fun e' H1 e0' e1' kb pb => ?_⟩
    refine ⟨1 + e', rfl, by omega, by omega, ?_⟩
    have k1 := ka.trans kb
    have h1 := kb _ _ oh h10
    have d1 := kb _ _ od d10
    have t1 := kb _ _ os t10
    have w1' := kb _ _ ow w10
    have r1' := kb _ _ or' r10
    have a1 := kb _ _ oa a10
    clear kb ka pa h10 d10 t10 w10 r10 a10
    have nvl : (names.drop sr).length = names.length - sr := List.length_drop
    refine for_range (fun i σ G => ∃ (d4 : Option V) (ws : List WalkH) (wvs : List V), σ = [some (.ref p), some (.ref la), some (.ref b), some (.ref h), d4, none, none, none, none, none, none, none, none] ∧ KpN (fun x => x ≠ p ∧ x ≠ wl) H1 G ∧ Pen K G p qc (n + 2 + 2 * i) ∧ G wl = some (.lst wvs) ∧ DqAll (fun x => x ≠ p ∧ x ≠ wl) K G wvs (ws.map WalkH.data) ∧ ws.map WalkH.name = (names.drop sr).take i ∧ ∀ x ∈ ws, x.ok)
      ⟨_, [], [], rfl, KpN.refl _ _, pb.le (by omega), w1', .nil, rfl, by simp⟩ (fun i σ G hi pv => ?_) (fun σ G pv => ?_)
    · obtain ⟨d4, ws, wvs, rfl, k, pn, gw, dq, wn, wk⟩ := pv
      have hG := k _ _ ⟨oh, hw⟩ h1
      have aG := k _ _ ⟨oa, aw.symm⟩ a1
      have hi' : i < sw := by omega
      have hin : i < (names.drop sr).length := by omega
      have wl' : wvs.length = i := by
        have := dq.length
        rw [List.length_map] at this
        have e2 := congrArg List.length wn
        rw [List.length_map, List.length_take] at e2
        omega
      refine ⟨.ref h, rfl, h, .ref wl, rfl, DGet.k (k := .inr "walkers") hG, .inl ⟨rfl, _, .inl (.inl gw)⟩, ?_⟩
      refine ⟨.ref la, rfl, .int (0 + i), rfl, .inl ⟨la, _, _, .str (names.drop sr)[i], rfl, rfl, .inl (.inl aG), ?_, ?_⟩⟩
      · refine atI_in (j := i) (by omega) ?_
        rw [List.getElem?_map, List.getElem?_eq_getElem hin]
        rfl
      refine ⟨.ref p, rfl, p, qc, _, rfl, pn, by omega, fun hf G2 f0 f1 k2 p2 => ?_⟩
      replace k := k.kp (fun _ z => z.1) k2
      replace gw := k2 _ _ ow gw
      replace dq := DqAll.move (fun _ z => z) (fun x o z e => k2 x o z.1 e) _ _ dq
      refine ⟨by show 5 ≤ sizeLine; decide, fun l5 n5 => ?_⟩
      have o5 := p2.off n5
      replace k := k.new n5 (o := .lst [V.int 0, V.int 1, V.int 2, V.int 3, V.int 9])
      replace gw := same_new n5 (o := .lst [V.int 0, V.int 1, V.int 2, V.int 3, V.int 9]) _ _ gw
      replace dq := dq.mono (same_new n5 (o := .lst [V.int 0, V.int 1, V.int 2, V.int 3, V.int 9]))
      replace p2 := p2.same (same_new n5 (o := .lst [V.int 0, V.int 1, V.int 2, V.int 3, V.int 9]))
      have f5 : (upd G2 l5 (.lst [V.int 0, V.int 1, V.int 2, V.int 3, V.int 9])) l5 = some (.lst [V.int 0, V.int 1, V.int 2, V.int 3, V.int 9]) := upd_same
      generalize upd G2 l5 (.lst [V.int 0, V.int 1, V.int 2, V.int 3, V.int 9]) = G3 at k gw dq p2 f5
      refine ⟨.ref p, rfl, p, qc, 5, _, rfl, p2, by omega, by decide, by decide, fun d5 G4 d50 d51 k4 p4 => ?_⟩
      obtain ⟨hd', ha5, hok⟩ := at_five d50 d51
      refine .inl ⟨l5, _, d5, .int hd', rfl, rfl, .inl (.inl (k4 _ _ o5 f5)), ha5, ?_⟩
      replace k := k.kp (fun _ z => z.1) k4
      replace gw := k4 _ _ ow gw
      replace dq := DqAll.move (fun _ z => z) (fun x o z e => k4 x o z.1 e) _ _ dq
      refine ⟨by show 3 ≤ sizeLine; decide, fun l6 n6 => ?_⟩
      have o6 := p4.off n6
      have o6' : l6 ≠ wl := fun z => by rw [z, gw] at n6; cases n6
      replace k := k.new n6 (o := .tup [V.str (names.drop sr)[i], V.int hf, V.int hd'])
      replace gw := same_new n6 (o := .tup [V.str (names.drop sr)[i], V.int hf, V.int hd']) _ _ gw
      replace dq := dq.mono (same_new n6 (o := .tup [V.str (names.drop sr)[i], V.int hf, V.int hd']))
      replace p4 := p4.same (same_new n6 (o := .tup [V.str (names.drop sr)[i], V.int hf, V.int hd']))
      have f6 : (upd G4 l6 (.tup [V.str (names.drop sr)[i], V.int hf, V.int hd'])) l6 = some (.tup [V.str (names.drop sr)[i], V.int hf, V.int hd']) := upd_same
      generalize upd G4 l6 (.tup [V.str (names.drop sr)[i], V.int hf, V.int hd']) = G5 at k gw dq p4 f6
      refine ⟨wl, wvs, .ref l6, rfl, rfl, gw, small1000000 (by omega), _, ws ++ [⟨(names.drop sr)[i], hf, hd'⟩], wvs ++ [.ref l6], rfl, k.wr (fun z => z.2 rfl), (p4.wr hp zw).le (by omega), upd_same, ?_, ?_, ?_⟩
      · rw [List.map_append]
        refine DqAll.move (fun _ n => n) (fun x o nx e => by rw [upd_ne nx.2]; exact e) _ _ (DqAll.snoc dq ?_)
        exact .tup ⟨o6, o6'⟩ (.inl (.inl f6)) (.cons (.str _) (.cons (.int _) (.cons (.int _) .nil)))
      · rw [List.map_append, wn, take_snoc (List.getElem?_eq_getElem hin)]
        rfl
      · intro x hx
        rcases List.mem_append.mp hx with hx | hx
        · exact wk x hx
        · rw [List.mem_singleton.mp hx]
          exact ⟨f0, f1, hok⟩
    obtain ⟨d4, ws, wvs, rfl, k, pn, gw, dq, wn, wk⟩ := pv
    have hW : (1 + e').toNat ≤ sw := by omega
    have k2 : Kp p H G := fun x o nx ex => k _ _ ⟨nx, fun z => by rw [z, zw] at ex; cases ex⟩ (k1 _ _ nx ex)
    have h2 := k _ _ ⟨oh, hw⟩ h1
    have d2 := k _ _ ⟨od, dw⟩ d1
    have t2 := k _ _ ⟨os, sw'⟩ t1
    have r2' := k _ _ ⟨or', wr.symm⟩ r1'
    have a2 := k _ _ ⟨oa, aw.symm⟩ a1
    replace pn := pn.le (m := n + 40) (by omega)
    replace dq := DqAll.move (N' := fun x => x ≠ p) (fun _ z => z.1) (fun _ _ _ z => z) _ _ dq
    clear k k1 h1 d1 t1 w1' r1' a1 pb aw ad as ah ar
    -- the names behind
    refine ⟨.ref la, rfl, .ref b, rfl, .inr (.inl ⟨b, _, 3, .int sw, rfl, rfl, KpN.sqT (N := (· ≠ p)) k2 bp hb, rfl, sw, rfl, .inl ⟨la, (names.drop sr).map V.str, rfl, .inl (.inl a2), fun lb nb => ?_⟩⟩)⟩
    rw [cutV_from (by omega), Int.toNat_natCast, ← List.map_drop]
    generalize hnm3 : (names.drop sr).drop sw = nm3 at nb
    have nl3 : nm3.length = names.length - sr - sw := by rw [← hnm3, List.length_drop, List.length_drop]
    have ob := pn.off nb
    have dbl : d ≠ lb := ne_of_none d2 nb
    have sbl : st ≠ lb := ne_of_none t2 nb
    replace k2 := k2.new nb (o := .lst (nm3.map V.str))
    replace pn := pn.same (same_new nb (o := .lst (nm3.map V.str)))
    replace dq := dq.mono (same_new nb (o := .lst (nm3.map V.str)))
    replace h2 := same_new nb (o := .lst (nm3.map V.str)) _ _ h2
    replace d2 := same_new nb (o := .lst (nm3.map V.str)) _ _ d2
    replace t2 := same_new nb (o := .lst (nm3.map V.str)) _ _ t2
    replace r2' := same_new nb (o := .lst (nm3.map V.str)) _ _ r2'
    replace gw := same_new nb (o := .lst (nm3.map V.str)) _ _ gw
    have b2 : (upd G lb (.lst (nm3.map V.str))) lb = some (.lst (nm3.map V.str)) := upd_same
    clear a2
    generalize upd G lb (.lst (nm3.map V.str)) = G2 at k2 pn dq h2 d2 t2 r2' gw b2
    -- the stones
    refine ⟨.ref lb, rfl, .ref p, rfl, .ref b, rfl, .inr (.inl ⟨b, _, 2, .int ss, rfl, rfl, KpN.sqT (N := (· ≠ p)) k2 bp hb, rfl, ?_⟩)⟩
    refine ⟨p, qc, ss + 1, n + 40, rfl, pn, by omega, by omega, by omega, fun e3 G3 e30 e31 k3 p3 => ?_⟩
    have h3 := k3 _ _ oh h2
    have d3 := k3 _ _ od d2
    have t3 := k3 _ _ os t2
    have r3 := k3 _ _ or' r2'
    have gw3 := k3 _ _ ow gw
    have b3 := k3 _ _ ob b2
    have dq3 := dq.kp k3
    replace k2 := k2.trans k3
    clear k3 h2 d2 t2 r2' gw b2 dq pn
    refine ⟨e3, rfl, .inl ⟨lb, nm3.map V.str, rfl, .inl (.inl b3), fun lc nc => ?_⟩⟩
    rw [cutV_to e30, ← List.map_take]
    refine ⟨lc, nm3.take e3.toNat, rfl, .inl (.inl upd_same), by rw [List.length_take]; omega, fun sn ld sperm ssort nld => ?_⟩
    have s4 : Same G3 (upd (upd G3 lc (.lst ((nm3.take e3.toNat).map V.str))) ld (.lst (sn.map V.str))) := (same_new nc).trans (same_new nld)
    have e4 : (upd (upd G3 lc (.lst ((nm3.take e3.toNat).map V.str))) ld (.lst (sn.map V.str))) ld = some (.lst (sn.map V.str)) := upd_same
    have old : ld ≠ p := (p3.same (same_new nc)).off nld
    have sld : st ≠ ld := ne_of_none (same_new nc _ _ t3) nld
    replace k2 := (k2.new nc (o := .lst ((nm3.take e3.toNat).map V.str))).new nld (o := .lst (sn.map V.str))
    replace p3 := p3.same s4
    replace dq3 := dq3.mono s4
    replace h3 := s4 _ _ h3
    replace d3 := s4 _ _ d3
    replace t3 := s4 _ _ t3
    replace r3 := s4 _ _ r3
    replace gw3 := s4 _ _ gw3
    replace b3 := s4 _ _ b3
    clear s4 nc nld
    generalize upd (upd G3 lc (.lst ((nm3.take e3.toNat).map V.str))) ld (.lst (sn.map V.str)) = G4 at k2 p3 dq3 h3 d3 t3 r3 gw3 b3 e4
    have snl : sn.length ≤ ss := by
      have := sperm.length_eq
      rw [List.length_take] at this
      omega
    have snd : sn.Nodup := by
      refine sperm.nodup_iff.mpr (List.Nodup.sublist (List.take_sublist _ _) ?_)
      rw [← hnm3]
      exact nd.sublist ((List.drop_sublist _ _).trans (List.drop_sublist _ _))
    refine ⟨ld, rfl, ⟨_, .inl (.inl e4)⟩, ?_⟩
    refine for_list (a := ld) (xs := sn.map V.str) (fun i σ G => ∃ (d5 : Option V) (stn : List (Str × Int)), σ = [some (.ref p), some (.ref lb), some (.ref b), some (.ref h), d4, d5, none, none, none, none, none, none, none] ∧ KpN (fun x => x ≠ p ∧ x ≠ st) G4 G ∧ Pen K G p qc (n + 41 + i) ∧ G st = some (.dK (stonesKv stn)) ∧ stn.map Prod.fst = sn.take i ∧ ∀ x ∈ stn, 0 ≤ x.2 ∧ x.2 ≤ 9999999)
      ⟨_, [], rfl, KpN.refl _ _, p3.le (by omega), t3, rfl, by simp⟩ (fun i σ G _ pv => ?_) (fun i x σ G hx pv => ?_) (fun σ G pv => ?_)
    · obtain ⟨d5, stn, rfl, k, pn, gs, sn1, sn2⟩ := pv
      exact k.sqL ⟨old, sld.symm⟩ (.inl (.inl e4))
    · obtain ⟨d5, stn, rfl, k, pn, gs, sn1, sn2⟩ := pv
      rw [List.getElem?_map] at hx
      obtain ⟨nm, hnm, rfl⟩ := Option.map_eq_some_iff.mp hx
      have hi : i < sn.length := (List.getElem?_eq_some_iff.mp hnm).1
      have stl : stn.length = i := by
        have e2 := congrArg List.length sn1
        rw [List.length_map, List.length_take] at e2
        omega
      refine ⟨.ref p, rfl, p, qc, _, rfl, pn, by omega, fun hf G5 f0 f1 k5 p5 => ?_⟩
      have hG := k5 _ _ oh (k _ _ ⟨oh, hs⟩ h3)
      refine ⟨.ref h, rfl, h, .ref st, rfl, DGet.k (k := .inr "stones") hG, .str nm, rfl, st, _, rfl, DPut.k (k := .inr nm) (k5 _ _ os gs) ?_, ?_⟩
      · unfold stonesKv
        rw [List.length_map]
        exact small1000000 (by omega)
      have fresh : valV (stonesKv stn) (.inr nm) = none := valV_off fun m => by
        rw [stonesKv_keys, sn1] at m
        have := (List.getElem?_eq_some_iff.mp hnm).2
        exact not_in_take snd hi (this ▸ inr_in m)
      refine ⟨_, stn ++ [(nm, hf)], rfl, (k.kp (fun _ z => z.1) k5).wr (fun z => z.2 rfl), (p5.wr hp zs).le (by omega), ?_, ?_, ?_⟩
      · rw [upd_same, putK_new _ fresh]
        unfold stonesKv
        rw [List.map_append]
        rfl
      · rw [List.map_append, sn1, take_snoc hnm]
        rfl
      · intro x hx
        rcases List.mem_append.mp hx with hx | hx
        · exact sn2 x hx
        · rw [List.mem_singleton.mp hx]
          exact ⟨f0, f1⟩
    obtain ⟨d5, stn, rfl, k, pn, gs, sn1, sn2⟩ := pv
    rw [List.length_map] at pn sn1
    rw [List.take_length] at sn1
    have h5 := k _ _ ⟨oh, hs⟩ h3
    have d6 := k _ _ ⟨od, hds⟩ d3
    have r5 := k _ _ ⟨or', sr'.symm⟩ r3
    have gw5 := k _ _ ⟨ow, sw'.symm⟩ gw3
    have b5 := k _ _ ⟨ob, sbl.symm⟩ b3
    have dq5 : DqAll (· ≠ p) K G wvs (ws.map WalkH.data) := DqAll.moveD (fun _ z => z) (fun x o nx no ex => k x o ⟨nx, fun z => by rw [z, t3] at ex; exact no _ (Option.some.inj ex).symm⟩ ex) _ _ (walks_noDict ws) dq3
    have k6 : Kp p H G := fun x o nx ex => k _ _ ⟨nx, fun z => by rw [z, zs] at ex; cases ex⟩ (k2 _ _ nx ex)
    clear k k2 h3 d3 t3 r3 gw3 b3 dq3 e4 p3
    replace pn := pn.le (m := n + 60) (by omega)
    have wl1 : wvs.length = ws.length := by rw [dq5.length, List.length_map]
    have stnl : stn.length = sn.length := by rw [← sn1, List.length_map]
    have wsl : ws.length ≤ sw := by
      have := congrArg List.length wn
      rw [List.length_map, List.length_take] at this
      omega
    -- rooms, hefts
    refine ⟨.ref h, rfl, h, .ref r, rfl, DGet.k (k := .inr "rooms") h5, .ref h, rfl, h, .ref wl, rfl, DGet.k (k := .inr "walkers") h5, wl, rfl, ⟨_, .inl (.inl gw5)⟩, fun D nD => ?_⟩
    refine lc_list (a := wl) (xs := wvs) (fun i G' => Same G G' ∧ G' D = some (.lst ((ws.take i).map fun x => V.int x.heft))) ⟨same_new nD, upd_same⟩ (fun i G' _ pv => .inl (.inl (pv.1 _ _ gw5))) (fun i x G' hx pv => ?_) (fun G' pv => ?_)
    · obtain ⟨sm, gD⟩ := pv
      obtain ⟨dd, hdd, dqx⟩ := dq5.get hx
      rw [List.getElem?_map] at hdd
      obtain ⟨wk1, hwk, rfl⟩ := Option.map_eq_some_iff.mp hdd
      obtain ⟨tt, rfl, _, ett⟩ := walk_inv dqx
      refine ⟨rfl, ?_⟩
      refine yes_if ?_
      refine ⟨_, rfl, .inr (.inl ⟨tt, _, 1, .int wk1.heft, rfl, rfl, sqT_at (fun o => sm _ o) ett, rfl, _, gD, ?_, same_mut sm nD, ?_⟩)⟩
      · rw [List.length_map, List.length_take]
        exact small1000000 (by omega)
      · rw [upd_same, take_snoc hwk, List.map_append]
        rfl
    obtain ⟨sm, gD⟩ := pv
    have wlt : ws.take wvs.length = ws := by rw [wl1, List.take_length]
    rw [wlt] at gD
    refine ⟨_, _, rfl, ?_⟩
    have h6 := sm _ _ h5
    have d7 := sm _ _ d6
    have r6 := sm _ _ r5
    have gw6 := sm _ _ gw5
    have b6 := sm _ _ b5
    have gs6 := sm _ _ gs
    have dq6 := dq5.mono sm
    have p6 := pn.same sm
    have k7 : Kp p H G' := fun x o nx ex => sm _ _ (k6 _ _ nx ex)
    clear sm h5 d6 r5 gw5 b5 gs dq5 pn k6 nD
    -- all hefts
    refine ⟨.ref D, rfl, .ref h, rfl, h, .ref st, rfl, DGet.k (k := .inr "stones") h6, st, _, rfl, gs6, fun lv nlv => ?_⟩
    have ev : (stonesKv stn).map (fun kv => kv.2) = stn.map fun x => V.int x.2 := by
      unfold stonesKv
      rw [List.map_map]
      rfl
    rw [ev]
    refine .inl ⟨D, lv, ws.map (fun x => V.int x.heft), stn.map (fun x => V.int x.2), rfl, rfl, same_new nlv _ _ gD, upd_same, by rw [List.length_map, List.length_map, sizeLine_eq]; omega, fun lf nlf => ?_⟩
    have ehs : ws.map (fun x => V.int x.heft) ++ stn.map (fun x => V.int x.2) = (ws.map WalkH.heft ++ stn.map Prod.snd).map V.int := by
      rw [List.map_append, List.map_map, List.map_map]
      rfl
    rw [ehs]
    have hhs : ∀ z ∈ ws.map WalkH.heft ++ stn.map Prod.snd, 0 ≤ z ∧ z ≤ 9999999 := fun z hz => by
      rcases List.mem_append.mp hz with hz | hz
      · obtain ⟨x, hx, rfl⟩ := List.mem_map.mp hz
        exact ⟨(wk x hx).1, (wk x hx).2.1⟩
      · obtain ⟨x, hx, rfl⟩ := List.mem_map.mp hz
        exact sn2 x hx
    have lhs : (ws.map WalkH.heft ++ stn.map Prod.snd).length ≤ 40 := by rw [List.length_append, List.length_map, List.length_map]; omega
    generalize ws.map WalkH.heft ++ stn.map Prod.snd = hefts at nlf hhs lhs
    have s7 : Same G' (upd (upd G' lv (.lst (stn.map fun x => V.int x.2))) lf (.lst (hefts.map V.int))) := (same_new nlv).trans (same_new nlf)
    have f7 : (upd (upd G' lv (.lst (stn.map fun x => V.int x.2))) lf (.lst (hefts.map V.int))) lf = some (.lst (hefts.map V.int)) := upd_same
    have of7 : lf ≠ p := (p6.same (same_new nlv)).off nlf
    have dlf : d ≠ lf := ne_of_none (same_new nlv _ _ d7) nlf
    replace h6 := s7 _ _ h6
    replace d7 := s7 _ _ d7
    replace r6 := s7 _ _ r6
    replace gw6 := s7 _ _ gw6
    replace b6 := s7 _ _ b6
    replace gs6 := s7 _ _ gs6
    replace dq6 := dq6.mono s7
    replace p6 := p6.same s7
    replace k7 := (k7.new nlv (o := .lst (stn.map fun x => V.int x.2))).new nlf (o := .lst (hefts.map V.int))
    clear s7 nlv nlf gD ehs ev
    generalize upd (upd G' lv (.lst (stn.map fun x => V.int x.2))) lf (.lst (hefts.map V.int)) = G7 at h6 d7 r6 gw6 b6 gs6 dq6 p6 k7 f7
    -- which names the doors have
    have rl1 : 1 ≤ rooms.length := by
      have := rperm.length_eq
      rw [List.length_take] at this
      omega
    have rl2 : rooms.length ≤ sr := by
      have := rperm.length_eq
      rw [List.length_take] at this
      omega
    have rnd : rooms.Nodup := rperm.nodup_iff.mpr (nd.sublist (List.take_sublist _ _))
    refine ⟨.ref lb, rfl, .ref b, rfl, .inr (.inl ⟨b, _, 2, .int ss, rfl, rfl, KpN.sqT (N := (· ≠ p)) k7 bp hb, rfl, ss, rfl, .inl ⟨lb, nm3.map V.str, rfl, .inl (.inl b6), fun le nle => ?_⟩⟩)⟩
    rw [cutV_from (by omega), Int.toNat_natCast, ← List.map_drop]
    have g8 := same_new nle (o := .lst ((nm3.drop ss).map V.str))
    have e8 : (upd G7 le (.lst ((nm3.drop ss).map V.str))) le = some (.lst ((nm3.drop ss).map V.str)) := upd_same
    have oe := p6.off nle
    replace h6 := g8 _ _ h6
    replace d7 := g8 _ _ d7
    replace r6 := g8 _ _ r6
    replace gw6 := g8 _ _ gw6
    replace gs6 := g8 _ _ gs6
    replace f7 := g8 _ _ f7
    replace dq6 := dq6.mono g8
    replace p6 := p6.same g8
    replace k7 := k7.new nle (o := .lst ((nm3.drop ss).map V.str))
    clear g8 nle b6
    generalize upd G7 le (.lst ((nm3.drop ss).map V.str)) = G8' at h6 d7 r6 gw6 gs6 f7 dq6 p6 k7 e8
    refine ⟨.ref p, rfl, .ref b, rfl, .inr (.inl ⟨b, _, 1, .int sd, rfl, rfl, KpN.sqT (N := (· ≠ p)) k7 bp hb, rfl, ?_⟩)⟩
    refine ⟨p, qc, sd + 1, n + 60, rfl, p6, by omega, by omega, by omega, fun e4 G9' e40 e41 k8 p8 => ?_⟩
    replace h6 := k8 _ _ oh h6
    replace d7 := k8 _ _ od d7
    replace r6 := k8 _ _ or' r6
    replace gw6 := k8 _ _ ow gw6
    replace gs6 := k8 _ _ os gs6
    replace f7 := k8 _ _ of7 f7
    replace e8 := k8 _ _ oe e8
    replace dq6 := dq6.kp k8
    replace k7 := k7.trans k8
    clear k8 p6
    refine ⟨.ref r, rfl, .inl ⟨_, .inl (.inl (.inl r6)), _, 1, rfl, rfl, .inr ⟨_, rfl, ?_⟩⟩⟩
    generalize hcc : (if decide ((1 : Int) < ((rooms.map V.str).length : Int)) = true then (1 : Int) else 0) = cc
    have c01 : (cc = 0 ∧ rooms.length = 1) ∨ (cc = 1 ∧ 2 ≤ rooms.length) := by
      rw [List.length_map] at hcc
      by_cases z : (1 : Int) < (rooms.length : Int)
      · rw [decide_eq_true z, if_pos rfl] at hcc
        exact .inr ⟨hcc.symm, by omega⟩
      · rw [decide_eq_false z, if_neg Bool.false_ne_true] at hcc
        exact .inl ⟨hcc.symm, by omega⟩
    refine ⟨.inr ⟨by omega, by omega⟩, e4 * cc, rfl, .inl ⟨le, (nm3.drop ss).map V.str, rfl, .inl (.inl e8), fun lg nlg => ?_⟩⟩
    generalize hdc : e4 * cc = dc at nlg
    have dc0 : 0 ≤ dc ∧ dc ≤ sd ∧ (rooms.length = 1 → dc = 0) := by
      rcases c01 with ⟨rfl, z⟩ | ⟨rfl, z⟩
      · rw [Int.mul_zero] at hdc
        omega
      · rw [Int.mul_one] at hdc
        omega
    rw [cutV_to dc0.1, ← List.map_take]
    have nl4 : (nm3.drop ss).length = nm3.length - ss := List.length_drop
    refine ⟨lg, (nm3.drop ss).take dc.toNat, rfl, .inl (.inl upd_same), by rw [List.length_take]; omega, fun dn lh dperm dsort nlh => ?_⟩
    have s9 : Same G9' (upd (upd G9' lg (.lst (((nm3.drop ss).take dc.toNat).map V.str))) lh (.lst (dn.map V.str))) := (same_new nlg).trans (same_new nlh)
    have e9 : (upd (upd G9' lg (.lst (((nm3.drop ss).take dc.toNat).map V.str))) lh (.lst (dn.map V.str))) lh = some (.lst (dn.map V.str)) := upd_same
    have olh : lh ≠ p := (p8.same (same_new nlg)).off nlh
    have dlh : d ≠ lh := ne_of_none (same_new nlg _ _ d7) nlh
    replace k7 := (k7.new nlg (o := .lst (((nm3.drop ss).take dc.toNat).map V.str))).new nlh (o := .lst (dn.map V.str))
    replace p8 := p8.same s9
    replace dq6 := dq6.mono s9
    replace h6 := s9 _ _ h6
    replace d7 := s9 _ _ d7
    replace r6 := s9 _ _ r6
    replace gw6 := s9 _ _ gw6
    replace gs6 := s9 _ _ gs6
    replace f7 := s9 _ _ f7
    clear s9 nlg nlh e8
    generalize upd (upd G9' lg (.lst (((nm3.drop ss).take dc.toNat).map V.str))) lh (.lst (dn.map V.str)) = Gs at k7 p8 dq6 h6 d7 r6 gw6 gs6 f7 e9
    have dnl : dn.length ≤ sd := by
      have := dperm.length_eq
      rw [List.length_take] at this
      omega
    have dn1 : rooms.length = 1 → dn = [] := fun z => by
      have := dperm.length_eq
      rw [List.length_take] at this
      have := dc0.2.2 z
      exact List.eq_nil_of_length_eq_zero (by omega)
    have dnd : dn.Nodup := by
      refine dperm.nodup_iff.mpr (List.Nodup.sublist ((List.take_sublist _ _).trans (List.drop_sublist _ _)) ?_)
      rw [← hnm3]
      exact nd.sublist ((List.drop_sublist _ _).trans (List.drop_sublist _ _))
    refine ⟨lh, rfl, ⟨_, .inl (.inl e9)⟩, ?_⟩
    refine for_list (a := lh) (xs := dn.map V.str) (fun i σ G => ∃ (d5 d8 d9 d10 d11 d12 : Option V) (drs : List DoorH) (dkv : List (Key × V)), σ = [some (.ref p), some (.ref lb), some (.ref b), some (.ref h), d4, d5, some (.ref r), some (.ref lf), d8, d9, d10, d11, d12] ∧ KpN (fun x => x ≠ p ∧ x ≠ d) Gs G ∧ Pen K G p qc (n + 61 + 80 * i) ∧ G d = some (.dK dkv) ∧ DqKv (· ≠ p) K G dkv (doorsKv drs) ∧ drs.map DoorH.name = dn.take i ∧ ∀ x ∈ drs, DoorOk rooms x)
      ⟨_, _, _, _, _, _, [], [], rfl, KpN.refl _ _, p8.le (by omega), d7, .nil, rfl, by simp⟩ (fun i σ G _ pv => ?_) (fun i x σ G hx pv => ?_) (fun σ G pv => ?_)
    · obtain ⟨d5, d8, d9, d10, d11, d12, drs, dkv, rfl, k, pn, gd, dqd, dr1, dr2⟩ := pv
      exact k.sqL ⟨olh, dlh.symm⟩ (.inl (.inl e9))
    · obtain ⟨d5, d8, d9, d10, d11, d12, drs, dkv, rfl, k, pn, gd, dqd, dr1, dr2⟩ := pv
      rw [List.getElem?_map] at hx
      obtain ⟨nm, hnm, rfl⟩ := Option.map_eq_some_iff.mp hx
      have hi : i < dn.length := (List.getElem?_eq_some_iff.mp hnm).1
      have two : 2 ≤ rooms.length := by
        rcases Nat.lt_or_ge rooms.length 2 with z | z
        · rw [dn1 (by omega)] at hi
          exact absurd hi (Nat.not_lt_zero _)
        · exact z
      have hz : n + 61 + 80 * i + 80 < 1000000 := by omega
      generalize hm0 : n + 61 + 80 * i = m0 at pn hz
      have rG := k _ _ ⟨or', dr.symm⟩ r6
      have fG := k _ _ ⟨of7, dlf.symm⟩ f7
      have hG := k _ _ ⟨oh, hd⟩ h6
      have lm : ((rooms.map V.str).length : Int) = rooms.length := by rw [List.length_map]
      -- one room, another one
      refine ⟨.ref p, rfl, .ref r, rfl, .inl ⟨_, .inl (.inl (.inl rG)), p, qc, _, _, rfl, pn, by omega, by rw [lm]; omega, by rw [lm]; omega, fun at' G1 a0 a1 k1 p1 => ?_⟩⟩
      rw [lm] at a1
      replace rG := k1 _ _ or' rG
      replace fG := k1 _ _ of7 fG
      replace hG := k1 _ _ oh hG
      replace gd := k1 _ _ od gd
      replace dqd := DqKv.move (N' := fun x => x ≠ p) (fun _ z => z) (fun x o nx e => k1 x o nx e) _ _ dqd
      replace k := k.kp (fun _ z => z.1) k1
      clear k1 pn
      refine ⟨.int at', rfl, .ref p, rfl, .ref r, rfl, .inl ⟨_, .inl (.inl (.inl rG)), _, 1, rfl, rfl, 1, _, rfl, ?_⟩⟩
      generalize hmm : (if ((rooms.map V.str).length : Int) - 1 > 1 then ((rooms.map V.str).length : Int) - 1 else 1) = mm
      have hmm2 : mm = (rooms.length : Int) - 1 := by
        rw [lm] at hmm
        split at hmm <;> omega
      subst hmm2
      refine ⟨p, qc, _, _, rfl, p1, by omega, by omega, by omega, fun fd' G2 f0 f1 k2 p2 => ?_⟩
      replace rG := k2 _ _ or' rG
      replace fG := k2 _ _ of7 fG
      replace hG := k2 _ _ oh hG
      replace gd := k2 _ _ od gd
      replace dqd := DqKv.move (N' := fun x => x ≠ p) (fun _ z => z) (fun x o nx e => k2 x o nx e) _ _ dqd
      replace k := k.kp (fun _ z => z.1) k2
      clear k2 p1
      obtain ⟨j1, rfl⟩ := Int.eq_ofNat_of_zero_le a0
      obtain ⟨j2, hj2⟩ := Int.eq_ofNat_of_zero_le (Int.emod_nonneg ((j1 : Int) + 1 + fd') (show (rooms.length : Int) ≠ 0 by omega))
      have j2l : j2 < rooms.length := by
        have := Int.emod_lt_of_pos ((j1 : Int) + 1 + fd') (show 0 < (rooms.length : Int) by omega)
        omega
      have j12 : j1 ≠ j2 := by
        intro z
        subst z
        have h1 : ((j1 : Int) + 1 + fd') < 2 * rooms.length := by omega
        by_cases w2 : ((j1 : Int) + 1 + fd') < rooms.length
        · rw [Int.emod_eq_of_lt (by omega) w2] at hj2
          omega
        · have e2 : ((j1 : Int) + 1 + fd') % rooms.length = (j1 : Int) + 1 + fd' - rooms.length := by
            rw [← Int.sub_emod_right, Int.emod_eq_of_lt (by omega) (by omega)]
          omega
      have j1l : j1 < rooms.length := by omega
      refine ⟨.ref r, rfl, .int j1, rfl, .inl ⟨r, _, _, .str rooms[j1], rfl, rfl, .inl (.inl rG), atI_in rfl (by rw [List.getElem?_map, List.getElem?_eq_getElem j1l]; rfl), ?_⟩⟩
      refine ⟨.ref r, rfl, .int _, rfl, .ref r, rfl, .inl ⟨_, .inl (.inl (.inl rG)), _, _, rfl, rfl, by rw [lm]; omega, ?_⟩⟩
      refine .inl ⟨r, _, _, .str rooms[j2], rfl, rfl, .inl (.inl rG), atI_in (j := j2) (by rw [lm]; exact hj2) (by rw [List.getElem?_map, List.getElem?_eq_getElem j2l]; rfl), by show 2 ≤ sizeLine; decide, fun le2 nle2 => ?_⟩
      have ole := p2.off nle2
      have dle : d ≠ le2 := ne_of_none gd nle2
      have gE : (upd G2 le2 (.lst [V.str rooms[j1], V.str rooms[j2]])) le2 = some (.lst [V.str rooms[j1], V.str rooms[j2]]) := upd_same
      replace rG := same_new nle2 (o := .lst [V.str rooms[j1], V.str rooms[j2]]) _ _ rG
      replace fG := same_new nle2 (o := .lst [V.str rooms[j1], V.str rooms[j2]]) _ _ fG
      replace hG := same_new nle2 (o := .lst [V.str rooms[j1], V.str rooms[j2]]) _ _ hG
      replace gd := same_new nle2 (o := .lst [V.str rooms[j1], V.str rooms[j2]]) _ _ gd
      replace dqd := DqKv.mono (same_new nle2 (o := .lst [V.str rooms[j1], V.str rooms[j2]])) dqd
      replace k := k.new nle2 (o := .lst [V.str rooms[j1], V.str rooms[j2]])
      replace p2 := p2.same (same_new nle2 (o := .lst [V.str rooms[j1], V.str rooms[j2]]))
      generalize upd G2 le2 (.lst [V.str rooms[j1], V.str rooms[j2]]) = G3 at rG fG hG gd dqd k p2 gE
      -- which way
      refine ⟨by show 3 ≤ sizeLine; decide, fun lw nlw => ?_⟩
      have olw := p2.off nlw
      have gW : (upd G3 lw (.lst [V.str "both", V.str "both", V.str "on"])) lw = some (.lst [V.str "both", V.str "both", V.str "on"]) := upd_same
      replace rG := same_new nlw (o := .lst [V.str "both", V.str "both", V.str "on"]) _ _ rG
      replace fG := same_new nlw (o := .lst [V.str "both", V.str "both", V.str "on"]) _ _ fG
      replace hG := same_new nlw (o := .lst [V.str "both", V.str "both", V.str "on"]) _ _ hG
      replace gd := same_new nlw (o := .lst [V.str "both", V.str "both", V.str "on"]) _ _ gd
      replace gE := same_new nlw (o := .lst [V.str "both", V.str "both", V.str "on"]) _ _ gE
      replace dqd := DqKv.mono (same_new nlw (o := .lst [V.str "both", V.str "both", V.str "on"])) dqd
      replace k := k.new nlw (o := .lst [V.str "both", V.str "both", V.str "on"])
      replace p2 := p2.same (same_new nlw (o := .lst [V.str "both", V.str "both", V.str "on"]))
      generalize upd G3 lw (.lst [V.str "both", V.str "both", V.str "on"]) = G4' at rG fG hG gd dqd k p2 gE gW
      refine ⟨.ref p, rfl, p, qc, 3, _, rfl, p2, by omega, by decide, by decide, fun d3' G5' d30 d31 k3 p3 => ?_⟩
      obtain ⟨wy, hwy, hwo⟩ := at_way d30 d31
      refine .inl ⟨lw, _, d3', .str wy, rfl, rfl, .inl (.inl (k3 _ _ olw gW)), hwy, ?_⟩
      replace rG := k3 _ _ or' rG
      replace fG := k3 _ _ of7 fG
      replace hG := k3 _ _ oh hG
      replace gd := k3 _ _ od gd
      replace gE := k3 _ _ ole gE
      replace dqd := DqKv.move (N' := fun x => x ≠ p) (fun _ z => z) (fun x o nx e => k3 x o nx e) _ _ dqd
      replace k := k.kp (fun _ z => z.1) k3
      clear k3 p2 gW
      have apart : rooms[j1] ≠ rooms[j2] := fun z => j12 (nodup_get rnd j1l j2l z)
      refine ⟨fun σ G' => ∃ (lx : Addr) (x y : Str), σ = [some (.ref p), some (.ref lb), some (.ref b), some (.ref h), d4, some (.str nm), some (.ref r), some (.ref lf), some (.int j1), some (.int (j1 + 1 + fd')), some (.ref lx), some (.str wy), d12] ∧ Same G5' G' ∧ G' lx = some (.lst [V.str x, V.str y]) ∧ x ∈ rooms ∧ y ∈ rooms ∧ x ≠ y ∧ (wy = "both" → sortedS [x, y] = true), ?_, ?_⟩
      · refine ⟨.str wy, rfl, .inl ⟨rfl, _, rfl, ite2 (fun e => ?_) (fun e => ⟨le2, _, _, rfl, Same.refl _, gE, List.getElem_mem j1l, List.getElem_mem j2l, apart, fun z => absurd (decide_eq_true (by rw [z])) e⟩)⟩⟩
        refine ⟨.ref le2, rfl, le2, [rooms[j1], rooms[j2]], rfl, .inl (.inl gE), by show 2 < 64; decide, fun ys ly yp ysort nly => ?_⟩
        obtain ⟨x, y, rfl, hxy⟩ := two_of yp
        refine ⟨ly, x, y, rfl, same_new nly, upd_same, ?_⟩
        rcases hxy with ⟨rfl, rfl⟩ | ⟨rfl, rfl⟩
        · exact ⟨List.getElem_mem j1l, List.getElem_mem j2l, apart, fun _ => ysort⟩
        · exact ⟨List.getElem_mem j2l, List.getElem_mem j1l, apart.symm, fun _ => ysort⟩
      rintro σ6 G6' ⟨lx, x, y, rfl, sm, gx, xm, ym, xy, srt⟩
      replace rG := sm _ _ rG
      replace fG := sm _ _ fG
      replace hG := sm _ _ hG
      replace gd := sm _ _ gd
      replace dqd := DqKv.mono sm dqd
      replace k : KpN (fun x => x ≠ p ∧ x ≠ d) Gs G6' := fun z o nz ez => sm _ _ (k z o nz ez)
      replace p3 := p3.same sm
      clear sm gE
      refine ⟨.ref lx, rfl, .inl ⟨lx, _, 0, .str x, rfl, rfl, .inl (.inl gx), rfl, .ref lx, rfl, .inl ⟨lx, _, 1, .str y, rfl, rfl, .inl (.inl gx), rfl, ?_⟩⟩⟩
      refine ⟨.str wy, rfl, .ref p, rfl, .ref r, rfl, .ref lf, rfl, p, r, lf, qc, _, rooms, hefts, rfl, p3, by omega, by omega, lhs, or', .inl (.inl rG), of7, fG, hhs, fun t rs G8 rok k8 p8 nt dqt => ?_⟩
      refine ⟨by show 4 ≤ sizeLine; decide, fun l9 n9 => ?_⟩
      have o9 := p8.off n9
      replace hG := same_new n9 (o := .tup [V.str x, V.str y, V.str wy, V.ref t]) _ _ (k8 _ _ oh hG)
      replace gd := same_new n9 (o := .tup [V.str x, V.str y, V.str wy, V.ref t]) _ _ (k8 _ _ od gd)
      replace dqd := DqKv.mono (same_new n9 (o := .tup [V.str x, V.str y, V.str wy, V.ref t])) (DqKv.move (N' := fun x => x ≠ p) (fun _ z => z) (fun x o nx e => k8 x o nx e) _ _ dqd)
      replace dqt := Dq.mono (same_new n9 (o := .tup [V.str x, V.str y, V.str wy, V.ref t])) dqt
      replace k := (k.kp (fun _ z => z.1) k8).new n9 (o := .tup [V.str x, V.str y, V.str wy, V.ref t])
      replace p8 := p8.same (same_new n9 (o := .tup [V.str x, V.str y, V.str wy, V.ref t]))
      have g9 : (upd G8 l9 (.tup [V.str x, V.str y, V.str wy, V.ref t])) l9 = some (.tup [V.str x, V.str y, V.str wy, V.ref t]) := upd_same
      generalize upd G8 l9 (.tup [V.str x, V.str y, V.str wy, V.ref t]) = G9'' at hG gd dqd dqt k p8 g9
      have dl : drs.length = i := by
        have := congrArg List.length dr1
        rw [List.length_map, List.length_take] at this
        omega
      have dkl : dkv.length = drs.length := by
        have := congrArg List.length dqd.keys
        rw [List.length_map, List.length_map] at this
        unfold doorsKv at this
        rw [List.length_map] at this
        exact this.symm
      refine ⟨.ref h, rfl, h, .ref d, rfl, DGet.k (k := .inr "doors") hG, .str nm, rfl, d, _, rfl, DPut.k (k := .inr nm) gd (small1000000 (by omega)), ?_⟩
      have fresh : valV dkv (.inr nm) = none := doors_fresh dqd (by
        rw [dr1]
        have := (List.getElem?_eq_some_iff.mp hnm).2
        exact this ▸ not_in_take dnd hi)
      have dx : DoorOk rooms ⟨nm, x, y, wy, rs⟩ := ⟨xm, ym, xy, by
        rcases hwo with rfl | rfl
        · exact .inl ⟨rfl, srt rfl⟩
        · exact .inr rfl, rok⟩
      refine ⟨_, _, _, _, _, _, drs ++ [⟨nm, x, y, wy, rs⟩], dkv ++ [(.inr nm, .ref l9)], rfl, k.wr (fun z => z.2 rfl), (p8.wr hp zd).le (by omega), by rw [upd_same, putK_new _ fresh], ?_, ?_, ?_⟩
      · have e : doorsKv (drs ++ [⟨nm, x, y, wy, rs⟩]) = doorsKv drs ++ [(keyD (.inr nm), (DoorH.mk nm x y wy rs).data)] := by
          unfold doorsKv
          rw [List.map_append]
          rfl
        rw [e]
        have two' : DqKv (· ≠ p) K G9'' (dkv ++ [(.inr nm, .ref l9)]) (doorsKv drs ++ [(keyD (.inr nm), (DoorH.mk nm x y wy rs).data)]) := DqKv.snoc dqd (.tup o9 (.inl (.inl g9)) (.cons (.str _) (.cons (.str _) (.cons (.str _) (.cons dqt .nil)))))
        rw [← e] at two' ⊢
        exact DqKv.moveD (fun _ z => z) (fun z o nz no ez => by
          have : z ≠ d := fun q => by rw [q, gd] at ez; exact no _ (Option.some.inj ez).symm
          rw [upd_ne this]
          exact ez) _ _ two'
      · rw [List.map_append, dr1, take_snoc hnm]
        rfl
      · intro z hz
        rcases List.mem_append.mp hz with hz | hz
        · exact dr2 z hz
        · rw [List.mem_singleton.mp hz]
          exact dx
    · obtain ⟨d5, d8, d9, d10, d11, d12, drs, dkv, rfl, k, pn, gd, dqd, dr1, dr2⟩ := pv
      rw [List.length_map] at pn dr1
      rw [List.take_length] at dr1
      have hG := k _ _ ⟨oh, hd⟩ h6
      have drl : drs.length = dn.length := by rw [← dr1, List.length_map]
      have dqw : DqAll (· ≠ p) K G wvs (ws.map WalkH.data) := DqAll.moveD (fun _ z => z) (fun z o nz no ez => k z o ⟨nz, fun q => by rw [q, d7] at ez; exact no _ (Option.some.inj ez).symm⟩ ez) _ _ (walks_noDict ws) dq6
      have kk : Kp p H G := fun z o nz ez => k _ _ ⟨nz, fun q => by rw [q, zd] at ez; cases ez⟩ (k7 _ _ nz ez)
      refine ⟨.ref h, rfl, q h ⟨rooms, drs, stn, ws⟩ G ?_ ⟨d, st, wl, r, dkv, wvs, oh, od, os, ow, or', hG, gd, dqd, k _ _ ⟨os, hds.symm⟩ gs6, k _ _ ⟨ow, dw.symm⟩ gw6, dqw, k _ _ ⟨or', dr.symm⟩ r6⟩ (fun d' s' w' r' e => by rw [hG] at e; cases e; exact hd) kk (pn.le (by omega)) nh⟩
      have c4 := cut4 (A := rooms) (B := ws.map WalkH.name) (C := stn.map Prod.fst) (D := drs.map DoorH.name) (a := (1 + e).toNat) (b := (1 + e').toNat) (c := e3.toNat) (d := dc.toNat) (sr := sr) (sw := sw) (ss := ss) nd rperm (by omega) (List.Perm.of_eq wn) (by omega) (by rw [sn1, hnm3]; exact sperm) (by omega) (by rw [dr1, hnm3]; exact dperm)
      refine { r1 := rl1, r2 := rl2, r3 := rsort, d0 := fun z => ?_, d2 := by show drs.length ≤ sd; omega, d3 := by show sortedS (drs.map DoorH.name) = true; rw [dr1]; exact dsort, d4 := dr2, s2 := by show stn.length ≤ ss; omega, s3 := by show sortedS (stn.map Prod.fst) = true; rw [sn1]; exact ssort, s4 := sn2, w1 := ?_, w2 := wsl, w3 := wk, n1 := c4.1, n2 := fun x hx => nk _ (c4.2 x hx) }
      · have z2 := dn1 z
        rw [z2] at dr1
        exact List.map_eq_nil_iff.mp dr1
      · have := congrArg List.length wn
        rw [List.length_map, List.length_take] at this
        show 1 ≤ ws.length
        omega
theorem c_hallOf {c : CA} (T : Txt P w K mg base c) (c_law_draw : C8.Cal P w K mg base 1 "_law_draw" (spDraw K) []) (c_law_pick : C8.Cal P w K mg base 2 "_law_pick" (spPick K) []) (c_law_heft : C8.Cal P w K mg base 2 "_law_heft" (spHeft K) []) (c_law_rows : C8.Cal P w K mg base 3 "_law_rows" (spRows K) []) {f : Addr} {fd : FuncData} (F : C8.Def K mg "_law_hall_of" s__law_hall_of f fd) (b : Binds K fd ["pen", "names", "size"] []) : C8.Cal P w K mg base 4 "_law_hall_of" (spHallOf K) [] :=
  cal_imp (c_hallOfD T c_law_draw c_law_pick c_law_heft c_law_rows F b) fun vs H Q E h => by
    obtain ⟨p, a, b, qc, n, names, sr, sd, ss, sw, e, g1, g2, g3, g4, g5, g6, g7, g8, g9, g10, g11, g12, q⟩ := h
    exact ⟨p, a, b, qc, n, names, sr, sd, ss, sw, e, g1, g2, g3, g4, g5, g6, g7, g8, g9, g10, g11, g12, fun h x H' o1 o2 _ o3 o4 o5 => q h x H' o1 o2 o3 o4 o5⟩
end
end Wd

set_option Elab.async false
set_option linter.all false
set_option maxRecDepth 100000
set_option maxHeartbeats 4000000
namespace Wd
open PySem PySem.Spec PyProof.Rows L2
abbrev s__law_hall : Stmt := topS 20
theorem sc__law_hall : FnScope ["pen", "size"] ["pen", "size"] (C8.fnScope s__law_hall) := ⟨rfl, rfl, rfl, by decide +kernel, rfl, by decide +kernel, by decide +kernel⟩
section
variable {P : Program} {w : World} {K : PySem.W.Frag} {mg : Str → Option Value} {base : Heap}
def spHall (K : PySem.W.Frag) : Sp := fun vs H Q _ => ∃ (p b : Addr) (qc : Addr × List Int) (n sr sd ss sw : Nat), vs = [.ref p, .ref b] ∧ Pen K H p qc n ∧ n + 2020 < 1000000 ∧ b ≠ p ∧ SqT K H b [.int sr, .int sd, .int ss, .int sw] ∧ sr + sd + ss + sw ≤ 18 ∧ 1 ≤ sr ∧ 1 ≤ sw ∧
  ∀ (h : Addr) (x : HallH) (H' : Hp), HallOk sr sd ss sw x → HallAt (· ≠ p) K H' h x → Kp p H H' → Pen K H' p qc (n + 2020) → H h = none → Q (.ref h) H'
def spHallD (K : PySem.W.Frag) : Sp := fun vs H Q _ => ∃ (p b : Addr) (qc : Addr × List Int) (n sr sd ss sw : Nat), vs = [.ref p, .ref b] ∧ Pen K H p qc n ∧ n + 2020 < 1000000 ∧ b ≠ p ∧ SqT K H b [.int sr, .int sd, .int ss, .int sw] ∧ sr + sd + ss + sw ≤ 18 ∧ 1 ≤ sr ∧ 1 ≤ sw ∧
  ∀ (h : Addr) (x : HallH) (H' : Hp), HallOk sr sd ss sw x → HallAt (· ≠ p) K H' h x → ApartH H' h → Kp p H H' → Pen K H' p qc (n + 2020) → H h = none → Q (.ref h) H'
theorem c_hallD {c : CA} (T : Txt P w K mg base c) (c_law_names : C8.Cal P w K mg base 3 "_law_names" (spNames K) []) (c_law_hall_of : C8.Cal P w K mg base 4 "_law_hall_of" (spHallOfD K) []) {f : Addr} {fd : FuncData} (F : C8.Def K mg "_law_hall" s__law_hall f fd) (b : Binds K fd ["pen", "size"] []) : C8.Cal P w K mg base 5 "_law_hall" (spHallD K) [] := by
  refine C8.cal0 F b .nil sc__law_hall (fun vs H Q E h => ?_) (fun cdv A outer s H vs Q E hr h => ?_)
  · obtain ⟨p, b, qc, n, sr, sd, ss, sw, rfl, _⟩ := h
    rfl
  · obtain ⟨p, b, qc, n, sr, sd, ss, sw, rfl, hp, hn, bp, hb, h18, r1, w1, q⟩ := h
    have hu := hu_of hr
    have hu6 := hu64 hr
    refine ⟨_, (pss_one (ps_ret (C8.pe_c c_law_hall_of hr (by decide) (by rfl) (pa_cons (pv 0) (pa_cons (C8.pe_c c_law_names hr (by decide) (by rfl) (pa_cons (pv 0) (pa_cons (pe_callB (cr_sumG (K := K) rfl) (by rfl) T.b_sum bt_sum (pa_cons (pv 1) pa_nil)) pa_nil))) (pa_cons (pv 1) pa_nil)))))), ?_⟩
    refine ⟨.ref p, rfl, .ref p, rfl, .ref b, rfl, b, [(sr : Int), (sd : Int), (ss : Int), (sw : Int)], rfl, .inr hb, ?_⟩
    have es : ([(sr : Int), (sd : Int), (ss : Int), (sw : Int)] : List Int).sum = ((sr + sd + ss + sw : Nat) : Int) := by
      simp only [List.sum_cons, List.sum_nil]
      omega
    rw [es]
    refine ⟨p, qc, n, sr + sd + ss + sw, rfl, hp, by omega, by omega, h18, fun l xs H1 x1 x2 x3 x4 x5 x6 k1 p1 => ?_⟩
    refine ⟨.ref b, rfl, p, l, b, qc, n + 20, xs, sr, sd, ss, sw, rfl, p1, by omega, x6, .inl (.inl x5), bp, KpN.sqT (N := (· ≠ p)) k1 bp hb, by omega, by omega, x2, x3, r1, w1, fun h x H2 ok at' ap k2 p2 nh => ?_⟩
    have oh : h ≠ p := p1.off nh
    exact q h x H2 ok at' ap (k1.trans k2) p2 (k1.free oh nh)
theorem c_hall {c : CA} (T : Txt P w K mg base c) (c_law_names : C8.Cal P w K mg base 3 "_law_names" (spNames K) []) (c_law_hall_of : C8.Cal P w K mg base 4 "_law_hall_of" (spHallOf K) []) {f : Addr} {fd : FuncData} (F : C8.Def K mg "_law_hall" s__law_hall f fd) (b : Binds K fd ["pen", "size"] []) : C8.Cal P w K mg base 5 "_law_hall" (spHall K) [] := by
  refine C8.cal0 F b .nil sc__law_hall (fun vs H Q E h => ?_) (fun cdv A outer s H vs Q E hr h => ?_)
  · obtain ⟨p, b, qc, n, sr, sd, ss, sw, rfl, _⟩ := h
    rfl
  · obtain ⟨p, b, qc, n, sr, sd, ss, sw, rfl, hp, hn, bp, hb, h18, r1, w1, q⟩ := h
    have hu := hu_of hr
    have hu6 := hu64 hr
    refine ⟨_, (pss_one (ps_ret (C8.pe_c c_law_hall_of hr (by decide) (by rfl) (pa_cons (pv 0) (pa_cons (C8.pe_c c_law_names hr (by decide) (by rfl) (pa_cons (pv 0) (pa_cons (pe_callB (cr_sumG (K := K) rfl) (by rfl) T.b_sum bt_sum (pa_cons (pv 1) pa_nil)) pa_nil))) (pa_cons (pv 1) pa_nil)))))), ?_⟩
    refine ⟨.ref p, rfl, .ref p, rfl, .ref b, rfl, b, [(sr : Int), (sd : Int), (ss : Int), (sw : Int)], rfl, .inr hb, ?_⟩
    have es : ([(sr : Int), (sd : Int), (ss : Int), (sw : Int)] : List Int).sum = ((sr + sd + ss + sw : Nat) : Int) := by
      simp only [List.sum_cons, List.sum_nil]
      omega
    rw [es]
    refine ⟨p, qc, n, sr + sd + ss + sw, rfl, hp, by omega, by omega, h18, fun l xs H1 x1 x2 x3 x4 x5 x6 k1 p1 => ?_⟩
    refine ⟨.ref b, rfl, p, l, b, qc, n + 20, xs, sr, sd, ss, sw, rfl, p1, by omega, x6, .inl (.inl x5), bp, KpN.sqT (N := (· ≠ p)) k1 bp hb, by omega, by omega, x2, x3, r1, w1, fun h x H2 ok at' k2 p2 nh => ?_⟩
    have oh : h ≠ p := p1.off nh
    exact q h x H2 ok at' (k1.trans k2) p2 (k1.free oh nh)
end
end Wd

set_option Elab.async false
set_option linter.all false
set_option maxRecDepth 100000
set_option maxHeartbeats 4000000
namespace Wd
open PySem PySem.Spec PyProof.Rows L2
abbrev s__law_shuffled : Stmt := topS 16
theorem sc__law_shuffled : FnScope ["pen", "some", "left", "found"] ["pen", "some"] (C8.fnScope s__law_shuffled) := ⟨rfl, rfl, rfl, by decide +kernel, rfl, by decide +kernel, by decide +kernel⟩
section
variable {P : Program} {w : World} {K : PySem.W.Frag} {mg : Str → Option Value} {base : Heap}
def spShuf (K : PySem.W.Frag) : Sp := fun vs H Q _ => ∃ (p a : Addr) (qc : Addr × List Int) (n : Nat) (ys : List V), vs = [.ref p, .ref a] ∧ Pen K H p qc n ∧ n + ys.length < 1000000 ∧ Src K H a ys ∧ (∀ y ∈ ys, ∃ d, Dq (· ≠ p) K H y d ∧ Plain d) ∧
  ∀ (l : Addr) (zs : List V) (H' : Hp), zs.Perm ys → H l = none → H' l = some (.lst zs) → l ≠ p → Kp p H H' → Pen K H' p qc (n + ys.length) → Q (.ref l) H'
theorem c_shuf {c : CA} (T : Txt P w K mg base c) (c_law_draw : C8.Cal P w K mg base 1 "_law_draw" (spDraw K) []) {f : Addr} {fd : FuncData} (F : C8.Def K mg "_law_shuffled" s__law_shuffled f fd) (b : Binds K fd ["pen", "some"] []) : C8.Cal P w K mg base 2 "_law_shuffled" (spShuf K) [] := by
  refine C8.cal0 F b .nil sc__law_shuffled (fun vs H Q E h => ?_) (fun cdv A outer s H vs Q E hr h => ?_)
  · obtain ⟨p, a, qc, n, ys, rfl, _⟩ := h
    rfl
  · obtain ⟨p, a, qc, n, ys, rfl, hp, hn, hs, hy, q⟩ := h
    have hu := hu_of hr
    have hu6 := hu64 hr
    refine ⟨_, (pss_cons (ps_par (i := 2) (j := 3) rfl sc__law_shuffled.nd rfl rfl (by decide) rfl rfl (pa_cons (pe_callTy (call_listG (K := K) rfl) (by rfl) T.b_list bt_list (pa_cons (pv 1) pa_nil)) (pa_cons (pe_lst pa_nil) pa_nil)) rfl)
  (pss_cons (ps_while PassesOwn.never (pt_cmpR (op_neX (K := K) hu6) (pv 2) (pe_lst pa_nil) (nomark _)) (pss_one (ps_expr (pe_bm PySem.F.plainAttrs_list PySem.F.slot_list_append PySem.F.type_list_append mt_append (pv 3) (pa_cons (pe_bm PySem.F.plainAttrs_list PySem.F.slot_list_pop PySem.F.type_list_pop mt_popAt (pv 2) (pa_cons (C8.pe_c c_law_draw hr (by decide) (by rfl) (pa_cons (pv 0) (pa_cons (pe_callB (call_lenG (K := K)) (by rfl) T.b_len bt_len (pa_cons (pv 2) pa_nil)) pa_nil))) pa_nil)) pa_nil)))))
  (pss_one (ps_ret (pv 3))))), ?_⟩
    refine ⟨.ref a, rfl, a, rfl, hs.list fun l1 n1 => ?_⟩
    have s1 := same_new n1 (o := .lst ys)
    refine ⟨Nat.zero_le _, fun l2 n2 => ⟨_, _, rfl, ?_⟩⟩
    have s2 := s1.trans (same_new n2 (o := .lst []))
    have e2 : (upd (upd H l1 (.lst ys)) l2 (.lst [])) l2 = some (.lst []) := upd_same
    have e1 : (upd (upd H l1 (.lst ys)) l2 (.lst [])) l1 = some (.lst ys) := same_new n2 _ _ upd_same
    have z2 : H l2 = none := s1.free n2
    have ne : l1 ≠ l2 := ne_of_none upd_same n2
    have op1 := hp.off n1
    have op2 := hp.off z2
    generalize upd (upd H l1 (.lst ys)) l2 (.lst []) = H0 at s2 e1 e2
    refine ⟨fun m σ H' => ∃ vl vf : List V, σ = [some (.ref p), some (.ref a), some (.ref l1), some (.ref l2)] ∧ m = vl.length ∧ (vl ++ vf).Perm ys ∧ H' l1 = some (.lst vl) ∧ H' l2 = some (.lst vf) ∧ Kp p H H' ∧ Pen K H' p qc (n + vf.length), ⟨ys.length, ys, [], rfl, rfl, by rw [List.append_nil], e1, e2, fun b o _ e => s2 b o e, hp.same s2⟩, ?_⟩
    rintro m σ H' ⟨vl, vf, rfl, rfl, pm, f1, f2, k, pp⟩
    refine ⟨.ref l1, rfl, Nat.zero_le _, fun l3 n3 => ?_⟩
    have s3 := same_new n3 (o := .lst [])
    have g1 := s3 _ _ f1
    have g2 := s3 _ _ f2
    have pp3 := pp.same s3
    have k3 : Kp p H (upd H' l3 (.lst [])) := k.new n3
    have g3 : (upd H' l3 (.lst [])) l3 = some (.lst []) := upd_same
    generalize upd H' l3 (.lst []) = H3 at g1 g2 g3 pp3 k3
    have hlen : vl.length + vf.length = ys.length := by
      have := pm.length_eq
      rwa [List.length_append] at this
    refine ne_nil (N := (· ≠ p)) (.inl (.inl g1)) (.inl (.inl g3)) (fun y hm => ?_) ⟨_, rfl, ?_⟩
    · obtain ⟨d, h1, h2⟩ := hy y (pm.subset (List.mem_append_left _ hm))
      exact ⟨d, h1.kp k3, h2⟩
    · cases vl with
      | nil =>
        refine iteF ⟨_, rfl, q l2 vf H3 (by simpa using pm) z2 g2 op2 k3 ?_⟩
        have hl : vf.length = ys.length := by simpa using hlen
        rw [← hl]
        exact pp3
      | cons v0 vr =>
        refine iteT ⟨fun σ' G => ∃ m', m' < (v0 :: vr).length ∧ ∃ vl vf : List V, σ' = [some (.ref p), some (.ref a), some (.ref l1), some (.ref l2)] ∧ m' = vl.length ∧ (vl ++ vf).Perm ys ∧ G l1 = some (.lst vl) ∧ G l2 = some (.lst vf) ∧ Kp p H G ∧ Pen K G p qc (n + vf.length), fun _ _ z => z, ?_⟩
        have hl2 : vr.length + 1 + vf.length = ys.length := by simpa using hlen
        refine ⟨.ref l2, rfl, .inl ⟨rfl, _, .inl (.inl g2)⟩, .ref l1, rfl, .inl ⟨rfl, _, .inl (.inl g1)⟩, ?_⟩
        refine ⟨.ref p, rfl, .ref l1, rfl, .inl ⟨v0 :: vr, .inl (.inl (.inl g1)), ?_⟩⟩
        refine ⟨p, qc, _, n + vf.length, rfl, pp3, by omega, by show (0 : Int) < ((v0 :: vr).length : Int); simp only [List.length_cons]; omega, small60 (by simp; omega), fun d H4 d0 d1 k4 pp4 => ?_⟩
        have hlt : d.toNat < (v0 :: vr).length := by omega
        have e1 : H4 l1 = some (.lst (v0 :: vr)) := k4 _ _ op1 g1
        have e2 : H4 l2 = some (.lst vf) := k4 _ _ op2 g2
        refine ⟨l1, v0 :: vr, d, d.toNat, (v0 :: vr)[d.toNat], rfl, rfl, e1, by omega, by simp at d1; omega, seqI d0 (by simpa using d1), List.getElem?_eq_getElem hlt, ?_⟩
        refine ⟨l2, vf, _, rfl, rfl, by rw [upd_ne ne.symm]; exact e2, small1000000 (by omega), ?_⟩
        have he : ((v0 :: vr).eraseIdx d.toNat).length = vr.length := by rw [List.length_eraseIdx_of_lt hlt]; simp
        refine ⟨_, ?_, (v0 :: vr).eraseIdx d.toNat, vf ++ [(v0 :: vr)[d.toNat]], rfl, rfl, ?_, by rw [upd_ne ne]; exact upd_same, upd_same, ?_, ?_⟩
        · rw [he]; simp
        · refine List.Perm.trans ?_ pm
          exact perm_move hlt
        · intro b o nb e
          have n1' : b ≠ l1 := fun z => by rw [z, n1] at e; cases e
          have n2' : b ≠ l2 := fun z => by rw [z, z2] at e; cases e
          rw [upd_ne n2', upd_ne n1']
          exact k4 _ _ nb (k3 _ _ nb e)
        · have : n + (vf ++ [(v0 :: vr)[d.toNat]]).length = n + vf.length + 1 := by simp; omega
          rw [this]
          exact (pp4.wr hp n1).wr hp z2
end
end Wd

set_option Elab.async false
set_option linter.all false
set_option maxRecDepth 100000
set_option maxHeartbeats 4000000
/-! sorted(xs, key=lambda x: x[0]): xs a list or a tuple of tuples that begin with a text. -/
namespace Wd
open PySem PySem.Spec PyProof.Rows L2 PySem.W
section
variable {prog : Program} {w : World} {A : Around} {E : Value → Shared → Prop} {s : Shared}
/-- sorted by its own list.sort, of a list or a tuple -/
theorem sorted_seq {T : String} {l : Addr} {o : Obj} {vs : List Value} {n : Nat} {kw : List (Str × Value)} {Q : Value → Shared → Prop} (hT : T = "list" ∨ T = "tuple") (ho : s.heap.get? l = some o) (hc : o.cls = .type T) (hd : o.data = .seq vs.toArray n)
    (hL : vs.length ≤ sizeLine) (a1 : argsOk "sorted" ⟨[.ref l], kw⟩) (a2 : ∀ x, argsOk "list.sort" ⟨[.ref x], kw⟩)
    (body : ∀ (h1 : Heap) (E' : Value → Shared → Prop), (∀ b u, s.heap.get? b = some u → h1.get? b = some u) →
      wpAny (model prog w) A.in1.in1 (Builtin.«list.sort» ⟨[.ref h1.objs.size], kw⟩) (fun f s' => f = .done (.ret .none) ∧ Q (.ref h1.objs.size) s') E' { s with heap := h1.push (seqObj "list" vs.toArray 0) }) :
    wpAny (model prog w) A (call (.builtin "sorted") [.ref l] kw) Q E s := by
  refine call_function_entry_kw kind_sorted plain_sorted entry_sorted a1 ?_
  unfold Builtin.«sorted»
  refine wpAny_bind (m := checkCount "sorted" 1 1 _) (wpAny_pure ?_)
  refine wpAny_bind (wpAny_collect_seq (hsz := by rw [List.size_toArray]; exact hL) l hT ho hc hd fun h1 k1 => ?_)
  refine wpAny_bind (wpAny_newList ?_ hL)
  refine wpAny_bind (wpAny_holding (wpAny_call_entry_kw slot_list_sort ⟨_, Heap.get?_push_size _ rfl, rfl⟩ entry_list_sort ?_ (a2 _)))
  refine wpAny_mono (body h1 _ k1) (fun f s' hf => ?_) fun _ _ e => e
  obtain ⟨rfl, hq⟩ := hf
  exact ⟨_, rfl, wpAny_pure ⟨_, rfl, hq⟩⟩
end
section
variable {prog : Program} {w : World} {A : Around} {s : Shared}
/-- (lambda x: x[0])(t), where t is a tuple that begins with a text -/
theorem lam_first {qual x : Str} {params : Arguments} {scope : Scope} {p1 p2 p3 : Pos} {k0 : Nat} {cl : List (Str × Addr)} {pm ctv : Value} {c' q t : Addr} {z : Str} {tz : Tok} {rest : List Value}
    (hroom : A.depth < recursionLimit) (ho : s.heap.get? q = some (kla_obj "<lambda>" qual params (.Subscript (.Name x p1) (.Constant (.int 0) k0 p2) p3) scope cl pm c' ctv)) (hcd : s.heap.CodeRec (.ref c') qual) (nl : s.heap.NoLimit)
    (ht : IsTup s.heap t (Value.str z tz :: rest).toArray) (hbd : ∀ v, bindArgs (kla_fn "<lambda>" qual params (.Subscript (.Name x p1) (.Constant (.int 0) k0 p2) p3) scope cl pm (.ref c') ctv) ⟨[v], []⟩ = pure [(x, v)])
    (hk : scope.kind = .function) (hco : scope.isCoroutine = false) (hgen : scope.isGenerator = false) (hcell : ∀ y ∈ scope.names, y.2 ≠ .cell) (hx : scope.names.lookup x = some .local) (hdb : (x == ("__debug__" : Str)) = false) :
    wpAny (model prog w) A (call (.ref q) [.ref t]) (KeyPure (.str z) s) (fun _ _ => False) s := by
  refine wpAny_call (kla_callFunE hroom ho rfl hco hgen rfl hcd ?_)
  rw [hbd]
  refine wpAny_pure (wpAny_newFunctionEnv hcell (fun y hy => ?_) (fun h1 hns hsb => ⟨nl.fresh _ hsb, ?_⟩) hk)
  · rw [List.mem_singleton.mp hy]
    exact hx
  have k1 : ∀ b o, s.heap.get? b = some o → h1.get? b = some o := fun b o e => hsb.extBut b o (Nat.ne_of_lt (Heap.lt_size e)) (Heap.get?_push_of_some _ e)
  have ht1 : IsTup h1 t (Value.str z tz :: rest).toArray := by
    obtain ⟨o, e, r⟩ := ht
    exact ⟨o, k1 _ _ e, r⟩
  refine kla_codeExpr ?_
  refine Subscript_ ?_
  refine wpAny_Name ?_ hdb
  refine wpAny_loadName_local hk hx hns (show [(x, Value.ref t)].reverse.lookup x = some (Value.ref t) by simp) ?_
  refine wpAny_Constant_int ?_
  refine subscriptTail_builtin ht1.typeIs slot_tuple_getitem.lookup ?_
  refine getItem_tuple ht1 (j := 0) (x := Value.str z tz) (by decide) (by decide) ?_ rfl ?_
  · show seqIndex? 0 _ = some 0
    unfold seqIndex?
    rw [List.size_toArray, List.length_cons]
    simp
  · exact ⟨_, _, rfl, k1, .str z tz⟩
end
/-- texts as Python orders them: x isn't behind y -/
def strLe {β : Type} (key : β → Str) : β → β → Bool := dataLe false fun x => PyData.str (key x)
section
variable {X : Cx} {pins : List (Addr × Obj)} {σ : L2.St} {H : Hp} {s : Shared}
theorem each_of_vals : ∀ {xs : List (V × Str)} {vs : List Value}, Vals (xs.map Prod.fst) vs → EachIs (fun u (x : V × Str) => RelV x.1 u) vs xs
  | [], _, .nil => .nil
  | _ :: _, _, .cons h r => .cons h (each_of_vals r)
theorem vals_of_each : ∀ {xs : List (V × Str)} {vs : List Value}, EachIs (fun u (x : V × Str) => RelV x.1 u) vs xs → Vals (xs.map Prod.fst) vs
  | _, _, .nil => .nil
  | _, _, .cons h r => .cons h (vals_of_each r)
theorem seq_obj {a : Addr} {xs : List V} (I : Inv X pins σ H s) (h : SqL X.K H a xs ∨ SqT X.K H a xs) : ∃ (T : String) (o : Obj) (its : List Value) (n : Nat), (T = "list" ∨ T = "tuple") ∧ s.heap.get? a = some o ∧ o.cls = .type T ∧ o.data = .seq its.toArray n ∧ Vals xs its ∧ xs.length ≤ sizeLine := by
  rcases h with h | h
  · obtain ⟨its, rv, pl, hz⟩ := I.list h
    obtain ⟨o, ho, hc, n, hd⟩ := pl.isList
    exact ⟨_, o, its, n, .inl rfl, ho, hc, hd, rv, hz⟩
  · obtain ⟨its, rv, pl, hz⟩ := I.tuple h
    obtain ⟨o, ho, hc, n, hd⟩ := pl
    exact ⟨_, o, its, n, .inr rfl, ho, hc, hd, rv, hz⟩
/-- sorted(xs, key=f): f tells a text of each thing and keeps all that was there -/
theorem sorted_keyI {a q : Addr} {xs : List (V × Str)} {Q : VK} (I : Inv X pins σ H s) (hs : SqL X.K H a (xs.map Prod.fst) ∨ SqT X.K H a (xs.map Prod.fst)) (hu : X.A.units + 64 < cLine)
    (turn : ∀ (u : Value) (x : V × Str), RelV x.1 u → x ∈ xs → ∀ (h : Heap) (tk : Nat), (∀ b o, s.heap.get? b = some o → h.get? b = some o) →
      wpAny (model X.prog X.w) X.A.in1.in1 (call (.ref q) [u]) (KeyPure (.str x.2) { s with heap := h, toks := tk }) (fun _ _ => False) { s with heap := h, toks := tk })
    (h : ∀ D, H D = none → Q (.ref D) (upd H D (.lst ((xs.mergeSort (strLe Prod.snd)).map Prod.fst)))) :
    wpAny (model X.prog X.w) X.A (call (.builtin "sorted") [.ref a] [(Str.ofString "key", .ref q)]) (EP X pins σ Q) X.xe s := by
  obtain ⟨T, o, its, n, hT, ho, hc, hd, rv, hz⟩ := seq_obj I hs
  have hl := rv.length
  rw [List.length_map] at hl hz
  have e := each_of_vals rv
  refine sorted_seq hT ho hc hd (by omega) (ksk_s1 _ _) (fun _ => ksk_l1 _ _) fun h1 E' k1 => ?_
  have I1 : Inv X pins σ H { s with heap := h1 } := I.kept (t' := s.toks) k1
  rw [ksk_t1]
  have al : AllAlike (xs.map fun x : V × Str => PyData.str x.2) := AllAlike.of fun _ _ => rfl
  have so : PySem.W.Sortable (xs.map fun x : V × Str => PyData.str x.2) := .inr fun d hd' => by
    obtain ⟨x, _, rfl⟩ := List.mem_map.mp hd'
    exact ⟨fun z => (by cases z), fun _ z => (by cases z)⟩
  have up : ∀ {g : Heap}, KeepsBut h1.objs.size (h1.push (seqObj "list" its.toArray 0)) g → ∀ b o, h1.get? b = some o → g.get? b = some o := fun {g} kp b u eb =>
    kp b u (Nat.ne_of_lt (Heap.lt_size eb)) (Heap.get?_push_of_some _ eb)
  refine keyH_tree (kz := xs.map fun x : V × Str => PyData.str x.2) (s := { s with heap := h1.push (seqObj "list" its.toArray 0) }) (n := 0) (Heap.get?_push_size _ rfl) (by rw [List.length_map]; exact hl) (by omega) al so (fun d hd' => ?_)
    (keyH_turns (s := { s with heap := h1.push (seqObj "list" its.toArray 0) }) (k := fun x : V × Str => PyData.str x.2) e fun v x hR hx g tk kp => turn v x hR hx g tk fun b u eb => up kp b u (k1 b u eb)) fun h' tk out c kp hD ko => ⟨rfl, ?_⟩
  · obtain ⟨x, _, rfl⟩ := List.mem_map.mp hd'
    show X.A.in1.in1.units + 0 < cLine
    have : X.A.in1.in1.units = X.A.units + 2 := rfl
    omega
  · have eo := keyedOut_each (fun x : V × Str => PyData.str x.2) ko e
    have vo : Vals ((xs.mergeSort (strLe Prod.snd)).map Prod.fst) out := vals_of_each eo
    have zo : ((xs.mergeSort (strLe Prod.snd)).map Prod.fst).length ≤ sizeLine := by rw [List.length_map, List.length_mergeSort]; exact hz
    refine ⟨.ref h1.objs.size, upd H h1.objs.size (.lst ((xs.mergeSort (strLe Prod.snd)).map Prod.fst)), I1.laid (t' := tk) (up kp) (Nat.le_refl _) (show ObjOk X.prog X.w _ _ _ (.lst ((xs.mergeSort (strLe Prod.snd)).map Prod.fst)) from ⟨zo, out, c, vo, hD⟩), rfl, h _ (I1.hok.fresh (Nat.le_refl _))⟩
end
/-! ### sorted(e, key=lambda x: x[0]) -/
def tSortKQ (K : PySem.W.Frag) (T : List (Addr × Str)) (Q : VK) : List V → Hp → Prop := fun vs H1 => match vs with
  | [v] => ∃ (a : Addr) (xs : List (V × Str)), v = .ref a ∧ LamX.Tabs T H1 ∧
    ∀ H2, LamX.ExtN H1 H2 → LamX.Tabs T H2 → (SqL K H2 a (xs.map Prod.fst) ∨ SqT K H2 a (xs.map Prod.fst)) ∧ (∀ y ∈ xs, ∃ (t : Addr) (rest : List V), y.1 = .ref t ∧ SqT K H2 t (.str y.2 :: rest)) ∧ ∀ D, H2 D = none → Q (.ref D) (upd H2 D (.lst ((xs.mergeSort (strLe Prod.snd)).map Prod.fst)))
  | _ => False
def tSortK (K : PySem.W.Frag) (T : List (Addr × Str)) (te : TE) : TE := fun σ H Q => te σ H fun v H1 => ∃ (a : Addr) (xs : List (V × Str)), v = .ref a ∧ LamX.Tabs T H1 ∧
  ∀ H2, LamX.ExtN H1 H2 → LamX.Tabs T H2 → (SqL K H2 a (xs.map Prod.fst) ∨ SqT K H2 a (xs.map Prod.fst)) ∧ (∀ y ∈ xs, ∃ (t : Addr) (rest : List V), y.1 = .ref t ∧ SqT K H2 t (.str y.2 :: rest)) ∧ ∀ D, H2 D = none → Q (.ref D) (upd H2 D (.lst ((xs.mergeSort (strLe Prod.snd)).map Prod.fst)))
section
variable {X : Cx}
theorem pe_sortedK {T : List (Addr × Str)} {y : Str} {c P : Addr} {k : Nat} {te : TE} {e : Expr} {params : Arguments} {scope : Scope} {k0 : Nat} {p lpos kpos pos p1 p2 p3 : Pos} {K : PySem.W.Frag} (hcalm : X.calm = true) (he : PE X e te) (hg : Gl X "sorted") (hm : X.mg "sorted" = none)
    (TB : LamX.TabB X.base X.mg c P) (hcode : X.env.code = .ref c) (hmT : (P, X.env.qual ++ "<lambda>") ∈ T) (hu : ∀ z ∈ T, z.1 = P → z.2 = X.env.qual ++ "<lambda>") (hr : Room (k + 2) X.A) 
    (hfree : ∀ z ∈ scope.names, z.2 = .free → ∃ cc, X.env.cells.lookup z.1 = some cc) (hdef : defaultsOf params X.env = ([], []))
    (hbd : ∀ (qual : Str) (cl : List (Str × Addr)) (pm cv ctv v : Value), bindArgs (kla_fn "<lambda>" qual params (.Subscript (.Name y p1) (.Constant (.int 0) k0 p2) p3) scope cl pm cv ctv) ⟨[v], []⟩ = pure [(y, v)])
    (hk : scope.kind = .function) (hco : scope.isCoroutine = false) (hgen : scope.isGenerator = false) (hcell : ∀ z ∈ scope.names, z.2 ≠ .cell) (hx : scope.names.lookup y = some .local) (hdb : (y == ("__debug__" : Str)) = false) (hK : X.K = K := by rfl)
    (hs1 : starEach [e] X.env = (false, eval e X.env) :: starEach [] X.env := by rfl) (hse : backTo pos (starEach [e] X.env) = (false, eval e X.env) :: backTo pos (starEach [] X.env) := by rfl) (hpl : (backTo pos (starEach [e] X.env)).any (·.1) = false := by rfl) :
    PE X (.Call (.Name "sorted" p) [e] [⟨some "key", .Lambda params (.Subscript (.Name y p1) (.Constant (.int 0) k0 p2) p3) scope lpos, kpos⟩] pos) (tSortK K T te) := by
  subst hK
  refine ⟨fun pins s σ H Q I q0 => ?_⟩
  refine wpAny_Call_Name_kw (ld_blt I hg hm bt_sorted ?_)
  refine PyProof.Rows.callWith_kw (thn ((pa_cons he pa_nil (hs := hs1) : PA X [e] (tCons te tNil)).run pos pins s σ H (tSortKQ X.K T Q) I q0) fun us s1 ⟨vs1, H1, I1, r1, q1⟩ => ?_) hse hpl (by rfl) (by rfl)
  obtain ⟨v1, rfl, q1⟩ : ∃ v, vs1 = [v] ∧ tSortKQ X.K T Q [v] H1 := by
    match vs1, q1 with
    | [v], q1 => exact ⟨v, rfl, q1⟩
  obtain ⟨a, xs, rfl, hT, q1⟩ := q1
  show wpAny _ _ (evalAll [(do let v ← eval (.Lambda params (.Subscript (.Name y p1) (.Constant (.int 0) k0 p2) p3) scope lpos) X.env; standAt pos; pure v)]) _ _ s1
  refine wpAny_evalAll_cons (wpAny_bind (LamX.lam_make2 I1 TB hcode hmT hu hT hdef hfree fun f c' pm ctv H2 s2 I2 eN T2 hf hfn hfr hco' => wpAny_bind (wpAny_standAt (wpAny_pure (wpAny_evalAll_nil ?_)))))
  obtain ⟨hs, hy, hq⟩ := q1 H2 eN T2
  obtain ⟨u, rfl, ru⟩ := vals1 r1
  cases ru
  show wpAny _ _ (call (.builtin "sorted") [.ref a] [(Str.ofString "key", .ref f)]) _ _ s2
  refine sorted_keyI I2 hs (hu64 hr) (fun v x rx hx' h tk kp => ?_) hq
  obtain ⟨t, rest, ex, ht⟩ := hy x hx'
  rw [ex] at rx
  cases rx
  obtain ⟨its, rv, pl, _⟩ := I2.tuple ht
  obtain ⟨z0, rest', rfl⟩ : ∃ z0 rest', its = z0 :: rest' := by
    cases its with
    | nil => cases rv
    | cons z0 rest' => exact ⟨z0, rest', rfl⟩
  have r0 : RelV (.str x.2) z0 := by
    cases rv with
    | cons r _ => exact r
  obtain ⟨tz, rfl⟩ := r0
  have pl' : IsTup h t (Value.str x.2 tz :: rest').toArray := by
    obtain ⟨o, eo, r⟩ := pl
    exact ⟨o, kp _ _ eo, r⟩
  obtain ⟨oc, vs0, t0, hc1, hc2, hc3⟩ := (show ∃ (oc : Obj) (vs : Array Value) (t : Tok), s2.heap.get? c' = some oc ∧ oc.data = .fields vs ∧ vs[1]? = some (.str (X.env.qual ++ "<lambda>") t) from (I2.hok _ _ hco').1)
  exact lam_first (s := { s2 with heap := h, toks := tk }) hr.in1.in1.depth (kp _ _ hf) ⟨c', oc, vs0, t0, rfl, kp _ _ hc1, hc2, hc3⟩ (((I2.ok.mod.nolimit).keeps I2.bk).keeps kp) pl' (fun v => hbd _ _ _ _ _ v) hk hco hgen hcell hx hdb
end
end Wd

set_option Elab.async false
set_option linter.all false
set_option maxRecDepth 100000
set_option maxHeartbeats 4000000
/-! What rises is told by its things alone. -/
namespace Wd
open PySem PySem.Spec PyProof.Rows L2 PySem.W
def leT (a b : Str) : Prop := a.cps.toList ≤ b.cps.toList
theorem leT_trans {a b c : Str} (h1 : leT a b) (h2 : leT b c) : leT a c := List.le_trans h1 h2
theorem leT_anti {a b : Str} (h1 : leT a b) (h2 : leT b a) : a = b := by
  have e : a.cps.toList = b.cps.toList := List.le_antisymm h1 h2
  cases a
  cases b
  simp only at e
  rw [Array.toList_inj.mp e]
theorem leT_total (a b : Str) : leT a b ∨ leT b a := List.le_total _ _
theorem ltCps_le {a b : Str} : ltCps b.cps.toList a.cps.toList = false ↔ leT a b := by
  rw [ltCps_eq, decide_eq_false_iff_not]
  exact Iff.rfl
theorem rising_pair : ∀ (p : Str) (l : List Str), risingS p l = true → (p :: l).Pairwise leT
  | p, [], _ => List.pairwise_singleton _ _
  | p, x :: r, h => by
    have h2 : (!ltCps x.cps.toList p.cps.toList && risingS x r) = true := h
    rw [Bool.and_eq_true, Bool.not_eq_true'] at h2
    have px : leT p x := ltCps_le.mp h2.1
    have ih := rising_pair x r h2.2
    refine List.pairwise_cons.mpr ⟨fun y hy => ?_, ih⟩
    rcases List.mem_cons.mp hy with rfl | hy
    · exact px
    · exact leT_trans px ((List.pairwise_cons.mp ih).1 y hy)
theorem sorted_pair {l : List Str} (h : sortedS l = true) : l.Pairwise leT := by
  cases l with
  | nil => exact .nil
  | cons p l => exact rising_pair p l h
theorem perm_uniq {α : Type} {le : α → α → Prop} : ∀ {l m : List α}, (∀ a ∈ l, ∀ b ∈ l, le a b → le b a → a = b) → l.Perm m → l.Pairwise le → m.Pairwise le → l = m
  | [], m, _, p, _, _ => (List.perm_nil.mp p.symm).symm
  | a :: l, m, an, p, h1, h2 => by
    cases m with
    | nil => exact absurd p.length_eq (by simp)
    | cons b m =>
      have e : a = b := by
        have hb : b ∈ a :: l := p.mem_iff.mpr List.mem_cons_self
        have ha : a ∈ b :: m := p.mem_iff.mp List.mem_cons_self
        rcases List.mem_cons.mp hb with e | hb'
        · exact e.symm
        · rcases List.mem_cons.mp ha with e | ha'
          · exact e
          · exact an a List.mem_cons_self b hb ((List.pairwise_cons.mp h1).1 b hb') ((List.pairwise_cons.mp h2).1 a ha')
      subst e
      have p' := (List.perm_cons a).mp p
      rw [perm_uniq (fun x hx y hy => an x (List.mem_cons_of_mem _ hx) y (List.mem_cons_of_mem _ hy)) p' (List.pairwise_cons.mp h1).2 (List.pairwise_cons.mp h2).2]
theorem strLe_iff {β : Type} {key : β → Str} {x y : β} : strLe key x y = true ↔ leT (key x) (key y) := by
  have e : strLe key x y = !(strKind.blt (key y).cps.toList (key x).cps.toList) := by
    show (!lexLt itemOrd (keyToks (.str (key y))) (keyToks (.str (key x)))) = _
    have a1 : keyToks (.str (key y)) = [Sum.inr (key y).cps.toList] := by rw [keyToks]
    have a2 : keyToks (.str (key x)) = [Sum.inr (key x).cps.toList] := by rw [keyToks]
    rw [a1, a2, lex_cons]
    show (!(strKind.blt _ _ || (_ && false))) = _
    rw [Bool.and_false, Bool.or_false]
  rw [e, Bool.not_eq_true']
  have b : strKind.blt (key y).cps.toList (key x).cps.toList = ltCps (key y).cps.toList (key x).cps.toList := by
    rw [ltCps_eq]
  rw [b]
  exact ltCps_le
/-- by unlike names: the one order -/
theorem merge_names {β : Type} {xs ys : List β} {key : β → Str} {ns : List Str} (hk : ys.map key = ns) (hs : sortedS ns = true) (hn : ns.Nodup) (hp : xs.Perm ys) : xs.mergeSort (strLe key) = ys := by
  have pw : (xs.mergeSort (strLe key)).Pairwise (fun a b => leT (key a) (key b)) := by
    have := List.pairwise_mergeSort (le := strLe key) (fun a b c h1 h2 => strLe_iff.mpr (leT_trans (strLe_iff.mp h1) (strLe_iff.mp h2))) (fun a b => by
      rcases leT_total (key a) (key b) with h | h
      · rw [strLe_iff.mpr h, Bool.true_or]
      · rw [strLe_iff.mpr h, Bool.or_true]) xs
    exact this.imp fun {a b} h => strLe_iff.mp h
  have pm : (xs.mergeSort (strLe key)).Perm ys := (List.mergeSort_perm xs _).trans hp
  have py : ys.Pairwise (fun a b => leT (key a) (key b)) := by
    have := sorted_pair hs
    rw [← hk, List.pairwise_map] at this
    exact this
  refine perm_uniq (fun a ha b hb h1 h2 => ?_) pm pw py
  have ea : key a = key b := leT_anti h1 h2
  have nd : (ys.map key).Nodup := by rw [hk]; exact hn
  have ma := pm.mem_iff.mp ha
  have mb := pm.mem_iff.mp hb
  obtain ⟨i, hi, rfl⟩ := List.getElem_of_mem ma
  obtain ⟨j, hj, rfl⟩ := List.getElem_of_mem mb
  have p2 := List.pairwise_iff_getElem.mp nd
  rcases Nat.lt_trichotomy i j with c | c | c
  · exact absurd (by rw [List.getElem_map, List.getElem_map]; exact ea) (p2 i j (by simpa using hi) (by simpa using hj) c)
  · subst c
    rfl
  · exact absurd (by rw [List.getElem_map, List.getElem_map]; exact ea.symm) (p2 j i (by simpa using hj) (by simpa using hi) c)
/-- texts -/
theorem sort_texts {xs ys : List Str} (h1 : sortedS xs = true) (h2 : sortedS ys = true) (p : xs.Perm ys) : xs = ys :=
  perm_uniq (fun _ _ _ _ => leT_anti) p (sorted_pair h1) (sorted_pair h2)
/-! ### sorted of a list or a tuple of texts -/
def rSortG (K : PySem.W.Frag) : List V → Hp → VK → Prop := fun vs H Q => ∃ (a : Addr) (xs : List Str), vs = [V.ref a] ∧ (SqL K H a (xs.map V.str) ∨ SqT K H a (xs.map V.str)) ∧ xs.length < 64 ∧
  ∀ (ys : List Str) (p : Addr), ys.Perm xs → sortedS ys = true → H p = none → Q (.ref p) (upd H p (.lst (ys.map V.str)))
theorem cr_sortG {X : Cx} {K : PySem.W.Frag} (hK : X.K = K := by rfl) : CallR X (.builtin "sorted") (rSortG K) := by
  subst hK
  intro pins s σ H vs us Q I r h
  obtain ⟨a, xs, rfl, hs, h64, q⟩ := h
  obtain ⟨T, o, its, n, hT, ho, hc, hd, rv, hz⟩ := seq_obj I hs
  rw [Vals.ref1 r]
  have hS := rv.strs
  have hl : its.length = xs.length := by
    have z := rv.length
    rw [List.length_map] at z
    exact z.symm
  refine sorted_seq hT ho hc hd (by rw [hl, sizeLine_eq]; omega) (args_sorted1 _) (fun _ => args_list_sort _) fun h1 E' k1 => ?_
  have I1 : Inv X pins σ H { s with heap := h1 } := I.kept (t' := s.toks) k1
  have hob : (h1.push (seqObj "list" its.toArray 0)).get? h1.objs.size = some (seqObj "list" its.toArray 0) := Heap.get?_push_size _ rfl
  refine list_sort_treeK strKind_oneLt (s := { s with heap := h1.push (seqObj "list" its.toArray 0) }) hob hS.keysOf (fun v₁ v₂ rest e => keyKind_strs (by rw [← e]; exact hS)) (by rw [hl]; exact h64) fun st' hp hs' => ⟨rfl, ?_⟩
  obtain ⟨ys, g1, g2, g3⟩ := sorted_out_str hS hp hs'
  obtain ⟨ep, he'⟩ := PyProof.Rows.sortedHeap_at (vs := its) (out := (arrOf st').map (·.2)) hob
  have hlen : (ys.map V.str).length ≤ sizeLine := by
    rw [List.length_map, g2.length_eq, sizeLine_eq]
    omega
  refine ⟨.ref h1.objs.size, upd H h1.objs.size (.lst (ys.map V.str)), I1.laid (t' := s.toks) (fun b u e => ?_) (Nat.le_refl _) (show ObjOk X.prog X.w _ _ _ (.lst (ys.map V.str)) from ⟨hlen, ((arrOf st').map (·.2)).toList, ep, vals_of_strs g1, by rw [Array.toArray_toList]; exact he'⟩), rfl, q ys _ g2 g3 (I1.hok.fresh (Nat.le_refl _))⟩
  have hb : b ≠ h1.objs.size := Nat.ne_of_lt (Heap.lt_size e)
  rw [PyProof.Rows.sortedHeap_old hb (by show b < (h1.push (seqObj "list" its.toArray 0)).objs.size; rw [size_push']; exact Nat.lt_succ_of_lt (Heap.lt_size e))]
  exact Heap.get?_push_of_some _ e
end Wd

set_option Elab.async false
set_option linter.all false
set_option maxRecDepth 100000
set_option maxHeartbeats 4000000
/-! What a hall is made of, in drawn orders. -/
namespace Wd
open PySem PySem.Spec PyProof.Rows L2
section
variable {N : Addr → Prop} {K : PySem.W.Frag} {H H' : Hp}
theorem doorsKv_keys : ∀ {ds : List DoorH} {kvs : List (Key × V)}, DqKv N K H kvs (doorsKv ds) → kvs.map (·.1) = ds.map fun d => Sum.inr d.name
  | [], kvs, h => by cases h; rfl
  | d :: ds, kvs, h => by
    have e : doorsKv (d :: ds) = (.str d.name, d.data) :: doorsKv ds := rfl
    rw [e] at h
    generalize hx : PyData.str d.name = x at h
    cases h with
    | @cons k v kvs' d' ds' h1 h2 =>
      rw [List.map_cons, List.map_cons, doorsKv_keys h2]
      cases k with
      | inl i => cases hx
      | inr z => cases hx; rfl
theorem doorsKv_at : ∀ {ds : List DoorH} {kvs : List (Key × V)} {d : DoorH}, DqKv N K H kvs (doorsKv ds) → (ds.map DoorH.name).Nodup → d ∈ ds → ∃ v, valV kvs (.inr d.name) = some v ∧ Dq N K H v d.data
  | [], _, _, _, _, m => absurd m (by simp)
  | d0 :: ds, kvs, d, h, nd, m => by
    have e : doorsKv (d0 :: ds) = (.str d0.name, d0.data) :: doorsKv ds := rfl
    rw [e] at h
    generalize hx : PyData.str d0.name = x at h
    generalize hy : d0.data = y at h
    cases h with
    | @cons k v kvs' d' ds' h1 h2 =>
      have ek : k = .inr d0.name := by
        cases k with
        | inl i => cases hx
        | inr z => cases hx; rfl
      have nd' : d0.name ∉ ds.map DoorH.name ∧ (ds.map DoorH.name).Nodup := by
        rw [List.map_cons] at nd
        exact List.nodup_cons.mp nd
      rcases List.mem_cons.mp m with rfl | m
      · exact ⟨v, valV_pos ek, by rw [hy]; exact h1⟩
      · obtain ⟨v', e1, e2⟩ := doorsKv_at h2 nd'.2 m
        refine ⟨v', ?_, e2⟩
        rw [valV_neg (fun q => ?_)]
        · exact e1
        · have q' : k = .inr d.name := q
          rw [ek] at q'
          exact nd'.1 (by rw [Sum.inr.inj q']; exact List.mem_map.mpr ⟨d, m, rfl⟩)
theorem door_inv {v : V} {d : DoorH} (h : Dq N K H v d.data) : ∃ (t tr : Addr) (rvs : List V), v = .ref t ∧ N t ∧ N tr ∧ SqT K H t [.str d.one, .str d.other, .str d.way, .ref tr] ∧ SqT K H tr rvs ∧ DqAll N K H rvs (d.rows.map RowH.data) := by
  cases h with
  | tup n e q =>
    cases q with
    | cons h1 q =>
      cases q with
      | cons h2 q =>
        cases q with
        | cons h3 q =>
          cases q with
          | cons h4 q =>
            cases q
            cases h1
            cases h2
            cases h3
            cases h4 with
            | tup n' e' q' => exact ⟨_, _, _, rfl, n, n', e, e', q'⟩
end
/-- no list -/
def NoLs (o : HO) : Prop := ∀ ys, o ≠ .lst ys
theorem rows_move {p : Addr} {K : PySem.W.Frag} {H H' : Hp} (s : ∀ a o, a ≠ p → NoLs o → H a = some o → H' a = some o) : ∀ {vs : List V} {rs : List RowH}, DqAll (· ≠ p) K H vs (rs.map RowH.data) → DqAll (· ≠ p) K H' vs (rs.map RowH.data)
  | [], [], _ => .nil
  | v :: vs, r :: rs, h => by
    cases h with
    | cons h1 h2 =>
      refine .cons ?_ (rows_move s h2)
      cases h1 with
      | @tup a0 xs0 ds0 n e q =>
        have e' : SqT K H' a0 xs0 := by
          rcases e with (e | ⟨u, e⟩) | e
          · exact .inl (.inl (s _ _ n (fun _ z => by cases z) e))
          · exact .inl (.inr ⟨u, s _ _ n (fun _ z => by cases z) e⟩)
          · exact .inr e
        refine .tup n e' ?_
        cases q with
        | cons q1 q =>
          cases q with
          | cons q2 q =>
            cases q with
            | cons q3 q =>
              cases q
              cases q1
              cases q2
              refine .cons (.str _) (.cons (.int _) (.cons ?_ .nil))
              cases em : r.most with
              | none =>
                rw [em] at q3
                cases q3
                exact .non
              | some m =>
                rw [em] at q3
                cases q3
                exact .int m
/-- a door as it is handed in: z.2 is the list of its rows, where it is a list -/
def PartD (p lf : Addr) (K : PySem.W.Frag) (H : Hp) (v : V) (z : DoorH × Option Addr) : Prop := ∃ (t tt : Addr) (one other : Str) (rows : List RowH) (rvs : List V), v = .ref t ∧ t ≠ p ∧ SqT K H t [.str z.1.name, .str one, .str other, .str z.1.way, .ref tt] ∧
  ((one = z.1.one ∧ other = z.1.other) ∨ (z.1.way = "both" ∧ one = z.1.other ∧ other = z.1.one)) ∧ rows.Perm z.1.rows ∧ DqAll (· ≠ p) K H rvs (rows.map RowH.data) ∧ ((z.2 = some tt ∧ H tt = some (.lst rvs) ∧ tt ≠ lf) ∨ (z.2 = none ∧ SqT K H tt rvs)) ∧ tt ≠ p
theorem PartD.move {p lf : Addr} {K : PySem.W.Frag} {H H' : Hp} {v : V} {z : DoorH × Option Addr} (s : ∀ a o, a ≠ p → (a ≠ lf ∨ NoLs o) → H a = some o → H' a = some o) (h : PartD p lf K H v z) : PartD p lf K H' v z := by
  obtain ⟨t, tt, one, other, rows, rvs, e, nt, sq, en, rp, dq, l, ntt⟩ := h
  have mt : ∀ {b : Addr} {xs : List V}, b ≠ p → SqT K H b xs → SqT K H' b xs := fun {b xs} nb h => by
    rcases h with (h | ⟨u, h⟩) | h
    · exact .inl (.inl (s _ _ nb (.inr fun _ z => by cases z) h))
    · exact .inl (.inr ⟨u, s _ _ nb (.inr fun _ z => by cases z) h⟩)
    · exact .inr h
  refine ⟨t, tt, one, other, rows, rvs, e, nt, mt nt sq, en, rp, rows_move (fun a o na no ea => s a o na (.inr no) ea) dq, ?_, ntt⟩
  rcases l with ⟨l1, l2, l3⟩ | ⟨l1, l2⟩
  · exact .inl ⟨l1, s _ _ ntt (.inl l3) l2, l3⟩
  · exact .inr ⟨l1, mt ntt l2⟩
theorem paired_mono {α β : Type} {F G : α → β → Prop} (m : ∀ a b, F a b → G a b) : ∀ {xs : List α} {ys : List β}, Paired F xs ys → Paired G xs ys
  | _, _, .nil => .nil
  | _, _, .cons h r => .cons (m _ _ h) (paired_mono m r)
theorem paired_snoc {α β : Type} {F : α → β → Prop} {a : α} {b : β} (h : F a b) : ∀ {xs : List α} {ys : List β}, Paired F xs ys → Paired F (xs ++ [a]) (ys ++ [b])
  | _, _, .nil => .cons h .nil
  | _, _, .cons g r => .cons g (paired_snoc h r)
theorem dqAll_perm {α : Type} {f : α → PyData} {N : Addr → Prop} {K : PySem.W.Frag} {H : Hp} {xs ys : List V} (p : ys.Perm xs) : ∀ {rs : List α}, DqAll N K H xs (rs.map f) → ∃ rs' : List α, rs'.Perm rs ∧ DqAll N K H ys (rs'.map f) := by
  induction p with
  | nil => exact fun {rs} h => ⟨rs, List.Perm.refl _, h⟩
  | cons x _ ih =>
    intro rs h
    cases rs with
    | nil => cases h
    | cons r rs =>
      cases h with
      | cons h1 h2 =>
        obtain ⟨rs', p', d'⟩ := ih h2
        exact ⟨r :: rs', p'.cons r, .cons h1 d'⟩
  | swap x y l =>
    intro rs h
    cases rs with
    | nil => cases h
    | cons r rs =>
      cases rs with
      | nil =>
        cases h with
        | cons _ h => cases h
      | cons r2 rs =>
        cases h with
        | cons h1 h2 =>
          cases h2 with
          | cons h2 h3 => exact ⟨r2 :: r :: rs, List.Perm.swap _ _ _, .cons h2 (.cons h1 h3)⟩
  | trans _ _ ih1 ih2 =>
    intro rs h
    obtain ⟨r1, p1, d1⟩ := ih2 h
    obtain ⟨r2, p2, d2⟩ := ih1 d1
    exact ⟨r2, p2.trans p1, d2⟩
theorem plain_rows {N : Addr → Prop} {K : PySem.W.Frag} {H : Hp} : ∀ {vs : List V} {rs : List RowH}, DqAll N K H vs (rs.map RowH.data) → (∀ r ∈ rs, PyData.strOk r.room = true) → ∀ y ∈ vs, ∃ d, Dq N K H y d ∧ Plain d
  | [], _, _, _, _, m => absurd m (by simp)
  | v :: vs, rs, h, ok, y, m => by
    cases rs with
    | nil => cases h
    | cons r rs =>
      cases h with
      | cons h1 h2 =>
        rcases List.mem_cons.mp m with rfl | m
        · exact ⟨_, h1, plain_row (ok r List.mem_cons_self)⟩
        · exact plain_rows h2 (fun z hz => ok z (List.mem_cons_of_mem _ hz)) y m
theorem perm_of_map {α β : Type} (f : α → β) {m : List β} {l : List α} (h : m.Perm (l.map f)) : ∃ l' : List α, l'.Perm l ∧ l'.map f = m := perm_lift f h l rfl
def stoneD (s : Str × Int) : PyData := .tuple [.str s.1, .int s.2]
theorem stones_dq {p : Addr} {K : PySem.W.Frag} {H : Hp} : ∀ {ts : List Addr} {ss : List (Str × Int)}, Paired (fun (t : Addr) (q : Key × V) => H t = some (.tup [kV q.1, q.2])) ts (stonesKv ss) → (∀ t ∈ ts, t ≠ p) → DqAll (· ≠ p) K H (ts.map V.ref) (ss.map stoneD)
  | [], [], _, _ => .nil
  | t :: ts, s :: ss, h, n => by
    have e : stonesKv (s :: ss) = (.inr s.1, .int s.2) :: stonesKv ss := rfl
    rw [e] at h
    cases h with
    | cons h1 h2 => exact .cons (.tup (n t List.mem_cons_self) (.inl (.inl h1)) (.cons (.str _) (.cons (.int _) .nil))) (stones_dq h2 fun z hz => n z (List.mem_cons_of_mem _ hz))
  | [], s :: ss, h, _ => by cases h
  | t :: ts, [], h, _ => by cases h
theorem plain_stones {N : Addr → Prop} {K : PySem.W.Frag} {H : Hp} : ∀ {vs : List V} {rs : List (Str × Int)}, DqAll N K H vs (rs.map stoneD) → (∀ r ∈ rs, PyData.strOk r.1 = true) → ∀ y ∈ vs, ∃ d, Dq N K H y d ∧ Plain d
  | [], _, _, _, _, m => absurd m (by simp)
  | v :: vs, rs, h, ok, y, m => by
    cases rs with
    | nil => cases h
    | cons r rs =>
      cases h with
      | cons h1 h2 =>
        rcases List.mem_cons.mp m with rfl | m
        · have := ok r List.mem_cons_self
          exact ⟨_, h1, by simp [stoneD, PyData.hasDict, PyData.hasDictAll], by simp [stoneD, PyData.canLay0, PyData.canLayAll0, this], by simp [stoneD, PyData.depth, PyData.depthAll]⟩
        · exact plain_stones h2 (fun z hz => ok z (List.mem_cons_of_mem _ hz)) y m
theorem fresh_of {p l : Addr} {H G : Hp} (up : ∀ z o, z ≠ p → H z = some o → G z = some o) (n : l ≠ p) (e : G l = none) : H l = none := by
  cases q : H l with
  | none => rfl
  | some u =>
    rw [up l u n q] at e
    cases e
theorem paired_snd {α β : Type} {F : α → β → Prop} : ∀ {xs : List α} {ys : List β}, Paired F xs ys → ∀ {y : β}, y ∈ ys → ∃ x, x ∈ xs ∧ F x y
  | _, _, .nil, _, h => absurd h (by simp)
  | _, _, .cons h r, y, m => by
    rcases List.mem_cons.mp m with rfl | m
    · exact ⟨_, List.mem_cons_self, h⟩
    · obtain ⟨x, hx, q⟩ := paired_snd r m
      exact ⟨x, List.mem_cons_of_mem _ hx, q⟩
end Wd

set_option Elab.async false
set_option linter.all false
set_option maxRecDepth 100000
set_option maxHeartbeats 4000000
/-! Defs that make a lambda: their own code object is known. -/
namespace Wd
open PySem PySem.Spec PyProof.Rows L2
section
variable {P : Program} {w : World} {K : PySem.W.Frag} {mg : Str → Option Value} {base : Heap}
theorem fnT {x qual : Str} {st : Stmt} {f c : Addr} {fd : FuncData} {N ps : List Str} {k : Nat} {sp : Sp} (F : C8.Fun K x qual st f fd) (hcode : fd.code = .ref c) (S : FnScope N ps (C8.fnScope st)) (len : ∀ xs G R E, sp xs G R E → xs.length = ps.length)
    (hb : ∀ (A : Around) (out : List Env) (z : Shared) (G : Hp) (xs : List V) (R : VK) (E : XK), Room k (A.deeper (envOfC qual (C8.fnScope st) z.heap.objs.size f (.ref c))) → sp xs G R E →
      ∃ t, PSs (cxOf CX0 P w K mg base N qual (C8.fnScope st) f (.ref c) A out z G E).nox (C8.fnBody st) t ∧ t { nx := fun _ G' => R .non G', rt := R } (start N xs) G) : FnOk P w K mg base CX0 (k + 1) f fd ps sp := by
  obtain ⟨oc, od, dV, kV, doc, pm, an, cv, ct, sl, rfl, lk, hc⟩ := F.ex
  have e : cv = .ref c := hcode
  subst e
  refine fn_of lk hc S len fun A out z G xs R E hr hsp => ?_
  obtain ⟨t, h, q⟩ := hb A out z G xs R E hr hsp
  exact ⟨t, h.nox, q⟩
theorem calT {x : Str} {st : Stmt} {f c : Addr} {fd : FuncData} {N ps : List Str} {ds : List Value} {dvs : List V} {k : Nat} {sp : Sp} (F : C8.Def K mg x st f fd) (hcode : fd.code = .ref c) (b : Binds K fd ps ds) (d : Vals dvs ds) (S : FnScope N ps (C8.fnScope st)) (len : ∀ xs G R E, sp xs G R E → xs.length = ps.length)
    (hb : ∀ (A : Around) (out : List Env) (z : Shared) (G : Hp) (xs : List V) (R : VK) (E : XK), Room k (A.deeper (envOfC x (C8.fnScope st) z.heap.objs.size f (.ref c))) → sp xs G R E →
      ∃ t, PSs (cxOf CX0 P w K mg base N x (C8.fnScope st) f (.ref c) A out z G E).nox (C8.fnBody st) t ∧ t { nx := fun _ G' => R .non G', rt := R } (start N xs) G) : C8.Cal P w K mg base (k + 1) x sp dvs :=
  ⟨f, fd, ps, ds, fnT F.fn hcode S len hb, F.mgf, F.kp, b, d⟩
end
theorem pg_lstK {X : Cx} {K : PySem.W.Frag} {es : List Expr} {k : _} {pos : Pos} {t : TGs} {n : Nat} (hc : X.calm = true) (h : PGs X es t) (hK : X.K = K := by rfl) (hn : (assignEach es X.env).length = n := by rfl) (hst : (assignEach es X.env).findIdx? (·.1) = none := by rfl) : PG X (.Tuple es k pos) (gLst K n t) := by
  subst hK
  exact pg_lst hc h hn hst
theorem nofree_by {ns : List (Str × NameKind)} {Q : Str × NameKind → Prop} (h : ns.all (fun y => !decide (y.2 = .free)) = true) : ∀ z ∈ ns, z.2 = .free → Q z := fun z hz e => by
  have := List.all_eq_true.mp h z hz
  rw [Bool.not_eq_true', decide_eq_false_iff_not] at this
  exact absurd e this
theorem nocell_by {ns : List (Str × NameKind)} (h : ns.all (fun y => !decide (y.2 = .cell)) = true) : ∀ z ∈ ns, z.2 ≠ .cell := fun z hz e => by
  have := List.all_eq_true.mp h z hz
  rw [Bool.not_eq_true', decide_eq_false_iff_not] at this
  exact absurd e this
theorem pe_tupleK {X : Cx} {K : PySem.W.Frag} {a : Expr} {ta : TE} {p pos : Pos} (hg : Gl X "tuple") (hm : X.mg "tuple" = none) (ha : PE X a ta) (hK : X.K = K := by rfl) (na : starEach [a] X.env = (false, eval a X.env) :: starEach [] X.env := by rfl) :
    PE X (.Call (.Name "tuple" p) [a] [] pos) (tThen ta (kTup K)) := by
  subst hK
  exact pe_tupleOf hg hm ha na
/-! ### a walk over a list or a tuple -/
def iSeq (K : PySem.W.Frag) (te : TE) : TI := fun σ H R => te σ H fun x H1 => ∃ a, x = .ref a ∧ (((∃ xs, SqL K H1 a xs) ∧ R (Itl K a) H1) ∨ ((∃ xs, SqT K H1 a xs) ∧ R (Itt K a) H1))
section
variable {X : Cx} {tg : Expr} {pins : List (Addr × Obj)} {σ : L2.St} {H : Hp} {s : Shared} {R : It → Hp → Prop} {a : Addr} {xs : List V}
theorem it_list (I : Inv X pins σ H s) (h : SqL X.K H a xs) (r : R (Itl X.K a) H) : wpAny (model X.prog X.w) X.A (pyIter (.ref a)) (PIE X pins σ tg R) X.xe s := by
  obtain ⟨its, _, pl, _⟩ := I.list h
  refine wpAny_pyIter_list pl.isList ⟨_, [s.heap.objs.size], _, _, H, rfl, I.kept (t' := s.toks) fun z u ez => Heap.get?_push_of_some _ ez, turn_list a _, ⟨_, Heap.get?_push_size _ rfl, rfl, rfl⟩, fun z hz => ?_, r⟩
  rw [List.mem_singleton.mp hz]
  exact I.fpOk (Nat.le_refl _) (I.hok.fresh (Nat.le_refl _))
theorem it_tup (I : Inv X pins σ H s) (h : SqT X.K H a xs) (r : R (Itt X.K a) H) : wpAny (model X.prog X.w) X.A (pyIter (.ref a)) (PIE X pins σ tg R) X.xe s := by
  obtain ⟨its, _, pl, _⟩ := I.tuple h
  refine wpAny_pyIter_tuple (show s.heap.IsTuple a its.toArray from pl) ⟨_, [s.heap.objs.size], _, _, H, rfl, I.kept (t' := s.toks) fun z u ez => Heap.get?_push_of_some _ ez, turn_tuple a _, ⟨_, Heap.get?_push_size _ rfl, rfl, rfl⟩, fun z hz => ?_, r⟩
  rw [List.mem_singleton.mp hz]
  exact I.fpOk (Nat.le_refl _) (I.hok.fresh (Nat.le_refl _))
theorem pi_seqK {K : PySem.W.Frag} {e : Expr} {te : TE} (he : PE X e te) (hK : X.K = K := by rfl) : PI X tg e (iSeq K te) := by
  subst hK
  refine ⟨fun pins s σ H R I q => thn (he.run pins s σ H _ I q) fun v s1 ⟨x, H1, I1, r1, q1⟩ => ?_⟩
  obtain ⟨b, eb, q1⟩ := q1
  subst eb
  cases r1
  rcases q1 with ⟨⟨ys, h⟩, r⟩ | ⟨⟨ys, h⟩, r⟩
  · exact it_list I1 h r
  · exact it_tup I1 h r
end
/-! ### what stays where a lambda is made: all but the tables -/
theorem rowsT {N : Addr → Prop} {K : PySem.W.Frag} {H H' : Hp} (s : ∀ a xs, N a → SqT K H a xs → SqT K H' a xs) : ∀ {vs : List V} {rs : List RowH}, DqAll N K H vs (rs.map RowH.data) → DqAll N K H' vs (rs.map RowH.data)
  | [], [], _ => .nil
  | v :: vs, r :: rs, h => by
    cases h with
    | cons h1 h2 =>
      refine .cons ?_ (rowsT s h2)
      cases h1 with
      | tup n e q =>
        refine .tup n (s _ _ n e) ?_
        cases q with
        | cons q1 q =>
          cases q with
          | cons q2 q =>
            cases q with
            | cons q3 q =>
              cases q
              cases q1
              cases q2
              refine .cons (.str _) (.cons (.int _) (.cons ?_ .nil))
              cases em : r.most with
              | none =>
                rw [em] at q3
                cases q3
                exact .non
              | some m =>
                rw [em] at q3
                cases q3
                exact .int m
theorem ext_sqT {K : PySem.W.Frag} {H H' : Hp} {a : Addr} {xs : List V} (e : LamX.ExtN H H') (h : SqT K H a xs) : SqT K H' a xs := by
  rcases h with (h | ⟨u, h⟩) | h
  · exact .inl (.inl (e _ _ h fun _ z => by cases z))
  · exact .inl (.inr ⟨u, e _ _ h fun _ z => by cases z⟩)
  · exact .inr h
theorem ext_sqL {K : PySem.W.Frag} {H H' : Hp} {a : Addr} {xs : List V} (e : LamX.ExtN H H') (h : SqL K H a xs) : SqL K H' a xs := by
  rcases h with (h | ⟨u, h⟩) | h
  · exact .inl (.inl (e _ _ h fun _ z => by cases z))
  · exact .inl (.inr ⟨u, e _ _ h fun _ z => by cases z⟩)
  · exact .inr h
/-- may be new, though tables grow -/
def NewT (H : Hp) (a : Addr) : Prop := H a = none ∨ ∃ ps, H a = some (.tbl ps)
theorem ext_new {H H' : Hp} {a : Addr} (e : LamX.ExtN H H') (n : H' a = none) : NewT H a := by
  cases q : H a with
  | none => exact .inl q
  | some o =>
    by_cases c : ∃ ps, o = .tbl ps
    · obtain ⟨ps, rfl⟩ := c
      exact .inr ⟨ps, q⟩
    · rw [e _ _ q fun ps z => c ⟨ps, z⟩] at n
      cases n
theorem row_inv {N : Addr → Prop} {K : PySem.W.Frag} {H : Hp} {v : V} {r : RowH} (h : Dq N K H v r.data) : ∃ (t : Addr) (rest : List V), v = .ref t ∧ N t ∧ SqT K H t (.str r.room :: rest) := by
  cases h with
  | tup n e q =>
    cases q with
    | cons q1 q =>
      cases q1
      exact ⟨_, _, rfl, n, e⟩
theorem zip_dq {N : Addr → Prop} {K : PySem.W.Frag} {H : Hp} : ∀ {vs : List V} {rs : List RowH}, DqAll N K H vs (rs.map RowH.data) → ∀ z ∈ vs.zip rs, Dq N K H z.1 z.2.data
  | [], _, _, _, m => absurd m (by simp)
  | v :: vs, [], h, _, m => absurd m (by simp)
  | v :: vs, r :: rs, h, z, m => by
    cases h with
    | cons h1 h2 =>
      rw [List.zip_cons_cons] at m
      rcases List.mem_cons.mp m with rfl | m
      · exact h1
      · exact zip_dq h2 z m
theorem dq_zip {N : Addr → Prop} {K : PySem.W.Frag} {H : Hp} : ∀ {L : List (V × RowH)}, (∀ z ∈ L, Dq N K H z.1 z.2.data) → DqAll N K H (L.map Prod.fst) ((L.map Prod.snd).map RowH.data)
  | [], _ => .nil
  | z :: L, h => .cons (h z List.mem_cons_self) (dq_zip fun y m => h y (List.mem_cons_of_mem _ m))
/-- rows in the order of their rooms -/
theorem rows_sorted {N : Addr → Prop} {K : PySem.W.Frag} {H : Hp} {vs : List V} {rs rs0 : List RowH} (h : DqAll N K H vs (rs.map RowH.data)) (p : rs.Perm rs0) (hs : sortedS (rs0.map RowH.room) = true) (hn : (rs0.map RowH.room).Nodup) :
    ∃ vs0, (((vs.zip rs).map fun z : V × RowH => (z.1, z.2.room)).mergeSort (strLe Prod.snd)).map Prod.fst = vs0 ∧ DqAll N K H vs0 (rs0.map RowH.data) := by
  have hl : vs.length = rs.length := by rw [h.length, List.length_map]
  have e2 : (vs.zip rs).map Prod.snd = rs := List.map_snd_zip (by omega)
  obtain ⟨L, Lp, Ls⟩ := perm_lift Prod.snd p.symm (vs.zip rs) e2
  have m := merge_names (xs := (vs.zip rs).map fun z : V × RowH => (z.1, z.2.room)) (ys := L.map fun z : V × RowH => (z.1, z.2.room)) (key := Prod.snd) (ns := rs0.map RowH.room) (by
    rw [List.map_map, ← Ls, List.map_map]
    rfl) hs hn (Lp.symm.map _)
  refine ⟨L.map Prod.fst, ?_, ?_⟩
  · rw [m, List.map_map]
    rfl
  · have := dq_zip (L := L) fun z hz => zip_dq h z (Lp.subset hz)
    rw [Ls] at this
    exact this
/-- a dict made over a walk -/
theorem dc_walk {J : It} {n : Nat} {G : Hp → Prop} {Y : Nat → Hp → V → Hp → Prop} (wk : Walk J n G Y) {g : TG} {tt : TT} {tk tv : TE} {vs : List Nat} {σ : L2.St} {H1 : Hp} {D : Addr} {Qd : Hp → Prop} (Pv : Nat → Hp → Prop) (p0 : Pv 0 (upd H1 D (.dK []))) (pG : ∀ i Z, i ≤ n → Pv i Z → G Z)
    (ps : ∀ i x Z Z', i < n → Pv i Z → Y i Z x Z' → g x (wipe σ vs) Z' fun σ2 Z2 => wipe σ2 vs = wipe σ vs ∧ tt σ2 Z2 fun b Z3 =>
      if b = true then tk σ2 Z3 fun y Z4 => tv σ2 Z4 fun z Z5 => ∃ kvs k, y = kV k ∧ Z5 D = some (.dK kvs) ∧ kvs.length < sizeLine ∧ Pv (i + 1) (upd Z5 D (.dK (putK kvs k z))) else Pv (i + 1) Z3) (pd : ∀ Z, Pv n Z → Qd Z) :
    ∃ W : Nat → Nat → Hp → Prop, (∃ m, W 0 m (upd H1 D (.dK []))) ∧ ∀ i m Z, W i m Z →
      (J.stop i Z ∧ Qd Z) ∨ (J.go i Z ∧ ∃ Nx : Hp → Prop, (∀ Z', Nx Z' → ∃ m', m' < m ∧ W (i + 1) m' Z') ∧ ∀ x Z', J.yld i Z x Z' → g x (wipe σ vs) Z' fun σ2 Z2 => wipe σ2 vs = wipe σ vs ∧ tt σ2 Z2 fun b Z3 =>
        if b = true then tk σ2 Z3 fun y Z4 => tv σ2 Z4 fun z Z5 => ∃ kvs k, y = kV k ∧ Z5 D = some (.dK kvs) ∧ kvs.length < sizeLine ∧ Nx (upd Z5 D (.dK (putK kvs k z))) else Nx Z3) := by
  refine ⟨fun i m Z => m = n - i ∧ i ≤ n ∧ Pv i Z, ⟨n, by simp, Nat.zero_le _, p0⟩, ?_⟩
  rintro i m Z ⟨rfl, hi, p⟩
  have gg := pG i Z hi p
  rcases Nat.lt_or_ge i n with lt | ge
  · exact .inr ⟨wk.goes i Z lt gg, Pv (i + 1), fun Z' p' => ⟨n - (i + 1), by omega, rfl, lt, p'⟩, fun x Z' y => ps i x Z Z' lt p (wk.yields i Z x Z' lt gg y)⟩
  · have e : i = n := by omega
    subst e
    exact .inl ⟨wk.stops Z gg, pd Z p⟩
/-! ### data without dicts lives as long as its lists and tuples do -/
section
variable {N N' : Addr → Prop} {K : PySem.W.Frag} {H H' : Hp}
mutual
theorem Dq.sq (n : ∀ a, N a → N' a) (sL : ∀ a xs, SqL K H a xs → SqL K H' a xs) (sT : ∀ a xs, SqT K H a xs → SqT K H' a xs) : ∀ (d : PyData) (v : V), d.hasDict = false → Dq N K H v d → Dq N' K H' v d
  | .none, _, _, h => by cases h; exact .non
  | .bool b, _, _, h => by cases h; exact .bl b
  | .int i, _, _, h => by cases h; exact .int i
  | .str x, _, _, h => by cases h; exact .str x
  | .list ds, _, f, h => by
    cases h with
    | lst z hq ha => exact .lst (n _ z) (sL _ _ hq) (DqAll.sq n sL sT ds _ (by simpa [PyData.hasDict] using f) ha)
  | .tuple ds, _, f, h => by
    cases h with
    | tup z hq ha => exact .tup (n _ z) (sT _ _ hq) (DqAll.sq n sL sT ds _ (by simpa [PyData.hasDict] using f) ha)
  | .dict ds, _, f, _ => by simp [PyData.hasDict] at f
theorem DqAll.sq (n : ∀ a, N a → N' a) (sL : ∀ a xs, SqL K H a xs → SqL K H' a xs) (sT : ∀ a xs, SqT K H a xs → SqT K H' a xs) : ∀ (ds : List PyData) (vs : List V), PyData.hasDictAll ds = false → DqAll N K H vs ds → DqAll N' K H' vs ds
  | [], _, _, h => by cases h; exact .nil
  | d :: ds, _, f, h => by
    have f' : d.hasDict = false ∧ PyData.hasDictAll ds = false := by simpa [PyData.hasDictAll] using f
    cases h with
    | cons h1 h2 => exact .cons (Dq.sq n sL sT d _ f'.1 h1) (DqAll.sq n sL sT ds _ f'.2 h2)
end
theorem DqKv.sq (n : ∀ a, N a → N' a) (sL : ∀ a xs, SqL K H a xs → SqL K H' a xs) (sT : ∀ a xs, SqT K H a xs → SqT K H' a xs) : ∀ (ds : List DoorH) (kvs : List (Key × V)), DqKv N K H kvs (doorsKv ds) → DqKv N' K H' kvs (doorsKv ds)
  | [], _, h => by cases h; exact .nil
  | d :: ds, kvs, h => by
    have e : doorsKv (d :: ds) = (.str d.name, d.data) :: doorsKv ds := rfl
    rw [e] at h ⊢
    generalize hx : PyData.str d.name = x at h ⊢
    cases h with
    | cons h1 h2 => exact .cons (Dq.sq n sL sT _ _ (door_noDict d) h1) (DqKv.sq n sL sT ds _ h2)
theorem stones_noDict : ∀ ss : List (Str × Int), PyData.hasDictAll (ss.map stoneD) = false
  | [] => rfl
  | x :: r => by
    rw [List.map_cons]
    simp only [PyData.hasDictAll, stones_noDict r, Bool.or_false]
    rfl
end
/-- all but the tables and what stands at m -/
def ExtM (m : Addr) (H H' : Hp) : Prop := ∀ b o, b ≠ m → H b = some o → (∀ ps, o ≠ .tbl ps) → H' b = some o
theorem ExtM.sqT {m C dx : Addr} {fs : List (Str × V)} {K : PySem.W.Frag} {H H' : Hp} (hm : H m = some (.ins C dx fs)) (e : ExtM m H H') (a : Addr) (xs : List V) (h : SqT K H a xs) : SqT K H' a xs := by
  rcases h with (h | ⟨u, h⟩) | h
  · exact .inl (.inl (e _ _ (fun z => by rw [z, hm] at h; cases h) h fun _ z => by cases z))
  · exact .inl (.inr ⟨u, e _ _ (fun z => by rw [z, hm] at h; cases h) h fun _ z => by cases z⟩)
  · exact .inr h
theorem ExtM.sqL {m C dx : Addr} {fs : List (Str × V)} {K : PySem.W.Frag} {H H' : Hp} (hm : H m = some (.ins C dx fs)) (e : ExtM m H H') (a : Addr) (xs : List V) (h : SqL K H a xs) : SqL K H' a xs := by
  rcases h with (h | ⟨u, h⟩) | h
  · exact .inl (.inl (e _ _ (fun z => by rw [z, hm] at h; cases h) h fun _ z => by cases z))
  · exact .inl (.inr ⟨u, e _ _ (fun z => by rw [z, hm] at h; cases h) h fun _ z => by cases z⟩)
  · exact .inr h
theorem ExtM.trans {m : Addr} {H H1 H2 : Hp} (a : ExtM m H H1) (b : ExtM m H1 H2) : ExtM m H H2 := fun z o nz e t => b z o nz (a z o nz e t) t
theorem ExtM.ext {m : Addr} {H H1 : Hp} (a : LamX.ExtN H H1) : ExtM m H H1 := fun z o _ e t => a z o e t
theorem ExtM.at {m : Addr} {H H1 : Hp} {o : HO} (a : ExtM m H H1) : ExtM m H (upd H1 m o) := fun z u nz e t => by
  rw [upd_ne nz]
  exact a z u nz e t
/-- doors with their names, sorted -/
theorem pairs_sorted {F : V → DoorH → Prop} {vs : List V} {ds ds0 : List DoorH} (h : Paired F vs ds) (p : ds.Perm ds0) (hs : sortedS (ds0.map DoorH.name) = true) (hn : (ds0.map DoorH.name).Nodup) :
    ∃ vs0, (((vs.zip ds).map fun z : V × DoorH => (z.1, z.2.name)).mergeSort (strLe Prod.snd)).map Prod.fst = vs0 ∧ Paired F vs0 ds0 := by
  have hl : vs.length = ds.length := Paired.length h
  have zp : ∀ {vs : List V} {ds : List DoorH}, Paired F vs ds → ∀ z ∈ vs.zip ds, F z.1 z.2 := fun {vs ds} h => by
    induction h with
    | nil => exact fun z m => absurd m (by simp)
    | cons a _ ih =>
      intro z m
      rw [List.zip_cons_cons] at m
      rcases List.mem_cons.mp m with rfl | m
      · exact a
      · exact ih z m
  have e2 : (vs.zip ds).map Prod.snd = ds := List.map_snd_zip (by omega)
  obtain ⟨L, Lp, Ls⟩ := perm_lift Prod.snd p.symm (vs.zip ds) e2
  have m := merge_names (xs := (vs.zip ds).map fun z : V × DoorH => (z.1, z.2.name)) (ys := L.map fun z : V × DoorH => (z.1, z.2.name)) (key := Prod.snd) (ns := ds0.map DoorH.name) (by
    rw [List.map_map, ← Ls, List.map_map]
    rfl) hs hn (Lp.symm.map _)
  refine ⟨L.map Prod.fst, by rw [m, List.map_map]; rfl, ?_⟩
  have zq : ∀ {L : List (V × DoorH)}, (∀ z ∈ L, F z.1 z.2) → Paired F (L.map Prod.fst) (L.map Prod.snd) := fun {L} => by
    induction L with
    | nil => exact fun _ => .nil
    | cons z L ih => exact fun g => .cons (g z List.mem_cons_self) (ih fun y m => g y (List.mem_cons_of_mem _ m))
  have := zq (L := L) fun z hz => zp h z (Lp.subset hz)
  rw [Ls] at this
  exact this
theorem tabs_at {TT : List (Addr × Str)} {H : Hp} {m C dx : Addr} {fs : List (Str × V)} {o : HO} (t : LamX.Tabs TT H) (hm : H m = some (.ins C dx fs)) : LamX.Tabs TT (upd H m o) := fun p hp => by
  obtain ⟨ps, h1, h2, h3⟩ := t p hp
  refine ⟨ps, by rw [upd_ne (fun z => by rw [z, hm] at h1; cases h1)]; exact h1, h2, fun pos cv hc => ?_⟩
  obtain ⟨c, e1, e2⟩ := h3 pos cv hc
  refine ⟨c, e1, ?_⟩
  rw [upd_ne (fun z => by
    rw [z, hm] at e2
    unfold LamX.CodeO at e2
    cases e2)]
  exact e2
theorem tabs_dk {TT : List (Addr × Str)} {H : Hp} {m : Addr} {kvs : List (Key × V)} {o : HO} (t : LamX.Tabs TT H) (hm : H m = some (.dK kvs)) : LamX.Tabs TT (upd H m o) := fun p hp => by
  obtain ⟨ps, h1, h2, h3⟩ := t p hp
  refine ⟨ps, by rw [upd_ne (fun z => by rw [z, hm] at h1; cases h1)]; exact h1, h2, fun pos cv hc => ?_⟩
  obtain ⟨c, e1, e2⟩ := h3 pos cv hc
  refine ⟨c, e1, ?_⟩
  rw [upd_ne (fun z => by
    rw [z, hm] at e2
    unfold LamX.CodeO at e2
    cases e2)]
  exact e2
theorem extM_new {m C dx a : Addr} {fs : List (Str × V)} {H Z : Hp} (e : ExtM m H Z) (hz : Z m = some (.ins C dx fs)) (n : NewT Z a) : NewT H a := by
  cases q : H a with
  | none => exact .inl q
  | some o =>
    by_cases c : ∃ ps, o = .tbl ps
    · obtain ⟨ps, rfl⟩ := c
      exact .inr ⟨ps, q⟩
    · have na : a ≠ m := fun z => by
        rcases n with n | ⟨ps, n⟩
        · rw [z, hz] at n; cases n
        · rw [z, hz] at n; cases n
      have q2 := e _ _ na q fun ps z => c ⟨ps, z⟩
      rcases n with n | ⟨ps, n⟩
      · rw [q2] at n; cases n
      · rw [q2] at n; exact absurd ⟨ps, Option.some.inj n⟩ c
theorem sorted_sub {l k : List Str} (h : sortedS l = true) (s : k.Sublist l) : sortedS k = true :=
  sortedS_of_pairwise _ (((sorted_pair h).sublist s).imp fun {a b} x => ltCps_le.mpr x)
end Wd

set_option Elab.async false
set_option linter.all false
set_option maxRecDepth 100000
set_option maxHeartbeats 4000000
/-! The doors that lead from a room. -/
namespace Wd
open PySem PySem.Spec PyProof.Rows L2
def leadsOf1 (d : DoorH) (r : Str) : List (Str × Str) := (if r = d.one then [(d.name, d.other)] else []) ++ (if d.way = "both" ∧ r = d.other then [(d.name, d.one)] else [])
def leadsH (ds : List DoorH) (r : Str) : List (Str × Str) := ds.flatMap fun d => leadsOf1 d r
def leadD (z : Str × Str) : PyData := .tuple [.str z.1, .str z.2]
def leadsKv (rooms : List Str) (la : List Addr) : List (Key × V) := (rooms.zip la).map fun z => (.inr z.1, .ref z.2)
def LeadsAt (N : Addr → Prop) (K : PySem.W.Frag) (H : Hp) (l : Addr) (rooms : List Str) (ds : List DoorH) : Prop := ∃ la : List Addr, la.length = rooms.length ∧ H l = some (.dK (leadsKv rooms la)) ∧
  ∀ z ∈ rooms.zip la, ∃ vs, N z.2 ∧ H z.2 = some (.lst vs) ∧ DqAll anyA K H vs ((leadsH ds z.1).map leadD)
theorem leads_dq {N N' : Addr → Prop} {K : PySem.W.Frag} {H H' : Hp} (n : ∀ a, N a → N' a) (s : ∀ a xs, N a → SqT K H a xs → SqT K H' a xs) : ∀ {vs : List V} {rs : List (Str × Str)}, DqAll N K H vs (rs.map leadD) → DqAll N' K H' vs (rs.map leadD)
  | [], [], _ => .nil
  | v :: vs, r :: rs, h => by
    cases h with
    | cons h1 h2 =>
      refine .cons ?_ (leads_dq n s h2)
      cases h1 with
      | tup m e q =>
        refine .tup (n _ m) (s _ _ m e) ?_
        cases q with
        | cons q1 q =>
          cases q with
          | cons q2 q =>
            cases q
            cases q1
            cases q2
            exact .cons (.str _) (.cons (.str _) .nil)
theorem dqAll_snoc {N : Addr → Prop} {K : PySem.W.Frag} {H : Hp} {v : V} {d : PyData} (x : Dq N K H v d) : ∀ {vs : List V} {ds : List PyData}, DqAll N K H vs ds → DqAll N K H (vs ++ [v]) (ds ++ [d])
  | _, _, .nil => .cons x .nil
  | _, _, .cons a r => .cons a (dqAll_snoc x r)
/-- while they grow -/
structure RL (K : PySem.W.Frag) (H : Hp) (d l : Addr) (o : HO) (rooms : List Str) (la : List Addr) (f : Str → List (Str × Str)) (Z : Hp) : Prop where
  atL : Z l = some (.dK (leadsKv rooms la))
  atD : Z d = some o
  up : ∀ b u, b ≠ d → H b = some u → Z b = some u
  each : ∀ z ∈ rooms.zip la, ∃ vs, H z.2 = none ∧ Z z.2 = some (.lst vs) ∧ DqAll anyA K Z vs ((f z.1).map leadD)
theorem RL.new {K : PySem.W.Frag} {H Z : Hp} {d l a : Addr} {o : HO} {rooms : List Str} {la : List Addr} {f : Str → List (Str × Str)} (r : RL K H d l o rooms la f Z) (n : Z a = none) (u : HO) : RL K H d l o rooms la f (upd Z a u) := by
  have s := same_new n (o := u)
  refine ⟨s _ _ r.atL, s _ _ r.atD, fun b z nb e => s _ _ (r.up b z nb e), fun z hz => ?_⟩
  obtain ⟨vs, h0, h1, h2⟩ := r.each z hz
  exact ⟨vs, h0, s _ _ h1, leads_dq (fun _ z => z) (fun a xs _ h => sqT_at (fun o => s _ o) h) h2⟩
theorem zip_fst_inj {rooms : List Str} {la : List Addr} (hn : rooms.Nodup) {z y : Str × Addr} (hz : z ∈ rooms.zip la) (hy : y ∈ rooms.zip la) (e : z.1 = y.1) : z = y := by
  obtain ⟨i, hi, rfl⟩ := List.getElem_of_mem hz
  obtain ⟨j, hj, rfl⟩ := List.getElem_of_mem hy
  rw [List.length_zip] at hi hj
  rw [List.getElem_zip, List.getElem_zip] at e ⊢
  have e' : rooms[i]'(by omega) = rooms[j]'(by omega) := e
  have ij : i = j := (List.getElem_inj hn).mp e'
  subst ij
  rfl
theorem zip_snd_inj {rooms : List Str} {la : List Addr} (hn : la.Nodup) {z y : Str × Addr} (hz : z ∈ rooms.zip la) (hy : y ∈ rooms.zip la) (e : z.2 = y.2) : z = y := by
  obtain ⟨i, hi, rfl⟩ := List.getElem_of_mem hz
  obtain ⟨j, hj, rfl⟩ := List.getElem_of_mem hy
  rw [List.length_zip] at hi hj
  rw [List.getElem_zip, List.getElem_zip] at e ⊢
  have e' : la[i]'(by omega) = la[j]'(by omega) := e
  have ij : i = j := (List.getElem_inj hn).mp e'
  subst ij
  rfl
theorem zip_at {rooms : List Str} {la : List Addr} (hl : la.length = rooms.length) {r : Str} (h : r ∈ rooms) : ∃ a, (r, a) ∈ rooms.zip la := by
  obtain ⟨i, hi, rfl⟩ := List.getElem_of_mem h
  have hi2 : i < la.length := by omega
  refine ⟨la[i], ?_⟩
  have : (rooms.zip la)[i]'(by rw [List.length_zip]; omega) = (rooms[i], la[i]) := by rw [List.getElem_zip]
  rw [← this]
  exact List.getElem_mem _
theorem valV_mem {k : Key} {v : V} : ∀ {kvs : List (Key × V)}, (kvs.map (·.1)).Nodup → (k, v) ∈ kvs → valV kvs k = some v
  | [], _, h => absurd h (by simp)
  | x :: r, n, h => by
    have n' : x.1 ∉ r.map (·.1) ∧ (r.map (·.1)).Nodup := by
      rw [List.map_cons] at n
      exact List.nodup_cons.mp n
    rcases List.mem_cons.mp h with rfl | h
    · exact valV_pos rfl
    · rw [valV_neg (fun q => n'.1 (by rw [q]; exact List.mem_map.mpr ⟨_, h, rfl⟩))]
      exact valV_mem n'.2 h
theorem leadsKv_keys {rooms : List Str} {la : List Addr} (hl : la.length = rooms.length) : (leadsKv rooms la).map (·.1) = rooms.map Sum.inr := by
  unfold leadsKv
  rw [List.map_map, show ((fun x : Key × V => x.1) ∘ fun z : Str × Addr => ((Sum.inr z.1 : Key), V.ref z.2)) = (Sum.inr : Str → Key) ∘ (Prod.fst : Str × Addr → Str) from rfl, ← List.map_map, List.map_fst_zip (by omega)]
theorem inr_nodup {rooms : List Str} (h : rooms.Nodup) : (rooms.map (Sum.inr : Str → Key)).Nodup := by
  unfold List.Nodup
  rw [List.pairwise_map]
  exact List.Pairwise.imp (fun {a b} n e => n (Sum.inr.inj e)) h
theorem leadsKv_at {rooms : List Str} {la : List Addr} (hl : la.length = rooms.length) (hn : rooms.Nodup) {r : Str} {a : Addr} (h : (r, a) ∈ rooms.zip la) : valV (leadsKv rooms la) (.inr r) = some (.ref a) :=
  valV_mem (by rw [leadsKv_keys hl]; exact inr_nodup hn) (List.mem_map.mpr ⟨_, h, rfl⟩)
/-- one more -/
theorem RL.app {K : PySem.W.Frag} {H Z : Hp} {d l a t : Addr} {o : HO} {rooms : List Str} {la : List Addr} {f : Str → List (Str × Str)} {r0 nm bh : Str} {vs : List V} (r : RL K H d l o rooms la f Z) (hn : rooms.Nodup) (ln : la.Nodup) (ho : NoLs o) (hz : (r0, a) ∈ rooms.zip la) (hv : Z a = some (.lst vs))
    (hd : DqAll anyA K Z vs ((f r0).map leadD)) (ht : Z t = some (.tup [.str nm, .str bh])) : RL K H d l o rooms la (fun q => if q = r0 then f q ++ [(nm, bh)] else f q) (upd Z a (.lst (vs ++ [.ref t]))) := by
  have sq : ∀ b xs, anyA b → SqT K Z b xs → SqT K (upd Z a (.lst (vs ++ [.ref t]))) b xs := fun b xs _ h => by
    rcases h with (h | ⟨u, h⟩) | h
    · exact .inl (.inl (by rw [upd_ne (fun e => by rw [e, hv] at h; cases h)]; exact h))
    · exact .inl (.inr ⟨u, by rw [upd_ne (fun e => by rw [e, hv] at h; cases h)]; exact h⟩)
    · exact .inr h
  obtain ⟨_, ha0, _, _⟩ := r.each _ hz
  refine ⟨by rw [upd_ne (fun e => by have := r.atL; rw [e, hv] at this; cases this)]; exact r.atL, by rw [upd_ne (fun e => by have := r.atD; rw [e, hv] at this; exact ho _ (Option.some.inj this).symm)]; exact r.atD, fun b u nb e => ?_, fun z zm => ?_⟩
  · have : b ≠ a := fun q => by
      have ha0' : H a = none := ha0
      rw [q, ha0'] at e
      cases e
    rw [upd_ne this]
    exact r.up b u nb e
  · by_cases e : z.2 = a
    · have ez : z = (r0, a) := zip_snd_inj ln zm hz e
      subst ez
      refine ⟨vs ++ [.ref t], ha0, upd_same, ?_⟩
      rw [if_pos rfl, List.map_append]
      refine dqAll_snoc ?_ (leads_dq (fun _ z => z) sq hd)
      exact .tup trivial (sq _ _ trivial (.inl (.inl ht))) (.cons (.str _) (.cons (.str _) .nil))
    · have e1 : z.1 ≠ r0 := fun q => e (by rw [zip_fst_inj hn zm hz q])
      obtain ⟨ws, h0, h1, h2⟩ := r.each z zm
      refine ⟨ws, h0, by rw [upd_ne e]; exact h1, ?_⟩
      rw [if_neg e1]
      exact leads_dq (fun _ z => z) sq h2
theorem RL.ext {K : PySem.W.Frag} {H Z : Hp} {d l : Addr} {o : HO} {rooms : List Str} {la : List Addr} {f g : Str → List (Str × Str)} (r : RL K H d l o rooms la f Z) (e : ∀ q, f q = g q) : RL K H d l o rooms la g Z := by
  have : f = g := funext e
  subst this
  exact r
theorem leadsH_snoc (ds : List DoorH) (d : DoorH) (r : Str) : leadsH (ds ++ [d]) r = leadsH ds r ++ leadsOf1 d r := by
  unfold leadsH
  rw [List.flatMap_append, List.flatMap_singleton]
theorem leadsOf1_len (d : DoorH) (r : Str) : (leadsOf1 d r).length ≤ 2 := by
  unfold leadsOf1
  rw [List.length_append]
  split <;> split <;> simp
theorem leadsH_len (ds : List DoorH) (r : Str) : (leadsH ds r).length ≤ 2 * ds.length := by
  induction ds with
  | nil => exact Nat.le_refl _
  | cons d ds ih =>
    have : leadsH (d :: ds) r = leadsOf1 d r ++ leadsH ds r := by
      unfold leadsH
      rw [List.flatMap_cons]
    rw [this, List.length_append, List.length_cons]
    have := leadsOf1_len d r
    omega
end Wd
namespace Wd
open PySem PySem.Spec PyProof.Rows L2
theorem doorsKv_get {N : Addr → Prop} {K : PySem.W.Frag} {H : Hp} : ∀ {ds : List DoorH} {kvs : List (Key × V)}, DqKv N K H kvs (doorsKv ds) → ∀ {i : Nat} (hi : i < ds.length), ∃ v, kvs[i]? = some (.inr ds[i].name, v) ∧ Dq N K H v ds[i].data
  | [], _, _, i, hi => absurd hi (by simp)
  | d :: ds, kvs, h, i, hi => by
    have e : doorsKv (d :: ds) = (.str d.name, d.data) :: doorsKv ds := rfl
    rw [e] at h
    generalize hx : PyData.str d.name = x at h
    generalize hy : d.data = y at h
    cases h with
    | @cons k v kvs' d' ds' h1 h2 =>
      cases i with
      | zero =>
        have ek : k = .inr d.name := by
          cases k with
          | inl i => cases hx
          | inr z => cases hx; rfl
        subst ek
        exact ⟨v, rfl, by rw [List.getElem_cons_zero, hy]; exact h1⟩
      | succ i =>
        obtain ⟨v', g1, g2⟩ := doorsKv_get h2 (i := i) (by simpa using hi)
        exact ⟨v', g1, g2⟩
end Wd
namespace Wd
open PySem PySem.Spec PyProof.Rows L2
def Sq (K : PySem.W.Frag) (H : Hp) (a : Addr) (xs : List V) : Prop := SqL K H a xs ∨ SqT K H a xs
def heftL (x : HallH) : List (Str × Int) := x.stones ++ x.walkers.map fun z => (z.name, z.heft)
def handL (x : HallH) : List (Str × Int) := x.walkers.map fun z => (z.name, z.hands)
theorem ints_at {hl l : List (Str × Int)} {nm : Str} {i : Int} (p : hl.Perm l) (nd : (l.map Prod.fst).Nodup) (h : (nm, i) ∈ l) : valV (stonesKv hl) (.inr nm) = some (.int i) := by
  refine valV_mem ?_ (List.mem_map.mpr ⟨(nm, i), p.mem_iff.mpr h, rfl⟩)
  rw [stonesKv_keys]
  exact inr_nodup ((p.map Prod.fst).nodup_iff.mpr nd)
theorem heftL_nodup {x : HallH} (h : x.names.Nodup) : ((heftL x).map Prod.fst).Nodup := by
  unfold heftL
  rw [List.map_append, List.map_map]
  unfold HallH.names at h
  have h2 := (List.nodup_append.mp h).2.1
  obtain ⟨h3, h4, h5⟩ := List.nodup_append.mp h2
  obtain ⟨h6, _, _⟩ := List.nodup_append.mp h4
  refine List.nodup_append.mpr ⟨h6, h3, fun a ha b hb e => h5 b hb a (List.mem_append_left _ ha) e.symm⟩
theorem handL_nodup {x : HallH} (h : x.names.Nodup) : ((handL x).map Prod.fst).Nodup := by
  unfold handL
  rw [List.map_map]
  unfold HallH.names at h
  exact (List.nodup_append.mp (List.nodup_append.mp h).2.1).1
theorem stone_inv {N : Addr → Prop} {K : PySem.W.Frag} {H : Hp} {v : V} {x : Str × Int} (h : Dq N K H v (stoneD x)) : ∃ a, v = .ref a ∧ N a ∧ SqT K H a [.str x.1, .int x.2] := by
  cases h with
  | tup n e d =>
    cases d with
    | cons h1 d =>
      cases d with
      | cons h2 d =>
        cases d
        cases h1
        cases h2
        exact ⟨_, rfl, n, e⟩
/-- a walk over a list or a tuple, either way -/
theorem seq_it {K : PySem.W.Frag} {H : Hp} {a : Addr} {xs : List V} {R : It → Hp → Prop} (h : Sq K H a xs) (q : ∀ (J : It) (G : Hp → Prop), Walk J xs.length G (YAt xs) → (∀ Z, (∀ ys, SqL K H a ys → SqL K Z a ys) → (∀ ys, SqT K H a ys → SqT K Z a ys) → G Z) → R J H) :
    ((∃ xs, SqL K H a xs) ∧ R (Itl K a) H) ∨ ((∃ xs, SqT K H a xs) ∧ R (Itt K a) H) := by
  rcases h with h | h
  · exact .inl ⟨⟨_, h⟩, q _ _ walk_list fun Z s _ => s _ h⟩
  · exact .inr ⟨⟨_, h⟩, q _ _ walk_tup fun Z _ s => s _ h⟩
/-- rooms, doors, leads of a hall in the making -/
structure Core (N : Addr → Prop) (K : PySem.W.Frag) (x : HallH) (p1 DD ld : Addr) (Z : Hp) : Prop where
  r : Z p1 = some (.lst (x.rooms.map V.str))
  d : ∃ dkv, Z DD = some (.dK dkv) ∧ DqKv anyA K Z dkv (doorsKv x.doors)
  l : LeadsAt N K Z ld x.rooms x.doors
theorem Core.up {N : Addr → Prop} {K : PySem.W.Frag} {x : HallH} {p1 DD ld m C dx : Addr} {fs : List (Str × V)} {Z Z' : Hp} (c : Core N K x p1 DD ld Z) (hm : Z m = some (.ins C dx fs)) (e : ExtM m Z Z') : Core N K x p1 DD ld Z' := by
  obtain ⟨r, ⟨dkv, d1, d2⟩, la, l1, l2, l3⟩ := c
  refine ⟨e _ _ (fun z => by rw [z, hm] at r; cases r) r (fun _ z => by cases z), ⟨dkv, e _ _ (fun z => by rw [z, hm] at d1; cases d1) d1 (fun _ z => by cases z), DqKv.sq (fun _ z => z) (ExtM.sqL hm e) (ExtM.sqT hm e) _ _ d2⟩,
    la, l1, e _ _ (fun z => by rw [z, hm] at l2; cases l2) l2 (fun _ z => by cases z), fun z hz => ?_⟩
  obtain ⟨vs, g1, g2, g3⟩ := l3 z hz
  exact ⟨vs, g1, e _ _ (fun w => by rw [w, hm] at g2; cases g2) g2 (fun _ z => by cases z), leads_dq (fun _ z => z) (fun a xs _ h => ExtM.sqT hm e a xs h) g3⟩
theorem ExtM.refl {m : Addr} {H : Hp} : ExtM m H H := fun _ _ _ e _ => e
theorem ExtM.same {m : Addr} {H H1 : Hp} (a : Same H H1) : ExtM m H H1 := fun z o _ e _ => a z o e
end Wd
namespace Wd
open PySem PySem.Spec PyProof.Rows L2
def iSeqW (K : PySem.W.Frag) (te : TE) : TI := fun σ H R => te σ H fun x H1 => ∃ a xs, x = .ref a ∧ Sq K H1 a xs ∧ ∀ (J : It) (G : Hp → Prop), Walk J xs.length G (YAt xs) → (∀ Z, (∀ ys, SqL K H1 a ys → SqL K Z a ys) → (∀ ys, SqT K H1 a ys → SqT K Z a ys) → G Z) → R J H1
theorem pi_seqW {X : Cx} {tg : Expr} {K : PySem.W.Frag} {e : Expr} {te : TE} (he : PE X e te) (hK : X.K = K := by rfl) : PI X tg e (iSeqW K te) := by
  subst hK
  refine ⟨fun pins s σ H R I q => thn (he.run pins s σ H _ I q) fun v s1 ⟨x, H1, I1, r1, q1⟩ => ?_⟩
  obtain ⟨b, xs, eb, hs, q1⟩ := q1
  subst eb
  cases r1
  rcases hs with h | h
  · exact it_list I1 h (q1 _ _ walk_list fun Z s _ => s _ h)
  · exact it_tup I1 h (q1 _ _ walk_tup fun Z _ s => s _ h)
end Wd

set_option Elab.async false
set_option linter.all false
set_option maxRecDepth 100000
set_option maxHeartbeats 4000000
/-! Data that shows short, put together. -/
namespace Wd
open PySem PySem.Spec PyProof.Rows L2
structure Neat (w dp : Nat) (d : PyData) : Prop where
  short : d.leavesShort 13 = true
  show_ : d.showable = true
  wt : d.weight ≤ w
  dp : d.depth ≤ dp
theorem Neat.mono {w w' dp dp' : Nat} {d : PyData} (n : Neat w dp d) (h : w ≤ w') (h2 : dp ≤ dp') : Neat w' dp' d := ⟨n.short, n.show_, Nat.le_trans n.wt h, Nat.le_trans n.dp h2⟩
theorem Neat.repr {w dp : Nat} {d : PyData} (n : Neat w dp d) (hw : w ≤ 2 ^ 20) (hd : dp ≤ 60) : d.showable = true ∧ d.shown.length ≤ sizeLine ∧ d.depth ≤ 60 :=
  ⟨n.show_, PyData.shown_fits (B := 13) (by decide) (by decide) n.short (Nat.le_trans n.wt hw), Nat.le_trans n.dp hd⟩
theorem neat_all {w dp : Nat} : ∀ {ds : List PyData}, (∀ d ∈ ds, Neat w dp d) → PyData.leavesShortAll 13 ds = true ∧ PyData.showableAll ds = true ∧ PyData.weightAll ds ≤ (w + 1) * ds.length ∧ PyData.depthAll ds ≤ dp
  | [], _ => ⟨rfl, rfl, by simp [PyData.weightAll], by simp [PyData.depthAll]⟩
  | d :: ds, h => by
    have n := h d (List.mem_cons_self ..)
    obtain ⟨a, b, c, e⟩ := neat_all fun x hx => h x (List.mem_cons_of_mem _ hx)
    refine ⟨?_, ?_, ?_, ?_⟩
    · simp [PyData.leavesShortAll, n.short, a]
    · simp [PyData.showableAll, n.show_, b]
    · simp only [PyData.weightAll, List.length_cons]
      have := n.wt
      rw [Nat.mul_succ]
      omega
    · simp only [PyData.depthAll]
      have := n.dp
      omega
theorem neat_lst {w dp m : Nat} {ds : List PyData} (h : ∀ d ∈ ds, Neat w dp d) (hm : ds.length ≤ m) : Neat ((w + 1) * m) (dp + 1) (.list ds) := by
  obtain ⟨a, b, c, e⟩ := neat_all h
  refine ⟨by rw [PyData.leavesShort]; exact a, by rw [PyData.showable]; exact b, ?_, by rw [PyData.depth]; omega⟩
  rw [PyData.weight]
  exact Nat.le_trans c (Nat.mul_le_mul_left _ hm)
theorem neat_tup {w dp m : Nat} {ds : List PyData} (h : ∀ d ∈ ds, Neat w dp d) (hm : ds.length ≤ m) : Neat ((w + 1) * m) (dp + 1) (.tuple ds) := by
  obtain ⟨a, b, c, e⟩ := neat_all h
  refine ⟨by rw [PyData.leavesShort]; exact a, by rw [PyData.showable]; exact b, ?_, by rw [PyData.depth]; omega⟩
  rw [PyData.weight]
  exact Nat.le_trans c (Nat.mul_le_mul_left _ hm)
theorem neat_none : Neat 0 0 .none := ⟨rfl, rfl, Nat.le_refl _, Nat.le_refl _⟩
theorem neat_int {i : Int} (h : i.natAbs < 10 ^ 10) : Neat 51 0 (.int i) := by
  have l2 : i.natAbs.log2 ≤ 50 := by
    by_cases z : i.natAbs = 0
    · rw [z]; decide
    · exact Nat.le_of_lt ((Nat.log2_lt z).mpr (show i.natAbs < 2 ^ 50 by omega))
  refine ⟨?_, ?_, ?_, by simp [PyData.depth]⟩
  · show decide _ = true
    exact decide_eq_true (PyData.shown_int_le (by omega))
  · show decide _ = true
    exact decide_eq_true (by omega)
  · show (if i == 0 then 0 else i.natAbs.log2 + 1) ≤ 51
    split <;> omega
theorem neat_heft {i : Int} (h : 0 ≤ i) (h2 : i ≤ 9999999) : Neat 51 0 (.int i) := neat_int (by omega)
theorem neat_str {x : Str} {n : Nat} (h : ∀ c ∈ x.cps.toList, c < 16 ^ 8) (hl : x.length ≤ n) : Neat n 0 (.str x) := by
  refine ⟨?_, rfl, ?_, by simp [PyData.depth]⟩
  · rw [PyData.leavesShort, List.all_eq_true]
    exact fun c hc => decide_eq_true (h c hc)
  · rw [PyData.weight]
    exact hl
theorem neat_name {x : Str} (h : NameOk x) : Neat 8 0 (.str x) := neat_str (fun c hc => by have := (h.2.2 c hc).2; omega) (name_len h).2
theorem neat_row {r : RowH} (h : r.ok) (hn : NameOk r.room) : Neat 156 1 r.data := by
  obtain ⟨h1, h2, h3⟩ := h
  unfold RowH.data
  refine neat_tup (w := 51) (dp := 0) (m := 3) (fun d hd => ?_) (by simp)
  rcases List.mem_cons.mp hd with rfl | hd
  · exact (neat_name hn).mono (by decide) (Nat.le_refl _)
  rcases List.mem_cons.mp hd with rfl | hd
  · exact neat_heft h1 h2
  rw [List.mem_singleton.mp hd]
  cases e : r.most with
  | none => exact neat_none.mono (by decide) (Nat.le_refl _)
  | some m =>
    obtain ⟨a, b⟩ := h3 m e
    exact neat_heft (by omega) b
theorem neat_way {rooms : List Str} {d : DoorH} (h : DoorOk rooms d) : Neat 8 0 (.str d.way) := by
  rcases h.way with ⟨e, _⟩ | e
  · rw [e]; exact neat_name (by decide +kernel)
  · rw [e]; exact neat_name (by decide +kernel)
theorem neat_rows {rooms : List Str} {rs : List RowH} (h : RowsOk rooms rs) (hn : ∀ x ∈ rooms, NameOk x) : Neat 628 2 (rowsData rs) :=
  neat_tup (w := 156) (m := 4) (fun d hd => by
    obtain ⟨r, hr, rfl⟩ := List.mem_map.mp hd
    exact neat_row (h.each r hr) (hn _ (h.sub.subset (List.mem_map.mpr ⟨r, hr, rfl⟩)))) (by rw [List.length_map]; exact h.few)
theorem neat_door {rooms : List Str} {d : DoorH} (h : DoorOk rooms d) (hn : ∀ x ∈ rooms, NameOk x) : Neat 2516 3 d.data := by
  unfold DoorH.data
  refine neat_tup (w := 628) (dp := 2) (m := 4) (fun z hz => ?_) (by simp)
  rcases List.mem_cons.mp hz with rfl | hz
  · exact (neat_name (hn _ h.one)).mono (by decide) (by decide)
  rcases List.mem_cons.mp hz with rfl | hz
  · exact (neat_name (hn _ h.other)).mono (by decide) (by decide)
  rcases List.mem_cons.mp hz with rfl | hz
  · exact (neat_way h).mono (by decide) (by decide)
  rw [List.mem_singleton.mp hz]
  exact neat_rows h.rows hn
theorem neat_stone {s : Str × Int} (h : NameOk s.1) (h0 : 0 ≤ s.2) (h1 : s.2 ≤ 9999999) : Neat 104 1 (stoneD s) := by
  unfold stoneD
  refine neat_tup (w := 51) (dp := 0) (m := 2) (fun z hz => ?_) (by simp)
  rcases List.mem_cons.mp hz with rfl | hz
  · exact (neat_name h).mono (by decide) (by decide)
  rw [List.mem_singleton.mp hz]
  exact neat_heft h0 h1
theorem neat_walker {x : WalkH} (h : x.ok) (hn : NameOk x.name) : Neat 156 1 x.data := by
  obtain ⟨h1, h2, h3⟩ := h
  unfold WalkH.data
  refine neat_tup (w := 51) (dp := 0) (m := 3) (fun z hz => ?_) (by simp)
  rcases List.mem_cons.mp hz with rfl | hz
  · exact (neat_name hn).mono (by decide) (by decide)
  rcases List.mem_cons.mp hz with rfl | hz
  · exact neat_heft h1 h2
  rw [List.mem_singleton.mp hz]
  exact neat_heft (by rcases h3 with e | e | e | e | e <;> rw [e] <;> decide) (by rcases h3 with e | e | e | e | e <;> rw [e] <;> decide)
theorem neat_names {xs : List Str} {m : Nat} (h : ∀ x ∈ xs, NameOk x) (hm : xs.length ≤ m) : Neat (9 * m) 1 (.list (xs.map PyData.str)) :=
  neat_lst (w := 8) (fun d hd => by
    obtain ⟨x, hx, rfl⟩ := List.mem_map.mp hd
    exact neat_name (h x hx)) (by rw [List.length_map]; exact hm)
end Wd
namespace Wd
open PySem PySem.Spec PyProof.Rows L2
mutual
def tOnly : PyData → Bool
  | .none => true
  | .bool _ => true
  | .int _ => true
  | .str _ => true
  | .tuple ds => tOnlyAll ds
  | .list _ => false
  | .dict _ => false
def tOnlyAll : List PyData → Bool
  | [] => true
  | d :: ds => tOnly d && tOnlyAll ds
end
section
variable {N N' : Addr → Prop} {K : PySem.W.Frag} {H H' : Hp}
mutual
/-- data of tuples alone lives as long as its tuples do -/
theorem Dq.moveT (n : ∀ a, N a → N' a) (s : ∀ a xs, N a → SqT K H a xs → SqT K H' a xs) : ∀ (d : PyData) (v : V), tOnly d = true → Dq N K H v d → Dq N' K H' v d
  | .none, _, _, h => by cases h; exact .non
  | .bool b, _, _, h => by cases h; exact .bl b
  | .int i, _, _, h => by cases h; exact .int i
  | .str x, _, _, h => by cases h; exact .str x
  | .tuple ds, _, f, h => by
    cases h with
    | tup z hq ha => exact .tup (n _ z) (s _ _ z hq) (DqAll.moveT n s ds _ (by rw [tOnly] at f; exact f) ha)
  | .list ds, _, f, _ => by rw [tOnly] at f; cases f
  | .dict ds, _, f, _ => by rw [tOnly] at f; cases f
theorem DqAll.moveT (n : ∀ a, N a → N' a) (s : ∀ a xs, N a → SqT K H a xs → SqT K H' a xs) : ∀ (ds : List PyData) (vs : List V), tOnlyAll ds = true → DqAll N K H vs ds → DqAll N' K H' vs ds
  | [], _, _, h => by cases h; exact .nil
  | d :: ds, _, f, h => by
    rw [tOnlyAll, Bool.and_eq_true] at f
    cases h with
    | cons h1 h2 => exact .cons (Dq.moveT n s d _ f.1 h1) (DqAll.moveT n s ds _ f.2 h2)
end
end
theorem tOnly_map {α : Type} {f : α → PyData} (h : ∀ a, tOnly (f a) = true) : ∀ l : List α, tOnlyAll (l.map f) = true
  | [] => rfl
  | a :: l => by rw [List.map_cons, tOnlyAll, h a, tOnly_map h l]; rfl
theorem tOnly_row (r : RowH) : tOnly r.data = true := by
  unfold RowH.data
  cases r.most <;> rfl
theorem tOnly_door (d : DoorH) : tOnly d.data = true := by
  unfold DoorH.data rowsData
  simp only [tOnly, tOnlyAll, tOnly_map tOnly_row, Bool.and_self]
theorem tOnly_stone (d : Str × Int) : tOnly (stoneD d) = true := rfl
theorem tOnly_walk (d : WalkH) : tOnly d.data = true := rfl
theorem sqT_lst {K : PySem.W.Frag} {H : Hp} {l a : Addr} {ys xs : List V} {o : HO} (e : H l = some (.lst ys)) (h : SqT K H a xs) : SqT K (upd H l o) a xs := by
  rcases h with (h | ⟨u, h⟩) | h
  · exact .inl (.inl (by rw [upd_ne (fun z => by rw [z, e] at h; cases h)]; exact h))
  · exact .inl (.inr ⟨u, by rw [upd_ne (fun z => by rw [z, e] at h; cases h)]; exact h⟩)
  · exact .inr h
end Wd
namespace Wd
open PySem PySem.Spec PyProof.Rows L2
theorem DqKv.moveT {N N' : Addr → Prop} {K : PySem.W.Frag} {H H' : Hp} (n : ∀ a, N a → N' a) (s : ∀ a xs, N a → SqT K H a xs → SqT K H' a xs) : ∀ (ds : List DoorH) (kvs : List (Key × V)), DqKv N K H kvs (doorsKv ds) → DqKv N' K H' kvs (doorsKv ds)
  | [], _, h => by cases h; exact .nil
  | d :: ds, kvs, h => by
    have e : doorsKv (d :: ds) = (.str d.name, d.data) :: doorsKv ds := rfl
    rw [e] at h ⊢
    generalize hx : PyData.str d.name = x at h ⊢
    cases h with
    | cons h1 h2 => exact .cons (Dq.moveT n s _ _ (tOnly_door d) h1) (DqKv.moveT n s ds _ h2)
end Wd

set_option Elab.async false
set_option linter.all false
set_option maxRecDepth 100000
set_option maxHeartbeats 4000000
/-! What lives past a made hall. -/
namespace Wd
open PySem PySem.Spec PyProof.Rows L2
theorem tabs_move {TT : List (Addr × Str)} {H H' : Hp} (s : ∀ b o, (∀ l, o ≠ .lst l) → (∀ l, o ≠ .dK l) → H b = some o → H' b = some o) (t : LamX.Tabs TT H) : LamX.Tabs TT H' := fun p hp => by
  obtain ⟨ps, h1, h2, h3⟩ := t p hp
  refine ⟨ps, s _ _ (fun _ z => by cases z) (fun _ z => by cases z) h1, h2, fun pos cv hc => ?_⟩
  obtain ⟨c, e1, e2⟩ := h3 pos cv hc
  refine ⟨c, e1, s _ _ (fun _ z => ?_) (fun _ z => ?_) e2⟩
  · unfold LamX.CodeO at z; cases z
  · unfold LamX.CodeO at z; cases z
theorem tabs_kp {TT : List (Addr × Str)} {H H' : Hp} {p : Addr} {kvs : List (Key × V)} (t : LamX.Tabs TT H) (hp : H p = some (.dK kvs)) (k : Kp p H H') : LamX.Tabs TT H' :=
  tabs_move (fun b o _ nd e => k b o (fun z => by rw [z, hp] at e; exact nd _ (Option.some.inj e).symm) e) t
theorem tabs_lst {TT : List (Addr × Str)} {H : Hp} {l : Addr} {ys : List V} {o : HO} (t : LamX.Tabs TT H) (hp : H l = some (.lst ys)) : LamX.Tabs TT (upd H l o) :=
  tabs_move (fun b o nl _ e => by rw [upd_ne (fun z => by rw [z, hp] at e; exact nl _ (Option.some.inj e).symm)]; exact e) t
theorem newT_same {H H' : Hp} {a : Addr} (s : Same H H') (n : NewT H' a) : NewT H a := by
  cases q : H a with
  | none => exact .inl q
  | some o =>
    have q2 := s _ _ q
    rcases n with n | ⟨ps, n⟩
    · rw [n] at q2; cases q2
    · rw [n] at q2; exact .inr ⟨ps, by rw [q]; exact q2.symm⟩
theorem ExtM.sqT2 {m : Addr} {kvs : List (Key × V)} {K : PySem.W.Frag} {H H' : Hp} (hm : H m = some (.dK kvs)) (e : ExtM m H H') (a : Addr) (xs : List V) (h : SqT K H a xs) : SqT K H' a xs := by
  rcases h with (h | ⟨u, h⟩) | h
  · exact .inl (.inl (e _ _ (fun z => by rw [z, hm] at h; cases h) h fun _ z => by cases z))
  · exact .inl (.inr ⟨u, e _ _ (fun z => by rw [z, hm] at h; cases h) h fun _ z => by cases z⟩)
  · exact .inr h
theorem HallAt.extM {p : Addr} {kvs : List (Key × V)} {K : PySem.W.Frag} {H H' : Hp} {h : Addr} {x : HallH} (hp : H p = some (.dK kvs)) (e : ExtM p H H') (hh : HallAt (· ≠ p) K H h x) : HallAt (· ≠ p) K H' h x := by
  obtain ⟨d, st, w, r, dkv, wvs, n1, n2, n3, n4, n5, h1, h2, h3, h4, h5, h6, h7⟩ := hh
  exact ⟨d, st, w, r, dkv, wvs, n1, n2, n3, n4, n5, e _ _ n1 h1 (fun _ z => by cases z), e _ _ n2 h2 (fun _ z => by cases z), DqKv.moveT (fun _ z => z) (fun a xs _ h => ExtM.sqT2 hp e a xs h) _ _ h3, e _ _ n3 h4 (fun _ z => by cases z), e _ _ n4 h5 (fun _ z => by cases z),
    DqAll.moveT (fun _ z => z) (fun a xs _ h => ExtM.sqT2 hp e a xs h) _ _ (tOnly_map tOnly_walk _) h6, e _ _ n5 h7 (fun _ z => by cases z)⟩
theorem ExtM.kp {p : Addr} {H H' : Hp} (k : Kp p H H') : ExtM p H H' := fun b o n e _ => k b o n e
theorem ExtM.extN {m : Addr} {H H1 : Hp} (a : LamX.ExtN H H1) : ExtM m H H1 := fun z o _ e t => a z o e t
theorem ExtM.wr {p l : Addr} {H G : Hp} {o : HO} (e : ExtM p H G) (n : H l = none) : ExtM p H (upd G l o) := fun b u nb eb t => by
  rw [upd_ne (fun z => by rw [z, n] at eb; cases eb)]
  exact e b u nb eb t
/-- what is handed in shows short -/
theorem part_data {p lf : Addr} {K : PySem.W.Frag} {H : Hp} {v : V} {z : DoorH × Option Addr} {rooms : List Str} (h : PartD p lf K H v z) (hd : DoorOk rooms z.1) (hn : ∀ x ∈ rooms, NameOk x) (hz : NameOk z.1.name) : ∃ d, Dq (· ≠ p) K H v d ∧ Neat 3145 3 d ∧ d.hasDict = false := by
  obtain ⟨t, tt, one, other, rows, rvs, rfl, nt, sq, en, rp, dq, l, ntt⟩ := h
  have hone : NameOk one ∧ NameOk other := by
    rcases en with ⟨rfl, rfl⟩ | ⟨_, rfl, rfl⟩
    · exact ⟨hn _ hd.one, hn _ hd.other⟩
    · exact ⟨hn _ hd.other, hn _ hd.one⟩
  have nr : ∀ d ∈ rows.map RowH.data, Neat 156 1 d := fun d hm => by
    obtain ⟨r, hr, rfl⟩ := List.mem_map.mp hm
    have hr' := rp.mem_iff.mp hr
    exact neat_row (hd.rows.each r hr') (hn _ (hd.rows.sub.subset (List.mem_map.mpr ⟨r, hr', rfl⟩)))
  have lr : (rows.map RowH.data).length ≤ 4 := by rw [List.length_map, rp.length_eq]; exact hd.rows.few
  have hdict : PyData.hasDictAll (rows.map RowH.data) = false := rows_noDict rows
  have fin : ∀ rd : PyData, Dq (· ≠ p) K H (.ref tt) rd → Neat 628 2 rd → rd.hasDict = false → ∃ d, Dq (· ≠ p) K H (.ref t) d ∧ Neat 3145 3 d ∧ d.hasDict = false := fun rd q1 q2 q3 => by
    refine ⟨.tuple [.str z.1.name, .str one, .str other, .str z.1.way, rd], .tup nt sq (.cons (.str _) (.cons (.str _) (.cons (.str _) (.cons (.str _) (.cons q1 .nil))))), ?_, ?_⟩
    · refine neat_tup (w := 628) (dp := 2) (m := 5) (fun d hm => ?_) (by simp)
      rcases List.mem_cons.mp hm with rfl | hm
      · exact (neat_name hz).mono (by decide) (by decide)
      rcases List.mem_cons.mp hm with rfl | hm
      · exact (neat_name hone.1).mono (by decide) (by decide)
      rcases List.mem_cons.mp hm with rfl | hm
      · exact (neat_name hone.2).mono (by decide) (by decide)
      rcases List.mem_cons.mp hm with rfl | hm
      · exact (neat_way hd).mono (by decide) (by decide)
      rw [List.mem_singleton.mp hm]
      exact q2
    · simp [PyData.hasDict, PyData.hasDictAll, q3]
  rcases l with ⟨_, l2, _⟩ | ⟨_, l2⟩
  · exact fin (.list (rows.map RowH.data)) (.lst ntt (.inl (.inl l2)) dq) (neat_lst (w := 156) (m := 4) nr lr) (by simpa [PyData.hasDict] using hdict)
  · exact fin (.tuple (rows.map RowH.data)) (.tup ntt l2 dq) (neat_tup (w := 156) (m := 4) nr lr) (by simpa [PyData.hasDict] using hdict)
theorem parts_data {p lf : Addr} {K : PySem.W.Frag} {H : Hp} {rooms : List Str} (hn : ∀ x ∈ rooms, NameOk x) : ∀ {vs : List V} {zs : List (DoorH × Option Addr)}, Paired (PartD p lf K H) vs zs → (∀ z ∈ zs, DoorOk rooms z.1 ∧ NameOk z.1.name) →
    ∃ ds, DqAll (· ≠ p) K H vs ds ∧ (∀ d ∈ ds, Neat 3145 3 d) ∧ PyData.hasDictAll ds = false ∧ ds.length = zs.length
  | [], [], _, _ => ⟨[], .nil, fun _ m => absurd m (by simp), rfl, rfl⟩
  | v :: vs, z :: zs, h, ok => by
    cases h with
    | cons h1 h2 =>
      obtain ⟨d, q1, q2, q3⟩ := part_data h1 (ok z List.mem_cons_self).1 hn (ok z List.mem_cons_self).2
      obtain ⟨ds, g1, g2, g3, g4⟩ := parts_data hn h2 fun y hy => ok y (List.mem_cons_of_mem _ hy)
      refine ⟨d :: ds, .cons q1 g1, fun e he => ?_, by simp only [PyData.hasDictAll, q3, g3, Bool.or_self], by simp only [List.length_cons, g4]⟩
      rcases List.mem_cons.mp he with rfl | he
      · exact q2
      · exact g2 e he
theorem walks_dict : ∀ ws : List WalkH, PyData.hasDictAll (ws.map WalkH.data) = false := walks_noDict
end Wd
namespace Wd
open PySem PySem.Spec PyProof.Rows L2
theorem strs_noDict : ∀ l : List Str, PyData.hasDictAll (l.map PyData.str) = false
  | [] => rfl
  | x :: r => by rw [List.map_cons]; simp only [PyData.hasDictAll, strs_noDict r, Bool.or_false]; rfl
theorem tyX_sqT {K : PySem.W.Frag} {H : Hp} {a : Addr} {xs : List V} (h : SqT K H a xs) : TyX K H (.ref a) (.type "tuple") := by
  rcases h with (h | ⟨u, h⟩) | ⟨o, its, n, h1, h2, _⟩
  · exact .base (.tup h)
  · exact .fTuple h
  · exact .kTuple h1 h2
end Wd

set_option Elab.async false
set_option linter.all false
set_option maxRecDepth 100000
set_option maxHeartbeats 4000000
/-! count of texts in a list or in a tuple. -/
namespace Wd
open PySem PySem.Spec PyProof.Rows L2
def eqs (k : Str) (v : Value) : Bool := match v with
  | .str n _ => n.cps.toList == k.cps.toList
  | _ => false
theorem eqs_at {k : Str} {t : Tok} : ∀ {us : List Value} {ns : List Str}, Vals (ns.map V.str) us → ∀ y ∈ us, MeetsSeq.EqGives y (.str k t) (eqs k y)
  | [], [], _, y, hy => by cases hy
  | u :: us, n :: ns, .cons r rs, y, hy => by
    obtain ⟨t', rfl⟩ := r
    rcases List.mem_cons.mp hy with rfl | hy
    · exact SeqRoads2.EqGives.str n k t' t
    · exact eqs_at rs y hy
theorem str_ext {a b : Str} (h : a.cps.toList = b.cps.toList) : a = b := by
  cases a; cases b
  simp only at h
  congr 1
  exact Array.toList_inj.mp h
theorem eqs_count {k : Str} : ∀ {us : List Value} {ns : List Str}, Vals (ns.map V.str) us → us.countP (eqs k) = ns.count k
  | [], [], _ => rfl
  | u :: us, n :: ns, .cons r rs => by
    obtain ⟨t', rfl⟩ := r
    rw [List.countP_cons, List.count_cons, eqs_count rs]
    congr 1
    by_cases e : n = k
    · subst e
      simp [eqs]
    · have : eqs k (.str n t') = false := by
        show (n.cps.toList == k.cps.toList) = false
        exact beq_eq_false_iff_ne.mpr fun z => e (str_ext z)
      simp [this, e]
section
variable {X : Cx}
def rCntS (K : PySem.W.Frag) : V → List V → Hp → VK → Prop := fun x xs H Q => ∃ (p : Addr) (ns : List Str) (k : Str), x = .ref p ∧ xs = [.str k] ∧ SqL K H p (ns.map V.str) ∧ Q (.int (ns.count k : Nat)) H
theorem mt_countL {K : PySem.W.Frag} (hK : X.K = K := by rfl) : MtR X "list.count" (rCntS K) := by
  subst hK
  intro pins s σ H x xs v us Q I rx rxs h
  obtain ⟨p, ns, k, rfl, rfl, hs, q⟩ := h
  cases rx
  obtain ⟨u, rfl, ru⟩ := rxs.one
  obtain ⟨t, rfl⟩ := ru
  obtain ⟨its, rv, ⟨⟨cls, dd, data, sl⟩, n, ho, hc, hdn, hd⟩, hlen⟩ := I.list hs
  simp only at hc hd
  subst hc hd
  refine call_meets PySem.F.slot_list_count ⟨_, ho, rfl⟩ PySem.F.entry_list_count (PySem.F.args_list_count_2 _ _)
    (SeqAt.list_countAt p its.toArray n dd sl (.str k t) (eqs k)) ⟨ho, fun y hy => (eqs_at rv y (by simpa using hy)).at _ _, ?_⟩
  refine ⟨.int (ns.count k : Nat), H, I.tok _, ⟨s.toks, ?_⟩, q⟩
  show Value.int ((its.toArray.toList.countP (eqs k) : Nat) : Int) s.toks = Value.int ((ns.count k : Nat) : Int) s.toks
  rw [show its.toArray.toList = its from by simp, eqs_count rv]
def rCntT (K : PySem.W.Frag) : V → List V → Hp → VK → Prop := fun x xs H Q => ∃ (p : Addr) (ns : List Str) (k : Str), x = .ref p ∧ xs = [.str k] ∧ SqT K H p (ns.map V.str) ∧ Q (.int (ns.count k : Nat)) H
theorem mt_countT {K : PySem.W.Frag} (hK : X.K = K := by rfl) : MtR X "tuple.count" (rCntT K) := by
  subst hK
  intro pins s σ H x xs v us Q I rx rxs h
  obtain ⟨p, ns, k, rfl, rfl, hs, q⟩ := h
  cases rx
  obtain ⟨u, rfl, ru⟩ := rxs.one
  obtain ⟨t, rfl⟩ := ru
  obtain ⟨its, rv, ⟨⟨cls, dd, data, sl⟩, ho, hc, n, hd⟩, hlen⟩ := I.tuple hs
  simp only at hc hd
  subst hc hd
  refine call_meets PySem.F.slot_tuple_count ⟨_, ho, rfl⟩ PySem.F.entry_tuple_count (PySem.F.args_tuple_count_2 _ _)
    (SeqAt.tuple_countAt p its.toArray n dd sl (.str k t) (eqs k)) ⟨ho, fun y hy => (eqs_at rv y (by simpa using hy)).at _ _, ?_⟩
  refine ⟨.int (ns.count k : Nat), H, I.tok _, ⟨s.toks, ?_⟩, q⟩
  show Value.int ((its.toArray.toList.countP (eqs k) : Nat) : Int) s.toks = Value.int ((ns.count k : Nat) : Int) s.toks
  rw [show its.toArray.toList = its from by simp, eqs_count rv]
theorem pe_bmK {K : PySem.W.Frag} {T id name : String} {r : V → List V → Hp → VK → Prop} {o e : Expr} {es : List Expr} {to : TE} {t : TA} {apos cpos : Pos} (pa : PlainAttrs T) (slot : Slot T name id) (hty : typeOf (.builtin id) = pure (.type "method_descriptor")) (hm : MtR X id r) (ho : PE X o to) (ha : PA X (e :: es) t) (hK : X.K = K := by rfl)
    (hbase : attributeBase o name X.env (eval o X.env) = eval o X.env := by rfl)
    (hfew : ((backTo cpos (starEach (e :: es) X.env)).all (fun x => !x.1) && (backToKw cpos (keywordEach [] X.env)).all (fun x => x.1.isSome)
      && decide ((e :: es).length + ([] : List Keyword).length + (if ([] : List Keyword).isEmpty then 0 else 1) < 30)) = true := by rfl)
    (hline : (apos.endLine == cpos.line) = true := by rfl) (hs : starEach (e :: es) X.env = (false, eval e X.env) :: starEach es X.env := by rfl) (hplain : (backTo cpos (starEach es X.env)).any (·.1) = false := by rfl) :
    PE X (.Call (.Attribute o name apos) (e :: es) [] cpos) (tBM K T r to t) := by
  subst hK
  exact pe_bm pa slot hty hm ho ha hbase hfew hline hs hplain
end
end Wd

set_option Elab.async false
set_option linter.all false
set_option maxRecDepth 100000
set_option maxHeartbeats 4000000
/-! Tuples whose object is known to have no dict: their methods may be called. -/
namespace Wd
open PySem PySem.Spec PyProof.Rows L2
def FT (H : Hp) (a : Addr) (xs : List V) : Prop := ∃ o : Obj, H a = some (.frz o (.tup xs)) ∧ o.dict = none
theorem FT.sqT {K : PySem.W.Frag} {H : Hp} {a : Addr} {xs : List V} (h : FT H a xs) : SqT K H a xs := by
  obtain ⟨o, h, _⟩ := h
  exact .inl (.inr ⟨o, h⟩)
theorem FT.at {H H' : Hp} {a : Addr} {xs : List V} (s : ∀ o, (∀ ps, o ≠ .tbl ps) → (∀ l, o ≠ .lst l) → (∀ l, o ≠ .dK l) → H a = some o → H' a = some o) (h : FT H a xs) : FT H' a xs := by
  obtain ⟨o, h, d⟩ := h
  exact ⟨o, s _ (fun _ z => by cases z) (fun _ z => by cases z) (fun _ z => by cases z) h, d⟩
theorem FT.same {H H' : Hp} {a : Addr} {xs : List V} (s : Same H H') (h : FT H a xs) : FT H' a xs := h.at fun o _ _ _ e => s _ o e
theorem FT.ne {H : Hp} {a b : Addr} {xs ys : List V} (h : FT H a xs) (g : H b = some (.lst ys)) : a ≠ b := fun z => by
  obtain ⟨o, h, _⟩ := h
  rw [z, g] at h
  cases h
theorem FT.neD {H : Hp} {a b : Addr} {xs : List V} {kvs : List (Key × V)} (h : FT H a xs) (g : H b = some (.dK kvs)) : a ≠ b := fun z => by
  obtain ⟨o, h, _⟩ := h
  rw [z, g] at h
  cases h
theorem FT.upd {H : Hp} {a b : Addr} {xs : List V} {o : HO} (h : FT H a xs) (n : a ≠ b) : FT (upd H b o) a xs := h.at fun _ _ _ _ e => by rw [upd_ne n]; exact e
def kTupF (K : PySem.W.Frag) (x : V) (H : Hp) (Q : VK) : Prop := ∃ p xs, x = .ref p ∧ SqL K H p xs ∧ ∀ q (o : Obj), H q = none → o.dict = none → Q (.ref q) (upd H q (.frz o (.tup xs)))
section
variable {X : Cx} {a : Expr} {ta : TE}
theorem rl_tupleF {K : PySem.W.Frag} (pins : List (Addr × Obj)) (s : Shared) (σ : L2.St) (H : Hp) (x : V) (v : Value) (Q : VK) (I : Inv X pins σ H s) (r : RelV x v) (h : kTupF X.K x H Q) :
    wpAny (model X.prog X.w) X.A (call (.type "tuple") [v]) (EP X pins σ Q) X.xe s := by
  obtain ⟨p, xs, rfl, hs, q⟩ := h
  obtain rfl : v = .ref p := r
  obtain ⟨its, rv, pl, hz⟩ := I.list hs
  refine call_tuple_list pl.isList (fun h' hk => ?_) (by rw [List.size_toArray, ← rv.length]; exact hz)
  have I1 : Inv X pins σ H { s with heap := h' } := I.kept (t' := s.toks) hk
  have I2 : Inv X pins σ (upd H h'.objs.size (.frz { cls := .type "tuple", data := .seq its.toArray } (.tup xs))) { s with heap := h'.push { cls := .type "tuple", data := .seq its.toArray } } :=
    I1.laid (t' := s.toks) (fun b o e => Heap.get?_push_of_some _ e) (Nat.le_refl _) (show ObjOk X.prog X.w _ _ _ (.frz _ (.tup xs)) from ⟨Heap.get?_push_size _ rfl, hz, its, rv, IsTup.new _ _⟩)
  exact ⟨.ref h'.objs.size, upd H h'.objs.size _, I2, rfl, q _ _ (I1.hok.fresh (Nat.le_refl _)) rfl⟩
theorem pe_tupleF {K : PySem.W.Frag} {p pos : Pos} (hg : Gl X "tuple") (hm : X.mg "tuple" = none) (ha : PE X a ta) (hK : X.K = K := by rfl) (na : starEach [a] X.env = (false, eval a X.env) :: starEach [] X.env := by rfl) :
    PE X (.Call (.Name "tuple" p) [a] [] pos) (tThen ta (kTupF K)) := by
  subst hK
  refine ⟨fun pins s σ H Q I h => ?_⟩
  exact Call_ (ld_blt I hg hm boot_tuple (PyProof.Rows.callWith_type1 (one_arg ha I h (fun v s2 x H2 I2 r q => rl_tupleF (K := X.K) pins s2 σ H2 x v Q I2 r q) na) na))
/-- a tuple that is written -/
def tTupF (t : TA) : TE := fun σ H Q => t σ H fun xs H1 => xs.length ≤ sizeLine ∧ ∀ p (o : Obj), H1 p = none → o.dict = none → Q (.ref p) (upd H1 p (.frz o (.tup xs)))
theorem pe_tupF {es : List Expr} {t : TA} {x1} {pos : Pos} (h : PA X es t) : PE X (.Tuple es x1 pos) (tTupF t) := by
  refine ⟨fun pins s σ H Q I hq => ?_⟩
  refine wpAny_Tuple_spliced (thn (h.run pos pins s σ H _ I hq) fun us s1 ⟨xs, H1, I1, r, z, q⟩ => ⟨by rw [← r.length]; exact z, ?_⟩)
  have hf : H1 s1.heap.objs.size = none := I1.hok.fresh (Nat.le_refl _)
  refine ⟨.ref s1.heap.objs.size, upd H1 s1.heap.objs.size _, I1.laid (t' := s1.toks) (fun b u e => Heap.get?_push_of_some _ e) (Nat.le_refl _) ?_, rfl, q _ { cls := .type "tuple", data := .seq us.toArray } hf rfl⟩
  exact ⟨Heap.get?_push_size _ rfl, z, us, r, ⟨_, Heap.get?_push_size _ rfl, rfl, _, rfl⟩⟩
/-- a method of such a tuple -/
def tBMT (r : V → List V → Hp → VK → Prop) (to : TE) (t : TA) : TE := fun σ H Q => to σ H fun x H1 => (∃ p xs, x = .ref p ∧ FT H1 p xs) ∧ t σ H1 fun xs H2 => r x xs H2 Q
theorem pe_bmT {id name : String} {r : V → List V → Hp → VK → Prop} {o e : Expr} {es : List Expr} {to : TE} {t : TA} {apos cpos : Pos} (pa : PlainAttrs "tuple") (slot : Slot "tuple" name id) (hty : typeOf (.builtin id) = pure (.type "method_descriptor")) (hm : MtR X id r) (ho : PE X o to) (ha : PA X (e :: es) t)
    (hbase : attributeBase o name X.env (eval o X.env) = eval o X.env := by rfl)
    (hfew : ((backTo cpos (starEach (e :: es) X.env)).all (fun x => !x.1) && (backToKw cpos (keywordEach [] X.env)).all (fun x => x.1.isSome)
      && decide ((e :: es).length + ([] : List Keyword).length + (if ([] : List Keyword).isEmpty then 0 else 1) < 30)) = true := by rfl)
    (hline : (apos.endLine == cpos.line) = true := by rfl) (hs : starEach (e :: es) X.env = (false, eval e X.env) :: starEach es X.env := by rfl) (hplain : (backTo cpos (starEach es X.env)).any (·.1) = false := by rfl) :
    PE X (.Call (.Attribute o name apos) (e :: es) [] cpos) (tBMT r to t) := by
  refine ⟨fun pins s σ H Q I h => ?_⟩
  refine wpAny_Call_method_late hbase hfew hline rfl (thn (ho.run pins s σ H _ I h) fun v s1 ⟨x, H1, I1, r1, ⟨p, xs, ex, ob, hp, hd⟩, q1⟩ => ?_)
  subst ex
  obtain rfl : v = .ref p := r1
  obtain ⟨hg, hz, its, rv, o', ho', hc', _⟩ := I1.hok p _ hp
  have eo : o' = ob := by
    rw [hg] at ho'
    exact (Option.some.inj ho').symm
  subst eo
  refine ⟨"tuple", id, pa, slot, hty, ⟨o', ho', hc'⟩, fun a e => ?_, ?_⟩
  · cases e
    exact ⟨o', ho', hd⟩
  have hA := ha.run cpos pins s1 σ H1 _ I1 q1
  rw [hs] at hA ⊢
  refine Calls.callWith_builtin (by show (false || (backTo cpos (starEach es X.env)).any (·.1)) = false; rw [hplain] <;> rfl) (Calls.evalArgs_plain ?_)
  exact thn hA fun us s2 ⟨vs, H2, I2, r2, q2⟩ => hm pins s2 σ H2 (.ref p) vs _ us Q I2 rfl r2 q2
end
end Wd

set_option Elab.async false
set_option linter.all false
set_option maxRecDepth 100000
set_option maxHeartbeats 4000000
/-! Stands as plain data. -/
namespace Wd
open PySem PySem.Spec PyProof.Rows L2
structure StandH (x : HallH) (t : Nat) (rs ps : List Str) : Prop where
  t : t < x.walkers.length
  rl : rs.length = x.walkers.length
  rin : ∀ r ∈ rs, r ∈ x.rooms
  pl : ps.length = x.stones.length
  pin : ∀ q ∈ ps, q ∈ x.rooms ∨ q ∈ x.walkers.map WalkH.name
  cnt : ∀ z ∈ x.walkers, (ps.count z.name : Int) ≤ z.hands
def standD (t : Nat) (rs ps : List Str) : PyData := .tuple [.int t, .tuple (rs.map PyData.str), .tuple (ps.map PyData.str)]
def StandAt (K : PySem.W.Frag) (H : Hp) (v : V) (t : Nat) (rs ps : List Str) : Prop := ∃ s tr tp : Addr, v = .ref s ∧ SqT K H s [.int t, .ref tr, .ref tp] ∧ SqT K H tr (rs.map V.str) ∧ FT H tp (ps.map V.str)
section
variable {K : PySem.W.Frag} {H H' : Hp} {v : V} {t : Nat} {rs ps : List Str}
theorem StandAt.move (s : ∀ a xs, SqT K H a xs → SqT K H' a xs) (f : ∀ a xs, FT H a xs → FT H' a xs) (h : StandAt K H v t rs ps) : StandAt K H' v t rs ps := by
  obtain ⟨a, b, c, e, h1, h2, h3⟩ := h
  exact ⟨a, b, c, e, s _ _ h1, s _ _ h2, f _ _ h3⟩
theorem StandAt.dq (h : StandAt K H v t rs ps) : Dq anyA K H v (standD t rs ps) := by
  obtain ⟨a, b, c, rfl, h1, h2, h3⟩ := h
  exact .tup trivial h1 (.cons (.int _) (.cons (.tup trivial h2 (DqAll.strs rs)) (.cons (.tup trivial h3.sqT (DqAll.strs ps)) .nil)))
theorem same_sqT (s : Same H H') {a : Addr} {xs : List V} (h : SqT K H a xs) : SqT K H' a xs := sqT_at (fun o => s _ o) h
theorem StandAt.same (s : Same H H') (h : StandAt K H v t rs ps) : StandAt K H' v t rs ps := h.move (fun a xs e => same_sqT s e) fun a xs e => e.same s
theorem sqT_frz {l a : Addr} {kvs : List (Key × V)} {xs : List V} {u : _} {o : HO} (e : H l = some (.frz u (.dK kvs))) (h : SqT K H a xs) : SqT K (upd H l o) a xs := by
  rcases h with (h | ⟨u, h⟩) | h
  · exact .inl (.inl (by rw [upd_ne (fun z => by rw [z, e] at h; cases h)]; exact h))
  · exact .inl (.inr ⟨u, by rw [upd_ne (fun z => by rw [z, e] at h; cases h)]; exact h⟩)
  · exact .inr h
theorem sqT_dK {l a : Addr} {kvs : List (Key × V)} {xs : List V} {o : HO} (e : H l = some (.dK kvs)) (h : SqT K H a xs) : SqT K (upd H l o) a xs := by
  rcases h with (h | ⟨u, h⟩) | h
  · exact .inl (.inl (by rw [upd_ne (fun z => by rw [z, e] at h; cases h)]; exact h))
  · exact .inl (.inr ⟨u, by rw [upd_ne (fun z => by rw [z, e] at h; cases h)]; exact h⟩)
  · exact .inr h
theorem sqL_dK {l a : Addr} {kvs : List (Key × V)} {xs : List V} {o : HO} (e : H l = some (.dK kvs)) (h : SqL K H a xs) : SqL K (upd H l o) a xs := by
  rcases h with (h | ⟨u, h⟩) | h
  · exact .inl (.inl (by rw [upd_ne (fun z => by rw [z, e] at h; cases h)]; exact h))
  · exact .inl (.inr ⟨u, by rw [upd_ne (fun z => by rw [z, e] at h; cases h)]; exact h⟩)
  · exact .inr h
theorem sqL_frz {l a : Addr} {kvs : List (Key × V)} {xs : List V} {u : _} {o : HO} (e : H l = some (.frz u (.dK kvs))) (h : SqL K H a xs) : SqL K (upd H l o) a xs := by
  rcases h with (h | ⟨u, h⟩) | h
  · exact .inl (.inl (by rw [upd_ne (fun z => by rw [z, e] at h; cases h)]; exact h))
  · exact .inl (.inr ⟨u, by rw [upd_ne (fun z => by rw [z, e] at h; cases h)]; exact h⟩)
  · exact .inr h
end
end Wd

set_option Elab.async false
set_option linter.all false
set_option maxRecDepth 100000
set_option maxHeartbeats 4000000
/-! name = {..} on one line, the name a local. -/
namespace Wd
open PySem PySem.Spec PyProof.Rows L2
section
variable {X : Cx}
theorem ps_setDc {i : Nat} {y : Str} {py : Pos} {kx vx tg iter : Expr} {ifs : List Expr} {scope : Scope} {own : List (Str × Nat)} {pos spos : Pos} {wi : TI} {g : TG} {tt : TT} {tk tv : TE} (hc : X.calm = true) (hN : X.N.Nodup) (hy : X.N[i]? = some y) (hyl : X.env.scope.names.lookup y = some .local)
    (hsw : swapsWith (.DictComp kx vx [⟨tg, iter, ifs, 0⟩] scope pos) (some (.Name y py)) spos.line X.env = pure true) (hi : PI X tg iter wi) (ok : BlkOk X.N X.env.scope scope own)
    (hg : ∀ (s : Shared) (H : Hp) (C : Addr) (cl : List (Str × Addr)) (fp : List Addr), PG (X.blk s H scope (compEnvC scope cl C X.env) fp) tg g) (ht : ∀ (s : Shared) (H : Hp) (C : Addr) (cl : List (Str × Addr)) (fp : List Addr), PTs (X.blk s H scope (compEnvC scope cl C X.env) fp) ifs tt)
    (hk : ∀ (s : Shared) (H : Hp) (C : Addr) (cl : List (Str × Addr)) (fp : List Addr), PE (X.blk s H scope (compEnvC scope cl C X.env) fp) kx tk)
    (he : ∀ (s : Shared) (H : Hp) (C : Addr) (cl : List (Str × Addr)) (fp : List Addr), PE (X.blk s H scope (compEnvC scope cl C X.env) fp) vx tv) (hs : ∀ x, foldedSetIterable iter X.env x = pure x := by intro _; rfl) :
    PS X (.Assign [.Name y py] (.DictComp kx vx [⟨tg, iter, ifs, 0⟩] scope pos) spos) (tAsg (tDc wi g tt tk tv (own.map (·.2))) (gName i)) := by
  refine ⟨fun pins s σ H D I h => ?_⟩
  rw [exec_Assign_Name_used _ _ _ _ hsw]
  refine wpAny_bind (wpAny_standAt (wpAny_bind ?_))
  show wpAny _ X.A (do let _ ← comprehension (.DictComp kx vx [⟨tg, iter, ifs, 0⟩] scope pos) scope X.env (firstIterPos [⟨tg, iter, ifs, 0⟩] pos) newDict false (eval iter X.env) (some (assign (.Name y py) X.env))) _ _ s
  have h : tDc wi g tt tk tv (own.map (·.2)) σ H (fun x H1 => gName i x σ H1 D.nx) := h
  refine wpAny_bind (thn (dc_core (Qf := fun _ s' => SP X pins D .next s') hc hN I hi ok hg ht hk he hs h fun L C s' m H' I' q hn f => ?_) fun _ s' hq => wpAny_pure (wpAny_pure hq))
  show wpAny _ _ (assign (.Name y py) X.env (.ref L)) _ _ _
  refine wpAny_assign_Name (store_ok2 (v := V.ref L) I' hN hy (.inl hyl) rfl (fun s2 I2 ⟨a, sb, ha⟩ => ?_) (.inr hyl))
  obtain ⟨f0, f1, f2, f3, f4, f5⟩ := f
  have haC : C ≠ a := by
    rcases ha with z | z
    · rw [z]; exact f1
    · exact fun e => f4 y a z e.symm
  refine ⟨m, hn.sameBut sb haC, fun h3 sb3 => ?_⟩
  exact ⟨_, H', I2.turned (t' := s2.toks) (fun b o hb e => (sb3.2 b hb).trans e) f0 f1 f3 f4 f5, q⟩
theorem sw_trueD {kx vx : Expr} {gs : List Comprehension} {scope : Scope} {pos py : Pos} {y : Str} {l : Nat} {env : Env} (hk : env.scope.kind = .function) (hy : env.scope.names.lookup y = some .local) (hl : (py.line == pos.line) = true)
    (ha : (scope.names.any fun (n, k) => n == y && (k == .local || k == .cell)) = false) : swapsWith (.DictComp kx vx gs scope pos) (some (.Name y py)) l env = pure true := by
  have ky : env.kindOf y = some .local := hy
  have hb : env.blockKind = .function := by unfold Env.blockKind; rw [hk]; rfl
  unfold swapsWith
  simp only [hb, ky, ha, Expr.pos, hl]
  rfl
end
end Wd

set_option Elab.async false
set_option linter.all false
set_option maxRecDepth 100000
set_option maxHeartbeats 4000000
/-! zip of a list and a tuple; dict(zip(..)) of them. -/
namespace Wd
open PySem PySem.Spec PyProof.Rows L2 RZ Builtin
theorem draws_tup {prog : Program} {w : World} {A : Around} (hA : A.handled = none) (it l : Addr) (ne : l ≠ it) (ys : Array Value) :
    Draws prog w A it [it, l] ys.size (fun i v => ys[i]? = some v) (fun i h => h.IsTupleIter it l i ∧ h.IsTuple l ys) where
  live := fun _ _ q => let ⟨o, e, _⟩ := q.1; ⟨o, e⟩
  frame := fun _ _ _ q k => ⟨q.1.at fun o e => k it (by simp) o e, q.2.at fun o e => k l (by simp) o e⟩
  item := fun i z R F hi q g => by
    refine nextOf_tuple_item q.1 q.2 (x := ys[i]) (by simp [hi]) fun g1 t1 b1 => ?_
    exact g _ g1 z.toks (by simp [hi]) ⟨t1, q.2.extBut b1.extBut ne⟩ b1
  done := fun z R F q g => nextOf_tuple_end hA q.1 q.2 (by simp) fun h1 e b x => g h1 e b x
abbrev mz1 (h : Heap) (a : Addr) : Heap := h.push { cls := .type "list_iterator", data := .fields #[.ref a, .int 0 0] }
abbrev mz2 (h : Heap) (a b : Addr) : Heap := (mz1 h a).push { cls := .type "tuple_iterator", data := .fields #[.ref b, .int 0 0] }
abbrev mz3 (h : Heap) (a b : Addr) : Heap := (mz2 h a b).push { cls := .type "tuple", data := .seq #[.ref h.objs.size, .ref (mz1 h a).objs.size] }
abbrev mz4 (h : Heap) (a b : Addr) : Heap := (mz3 h a b).push { cls := .type "tuple", data := .seq #[.none, .none] }
abbrev mz5 (h : Heap) (a b : Addr) : Heap := (mz4 h a b).push { cls := .type "zip", data := .fields #[.none, .bool false, .bool false, .ref (mz2 h a b).objs.size, .ref (mz3 h a b).objs.size] }
theorem meets_mz (a b : Addr) (xs ys : Array Value) :
    Meets (Builtin.«zip.__new__» ⟨[.type "zip", .ref a, .ref b], []⟩) (fun _ R z => z.heap.IsList a xs ∧ z.heap.IsTuple b ys ∧
      R (.ok (.ret (.ref (mz4 z.heap a b).objs.size))) { z with heap := mz5 z.heap a b }) :=
  .of_wp fun prog w A R z h => by
    obtain ⟨g0, gn, df, tk, os⟩ := z; obtain ⟨la, tb, h⟩ := h
    have hsub := sub_zip
    have la' : Heap.IsList (Shared.heap ⟨g0, gn, df, tk, os⟩) a xs := la
    have tb' : Heap.IsTuple (Shared.heap ⟨g0.push { cls := .type "list_iterator", data := .fields #[.ref a, .int 0 0] }, gn, df, tk, os⟩) b ys := Heap.IsTuple.push tb _
    wp_walk using wpAny_pyIter_list la', wpAny_pyIter_tuple tb'
    exact ⟨_, rfl, h⟩
section
variable {prog : Program} {w : World} {A : Around} {E : Value → Shared → Prop} {z0 : Shared}
theorem call_mz {a b : Addr} {xs ys : Array Value} {Q : Value → Shared → Prop} (la : z0.heap.IsList a xs) (tb : z0.heap.IsTuple b ys)
    (q : ∀ h', IsZip h' (z0.heap.objs.size + 4) (z0.heap.objs.size + 2) (z0.heap.objs.size + 3) .none → IsPair h' (z0.heap.objs.size + 2) (.ref z0.heap.objs.size) (.ref (z0.heap.objs.size + 1)) →
      IsPair h' (z0.heap.objs.size + 3) .none .none → h'.IsListIter z0.heap.objs.size a 0 → h'.IsTupleIter (z0.heap.objs.size + 1) b 0 → h'.objs.size = z0.heap.objs.size + 5 →
      (∀ c o, z0.heap.get? c = some o → h'.get? c = some o) → Q (.ref (z0.heap.objs.size + 4)) { z0 with heap := h' }) :
    wpAny (model prog w) A (call (.type "zip") [.ref a, .ref b]) Q E z0 := by
  refine callType_new F.called_zip (by decide) (F.typeCall_zip_2 _ _) (F.newCall_zip_2 _ _) (fun obj => F.args_object_init_3 obj _ _) F.entry_zip_new (meets_mz a b xs ys) ⟨la, tb, ?_⟩
  have n1 : (mz1 z0.heap a).objs.size = z0.heap.objs.size + 1 := Heap.size_push ..
  have n2 : (mz2 z0.heap a b).objs.size = z0.heap.objs.size + 2 := by rw [Heap.size_push, n1]
  have n3 : (mz3 z0.heap a b).objs.size = z0.heap.objs.size + 3 := by rw [Heap.size_push, n2]
  have n4 : (mz4 z0.heap a b).objs.size = z0.heap.objs.size + 4 := by rw [Heap.size_push, n3]
  have n5 : (mz5 z0.heap a b).objs.size = z0.heap.objs.size + 5 := by rw [Heap.size_push, n4]
  have e5 : (mz5 z0.heap a b).get? (mz4 z0.heap a b).objs.size = some _ := Heap.get?_push_size _ rfl
  have e4 : (mz5 z0.heap a b).get? (mz3 z0.heap a b).objs.size = some _ := Heap.get?_push_of_some _ (Heap.get?_push_size _ rfl)
  have e3 : (mz5 z0.heap a b).get? (mz2 z0.heap a b).objs.size = some _ := Heap.get?_push_of_some _ (Heap.get?_push_of_some _ (Heap.get?_push_size _ rfl))
  have e2 : (mz5 z0.heap a b).get? (mz1 z0.heap a).objs.size = some _ := Heap.get?_push_of_some _ (Heap.get?_push_of_some _ (Heap.get?_push_of_some _ (Heap.get?_push_size _ rfl)))
  have e1 : (mz5 z0.heap a b).get? z0.heap.objs.size = some _ := Heap.get?_push_of_some _ (Heap.get?_push_of_some _ (Heap.get?_push_of_some _ (Heap.get?_push_of_some _ (Heap.get?_push_size _ rfl))))
  show _ ∧ _
  rw [n2, n3, n4] at e5
  rw [n1, n2] at e3
  rw [n3] at e4
  rw [n1] at e2
  rw [n4]
  refine ⟨⟨_, e5, rfl⟩, q _ e5 e3 e4 ⟨_, e1, rfl, rfl⟩ ⟨_, e2, rfl, rfl⟩ n5 fun c o x => ?_⟩
  exact Heap.get?_push_of_some _ (Heap.get?_push_of_some _ (Heap.get?_push_of_some _ (Heap.get?_push_of_some _ (Heap.get?_push_of_some _ x))))
end
theorem sep_of {z TI TO i1 i2 a b : Addr} (D : ZipApart z TI TO i1 i2 a b) : ZipSep2 z TI TO i1 i2 [i1, a] [i2, b] := by
  obtain ⟨d1, d2, d3, d4, d5, d6, d7, d8, d9, d10, d11, d12, d13, d14, d15, d16, d17, d18⟩ := D
  refine ⟨d1, d2, d5, d6, by simp, ?_, ?_, d7, by simp, ?_, ?_, ?_, ?_⟩ <;> simp only [List.mem_cons, List.not_mem_nil, or_false, not_or]
  · exact ⟨d3.symm, d11.symm⟩
  · exact ⟨d8, d12.symm⟩
  · exact ⟨d4.symm, d15.symm⟩
  · exact ⟨d9, d16.symm⟩
  · exact ⟨d10, d17.symm⟩
  · exact ⟨d10.symm, d14.symm⟩
/-- the list at a and the tuple at b as they stand at each turn, the items in new pairs -/
def ItzM (K : PySem.W.Frag) (a b : Addr) : It :=
  ⟨fun i H => ∃ (xs ys : List V) (x y : V), SqL K H a xs ∧ SqT K H b ys ∧ xs[i]? = some x ∧ ys[i]? = some y,
    fun i H v H' => ∃ T x y, v = .ref T ∧ H T = none ∧ H' = upd H T (.tup [x, y]) ∧ (∀ xs, SqL K H a xs → xs[i]? = some x) ∧ ∀ ys, SqT K H b ys → ys[i]? = some y,
    fun i H => ∃ xs ys : List V, SqL K H a xs ∧ SqT K H b ys ∧ ((xs.length = i ∧ i ≤ ys.length) ∨ (ys.length = i ∧ i ≤ xs.length))⟩
theorem turn_mz {P : Program} {w : World} {K : PySem.W.Frag} {elts : List Expr} {kk : Nat} {tpos : Pos} {a b z TI TO i1 i2 : Addr} (D : ZipApart z TI TO i1 i2 a b) :
    Turn P w K (.Tuple elts kk tpos) (ItzM K a b) [z, TI, TO, i1, i2] z (fun i h => IsZip h z TI TO .none ∧ IsPair h TI (.ref i1) (.ref i2) ∧ (∃ x y, IsPair h TO x y) ∧ h.IsListIter i1 a i ∧ h.IsTupleIter i2 b i) where
  mem := by simp
  obj := fun i h q c hc => by
    obtain ⟨q1, q2, ⟨x, y, q3⟩, ⟨o1, e1, _, d1⟩, ⟨o2, e2, _, d2⟩⟩ := q
    simp only [List.mem_cons, List.not_mem_nil, or_false] at hc
    rcases hc with rfl | rfl | rfl | rfl | rfl
    · exact ⟨_, q1, fun v t => nomatch t⟩
    · exact ⟨_, q2, fun v t => nomatch t⟩
    · exact ⟨_, q3, fun v t => nomatch t⟩
    · exact ⟨o1, e1, fun v t => by rw [d1] at t; cases t⟩
    · exact ⟨o2, e2, fun v t => by rw [d2] at t; cases t⟩
  keep := fun i h h' q k => by
    obtain ⟨q1, q2, ⟨x, y, q3⟩, q4, q5⟩ := q
    exact ⟨k z (by simp) _ q1, k TI (by simp) _ q2, ⟨x, y, k TO (by simp) _ q3⟩, q4.at fun o t => k i1 (by simp) o t, q5.at fun o t => k i2 (by simp) o t⟩
  item := by
    intro X hP hw hK hc i pins s0 σ H E I hf q hg
    subst hP hw hK
    obtain ⟨q1, q2, ⟨x0, y0, q3⟩, q4, q5⟩ := q
    obtain ⟨xs, ys, x, y, hqx, hqy, hx, hy⟩ := hg
    obtain ⟨us, rv, p, _⟩ := I.list hqx
    obtain ⟨vs, rv2, p2, _⟩ := I.tuple hqy
    obtain ⟨u, hu, ru⟩ := rv.get hx
    obtain ⟨v, hv, rv'⟩ := rv2.get hy
    have zl : z < s0.heap.objs.size := Heap.lt_size q1
    have hA : X.A.in1.handled = none := I.ok.hd hc
    refine wpAny_pyNext_zipD2_item (sep_of D) (Draws.list hA i1 a D.l1i1 us.toArray) (draws_tup hA i2 b D.l2i2 vs.toArray) q1 q2 q3 ⟨q4, p.isList⟩ ⟨q5, p2⟩ (by
      have := (List.getElem?_eq_some_iff.mp hu).1; simpa using this) (by
      have := (List.getElem?_eq_some_iff.mp hv).1; simpa using this) fun x1 x2 h1 tk g1 g2 g3 g4 g5 g6 g7 g8 hk => ?_
    have e1 : x1 = u := by
      have t : us[i]? = some x1 := by simpa using g1
      rw [hu] at t
      exact (Option.some.inj t).symm
    have e2 : x2 = v := by
      have t : vs[i]? = some x2 := by simpa using g2
      rw [hv] at t
      exact (Option.some.inj t).symm
    subst e1 e2
    refine ⟨_, rfl, wpAny_letOwnedTupleGo_zip (s := { s0 with heap := h1, toks := tk }) g3 fun h2 z2 sb => ?_⟩
    have t2 : h2.get? s0.heap.objs.size = some { cls := .type "tuple", data := .seq #[x1, x2] } := (sb.2 _ (Nat.ne_of_gt zl)).trans g7
    have new : ObjOk X.prog X.w (upd H s0.heap.objs.size (.tup [x, y])) h2 s0.heap.objs.size (.tup [x, y]) :=
      ⟨by show 2 ≤ sizeLine; decide, [x1, x2], .cons ru (.cons rv' .nil), ⟨_, t2, rfl, _, rfl⟩⟩
    have I1 : Inv X pins σ (upd H s0.heap.objs.size (.tup [x, y])) { s0 with heap := h2, toks := tk } :=
      I.turnedNew (t' := tk) (ch := [z, TI, TO, i1, i2]) (fun c o hb t => (sb.2 c (fun t' => hb (by simp [t']))).trans (hk c o (fun t' => hb (by simp [t'])) (fun t' => hb (by simp [t'])) (fun t' => hb (by simp [t'])) (fun t' => hb (by simp [t'])) t)) hf (Nat.le_refl _) new
    refine ⟨.ref s0.heap.objs.size, _, I1, rfl, ⟨_, x, y, rfl, I.hok.fresh (Nat.le_refl _), rfl, fun l hl => by rw [I.list_inj hl hqx]; exact hx, fun l hl => by rw [I.tuple_inj hl hqy]; exact hy⟩, ⟨z2, ?_, ⟨x1, x2, ?_⟩, ?_, ?_⟩, fun c hcm => ?_⟩
    · exact (sb.2 _ D.TIz).trans (hk _ _ D.TIz D.TITO D.TIi1 D.TIi2 q2)
    · exact (sb.2 _ D.TOz).trans g4
    · exact g5.1.at fun o t => (sb.2 _ D.i1z).trans t
    · exact g6.1.at fun o t => (sb.2 _ D.i2z).trans t
    · have hlt : c < s0.heap.objs.size := by
        simp only [List.mem_cons, List.not_mem_nil, or_false] at hcm
        rcases hcm with rfl | rfl | rfl | rfl | rfl
        · exact zl
        · exact Heap.lt_size q2
        · exact Heap.lt_size q3
        · obtain ⟨_, t, _⟩ := q4; exact Heap.lt_size t
        · obtain ⟨_, t, _⟩ := q5; exact Heap.lt_size t
      rw [upd_ne (Nat.ne_of_lt hlt)]
      exact (hf c hcm).1
  done := by
    intro X hP hw hK hc i pins s0 σ H E I hf q hg
    subst hP hw hK
    obtain ⟨q1, q2, ⟨x0, y0, q3⟩, q4, q5⟩ := q
    obtain ⟨xs, ys, hqx, hqy, hend⟩ := hg
    obtain ⟨us, rv, p, _⟩ := I.list hqx
    obtain ⟨vs, rv2, p2, _⟩ := I.tuple hqy
    have l1 := rv.length
    have l2 := rv2.length
    have hA : X.A.in1.handled = none := I.ok.hd hc
    refine wpAny_pyNext_zipD2_end (i := i) (sep_of D) (Draws.list hA i1 a D.l1i1 us.toArray) (draws_tup hA i2 b D.l2i2 vs.toArray) q1 q2 q3 ⟨q4, p.isList⟩ ⟨q5, p2⟩ ?_ ?_ ?_ fun h1 tk hk => ⟨rfl, ?_⟩
    · simp only [List.size_toArray]; omega
    · simp only [List.size_toArray]; omega
    · simp only [List.size_toArray]; omega
    · exact I.turnedL (t' := tk) (ch := [z, TI, TO, i1, i2]) (fun c o hb t => hk c o (fun t' => hb (by simp [t'])) (fun t' => hb (by simp [t'])) (fun t' => hb (by simp [t'])) (fun t' => hb (by simp [t'])) t) hf
  self := fun A i s0 Q E q h => wpAny_pyIter_zip q.1 h
def iZipM (K : PySem.W.Frag) (ta : TA) : TI := fun σ H R => ta σ H fun vs H1 => ∃ a b xs ys, vs = [.ref a, .ref b] ∧ SqL K H1 a xs ∧ SqT K H1 b ys ∧ R (ItzM K a b) H1
theorem pi_zipM {X : Cx} {K : PySem.W.Frag} {e e2 : Expr} {ta : TA} {p pos tpos : Pos} {elts : List Expr} {kk : Nat} (hg : Gl X "zip") (hm : X.mg "zip" = none) (ha : PA X [e, e2] ta) (hK : X.K = K := by rfl)
    (h1 : starEach [e, e2] X.env = (false, eval e X.env) :: starEach [e2] X.env := by rfl) (h2 : (backTo pos (starEach [e2] X.env)).any (·.1) = false := by rfl) :
    PI X (.Tuple elts kk tpos) (.Call (.Name "zip" p) [e, e2] [] pos) (iZipM K ta) := by
  subst hK
  refine ⟨fun pins z0 σ H R I h => ?_⟩
  refine Call_ (ld_blt I hg hm PyProof.Rows.boot_zip (PyProof.Rows.callWith_type1 (thn (ha.run pos pins z0 σ H _ I h) fun us z1 ⟨vs, H1, I1, r1, q1⟩ => ?_) h1 h2))
  obtain ⟨a, b, xs, ys, rfl, hqx, hqy, q⟩ := q1
  obtain ⟨u1, u2, rfl, r1', r2'⟩ := vals2 r1
  cases r1'
  cases r2'
  obtain ⟨its, rv, p1, _⟩ := I1.list hqx
  obtain ⟨its2, rv2, p2, _⟩ := I1.tuple hqy
  obtain ⟨o2, ho2, _⟩ := id p2
  refine call_mz p1.isList (show z1.heap.IsTuple b its2.toArray from p2) fun h' g1 g2 g3 g4 g5 g6 hk => wpAny_pyIter_zip g1 ?_
  have I2 : Inv X pins σ H1 { z1 with heap := h' } := I1.kept (t' := z1.toks) hk
  refine ⟨z1.heap.objs.size + 4, [z1.heap.objs.size + 4, z1.heap.objs.size + 2, z1.heap.objs.size + 3, z1.heap.objs.size, z1.heap.objs.size + 1], _, _, H1, rfl, I2, turn_mz (PySem.W.ktu_apart z1.heap.objs.size a b p1.lt (Heap.lt_size ho2)), ⟨g1, g2, ⟨_, _, g3⟩, g4, g5⟩, fun c hc => ?_, q⟩
  have hle : z1.heap.objs.size ≤ c := by
    simp only [List.mem_cons, List.not_mem_nil, or_false] at hc
    rcases hc with rfl | rfl | rfl | rfl | rfl
    · exact Nat.le_add_right _ _
    · exact Nat.le_add_right _ _
    · exact Nat.le_add_right _ _
    · exact Nat.le_refl _
    · exact Nat.le_add_right _ _
  exact I1.fpOk hle (I1.hok.fresh hle)
theorem walk_mz {K : PySem.W.Frag} {a b : Addr} {xs ys : List V} (hl : xs.length = ys.length) : Walk (ItzM K a b) xs.length (fun H => SqL K H a xs ∧ SqT K H b ys) (YPair (fun i => xs[i]?) (fun i => ys[i]?)) := by
  refine ⟨fun i _ hi q => ?_, fun _ q => ⟨xs, ys, q.1, q.2, .inl ⟨rfl, by omega⟩⟩, fun i H v H' _ q y => ?_⟩
  · have h2 : i < ys.length := by omega
    exact ⟨xs, ys, xs[i], ys[i], q.1, q.2, by simp [hi], by simp [h2]⟩
  · obtain ⟨T, x, y', h1, h2, h3, h4, h5⟩ := y
    exact ⟨T, x, y', h1, h2, h3, h4 _ q.1, h5 _ q.2⟩
end Wd

set_option Elab.async false
set_option linter.all false
set_option maxRecDepth 100000
set_option maxHeartbeats 4000000
/-! dict(zip(a list, a tuple)). -/
namespace Wd
open PySem PySem.Spec PyProof.Rows L2 RZ Builtin
section
variable {prog : Program} {w : World} {A : Around} {E : Value → Shared → Prop} {z0 : Shared} {z TI TO T i1 i2 : Addr} {fp1 fp2 : List Addr} {f : Bool} {oT : Obj} {n1 n2 i : Nat} {P1 P2 : Nat → Value → Prop} {St1 St2 : Nat → Heap → Prop}
/-- the next pair, while the one ahead is still held -/
theorem held_item {Q : Value → Shared → Prop} (S : ZipSep2 z TI TO i1 i2 fp1 fp2) (D1 : Draws prog w A i1 fp1 n1 P1 St1) (D2 : Draws prog w A i2 fp2 n2 P2 St2)
    (hz : IsZipHeld z0.heap z TI TO T f) (hT : z0.heap.get? T = some oT) (hTI : IsPair z0.heap TI (.ref i1) (.ref i2)) (q1 : St1 i z0.heap) (q2 : St2 i z0.heap) (lt1 : i < n1) (lt2 : i < n2)
    (q : ∀ x1 x2 h' tk, P1 i x1 → P2 i x2 → IsZipHeld h' z TI TO T true → St1 (i + 1) h' → St2 (i + 1) h' → IsPair h' z0.heap.objs.size x1 x2 → h'.objs.size = z0.heap.objs.size + 1 →
      (∀ c o, c ≠ z → c ≠ i1 → c ≠ i2 → z0.heap.get? c = some o → h'.get? c = some o) → Q (.ref z0.heap.objs.size) { z0 with heap := h', toks := tk }) :
    wpAny (model prog w) A (Builtin.«zip.__next__» ⟨[.ref z], []⟩) (fun fin z1 => ∃ v, fin = .done (.ret v) ∧ Q v z1) E z0 := by
  obtain ⟨hp, gn, df, tk0, os⟩ := z0
  show wpAny _ _ (field (.ref z) 2 >>= _) _ _ _
  refine wpAny_bind (wpAny_field hz rfl (x := Value.bool false) rfl ?_)
  show wpAny _ _ (field (.ref z) 3 >>= _) _ _ _
  refine wpAny_bind (wpAny_field hz rfl (x := Value.ref TI) rfl ?_)
  refine wpAny_bind (wpAny_seqItems hTI rfl ?_)
  show wpAny _ _ (SmallTypes.ownedTupleIsFree (.ref z) >>= _) _ _ _
  refine wpAny_bind (wpAny_tupleHeld_zip hz hT fun k1 hz1 b1 => ?_)
  replace b1 : Heap.SameBut z hp k1 := b1
  simp only [Bool.false_eq_true, if_false]
  refine wpAny_bind ?_
  rw [← Array.forIn_toList]
  simp only [List.forIn_cons, List.forIn_nil]
  refine wpAny_bind (wpAny_bind (wpAny_holding ?_))
  show wpAny _ _ (SmallTypes.nextOf (.ref i1) >>= _) _ _ _
  refine wpAny_bind (D1.item i ⟨k1, gn, df, tk0, os⟩ _ _ lt1 (D1.over q1 b1 S.zf1) fun x1 k2 t2 p1 q1' b2 => wpAny_pure (wpAny_pure ?_))
  replace b2 : Heap.SameBut i1 k1 k2 := b2
  refine wpAny_bind (wpAny_bind (wpAny_holding ?_))
  show wpAny _ _ (SmallTypes.nextOf (.ref i2) >>= _) _ _ _
  refine wpAny_bind (D2.item i ⟨k2, gn, df, t2, os⟩ _ _ lt2 (D2.over (D2.over q2 b1 S.zf2) b2 S.sep1_2) fun x2 k3 t3 p2 q2' b3 => wpAny_pure (wpAny_pure (wpAny_pure ?_)))
  replace b3 : Heap.SameBut i2 k2 k3 := b3
  show wpAny _ _ (newTuple [x1, x2] >>= _) _ _ ⟨k3, gn, df, t3, os⟩
  refine wpAny_bind (wpAny_newTuple ?_)
  have sz : k3.objs.size = hp.objs.size := by rw [b3.1, b2.1, b1.1]
  have hz3 : IsZipHeld k3 z TI TO T true := b3.extBut _ _ S.zi2 (b2.extBut _ _ S.zi1 hz1)
  have up : ∀ c o, c ≠ z → c ≠ i1 → c ≠ i2 → hp.get? c = some o → k3.get? c = some o := fun c o c1 c2 c3 e => b3.extBut _ _ c3 (b2.extBut _ _ c2 (b1.extBut _ _ c1 e))
  have q13 : St1 (i + 1) k3 := D1.over q1' b3 S.sep2_1
  refine wpAny_pure ⟨_, rfl, ?_⟩
  show Q (.ref k3.objs.size) _
  have hp4 : IsPair (k3.push { cls := .type "tuple", data := .seq #[x1, x2] }) k3.objs.size x1 x2 := Heap.get?_push_size _ rfl
  have sz4 : (k3.push { cls := .type "tuple", data := .seq #[x1, x2] }).objs.size = k3.objs.size + 1 := Heap.size_push ..
  have k4 : ∀ c o, k3.get? c = some o → (k3.push { cls := .type "tuple", data := .seq #[x1, x2] }).get? c = some o := fun c o e => Heap.get?_push_of_some _ e
  rw [sz] at hp4 sz4 ⊢
  exact q x1 x2 _ t3 p1 p2 (k4 _ _ hz3) (D1.frame _ _ _ q13 fun b _ o e => k4 _ _ e) (D2.frame _ _ _ q2' fun b _ o e => k4 _ _ e) hp4 sz4 fun c o c1 c2 c3 e => k4 _ _ (up c o c1 c2 c3 e)
theorem held_end {Q : Fin → Shared → Prop} (S : ZipSep2 z TI TO i1 i2 fp1 fp2) (D1 : Draws prog w A i1 fp1 n1 P1 St1) (D2 : Draws prog w A i2 fp2 n2 P2 St2)
    (hz : IsZipHeld z0.heap z TI TO T f) (hT : z0.heap.get? T = some oT) (hTI : IsPair z0.heap TI (.ref i1) (.ref i2)) (q1 : St1 i z0.heap) (q2 : St2 i z0.heap) (le1 : i ≤ n1) (le2 : i ≤ n2) (hend : i = n1 ∨ i = n2)
    (g : ∀ h' tk e, (∀ c o, c ≠ z → c ≠ i1 → c ≠ i2 → z0.heap.get? c = some o → h'.get? c = some o) → (∃ o, h'.get? e = some o ∧ o.cls = .type "StopIteration") → E (.ref e) { z0 with heap := h', toks := tk }) :
    wpAny (model prog w) A (Builtin.«zip.__next__» ⟨[.ref z], []⟩) Q E z0 := by
  obtain ⟨hp, gn, df, tk0, os⟩ := z0
  show wpAny _ _ (field (.ref z) 2 >>= _) _ _ _
  refine wpAny_bind (wpAny_field hz rfl (x := Value.bool false) rfl ?_)
  show wpAny _ _ (field (.ref z) 3 >>= _) _ _ _
  refine wpAny_bind (wpAny_field hz rfl (x := Value.ref TI) rfl ?_)
  refine wpAny_bind (wpAny_seqItems hTI rfl ?_)
  show wpAny _ _ (SmallTypes.ownedTupleIsFree (.ref z) >>= _) _ _ _
  refine wpAny_bind (wpAny_tupleHeld_zip hz hT fun k1 hz1 b1 => ?_)
  replace b1 : Heap.SameBut z hp k1 := b1
  simp only [Bool.false_eq_true, if_false]
  refine wpAny_bind ?_
  rw [← Array.forIn_toList]
  simp only [List.forIn_cons, List.forIn_nil]
  refine wpAny_bind (wpAny_bind (wpAny_holding ?_))
  show wpAny _ _ (SmallTypes.nextOf (.ref i1) >>= _) _ _ _
  by_cases lt1 : i < n1
  · have e2 : i = n2 := by omega
    refine wpAny_bind (D1.item i ⟨k1, gn, df, tk0, os⟩ _ _ lt1 (D1.over q1 b1 S.zf1) fun x1 k2 t2 p1 q1' b2 => wpAny_pure (wpAny_pure ?_))
    replace b2 : Heap.SameBut i1 k1 k2 := b2
    refine wpAny_bind (wpAny_bind (wpAny_holding ?_))
    show wpAny _ _ (SmallTypes.nextOf (.ref i2) >>= _) _ _ _
    refine wpAny_bind (D2.done ⟨k2, gn, df, t2, os⟩ _ _ (by rw [← e2]; exact D2.over (D2.over q2 b1 S.zf2) b2 S.sep1_2) fun k3 e b3 he => ?_)
    replace b3 : Heap.ExtBut i2 k2 k3 := b3
    exact g k3 t2 e (fun c o c1 c2 c3 t => b3 _ _ c3 (b2.extBut _ _ c2 (b1.extBut _ _ c1 t))) he
  · have e1 : i = n1 := by omega
    refine wpAny_bind (D1.done ⟨k1, gn, df, tk0, os⟩ _ _ (by rw [← e1]; exact D1.over q1 b1 S.zf1) fun k2 e b2 he => ?_)
    replace b2 : Heap.ExtBut i1 k1 k2 := b2
    exact g k2 tk0 e (fun c o c1 c2 _ t => b2 _ _ c2 (b1.extBut _ _ c1 t)) he
theorem next_held_item {Q : Option Value → Shared → Prop} (S : ZipSep2 z TI TO i1 i2 fp1 fp2) (D1 : Draws prog w A.in1 i1 fp1 n1 P1 St1) (D2 : Draws prog w A.in1 i2 fp2 n2 P2 St2)
    (hz : IsZipHeld z0.heap z TI TO T f) (hT : z0.heap.get? T = some oT) (hTI : IsPair z0.heap TI (.ref i1) (.ref i2)) (q1 : St1 i z0.heap) (q2 : St2 i z0.heap) (lt1 : i < n1) (lt2 : i < n2)
    (q : ∀ x1 x2 h' tk, P1 i x1 → P2 i x2 → IsZipHeld h' z TI TO T true → St1 (i + 1) h' → St2 (i + 1) h' → IsPair h' z0.heap.objs.size x1 x2 → h'.objs.size = z0.heap.objs.size + 1 →
      (∀ c o, c ≠ z → c ≠ i1 → c ≠ i2 → z0.heap.get? c = some o → h'.get? c = some o) → Q (some (.ref z0.heap.objs.size)) { z0 with heap := h', toks := tk }) :
    wpAny (model prog w) A (pyNext (.ref z)) Q E z0 := by
  have ty : z0.TypeIs (.ref z) "zip" := ⟨_, hz, rfl⟩
  unfold pyNext
  refine wpAny_bind (wpAny_attempt (wpAny_callSpecial?_slot (name := Str.ofString "__next__") ty F.slot_zip_next (wpAny_call_entry F.slot_zip_next ty F.entry_zip_next ?_ (F.args_zip_next_1 _))))
  exact held_item S D1 D2 hz hT hTI q1 q2 lt1 lt2 fun x1 x2 h' tk p1 p2 a1 a2 a3 a4 a5 a6 => wpAny_pure (q x1 x2 h' tk p1 p2 a1 a2 a3 a4 a5 a6)
theorem next_held_end {Q : Option Value → Shared → Prop} (S : ZipSep2 z TI TO i1 i2 fp1 fp2) (D1 : Draws prog w A.in1 i1 fp1 n1 P1 St1) (D2 : Draws prog w A.in1 i2 fp2 n2 P2 St2)
    (hz : IsZipHeld z0.heap z TI TO T f) (hT : z0.heap.get? T = some oT) (hTI : IsPair z0.heap TI (.ref i1) (.ref i2)) (q1 : St1 i z0.heap) (q2 : St2 i z0.heap) (le1 : i ≤ n1) (le2 : i ≤ n2) (hend : i = n1 ∨ i = n2)
    (q : ∀ h' tk, (∀ c o, c ≠ z → c ≠ i1 → c ≠ i2 → z0.heap.get? c = some o → h'.get? c = some o) → Q none { z0 with heap := h', toks := tk }) :
    wpAny (model prog w) A (pyNext (.ref z)) Q E z0 := by
  have ty : z0.TypeIs (.ref z) "zip" := ⟨_, hz, rfl⟩
  unfold pyNext
  refine wpAny_bind (wpAny_attempt (wpAny_callSpecial?_slot (name := Str.ofString "__next__") ty F.slot_zip_next (wpAny_call_entry F.slot_zip_next ty F.entry_zip_next ?_ (F.args_zip_next_1 _))))
  refine held_end S D1 D2 hz hT hTI q1 q2 le1 le2 hend fun h' tk e hk he => ?_
  obtain ⟨o, ho, hc⟩ := he
  exact wpAny_bind (wpAny_isInstance (T := "StopIteration") (b := true) ⟨o, ho, hc⟩ isSubtype_stop (wpAny_pure (q _ _ hk)))
end
section
variable {prog : Program} {w : World}
theorem pairs_mz (z TI TO i1 i2 a b : Addr) (D : ZipApart z TI TO i1 i2 a b) (xs ys : Array Value) (hl : xs.size = ys.size) :
    PairArg prog w "zip" z [z, TI, TO, i1, i2, a, b] [z, TO, i1, i2] xs.size (fun i k v => xs[i]? = some k ∧ ys[i]? = some v)
      (fun h => IsZip h z TI TO .none ∧ IsPair h TI (.ref i1) (.ref i2) ∧ (∃ c d, IsPair h TO c d) ∧ h.IsListIter i1 a 0 ∧ h.IsTupleIter i2 b 0 ∧ h.IsList a xs ∧ h.IsTuple b ys) where
  type := fun s q => ⟨_, q.1, rfl⟩
  notDict := by decide
  keep := fun h h' q k => by
    obtain ⟨q1, q2, ⟨c, d, q3⟩, q4, q5, q6, q7⟩ := q
    exact ⟨k _ _ q1, k _ _ q2, ⟨c, d, k _ _ q3⟩, q4.at fun o e => k _ o e, q5.at fun o e => k _ o e, q6.at fun o e => k _ o e, q7.at fun o e => k _ o e⟩
  there := fun h q c hc => by
    obtain ⟨q1, q2, ⟨_, _, q3⟩, ⟨o4, q4, _⟩, ⟨o5, q5, _⟩, ⟨o6, q6, _⟩, ⟨o7, q7, _⟩⟩ := q
    simp only [List.mem_cons, List.not_mem_nil, or_false] at hc
    rcases hc with rfl | rfl | rfl | rfl | rfl | rfl | rfl
    · exact ⟨_, q1⟩
    · exact ⟨_, q2⟩
    · exact ⟨_, q3⟩
    · exact ⟨_, q4⟩
    · exact ⟨_, q5⟩
    · exact ⟨_, q6⟩
    · exact ⟨_, q7⟩
  sub := fun c hc => by
    simp only [List.mem_cons, List.not_mem_nil, or_false] at hc ⊢
    rcases hc with rfl | rfl | rfl | rfl <;> simp
  noKeys := fun A s Q E hA q h => PySem.getAttrOr_miss_zip q.1 rfl rfl rfl PySem.zip_no_keys (by decide +kernel) hA h
  iter := fun A s d Q E hA q hd hdf h => by
    obtain ⟨q1, q2, ⟨c0, d0, q3⟩, q4, q5, q6, q7⟩ := q
    simp only [List.mem_cons, List.not_mem_nil, or_false, not_or] at hdf
    obtain ⟨dz, dTI, dTO, di1, di2, da, db⟩ := hdf
    have S := sep_of D
    have hA1 : A.in1.handled = none := hA
    have D1 := Draws.list (prog := prog) (w := w) hA1 i1 a D.l1i1 xs
    have D2 := draws_tup (prog := prog) (w := w) hA1 i2 b D.l2i2 ys
    refine wpAny_pyIter_zip q1 (h z [z, TO, i1, i2] (fun i h => IsPair h TI (.ref i1) (.ref i2) ∧ (h.IsListIter i1 a i ∧ h.IsList a xs) ∧ (h.IsTupleIter i2 b i ∧ h.IsTuple b ys) ∧
      ((IsZip h z TI TO .none ∧ ∃ c d, IsPair h TO c d) ∨ ∃ T f oT, IsZipHeld h z TI TO T f ∧ h.get? T = some oT ∧ T ≠ z ∧ T ≠ i1 ∧ T ≠ i2 ∧ T ≠ d)) s.heap s.toks ?_
      ⟨q2, ⟨q4, q6⟩, ⟨q5, q7⟩, .inl ⟨q1, c0, d0, q3⟩⟩ (fun _ _ e => e) fun b hb => .inl hb)
    refine ⟨fun hm => ?_, fun i g1 g2 q k => ?_, fun i s1 Q1 E1 hi q hds hQ => ?_, fun s1 Q1 E1 q hQ => ?_⟩
    · simp only [List.mem_cons, List.not_mem_nil, or_false] at hm
      rcases hm with e | e | e | e
      · exact dz e
      · exact dTO e
      · exact di1 e
      · exact di2 e
    · obtain ⟨r1, r2, r3, r4⟩ := q
      refine ⟨k _ _ (Ne.symm dTI) r1, ⟨r2.1.at fun o e => k _ o (Ne.symm di1) e, r2.2.at fun o e => k _ o (Ne.symm da) e⟩, ⟨r3.1.at fun o e => k _ o (Ne.symm di2) e, r3.2.at fun o e => k _ o (Ne.symm db) e⟩, ?_⟩
      rcases r4 with ⟨r4, c, d1, r5⟩ | ⟨T, f, oT, r4, r5, t1, t2, t3, t4⟩
      · exact .inl ⟨k _ _ (Ne.symm dz) r4, c, d1, k _ _ (Ne.symm dTO) r5⟩
      · exact .inr ⟨T, f, oT, k _ _ (Ne.symm dz) r4, k _ _ t4 r5, t1, t2, t3, t4⟩
    · obtain ⟨r1, r2, r3, r4⟩ := q
      have lt : ∀ {c o}, s1.heap.get? c = some o → s1.heap.objs.size ≠ c := fun e => Nat.ne_of_gt (Heap.lt_size e)
      have m1 : s1.heap.objs.size ≠ i1 := let ⟨_, e, _⟩ := r2.1; lt e
      have m2 : s1.heap.objs.size ≠ i2 := let ⟨_, e, _⟩ := r3.1; lt e
      have hi2 : i < ys.size := by omega
      rcases r4 with ⟨r4, c, d1, r5⟩ | ⟨T, f, oT, r4, r5, t1, t2, t3, t4⟩
      · refine wpAny_pyNext_zipD2_item S D1 D2 r4 r1 r5 r2 r3 hi hi2 fun x1 x2 h' tk p1 p2 a1 a2 a3 a4 a5 a6 hk => ?_
        exact hQ s1.heap.objs.size x1 x2 h' tk ⟨p1, p2⟩ (.inl ⟨_, a5, rfl, _, rfl⟩)
          ⟨hk _ _ D.TIz D.TITO D.TIi1 D.TIi2 r1, a3, a4, .inr ⟨s1.heap.objs.size, false, _, a1, a5, lt r4, m1, m2, Nat.ne_of_gt hds⟩⟩
          fun c o hc e => hk c o (fun t => hc (by simp [t])) (fun t => hc (by simp [t])) (fun t => hc (by simp [t])) (fun t => hc (by simp [t])) e
      · refine next_held_item S D1 D2 r4 r5 r1 r2 r3 hi hi2 fun x1 x2 h' tk p1 p2 a1 a3 a4 a5 a6 hk => ?_
        exact hQ s1.heap.objs.size x1 x2 h' tk ⟨p1, p2⟩ (.inl ⟨_, a5, rfl, _, rfl⟩)
          ⟨hk _ _ D.TIz D.TIi1 D.TIi2 r1, a3, a4, .inr ⟨T, true, oT, a1, hk _ _ t1 t2 t3 r5, t1, t2, t3, t4⟩⟩
          fun c o hc e => hk c o (fun t => hc (by simp [t])) (fun t => hc (by simp [t])) (fun t => hc (by simp [t])) e
    · obtain ⟨r1, r2, r3, r4⟩ := q
      rcases r4 with ⟨r4, c, d1, r5⟩ | ⟨T, f, oT, r4, r5, t1, t2, t3, t4⟩
      · exact wpAny_pyNext_zipD2_end S D1 D2 r4 r1 r5 r2 r3 (Nat.le_refl _) (by omega) (.inl rfl) fun h' tk hk => hQ h' tk fun c o hc e => hk c o (fun t => hc (by simp [t])) (fun t => hc (by simp [t])) (fun t => hc (by simp [t])) (fun t => hc (by simp [t])) e
      · exact next_held_end S D1 D2 r4 r5 r1 r2 r3 (Nat.le_refl _) (by omega) (.inl rfl) fun h' tk hk => hQ h' tk fun c o hc e => hk c o (fun t => hc (by simp [t])) (fun t => hc (by simp [t])) (fun t => hc (by simp [t])) e
end
/-- dict(zip(xs, ys)): the keys a list, the values a tuple as long -/
def tDictZ (K : PySem.W.Frag) (ta : TA) : TE := fun σ H Q => ta σ H fun vs H1 => ∃ (a b : Addr) (ks : List Key) (ys : List V), vs = [.ref a, .ref b] ∧ SqL K H1 a (ks.map kV) ∧ SqT K H1 b ys ∧ ks.length = ys.length ∧ ∀ p, H1 p = none → Q (.ref p) (upd H1 p (.dK (mergeK [] (ks.zip ys))))
theorem kv_zip : ∀ {ks : List Key} {ys : List V} {vs : List Value}, Vals ys vs → ks.length = ys.length → KV (ks.zip ys) (ks.zip vs)
  | [], _, _, _, _ => .nil
  | k :: ks, _, _, .cons h r, e => .cons ⟨rfl, h⟩ (kv_zip r (by simpa using e))
theorem pe_dictZ {X : Cx} {K : PySem.W.Frag} {e e2 : Expr} {ta : TA} {p p2 pos pos2 : Pos} (hc : X.calm = true) (hg : Gl X "dict") (hm : X.mg "dict" = none) (hg2 : Gl X "zip") (hm2 : X.mg "zip" = none) (ha : PA X [e, e2] ta) (hK : X.K = K := by rfl)
    (h1 : starEach [e, e2] X.env = (false, eval e X.env) :: starEach [e2] X.env := by rfl) (h2 : (backTo pos2 (starEach [e2] X.env)).any (·.1) = false := by rfl)
    (h3 : starEach [.Call (.Name "zip" p2) [e, e2] [] pos2] X.env = (false, eval (.Call (.Name "zip" p2) [e, e2] [] pos2) X.env) :: starEach [] X.env := by rfl) :
    PE X (.Call (.Name "dict" p) [.Call (.Name "zip" p2) [e, e2] [] pos2] [] pos) (tDictZ K ta) := by
  subst hK
  refine ⟨fun pins z0 σ H Q I h => ?_⟩
  refine Call_ (ld_blt I hg hm bt_dict (PyProof.Rows.callWith_type1 (args_cons ?_ h3) h3))
  refine Call_ (ld_blt I hg2 hm2 PyProof.Rows.boot_zip (PyProof.Rows.callWith_type1 (thn (ha.run pos2 pins z0 σ H _ I h) fun us z1 ⟨vs, H1, I1, r1, q1⟩ => ?_) h1 h2))
  obtain ⟨a, b, ks, ys, rfl, hqx, hqy, hlen, q⟩ := q1
  obtain ⟨u1, u2, rfl, r1', r2'⟩ := vals2 r1
  cases r1'
  cases r2'
  obtain ⟨its, rv, p1, hz1⟩ := I1.list hqx
  obtain ⟨its2, rv2, p2, _⟩ := I1.tuple hqy
  obtain ⟨o2, ho2, _⟩ := id p2
  have l1 : its.length = ks.length := by rw [← rv.length, List.length_map]
  have l2 : its2.length = ys.length := rv2.length.symm
  refine call_mz p1.isList (show z1.heap.IsTuple b its2.toArray from p2) fun h' g1 g2 g3 g4 g5 g6 hk => args_nil ?_
  have I2 : Inv X pins σ H1 { z1 with heap := h' } := I1.kept (t' := z1.toks) hk
  have D := PySem.W.ktu_apart z1.heap.objs.size a b p1.lt (Heap.lt_size ho2)
  have hz : ks.length ≤ sizeLine := by rw [List.length_map] at hz1; exact hz1
  refine call_dict_pairs (knd := mixKind X.prog X.w) (kvs := ks.zip its2) (pairs_mz _ _ _ _ _ a b D its.toArray its2.toArray (by simp; omega)) (I2.ok.hd hc) ⟨g1, g2, ⟨_, _, g3⟩, g4, g5, p1.isList.at fun o t => hk _ _ t, (show z1.heap.IsTuple b its2.toArray from p2).at fun o t => hk _ _ t⟩ ⟨by
    rw [List.length_zip]; simp; omega, fun i key v hr => ?_⟩ (by simp; omega) fun h2 tk hd' k2 => ?_
  · obtain ⟨t1, t2⟩ := hr
    have t1' : its[i]? = some key := by simpa using t1
    have t2' : its2[i]? = some v := by simpa using t2
    have hi : i < ks.length := by rw [← l1]; exact (List.getElem?_eq_some_iff.mp t1').1
    refine ⟨ks[i], ?_, ?_⟩
    · rw [List.getElem?_zip_eq_some]
      exact ⟨List.getElem?_eq_getElem hi, t2'⟩
    · obtain ⟨u, hu, ru⟩ := rv.get (i := i) (x := kV ks[i]) (by rw [List.getElem?_map, List.getElem?_eq_getElem hi]; rfl)
      rw [t1'] at hu
      cases hu
      exact kV_is (P := X.prog) (w := X.w) ru
  · have hbig : (h'.objs.size == sysModules) = false := beq_eq_false_iff_ne.mpr (Nat.ne_of_gt I2.big)
    have hlen2 : (mergeK [] (ks.zip ys)).length ≤ sizeLine := by
      refine Nat.le_trans (length_mergeK _ []) ?_
      rw [List.length_nil, Nat.zero_add, List.length_zip]
      omega
    have fresh : ∀ c o, z1.heap.get? c = some o → h2.get? c = some o := fun c o t => k2 c o (fun hm => by
      have hlt := Heap.lt_size t
      simp only [List.mem_cons, List.not_mem_nil, or_false] at hm
      rcases hm with rfl | rfl | rfl | rfl
      · exact absurd hlt (Nat.not_lt_of_le (Nat.le_add_right _ _))
      · exact absurd hlt (Nat.not_lt_of_le (Nat.le_add_right _ _))
      · exact absurd hlt (Nat.lt_irrefl _)
      · exact absurd hlt (Nat.not_lt_of_le (Nat.le_add_right _ _))) (hk c o t)
    have hle : z1.heap.objs.size ≤ h'.objs.size := by rw [g6]; exact Nat.le_add_right _ _
    refine ⟨.ref h'.objs.size, upd H1 h'.objs.size (.dK (mergeK [] (ks.zip ys))), ?_, rfl, q _ (I1.hok.fresh hle)⟩
    exact I1.laid (t' := tk) fresh hle (show ObjOk X.prog X.w _ _ _ (.dK (mergeK [] (ks.zip ys))) from ⟨hlen2, hbig, merged [] (ks.zip its2), KV.merge (kv_zip rv2 hlen) .nil, hd'⟩)
end Wd

set_option Elab.async false
set_option linter.all false
set_option maxRecDepth 100000
set_option maxHeartbeats 4000000
/-! What rooms bear, as plain data. -/
namespace Wd
open PySem PySem.Spec PyProof.Rows L2
def intsKv (rooms : List Str) (g : Str → Int) : List (Key × V) := rooms.map fun r => (.inr r, .int (g r))
theorem intsKv_keys (rooms : List Str) (g : Str → Int) : (intsKv rooms g).map (·.1) = rooms.map Sum.inr := by
  unfold intsKv
  rw [List.map_map]
  rfl
theorem intsKv_at {g : Str → Int} {r : Str} : ∀ {rooms : List Str}, r ∈ rooms → valV (intsKv rooms g) (.inr r) = some (.int (g r))
  | x :: rooms, h => by
    by_cases e : x = r
    · rw [e]
      exact valV_pos rfl
    · have e' : ¬ ((Sum.inr x : Key) = .inr r) := fun z => e (Sum.inr.inj z)
      rw [show intsKv (x :: rooms) g = (.inr x, .int (g x)) :: intsKv rooms g from rfl, valV_neg e']
      rcases List.mem_cons.mp h with z | z
      · exact absurd z.symm e
      · exact intsKv_at z
theorem intsKv_ext {rooms : List Str} {f g : Str → Int} (h : ∀ r ∈ rooms, f r = g r) : intsKv rooms f = intsKv rooms g := by
  unfold intsKv
  exact List.map_congr_left fun r hr => by rw [h r hr]
theorem intsKv_put {g : Str → Int} {r : Str} {v : Int} {rooms : List Str} (h : r ∈ rooms) : putK (intsKv rooms g) (.inr r) (.int v) = intsKv rooms fun q => if q = r then v else g q := by
  unfold putK
  have ha : (intsKv rooms g).any (fun kv => decide (kv.1 = (.inr r : Key))) = true := by
    rw [List.any_eq_true]
    exact ⟨(.inr r, .int (g r)), List.mem_map.mpr ⟨r, h, rfl⟩, by simp⟩
  rw [if_pos ha]
  unfold intsKv
  rw [List.map_map]
  refine List.map_congr_left fun q _ => ?_
  by_cases e : q = r
  · subst e
    simp
  · have : ¬ ((Sum.inr q : Key) = .inr r) := fun z => e (Sum.inr.inj z)
    simp [e, this]
theorem mergeK_new : ∀ {more acc : List (Key × V)}, ((acc ++ more).map (·.1)).Nodup → mergeK acc more = acc ++ more
  | [], acc, _ => by rw [List.append_nil]; rfl
  | x :: more, acc, n => by
    have hf : valV acc x.1 = none := valV_off fun m => by
      rw [List.map_append, List.map_cons] at n
      exact (List.nodup_append.mp n).2.2 _ m _ List.mem_cons_self rfl
    show mergeK (putK acc x.1 x.2) more = _
    rw [putK_new _ hf, mergeK_new (by rw [List.append_assoc]; exact n), List.append_assoc]
    rfl
def addAt (g : Str → Int) (r : Str) (h : Int) : Str → Int := fun q => if q = r then g r + h else g q
def whereKv (x : HallH) (rs : List Str) : List (Key × V) := (x.walkers.zip rs).map fun z => (.inr z.1.name, .str z.2)
def whereL : List (WalkH × Str) → Str → Option Str
  | [], _ => none
  | z :: r, q => if z.1.name = q then some z.2 else whereL r q
def whereH (x : HallH) (rs : List Str) (q : Str) : Str := (whereL (x.walkers.zip rs) q).getD q
theorem whereL_val {q : Str} : ∀ {zs : List (WalkH × Str)}, valV (zs.map fun z => ((.inr z.1.name : Key), V.str z.2)) (.inr q) = (whereL zs q).map V.str
  | [] => rfl
  | z :: r => by
    rw [List.map_cons]
    unfold whereL
    by_cases e : z.1.name = q
    · rw [if_pos e, e]
      exact valV_pos rfl
    · rw [if_neg e, valV_neg fun w => e (Sum.inr.inj w)]
      exact whereL_val
theorem where_val {x : HallH} {rs : List Str} {q : Str} : (valV (whereKv x rs) (.inr q)).getD (.str q) = .str (whereH x rs q) := by
  unfold whereKv whereH
  rw [whereL_val]
  cases whereL (x.walkers.zip rs) q <;> rfl
theorem whereL_in {q r : Str} : ∀ {zs : List (WalkH × Str)}, whereL zs q = some r → ∃ z ∈ zs, z.2 = r
  | z :: zs, h => by
    unfold whereL at h
    split at h
    · exact ⟨z, List.mem_cons_self, Option.some.inj h⟩
    · obtain ⟨y, hy, e⟩ := whereL_in h
      exact ⟨y, List.mem_cons_of_mem _ hy, e⟩
theorem whereL_none {q : Str} : ∀ {zs : List (WalkH × Str)}, whereL zs q = none → ∀ z ∈ zs, z.1.name ≠ q
  | z :: zs, h, y, hy => by
    unfold whereL at h
    split at h
    · cases h
    · rename_i e
      rcases List.mem_cons.mp hy with rfl | hy
      · exact e
      · exact whereL_none h y hy
theorem whereL_at {q : Str} {z : WalkH × Str} : ∀ {zs : List (WalkH × Str)}, (zs.map fun z => z.1.name).Nodup → z ∈ zs → whereL zs z.1.name = some z.2
  | y :: zs, n, h => by
    rw [List.map_cons] at n
    obtain ⟨n1, n2⟩ := List.nodup_cons.mp n
    unfold whereL
    rcases List.mem_cons.mp h with rfl | h
    · rw [if_pos rfl]
    · rw [if_neg fun e => n1 (by rw [e]; exact List.mem_map.mpr ⟨z, h, rfl⟩)]
      exact whereL_at (q := q) n2 h
theorem where_in {x : HallH} {t : Nat} {rs ps : List Str} (s : StandH x t rs ps) {q : Str} (h : q ∈ ps) : whereH x rs q ∈ x.rooms := by
  unfold whereH
  cases e : whereL (x.walkers.zip rs) q with
  | some r =>
    obtain ⟨z, hz, rfl⟩ := whereL_in e
    exact s.rin _ (List.of_mem_zip (a := z.1) (b := z.2) hz).2
  | none =>
    rcases s.pin q h with g | g
    · exact g
    · exfalso
      obtain ⟨w, hw, rfl⟩ := List.mem_map.mp g
      obtain ⟨i, hi, rfl⟩ := List.getElem_of_mem hw
      have hi2 : i < rs.length := by rw [s.rl]; exact hi
      have : (x.walkers[i], rs[i]) ∈ x.walkers.zip rs := by
        have e2 : (x.walkers.zip rs)[i]'(by rw [List.length_zip]; omega) = (x.walkers[i], rs[i]) := by rw [List.getElem_zip]
        rw [← e2]
        exact List.getElem_mem _
      exact whereL_none e _ this rfl
def folkW (a : Option Str) (zs : List (WalkH × Str)) (g : Str → Int) : Str → Int := zs.foldl (fun g z => if some z.1.name = a then g else addAt g z.2 z.1.heft) g
def stonesW (a : Option Str) (wh : Str → Str) (zs : List ((Str × Int) × Str)) (g : Str → Int) : Str → Int := zs.foldl (fun g z => if some z.2 = a then g else addAt g (wh z.2) z.1.2) g
def borneH (x : HallH) (rs ps : List Str) (a : Option Str) : Str → Int := stonesW a (whereH x rs) (x.stones.zip ps) (folkW a (x.walkers.zip rs) fun _ => 0)
theorem folkW_snoc (a : Option Str) (zs : List (WalkH × Str)) (z : WalkH × Str) (g : Str → Int) : folkW a (zs ++ [z]) g = if some z.1.name = a then folkW a zs g else addAt (folkW a zs g) z.2 z.1.heft := by
  unfold folkW
  rw [List.foldl_append]
  rfl
theorem stonesW_snoc (a : Option Str) (wh : Str → Str) (zs : List ((Str × Int) × Str)) (z : (Str × Int) × Str) (g : Str → Int) : stonesW a wh (zs ++ [z]) g = if some z.2 = a then stonesW a wh zs g else addAt (stonesW a wh zs g) (wh z.2) z.1.2 := by
  unfold stonesW
  rw [List.foldl_append]
  rfl
def optS (a : Option Str) : V := a.elim .non .str
theorem ne_opt {K : PySem.W.Frag} {H : Hp} {z : Str} {a : Option Str} {Q : VK} (q : Q (.bl (!decide (some z = a))) H) : rNeX K (.str z) (optS a) H Q := by
  cases a with
  | none =>
    refine .inl ⟨rfl, ?_⟩
    have e : decide (V.str z = optS none) = decide (some z = none) := by
      rw [decide_eq_false (by intro q; cases q), decide_eq_false (by intro q; cases q)]
    rw [e]
    exact q
  | some b =>
    refine .inl ⟨rfl, ?_⟩
    have e : decide (V.str z = optS (some b)) = decide (some z = some b) := by
      refine decide_eq_decide.mpr ⟨fun q => ?_, fun q => ?_⟩
      · injection q with q
        rw [q]
      · injection q with q
        rw [q]
        rfl
    rw [e]
    exact q
end Wd

set_option Elab.async false
set_option linter.all false
set_option maxRecDepth 100000
set_option maxHeartbeats 4000000
/-! Deeds as plain data. -/
namespace Wd
open PySem PySem.Spec PyProof.Rows L2
def metI (b : Int) (r : RowH) : Bool := decide (r.least ≤ b) && (match r.most with | none => true | some m => decide (b ≤ m))
def metB (g : Str → Int) (r : RowH) : Bool := metI (g r.room) r
def openB (g : Str → Int) (d : DoorH) : Bool := d.rows.all (metB g)
def farH (d : DoorH) (r : Str) : Option Str := if r = d.one then some d.other else if r = d.other ∧ d.way = "both" then some d.one else none
def goL (x : HallH) (g : Str → Int) (room : Str) : List Str := (x.doors.filter fun d => openB g d && (farH d room).isSome).map DoorH.name
def placedL (zs : List ((Str × Int) × Str)) (q : Str) : List Str := (zs.filter fun z => decide (z.2 = q)).map fun z => z.1.1
def deedD (z : List Str) : PyData := .tuple (z.map PyData.str)
def deedsOf (go lay lift : List Str) : List (List Str) := go.map (fun d => [(Str.ofString "go" : Str), d]) ++ lay.map (fun s => [(Str.ofString "lay" : Str), s]) ++ lift.map (fun s => [(Str.ofString "lift" : Str), s]) ++ [[(Str.ofString "wait" : Str)]]
theorem row_inv3 {N : Addr → Prop} {K : PySem.W.Frag} {H : Hp} {v : V} {r : RowH} (h : Dq N K H v r.data) : ∃ t : Addr, v = .ref t ∧ SqT K H t [.str r.room, .int r.least, optV r.most] := by
  cases h with
  | tup n e q =>
    cases q with
    | cons q1 q =>
      cases q with
      | cons q2 q =>
        cases q with
        | cons q3 q =>
          cases q
          cases q1
          cases q2
          refine ⟨_, rfl, ?_⟩
          cases hm : r.most with
          | none => rw [hm] at q3; cases q3; exact e
          | some m => rw [hm] at q3; cases q3; exact e
theorem leads_far (d : DoorH) (h : d.one ≠ d.other) (r : Str) : leadsOf1 d r = (farH d r).elim [] fun b => [(d.name, b)] := by
  unfold leadsOf1 farH
  by_cases c1 : r = d.one
  · have c2 : ¬ (d.way = "both" ∧ r = d.other) := fun z => h (c1.symm.trans z.2)
    rw [if_pos c1, if_pos c1, if_neg c2]
    rfl
  · by_cases c2 : d.way = "both" ∧ r = d.other
    · rw [if_neg c1, if_neg c1, if_pos c2, if_pos ⟨c2.2, c2.1⟩]
      rfl
    · rw [if_neg c1, if_neg c1, if_neg c2, if_neg fun z => c2 ⟨z.2, z.1⟩]
      rfl
/-- the doors that lead from a room and stand open -/
theorem leads_go {g : Str → Int} {p : Str → Bool} {r : Str} : ∀ {ds : List DoorH}, (∀ d ∈ ds, d.one ≠ d.other) → (∀ d ∈ ds, p d.name = openB g d) → ((leadsH ds r).filter fun z => p z.1).map Prod.fst = (ds.filter fun d => openB g d && (farH d r).isSome).map DoorH.name
  | [], _, _ => rfl
  | d :: ds, h, hp => by
    have ih := leads_go (g := g) (p := p) (r := r) (ds := ds) (fun z hz => h z (List.mem_cons_of_mem _ hz)) fun z hz => hp z (List.mem_cons_of_mem _ hz)
    have e : leadsH (d :: ds) r = leadsOf1 d r ++ leadsH ds r := by
      unfold leadsH
      rw [List.flatMap_cons]
    rw [e, leads_far d (h d List.mem_cons_self), List.filter_append, List.map_append, ih, List.filter_cons]
    cases hf : farH d r with
    | none => simp
    | some b =>
      have q := hp d List.mem_cons_self
      cases ho : openB g d with
      | true => rw [ho] at q; simp [q]
      | false => rw [ho] at q; simp [q]
theorem placed_count {q : Str} : ∀ {ss : List (Str × Int)} {ps : List Str}, ps.length = ss.length → (placedL (ss.zip ps) q).length = ps.count q
  | [], [], _ => rfl
  | s :: ss, p :: ps, h => by
    have ih := placed_count (q := q) (ss := ss) (ps := ps) (by simpa using h)
    unfold placedL at ih ⊢
    rw [List.zip_cons_cons, List.filter_cons, List.count_cons]
    by_cases e : p = q
    · subst e
      simp at ih ⊢
      exact ih
    · simp [e] at ih ⊢
      exact ih
theorem canLay_rows : ∀ {rs : List RowH}, (∀ r ∈ rs, PyData.strOk r.room = true) → PyData.canLayAll0 (rs.map RowH.data) = true ∧ PyData.depthAll (rs.map RowH.data) ≤ 10
  | [], _ => ⟨rfl, by decide⟩
  | r :: rs, h => by
    obtain ⟨h1, h2⟩ := canLay_rows (rs := rs) fun z hz => h z (List.mem_cons_of_mem _ hz)
    obtain ⟨_, g1, g2⟩ := plain_row (h r List.mem_cons_self)
    rw [List.map_cons]
    constructor
    · simp only [PyData.canLayAll0, g1, h1, Bool.and_self]
    · simp only [PyData.depthAll]
      omega
theorem shaped_rows {rs : List RowH} (h : ∀ r ∈ rs, PyData.strOk r.room = true) : SeqAt.shaped (.list (rs.map RowH.data)) = true := by
  obtain ⟨h1, h2⟩ := canLay_rows h
  unfold SeqAt.shaped
  have : PyData.depth (.list (rs.map RowH.data)) ≤ 64 := by
    simp only [PyData.depth]
    omega
  simp only [PyData.canLay0, h1, this, decide_true, Bool.and_self]
theorem eqvE_nil (ds : List PyData) : PyData.eqv (.list ds) (.list []) = ds.isEmpty := by
  cases ds <;> simp [PyData.eqv, PyData.eqvAll]
theorem open_empty {g : Str → Int} {d : DoorH} : (d.rows.filter fun r => !metB g r).isEmpty = openB g d := by
  unfold openB
  induction d.rows with
  | nil => rfl
  | cons r rs ih =>
    rw [List.filter_cons, List.all_cons]
    cases h : metB g r with
    | true => simp [ih]
    | false => simp
end Wd

set_option Elab.async false
set_option linter.all false
set_option maxRecDepth 100000
set_option maxHeartbeats 4000000
/-! sorted(xs) of a list of data; deeds rise. -/
namespace Wd
open PySem PySem.Spec PyProof.Rows L2 PySem.W
section
variable {X : Cx} {pins : List (Addr × Obj)} {σ : L2.St} {H : Hp} {s : Shared}
theorem each_of_valsD : ∀ {xs : List (V × PyData)} {vs : List Value}, Vals (xs.map Prod.fst) vs → EachIs (fun u (x : V × PyData) => RelV x.1 u) vs xs
  | [], _, .nil => .nil
  | _ :: _, _, .cons h r => .cons h (each_of_valsD r)
theorem vals_of_eachD : ∀ {xs : List (V × PyData)} {vs : List Value}, EachIs (fun u (x : V × PyData) => RelV x.1 u) vs xs → Vals (xs.map Prod.fst) vs
  | _, _, .nil => .nil
  | _, _, .cons h r => .cons h (vals_of_eachD r)
theorem each_readsD (I : Inv X pins σ H s) : ∀ {xs : List (V × PyData)} {vs : List Value}, (∀ x ∈ xs, Dp X.K H x.1 x.2) → Vals (xs.map Prod.fst) vs → EachIs (fun u (x : V × PyData) => ∃ as, Reads s.heap u x.2 as) vs xs
  | [], _, _, .nil => .nil
  | x :: _, _, hd, .cons h r => .cons (Dp.reads I x.2 x.1 _ (hd x List.mem_cons_self) h) (each_readsD I (fun y hy => hd y (List.mem_cons_of_mem _ hy)) r)
def rSortD (K : PySem.W.Frag) : List V → Hp → VK → Prop := fun vs H Q => ∃ (a : Addr) (bs : List (V × PyData)), vs = [V.ref a] ∧ SqL K H a (bs.map Prod.fst) ∧ (∀ b ∈ bs, Dp K H b.1 b.2) ∧ AllAlike (bs.map Prod.snd) ∧ PySem.W.Sortable (bs.map Prod.snd) ∧ (∀ b ∈ bs, b.2.depth ≤ 60) ∧
  ∀ p, H p = none → Q (.ref p) (upd H p (.lst ((bs.mergeSort (dataLe false Prod.snd)).map Prod.fst)))
theorem cr_sortD {K : PySem.W.Frag} (hu : X.A.units + 64 < cLine) (hK : X.K = K := by rfl) : CallR X (.builtin "sorted") (rSortD K) := by
  subst hK
  intro pins s σ H vs us Q I r h
  obtain ⟨a, bs, rfl, hs, hd, hal, hk, hdp, q⟩ := h
  obtain ⟨its, rv, pl, hz⟩ := I.list hs
  rw [Vals.ref1 r]
  have hl := rv.length
  rw [List.length_map] at hl hz
  refine sorted_data pl.isList (each_of_valsD rv) (each_readsD I hd rv) hal hk (by omega) (fun b hb => ?_) fun out ol eo => ?_
  · have := hdp b hb
    omega
  · have vo := vals_of_eachD eo
    obtain ⟨c, hc⟩ := sortedAll_at s.heap its (List.toArray out)
    have zo : ((bs.mergeSort (dataLe false Prod.snd)).map Prod.fst).length ≤ sizeLine := by rw [List.length_map, List.length_mergeSort]; exact hz
    refine ⟨.ref _, upd H _ (.lst ((bs.mergeSort (dataLe false Prod.snd)).map Prod.fst)), I.laid (t' := s.toks) (fun b u e => sortedAll_old e) (Nat.le_succ _) (show ObjOk X.prog X.w _ _ _ (.lst ((bs.mergeSort (dataLe false Prod.snd)).map Prod.fst)) from ⟨zo, out, c, vo, hc⟩), rfl, q _ (I.hok.fresh (Nat.le_succ _))⟩
end
/-! ### lists of texts as Python orders them -/
def toksS : List Str → List (Int ⊕ List Nat)
  | [] => [.inl 0]
  | x :: r => .inl 1 :: .inr x.cps.toList :: toksS r
theorem toks_strs : ∀ xs : List Str, keyToksAll (xs.map PyData.str) = toksS xs
  | [] => by rw [List.map_nil, keyToksAll, toksS]
  | x :: r => by
    rw [List.map_cons, keyToksAll, keyToks, toks_strs r, toksS]
    rfl
theorem toks_deed (z : List Str) : keyToks (deedD z) = toksS z := by
  unfold deedD
  rw [keyToks, toks_strs]
def leD (a b : List Str) : Prop := lexLt itemOrd (toksS b) (toksS a) = false
theorem leD_iff {β : Type} {k : β → List Str} {x y : β} : dataLe false (fun b => deedD (k b)) x y = true ↔ leD (k x) (k y) := by
  show (!lexLt itemOrd (keyToks (deedD (k y))) (keyToks (deedD (k x)))) = true ↔ _
  rw [toks_deed, toks_deed, Bool.not_eq_true']
  exact Iff.rfl
theorem leD_head {w : Str} {a b : Str} (h : leT a b) : leD [w, a] [w, b] := by
  unfold leD
  have e1 : toksS [w, b] = [.inl 1, .inr w.cps.toList, .inl 1] ++ [.inr b.cps.toList, .inl 0] := rfl
  have e2 : toksS [w, a] = [.inl 1, .inr w.cps.toList, .inl 1] ++ [.inr a.cps.toList, .inl 0] := rfl
  rw [e1, e2, lex_pre]
  by_cases e : a.cps.toList = b.cps.toList
  · rw [e]
    exact lex_irrefl _
  · rw [lex_cons]
    have hlt : ¬ b.cps.toList < a.cps.toList := fun z => List.not_lt.mpr h z
    have e1 : (itemOrd.blt (Sum.inr b.cps.toList) (Sum.inr a.cps.toList)) = false := decide_eq_false hlt
    have hgt : a.cps.toList < b.cps.toList := Decidable.byContradiction fun z => e (List.le_antisymm h (List.not_lt.mp z))
    have e2 : (itemOrd.blt (Sum.inr a.cps.toList) (Sum.inr b.cps.toList)) = true := decide_eq_true hgt
    rw [e1, e2]
    rfl
/-- unlike first words -/
theorem leD_word {w v : Str} {r t : List Str} (h : w.cps.toList < v.cps.toList) : leD (w :: r) (v :: t) := by
  unfold leD
  have e1 : toksS (v :: t) = [.inl 1] ++ (.inr v.cps.toList :: toksS t) := rfl
  have e2 : toksS (w :: r) = [.inl 1] ++ (.inr w.cps.toList :: toksS r) := rfl
  rw [e1, e2, lex_pre, lex_diff]
  · exact decide_eq_false fun z => List.lt_asymm h z
  · intro z
    have := Sum.inr.inj z
    rw [this] at h
    exact List.lt_irrefl _ h
theorem pair_map {w : Str} {xs : List Str} (h : xs.Pairwise leT) : (xs.map fun d => [w, d]).Pairwise leD := by
  rw [List.pairwise_map]
  exact h.imp fun h => leD_head h
theorem deeds_rise {go lay lift : List Str} (h1 : go.Pairwise leT) (h2 : lay.Pairwise leT) (h3 : lift.Pairwise leT) : (deedsOf go lay lift).Pairwise leD := by
  unfold deedsOf
  have wd : ∀ {w v : Str} {xs : List Str} {z y : List Str}, w.cps.toList < v.cps.toList → z ∈ xs.map (fun d => [w, d]) → (∃ t, y = v :: t) → leD z y := by
    intro w v xs z y hw hz ⟨t, e⟩
    obtain ⟨d, _, rfl⟩ := List.mem_map.mp hz
    rw [e]
    exact leD_word hw
  have hd : ∀ {w : Str} {xs : List Str} {z : List Str}, z ∈ xs.map (fun d => [w, d]) → ∃ t, z = w :: t := fun hz => by
    obtain ⟨d, _, rfl⟩ := List.mem_map.mp hz
    exact ⟨_, rfl⟩
  refine List.pairwise_append.mpr ⟨List.pairwise_append.mpr ⟨List.pairwise_append.mpr ⟨pair_map h1, pair_map h2, fun a ha b hb => wd (by decide) ha (hd hb)⟩, pair_map h3, fun a ha b hb => ?_⟩, List.pairwise_singleton _ _, fun a ha b hb => ?_⟩
  · rcases List.mem_append.mp ha with ha | ha
    · exact wd (by decide) ha (hd hb)
    · exact wd (by decide) ha (hd hb)
  · rw [List.mem_singleton.mp hb]
    rcases List.mem_append.mp ha with ha | ha
    · rcases List.mem_append.mp ha with ha | ha
      · exact wd (by decide) ha ⟨_, rfl⟩
      · exact wd (by decide) ha ⟨_, rfl⟩
    · exact wd (by decide) ha ⟨_, rfl⟩
theorem sort_keeps {bs : List (V × List Str)} (h : (bs.map Prod.snd).Pairwise leD) : (bs.map fun z => (z.1, deedD z.2)).mergeSort (dataLe false Prod.snd) = bs.map fun z => (z.1, deedD z.2) := by
  refine List.mergeSort_of_pairwise ?_
  rw [List.pairwise_map] at h ⊢
  exact h.imp fun {a b} h => leD_iff (k := fun z : V × List Str => z.2) (x := a) (y := b) |>.mpr h
theorem alike_deed : ∀ xs ys : List Str, alikeAll (xs.map PyData.str) (ys.map PyData.str) = true
  | [], _ => by rw [List.map_nil, alikeAll]
  | x :: xs, [] => by rw [List.map_cons, List.map_nil, alikeAll]
  | x :: xs, y :: ys => by rw [List.map_cons, List.map_cons, alikeAll, alike, alike_deed xs ys]; rfl
theorem alike_deeds {β : Type} {k : β → List Str} (bs : List β) : AllAlike (bs.map fun b => deedD (k b)) := AllAlike.of fun b b' => by
  unfold deedD
  rw [alike]
  exact alike_deed _ _
/-! ### what is laid or lifted -/
theorem placedL_snoc (zs : List ((Str × Int) × Str)) (a : (Str × Int) × Str) (q : Str) : placedL (zs ++ [a]) q = placedL zs q ++ if a.2 = q then [a.1.1] else [] := by
  unfold placedL
  rw [List.filter_append, List.map_append]
  by_cases e : a.2 = q
  · rw [if_pos e, List.filter_cons_of_pos (by simpa using e)]
    rfl
  · rw [if_neg e, List.filter_cons_of_neg (by simpa using e)]
    rfl
theorem placedL_len (zs : List ((Str × Int) × Str)) (q : Str) : (placedL zs q).length ≤ zs.length := by
  unfold placedL
  rw [List.length_map]
  exact List.length_filter_le _ _
theorem tOnly_deed (z : List Str) : tOnly (deedD z) = true := by
  unfold deedD
  rw [tOnly]
  exact tOnly_map (f := PyData.str) (fun _ => rfl) z
theorem deeds_move {N : Addr → Prop} {K : PySem.W.Frag} {H H' : Hp} {vs : List V} {ds : List (List Str)} (s : ∀ a xs, SqT K H a xs → SqT K H' a xs) (h : DqAll N K H vs (ds.map deedD)) : DqAll N K H' vs (ds.map deedD) :=
  DqAll.moveT (fun _ z => z) (fun a xs _ h => s a xs h) _ _ (tOnly_map tOnly_deed ds) h
theorem dq_deed2 {K : PySem.W.Frag} {H : Hp} {t : Addr} {a b : Str} (h : SqT K H t [.str a, .str b]) : Dq anyA K H (.ref t) (deedD [a, b]) := .tup trivial h (.cons (.str _) (.cons (.str _) .nil))
theorem dq_deed1 {K : PySem.W.Frag} {H : Hp} {t : Addr} {a : Str} (h : SqT K H t [.str a]) : Dq anyA K H (.ref t) (deedD [a]) := .tup trivial h (.cons (.str _) .nil)
theorem goL_far {x : HallH} {g : Str → Int} {r : Str} : ((x.doors.filter (openB g)).filter fun d => (farH d r).isSome).map DoorH.name = goL x g r := by
  unfold goL
  rw [List.filter_filter]
  congr 1
  exact List.filter_congr fun d _ => by rw [Bool.and_comm]
theorem DqAll.append {N : Addr → Prop} {K : PySem.W.Frag} {H : Hp} : ∀ {vs ws : List V} {ds es : List PyData}, DqAll N K H vs ds → DqAll N K H ws es → DqAll N K H (vs ++ ws) (ds ++ es)
  | [], _, [], _, .nil, h => h
  | _ :: _, _, _ :: _, _, .cons a r, h => .cons a (DqAll.append r h)
theorem vstr_ne {a b : Str} (h : ¬ decide (V.str a = V.str b) = true) : a ≠ b := fun e => h (decide_eq_true (by rw [e]))
theorem vstr_eq {a b : Str} (h : decide (V.str a = V.str b) = true) : a = b := by
  have := of_decide_eq_true h
  injection this
def deedsZ (x : HallH) (rs ps : List Str) (z : WalkH) (r : Str) : List (List Str) := deedsOf (goL x (borneH x rs ps (some z.name)) r) (placedL (x.stones.zip ps) z.name) (if (ps.count z.name : Int) < z.hands then placedL (x.stones.zip ps) r else [])
/-! ### all that is known of deeds that can be done -/
structure DeedsOk (ds : List (List Str)) : Prop where
  rise : ds.Pairwise leD
  names : ∀ d ∈ ds, ∀ s ∈ d, NameOk s
  two : ∀ d ∈ ds, d.length ≤ 2 ∧ d ≠ []
  few : ds.length ≤ 181
theorem goL_sub {x : HallH} {g : Str → Int} {r : Str} : (goL x g r).Sublist (x.doors.map DoorH.name) := by
  unfold goL
  exact (List.filter_sublist).map _
theorem placedL_sub {ss : List (Str × Int)} {ps : List Str} {q : Str} (h : ps.length = ss.length) : (placedL (ss.zip ps) q).Sublist (ss.map Prod.fst) := by
  have e : (ss.zip ps).map (fun z => z.1.1) = ss.map Prod.fst := by
    have : (ss.zip ps).map (fun z => z.1.1) = ((ss.zip ps).map Prod.fst).map Prod.fst := by rw [List.map_map]; rfl
    rw [this, List.map_fst_zip (by omega)]
  unfold placedL
  rw [← e]
  exact (List.filter_sublist).map _
theorem deedsZ_ok {sr sd ss sw t : Nat} {x : HallH} {rs ps : List Str} {z : WalkH} {r : Str} (ok : HallOk sr sd ss sw x) (b2 : sd ≤ 60) (b3 : ss ≤ 60) (sh : StandH x t rs ps) : DeedsOk (deedsZ x rs ps z r) := by
  unfold deedsZ
  generalize borneH x rs ps (some z.name) = g
  have hgo : (goL x g r).Sublist (x.doors.map DoorH.name) := goL_sub
  have hlay : (placedL (x.stones.zip ps) z.name).Sublist (x.stones.map Prod.fst) := placedL_sub sh.pl
  have hlift : (if (ps.count z.name : Int) < z.hands then placedL (x.stones.zip ps) r else []).Sublist (x.stones.map Prod.fst) := by
    split
    · exact placedL_sub sh.pl
    · exact List.nil_sublist _
  generalize goL x g r = go at hgo
  generalize placedL (x.stones.zip ps) z.name = lay at hlay
  generalize (if (ps.count z.name : Int) < z.hands then placedL (x.stones.zip ps) r else []) = lift at hlift
  have dn : ∀ y ∈ x.doors.map DoorH.name, NameOk y := fun y hy => ok.n2 _ (by unfold HallH.names; exact List.mem_append_right _ (List.mem_append_right _ (List.mem_append_right _ hy)))
  have sn : ∀ y ∈ x.stones.map Prod.fst, NameOk y := fun y hy => ok.n2 _ (by unfold HallH.names; exact List.mem_append_right _ (List.mem_append_right _ (List.mem_append_left _ hy)))
  have dl := ok.d2
  have sl := ok.s2
  have hd : ∀ d ∈ deedsOf go lay lift, (∃ w y, d = [w, y] ∧ NameOk w ∧ NameOk y) ∨ d = [(Str.ofString "wait" : Str)] := by
    intro d hd
    unfold deedsOf at hd
    rcases List.mem_append.mp hd with hd | hd
    · rcases List.mem_append.mp hd with hd | hd
      · rcases List.mem_append.mp hd with hd | hd
        · obtain ⟨y, hy, rfl⟩ := List.mem_map.mp hd
          exact .inl ⟨_, y, rfl, by decide +kernel, dn _ (hgo.subset hy)⟩
        · obtain ⟨y, hy, rfl⟩ := List.mem_map.mp hd
          exact .inl ⟨_, y, rfl, by decide +kernel, sn _ (hlay.subset hy)⟩
      · obtain ⟨y, hy, rfl⟩ := List.mem_map.mp hd
        exact .inl ⟨_, y, rfl, by decide +kernel, sn _ (hlift.subset hy)⟩
    · exact .inr (List.mem_singleton.mp hd)
  refine ⟨deeds_rise ((sorted_pair ok.d3).sublist hgo) ((sorted_pair ok.s3).sublist hlay) ((sorted_pair ok.s3).sublist hlift), fun d hm s hs => ?_, fun d hm => ?_, ?_⟩
  · rcases hd d hm with ⟨w, y, rfl, h1, h2⟩ | rfl
    · rcases List.mem_cons.mp hs with rfl | hs
      · exact h1
      · rw [List.mem_singleton.mp hs]; exact h2
    · rw [List.mem_singleton.mp hs]; decide +kernel
  · rcases hd d hm with ⟨w, y, rfl, h1, h2⟩ | rfl
    · exact ⟨by simp, by simp⟩
    · exact ⟨by simp, by simp⟩
  · have l1 := hgo.length_le
    have l2 := hlay.length_le
    have l3 := hlift.length_le
    rw [List.length_map] at l1 l2 l3
    unfold deedsOf
    rw [List.length_append, List.length_append, List.length_append, List.length_map, List.length_map, List.length_map]
    show _ + 1 ≤ 181
    omega
theorem neat_deed {d : List Str} (h : ∀ s ∈ d, NameOk s) (h2 : d.length ≤ 2) : Neat 18 1 (deedD d) := by
  unfold deedD
  refine neat_tup (w := 8) (dp := 0) (m := 2) (fun z hz => ?_) (by rw [List.length_map]; exact h2)
  obtain ⟨s, hs, rfl⟩ := List.mem_map.mp hz
  exact neat_name (h s hs)
theorem DeedsOk.neat {ds : List (List Str)} (h : DeedsOk ds) : Neat 3439 2 (.list (ds.map deedD)) :=
  neat_lst (w := 18) (dp := 1) (m := 181) (fun z hz => by
    obtain ⟨d, hd, rfl⟩ := List.mem_map.mp hz
    exact neat_deed (h.names d hd) (h.two d hd).1) (by rw [List.length_map]; exact h.few)
theorem eqv_strs : ∀ xs : List Str, PyData.eqvAll (xs.map PyData.str) (xs.map PyData.str) = true
  | [] => by simp [PyData.eqvAll]
  | x :: xs => by simp [PyData.eqvAll, PyData.eqv, eqv_strs xs]
theorem eqv_deeds : ∀ ds : List (List Str), PyData.eqvAll (ds.map deedD) (ds.map deedD) = true
  | [] => by simp [PyData.eqvAll]
  | d :: ds => by
    have h := eqv_strs d
    simp [PyData.eqvAll, deedD, PyData.eqv, h]
    exact eqv_deeds ds
theorem noDict_strs : ∀ xs : List Str, PyData.hasDictAll (xs.map PyData.str) = false := strs_noDict
theorem noDict_deed (d : List Str) : (deedD d).hasDict = false := by
  unfold deedD
  simp only [PyData.hasDict, strs_noDict]
theorem noDict_deeds : ∀ ds : List (List Str), PyData.hasDictAll (ds.map deedD) = false
  | [] => rfl
  | d :: ds => by
    rw [List.map_cons]
    simp only [PyData.hasDictAll, noDict_deeds ds, noDict_deed, Bool.or_false]
theorem lay_strs : ∀ {xs : List Str}, (∀ s ∈ xs, NameOk s) → PyData.canLayAll0 (xs.map PyData.str) = true
  | [], _ => rfl
  | x :: xs, h => by
    rw [List.map_cons]
    simp only [PyData.canLayAll0, PyData.canLay0, name_ok (h x List.mem_cons_self), lay_strs fun s hs => h s (List.mem_cons_of_mem _ hs), Bool.and_self]
theorem depth_strs : ∀ xs : List Str, PyData.depthAll (xs.map PyData.str) = 0
  | [] => by simp [PyData.depthAll]
  | x :: xs => by
    have h := depth_strs xs
    rw [List.map_cons]
    simp only [PyData.depthAll, PyData.depth, h]
    decide
theorem depth_deed (d : List Str) : (deedD d).depth ≤ 1 := by
  unfold deedD
  simp only [PyData.depth, depth_strs]
  omega
theorem lay_deeds : ∀ {ds : List (List Str)}, (∀ d ∈ ds, ∀ s ∈ d, NameOk s) → PyData.canLayAll0 (ds.map deedD) = true ∧ PyData.depthAll (ds.map deedD) ≤ 1
  | [], _ => ⟨rfl, by simp [PyData.depthAll]⟩
  | d :: ds, h => by
    obtain ⟨h1, h2⟩ := lay_deeds (ds := ds) fun z hz => h z (List.mem_cons_of_mem _ hz)
    have h3 := depth_deed d
    have h4 := lay_strs (h d List.mem_cons_self)
    rw [List.map_cons]
    constructor
    · simp only [PyData.canLayAll0, h1, Bool.and_true]
      unfold deedD
      simp only [PyData.canLay0, h4]
    · simp only [PyData.depthAll]
      omega
theorem DeedsOk.shaped {ds : List (List Str)} (h : DeedsOk ds) : SeqAt.shaped (.list (ds.map deedD)) = true := by
  obtain ⟨h1, h2⟩ := lay_deeds h.names
  exact shaped_list h1 (by omega)
/-- told != sorted(told) -/
theorem sorted_told {K : PySem.W.Frag} {H : Hp} {l : Addr} {vs : List V} {ds : List (List Str)} {Q : VK} (ok : DeedsOk ds) (hl : H l = some (.lst vs)) (dq : DqAll anyA K H vs (ds.map deedD)) (q : ∀ p, H p = none → Q (.bl false) (upd H p (.lst vs))) :
    rSortD K [.ref l] H fun y H' => rNeX K (.ref l) y H' Q := by
  have lv : vs.length = ds.length := by rw [dq.length, List.length_map]
  have f1 : ((vs.zip ds).map fun z => (z.1, deedD z.2)).map Prod.fst = vs := by
    rw [List.map_map]
    exact (List.map_fst_zip (l₁ := vs) (l₂ := ds) (by omega))
  have f2 : ((vs.zip ds).map fun z => (z.1, deedD z.2)).map Prod.snd = ds.map deedD := by
    rw [List.map_map]
    have e : (vs.zip ds).map Prod.snd = ds := List.map_snd_zip (by omega)
    rw [← e, List.map_map]
    rw [e]
    rfl
  have hdp : ∀ b ∈ (vs.zip ds).map fun z => (z.1, deedD z.2), Dp K H b.1 b.2 := by
    intro b hb
    obtain ⟨z, hz, rfl⟩ := List.mem_map.mp hb
    obtain ⟨i, hi, ez⟩ := List.getElem_of_mem hz
    rw [List.length_zip] at hi
    rw [List.getElem_zip] at ez
    subst ez
    obtain ⟨d, hd, dqd⟩ := dq.get (List.getElem?_eq_getElem (show i < vs.length by omega))
    rw [List.getElem?_map, List.getElem?_eq_getElem (show i < ds.length by omega)] at hd
    cases hd
    exact Dq.dp _ _ (noDict_deed _) dqd
  refine ⟨l, (vs.zip ds).map fun z => (z.1, deedD z.2), rfl, by rw [f1]; exact .inl (.inl hl), hdp, ?_, ?_, ?_, fun p np => ?_⟩
  · rw [f2]
    exact alike_deeds ds (k := fun d => d)
  · rw [f2]
    refine .inl fun d hd => ?_
    obtain ⟨z, hz, rfl⟩ := List.mem_map.mp hd
    obtain ⟨_, hn⟩ := ok.two z hz
    cases z with
    | nil => exact absurd rfl hn
    | cons a b => exact ⟨_, _, by unfold deedD; rw [List.map_cons]⟩
  · intro b hb
    obtain ⟨z, _, rfl⟩ := List.mem_map.mp hb
    have := depth_deed z.2
    show (deedD z.2).depth ≤ 60
    omega
  · have e : (vs.zip ds).map Prod.snd = ds := List.map_snd_zip (by omega)
    rw [sort_keeps (bs := vs.zip ds) (by rw [e]; exact ok.rise), f1]
    have s1 := same_new np (o := .lst vs)
    refine .inr ⟨.list (ds.map deedD), .list (ds.map deedD), ?_, ?_, ok.shaped, ok.shaped, ?_⟩
    · exact Dq.dp (N := anyA) _ _ (by simp only [PyData.hasDict]; exact noDict_deeds _) (.lst trivial (.inl (.inl (s1 _ _ hl))) (DqAll.mono s1 dq))
    · exact Dq.dp (N := anyA) _ _ (by simp only [PyData.hasDict]; exact noDict_deeds _) (.lst trivial (.inl (.inl upd_same)) (DqAll.mono s1 dq))
    · have : PyData.eqv (.list (ds.map deedD)) (.list (ds.map deedD)) = true := by
        simp only [PyData.eqv]
        exact eqv_deeds ds
      rw [this]
      exact q p np
/-! ### stands show short -/
theorem neat_stand {sr sd ss sw t : Nat} {x : HallH} {rs ps : List Str} (ok : HallOk sr sd ss sw x) (b1 : ss ≤ 60) (b4 : sw ≤ 60) (sh : StandH x t rs ps) : Neat 1623 2 (standD t rs ps) := by
  have rn : ∀ z ∈ x.rooms, NameOk z := fun z hz => ok.n2 _ (by unfold HallH.names; exact List.mem_append_left _ hz)
  have wn : ∀ z ∈ x.walkers.map WalkH.name, NameOk z := fun z hz => ok.n2 _ (by unfold HallH.names; exact List.mem_append_right _ (List.mem_append_left _ hz))
  have h1 := ok.w2
  have h2 := ok.s2
  have h3 := sh.t
  unfold standD
  refine neat_tup (w := 540) (dp := 1) (m := 3) (fun z hz => ?_) (by simp)
  rcases List.mem_cons.mp hz with rfl | hz
  · exact (neat_heft (i := (t : Int)) (by omega) (by omega)).mono (by decide) (by decide)
  rcases List.mem_cons.mp hz with rfl | hz
  · refine (neat_tup (w := 8) (dp := 0) (m := 60) (fun z hz => ?_) (by rw [List.length_map, sh.rl]; omega)).mono (by decide) (by decide)
    obtain ⟨s, hs, rfl⟩ := List.mem_map.mp hz
    exact neat_name (rn _ (sh.rin s hs))
  rw [List.mem_singleton.mp hz]
  refine (neat_tup (w := 8) (dp := 0) (m := 60) (fun z hz => ?_) (by rw [List.length_map, sh.pl]; omega)).mono (by decide) (by decide)
  obtain ⟨s, hs, rfl⟩ := List.mem_map.mp hz
  rcases sh.pin s hs with h | h
  · exact neat_name (rn _ h)
  · exact neat_name (wn _ h)
end Wd

set_option Elab.async false
set_option linter.all false
set_option maxRecDepth 100000
set_option maxHeartbeats 4000000
/-! A deed done: what stands behind it, as data. -/
namespace Wd
open PySem PySem.Spec PyProof.Rows L2
theorem iteN {c : Prop} [Decidable c] {A B : Prop} (h : ¬ c) (b : B) : if decide c = true then A else B := by
  rw [if_neg fun e => h (of_decide_eq_true e)]
  exact b
theorem iteY {c : Prop} [Decidable c] {A B : Prop} (h : c) (a : A) : if decide c = true then A else B := by
  rw [if_pos (decide_eq_true h)]
  exact a
theorem sne {a b : Str} (h : a ≠ b) : ¬ (V.str a = V.str b) := fun e => h (by injection e)
/-- the far side of the first told door of that name -/
def behindL (ds : List DoorH) (r dn : Str) : Option Str := ((leadsH ds r).find? fun z => decide (z.1 = dn)).map Prod.snd
theorem leads_off {dn r : Str} : ∀ {ds : List DoorH}, (∀ d ∈ ds, d.one ≠ d.other) → dn ∉ ds.map DoorH.name → (leadsH ds r).find? (fun z => decide (z.1 = dn)) = none
  | [], _, _ => rfl
  | d :: ds, h, n => by
    have e : leadsH (d :: ds) r = leadsOf1 d r ++ leadsH ds r := rfl
    rw [e, List.find?_append, leads_off (fun z hz => h z (List.mem_cons_of_mem _ hz)) fun m => n (List.mem_cons_of_mem _ m), leads_far d (h d List.mem_cons_self)]
    cases farH d r with
    | none => rfl
    | some b =>
      have : d.name ≠ dn := fun z => n (by rw [← z]; exact List.mem_cons_self)
      simp [Option.elim, this]
theorem behind_far {r : Str} {d : DoorH} : ∀ {ds : List DoorH}, (ds.map DoorH.name).Nodup → (∀ d ∈ ds, d.one ≠ d.other) → d ∈ ds → behindL ds r d.name = farH d r
  | d0 :: ds, nd, h, hd => by
    have e : leadsH (d0 :: ds) r = leadsOf1 d0 r ++ leadsH ds r := rfl
    obtain ⟨n0, n1⟩ := List.nodup_cons.mp nd
    unfold behindL
    rw [e, List.find?_append, leads_far d0 (h d0 List.mem_cons_self)]
    rcases List.mem_cons.mp hd with rfl | hd
    · rw [leads_off (fun z hz => h z (List.mem_cons_of_mem _ hz)) n0]
      cases farH d r with
      | none => rfl
      | some b => simp [Option.elim]
    · have ne : d0.name ≠ d.name := fun z => n0 (by rw [z]; exact List.mem_map.mpr ⟨d, hd, rfl⟩)
      have ih := behind_far (r := r) n1 (fun z hz => h z (List.mem_cons_of_mem _ hz)) hd
      unfold behindL at ih
      cases farH d0 r with
      | none => simpa [Option.elim] using ih
      | some b => simpa [Option.elim, ne] using ih
/-- a deed that can be done in form: the walker's rooms and the stones' places behind it -/
inductive StepH (x : HallH) (t : Nat) (rs ps : List Str) : List Str → List Str → List Str → Prop
  | go {d : DoorH} {r b : Str} (hd : d ∈ x.doors) (hr : rs[t]? = some r) (hb : farH d r = some b) : StepH x t rs ps [Str.ofString "go", d.name] (rs.set t b) ps
  | lift {j : Nat} {s : Str} {z : WalkH} (hs : (x.stones.map Prod.fst)[j]? = some s) (hz : x.walkers[t]? = some z) : StepH x t rs ps [Str.ofString "lift", s] rs (ps.set j z.name)
  | lay {j : Nat} {s r : Str} (hs : (x.stones.map Prod.fst)[j]? = some s) (hr : rs[t]? = some r) : StepH x t rs ps [Str.ofString "lay", s] rs (ps.set j r)
  | wait : StepH x t rs ps [Str.ofString "wait"] rs ps
theorem first_at {xs : List Str} (nd : xs.Nodup) {j : Nat} {s : Str} (h : xs[j]? = some s) {m : Nat} {z : Str} (hm : m < j) (hz : xs[m]? = some z) : z ≠ s := fun e => by
  subst e
  have h1 := (List.getElem?_eq_some_iff.mp h).1
  have h2 := (List.getElem?_eq_some_iff.mp hz).1
  exact (List.pairwise_iff_getElem.mp nd) m j h2 h1 hm (by rw [(List.getElem?_eq_some_iff.mp h).2, (List.getElem?_eq_some_iff.mp hz).2])
theorem lead_inv2 {N : Addr → Prop} {K : PySem.W.Frag} {H : Hp} {v : V} {z : Str × Str} (h : Dq N K H v (leadD z)) : ∃ t : Addr, v = .ref t ∧ SqT K H t [.str z.1, .str z.2] := by
  unfold leadD at h
  cases h with
  | tup n e q =>
    cases q with
    | cons q1 q =>
      cases q with
      | cons q2 q =>
        cases q
        cases q1
        cases q2
        exact ⟨_, rfl, e⟩
theorem unm_empty {K : PySem.W.Frag} {v2 : List V} {g : Str → Int} {d : DoorH} {H : Hp} (dq : DqAll anyA K H v2 ((d.rows.filter fun r => !metB g r).map fun r => PyData.tuple [r.data, .int (g r.room)])) : v2.isEmpty = openB g d := by
  rw [← open_empty]
  have := dq.length
  rw [List.length_map] at this
  cases v2 with
  | nil => cases h : d.rows.filter fun r => !metB g r with
    | nil => rfl
    | cons a b => rw [h] at this; cases this
  | cons a b => cases h : d.rows.filter fun r => !metB g r with
    | nil => rw [h] at this; cases this
    | cons a b => rfl
/-- the place of a stone -/
def placeOf (x : HallH) (ps : List Str) (s : Str) : Option Str := ((x.stones.zip ps).find? fun z => decide (z.1.1 = s)).map Prod.snd
theorem place_at {s q : Str} : ∀ {ss : List (Str × Int)} {ps : List Str} {j : Nat}, (ss.map Prod.fst).Nodup → (ss.map Prod.fst)[j]? = some s → ps[j]? = some q → ((ss.zip ps).find? fun z => decide (z.1.1 = s)).map Prod.snd = some q
  | a :: ss, p :: ps, 0, _, h1, h2 => by
    have e1 : a.1 = s := by simpa using h1
    have e2 : p = q := by simpa using h2
    simp [e1, e2]
  | a :: ss, p :: ps, j + 1, nd, h1, h2 => by
    obtain ⟨n0, n1⟩ := List.nodup_cons.mp nd
    have h1' : (ss.map Prod.fst)[j]? = some s := by simpa using h1
    have h2' : ps[j]? = some q := by simpa using h2
    have ne : ¬ a.1 = s := fun e => n0 (by rw [e]; exact List.mem_of_getElem? h1')
    rw [List.zip_cons_cons, List.find?_cons_of_neg (by simp [ne])]
    exact place_at n1 h1' h2'
theorem place_off {s : Str} {ss : List (Str × Int)} {ps : List Str} (h : s ∉ ss.map Prod.fst) : ((ss.zip ps).find? fun z => decide (z.1.1 = s)).map Prod.snd = none := by
  have : (ss.zip ps).find? (fun z => decide (z.1.1 = s)) = none := List.find?_eq_none.mpr fun z hz e => h (by
    have e' : z.1.1 = s := of_decide_eq_true e
    rw [← e']
    exact List.mem_map.mpr ⟨z.1, (List.of_mem_zip hz).1, rfl⟩)
  rw [this]
  rfl
end Wd

set_option Elab.async false
set_option linter.all false
set_option maxRecDepth 100000
set_option maxHeartbeats 4000000
/-! Why a deed can't be done, as data; what can be done, and that it leaves a stand. -/
namespace Wd
open PySem PySem.Spec PyProof.Rows L2
instance (z : Str) : Decidable (NameOk z) := by unfold NameOk IsName; infer_instance
def whyGo (x : HallH) (g : Str → Int) (r dn : Str) : Option Str := match x.doors.find? (fun d => decide (d.name = dn)) with
  | none => some "door"
  | some d => if (farH d r).isNone then some "room" else if openB g d then none else some "shut"
def whyLift (x : HallH) (ps : List Str) (z : WalkH) (r s : Str) : Option Str := match placeOf x ps s with
  | none => some "stone"
  | some q => if q ≠ r then some "far" else if z.hands ≤ (ps.count z.name : Nat) then some "hands" else none
def whyLay (x : HallH) (ps : List Str) (z : WalkH) (s : Str) : Option Str := match placeOf x ps s with
  | none => some "stone"
  | some q => if q ≠ z.name then some "held" else none
def goS : Str := Str.ofString "go"
def liftS : Str := Str.ofString "lift"
def layS : Str := Str.ofString "lay"
def deedB : List Str → Bool
  | [w, n] => [goS, liftS, layS].any (fun y => decide (y = w)) && decide (NameOk n)
  | [w] => decide (w = Str.ofString "wait")
  | _ => false
def whyD (x : HallH) (rs ps : List Str) (z : WalkH) (r : Str) (d : List Str) : Option Str := if deedB d then (match d with
  | [w, n] => if w = goS then whyGo x (borneH x rs ps (some z.name)) r n else if w = liftS then whyLift x ps z r n else whyLay x ps z n
  | _ => none) else some (Str.ofString "form")
theorem find_name {d : DoorH} : ∀ {ds : List DoorH}, (ds.map DoorH.name).Nodup → d ∈ ds → ds.find? (fun e => decide (e.name = d.name)) = some d
  | e :: ds, nd, hd => by
    obtain ⟨n0, n1⟩ := List.nodup_cons.mp nd
    rcases List.mem_cons.mp hd with rfl | hd
    · exact List.find?_cons_of_pos (by simp)
    · have ne : ¬ e.name = d.name := fun z => n0 (by rw [z]; exact List.mem_map.mpr ⟨d, hd, rfl⟩)
      rw [List.find?_cons_of_neg (by simp [ne])]
      exact find_name n1 hd
theorem placed_in {x : HallH} {ps : List Str} {q s : Str} (h : s ∈ placedL (x.stones.zip ps) q) : ∃ j : Nat, (x.stones.map Prod.fst)[j]? = some s ∧ ps[j]? = some q := by
  unfold placedL at h
  obtain ⟨z, hz, rfl⟩ := List.mem_map.mp h
  obtain ⟨hz1, hz2⟩ := List.mem_filter.mp hz
  obtain ⟨j, hj⟩ := List.mem_iff_getElem?.mp hz1
  have e2 : z.2 = q := of_decide_eq_true hz2
  obtain ⟨h1, h2⟩ := List.getElem?_zip_eq_some.mp hj
  exact ⟨j, by rw [List.getElem?_map, h1]; rfl, by rw [h2, e2]⟩
theorem names_apart {x : HallH} {q : Str} (nd : x.names.Nodup) (h : q ∈ x.rooms) : q ∉ x.walkers.map WalkH.name := fun m => by
  unfold HallH.names at nd
  exact (List.nodup_append.mp nd).2.2 q h q (List.mem_append_left _ m) rfl
/-- each told deed can be done -/
theorem deeds_why {sr sd ss sw t : Nat} {x : HallH} {rs ps d : List Str} {z : WalkH} {r : Str} (ok : HallOk sr sd ss sw x) (sh : StandH x t rs ps) (hz : x.walkers[t]? = some z) (hr : rs[t]? = some r) (hd : d ∈ deedsZ x rs ps z r) :
    whyD x rs ps z r d = none ∧ ∃ rs' ps', StepH x t rs ps d rs' ps' := by
  have nk := ok.n2
  have nd := ok.n1
  have na := names_apart ok.n1 (sh.rin r (List.mem_of_getElem? hr))
  have zin : z.name ∈ x.walkers.map WalkH.name := List.mem_map.mpr ⟨z, List.mem_of_getElem? hz, rfl⟩
  unfold HallH.names at nk nd
  have snd : (x.stones.map Prod.fst).Nodup := (List.nodup_append.mp (List.nodup_append.mp (List.nodup_append.mp nd).2.1).2.1).1
  have dnd : (x.doors.map DoorH.name).Nodup := (List.nodup_append.mp (List.nodup_append.mp (List.nodup_append.mp nd).2.1).2.1).2.1
  have dnk : ∀ y ∈ x.doors.map DoorH.name, NameOk y := fun y hy => nk y (List.mem_append_right _ (List.mem_append_right _ (List.mem_append_right _ hy)))
  have snk : ∀ y ∈ x.stones.map Prod.fst, NameOk y := fun y hy => nk y (List.mem_append_right _ (List.mem_append_right _ (List.mem_append_left _ hy)))
  have b2 : ∀ {w n : Str}, (w = goS ∨ w = liftS ∨ w = layS) → NameOk n → deedB [w, n] = true := fun {w n} hw hn => by
    show ([goS, liftS, layS].any (fun y => decide (y = w)) && decide (NameOk n)) = true
    rw [decide_eq_true hn, Bool.and_true, List.any_eq_true]
    exact ⟨w, by simpa using hw, by simp⟩
  have lg : ¬ layS = goS := by decide +kernel
  have ll : ¬ layS = liftS := by decide +kernel
  have lf : ¬ liftS = goS := by decide +kernel
  unfold deedsZ deedsOf at hd
  rcases List.mem_append.mp hd with hd | hd
  · rcases List.mem_append.mp hd with hd | hd
    · rcases List.mem_append.mp hd with hd | hd
      · obtain ⟨n, hn, rfl⟩ := List.mem_map.mp hd
        unfold goL at hn
        obtain ⟨dd, hdd, rfl⟩ := List.mem_map.mp hn
        obtain ⟨h1, h2⟩ := List.mem_filter.mp hdd
        obtain ⟨h3, h4⟩ := Bool.and_eq_true_iff.mp h2
        obtain ⟨bb, hb⟩ := Option.isSome_iff_exists.mp h4
        refine ⟨?_, _, _, .go h1 hr hb⟩
        have hb2 := b2 (w := goS) (.inl rfl) (dnk _ (List.mem_map.mpr ⟨dd, h1, rfl⟩))
        unfold whyD
        rw [show (Str.ofString "go" : Str) = goS from rfl, hb2, if_pos rfl]
        simp only [if_true]
        unfold whyGo
        rw [find_name dnd h1]
        simp [hb, h3]
      · obtain ⟨n, hn, rfl⟩ := List.mem_map.mp hd
        obtain ⟨j, h1, h2⟩ := placed_in hn
        refine ⟨?_, _, _, .lay h1 hr⟩
        have hb2 := b2 (w := layS) (.inr (.inr rfl)) (snk _ (List.mem_of_getElem? h1))
        have hp : placeOf x ps n = some z.name := place_at snd h1 h2
        unfold whyD
        rw [show (Str.ofString "lay" : Str) = layS from rfl, hb2, if_pos rfl]
        simp only [lg, ll, if_false]
        unfold whyLay
        rw [hp]
        simp
    · obtain ⟨n, hn, rfl⟩ := List.mem_map.mp hd
      split at hn
      · rename_i hc
        obtain ⟨j, h1, h2⟩ := placed_in hn
        refine ⟨?_, _, _, .lift h1 hz⟩
        have hb2 := b2 (w := liftS) (.inr (.inl rfl)) (snk _ (List.mem_of_getElem? h1))
        have hp : placeOf x ps n = some r := place_at snd h1 h2
        unfold whyD
        rw [show (Str.ofString "lift" : Str) = liftS from rfl, hb2, if_pos rfl]
        simp only [lf, if_false, if_true]
        unfold whyLift
        rw [hp]
        have : ¬ z.hands ≤ ((ps.count z.name : Nat) : Int) := by omega
        simp [this]
      · cases hn
  · rw [List.mem_singleton.mp hd]
    refine ⟨?_, _, _, .wait⟩
    unfold whyD
    rw [show deedB [Str.ofString "wait"] = true from by show decide (Str.ofString "wait" = Str.ofString "wait") = true; exact decide_eq_true rfl, if_pos rfl]
/-- behind a deed that can be done there is a stand -/
theorem step_stand {sr sd ss sw t : Nat} {x : HallH} {rs ps d rs' ps' : List Str} {z : WalkH} {r : Str} (ok : HallOk sr sd ss sw x) (sh : StandH x t rs ps) (hz : x.walkers[t]? = some z) (hr : rs[t]? = some r) (st : StepH x t rs ps d rs' ps') (hw : whyD x rs ps z r d = none) :
    StandH x ((t + 1) % x.walkers.length) rs' ps' := by
  have w1 := ok.w1
  have tn : (t + 1) % x.walkers.length < x.walkers.length := Nat.mod_lt _ (by omega)
  have na := names_apart ok.n1 (sh.rin r (List.mem_of_getElem? hr))
  cases st with
  | wait => exact ⟨tn, sh.rl, sh.rin, sh.pl, sh.pin, sh.cnt⟩
  | @go d r0 b hd hr0 hb =>
    refine ⟨tn, by rw [List.length_set, sh.rl], fun q hq => ?_, sh.pl, sh.pin, sh.cnt⟩
    rcases List.mem_or_eq_of_mem_set hq with hq | rfl
    · exact sh.rin q hq
    · have dk := ok.d4 d hd
      unfold farH at hb
      split at hb
      · cases hb
        exact dk.other
      · split at hb
        · cases hb
          exact dk.one
        · cases hb
  | @lay j s r0 hs hr0 =>
    have e : r0 = r := by rw [hr] at hr0; exact (Option.some.inj hr0).symm
    subst e
    refine ⟨tn, sh.rl, sh.rin, by rw [List.length_set, sh.pl], fun q hq => ?_, fun y hy => ?_⟩
    · rcases List.mem_or_eq_of_mem_set hq with hq | rfl
      · exact sh.pin q hq
      · exact .inl (sh.rin _ (List.mem_of_getElem? hr))
    · have jl := (List.getElem?_eq_some_iff.mp hs).1
      rw [List.length_map, ← sh.pl] at jl
      have ne : ¬ r0 = y.name := fun e => na (by rw [e]; exact List.mem_map.mpr ⟨y, hy, rfl⟩)
      have := sh.cnt y hy
      rw [List.count_set jl]
      simp only [beq_iff_eq, ne, if_false]
      omega
  | @lift j s z0 hs hz0 =>
    have e : z0 = z := by rw [hz] at hz0; exact (Option.some.inj hz0).symm
    subst e
    have nd := ok.n1
    unfold HallH.names at nd
    have snd : (x.stones.map Prod.fst).Nodup := (List.nodup_append.mp (List.nodup_append.mp (List.nodup_append.mp nd).2.1).2.1).1
    have wnd : (x.walkers.map WalkH.name).Nodup := (List.nodup_append.mp (List.nodup_append.mp nd).2.1).1
    have jl := (List.getElem?_eq_some_iff.mp hs).1
    rw [List.length_map, ← sh.pl] at jl
    have hp : placeOf x ps s = some ps[j] := place_at snd hs (List.getElem?_eq_getElem jl)
    have hb : deedB [liftS, s] = true := by
      unfold whyD at hw
      by_cases hb : deedB [Str.ofString "lift", s] = true
      · exact hb
      · rw [if_neg hb] at hw
        cases hw
    have lf : ¬ liftS = goS := by decide +kernel
    have hl : whyLift x ps z0 r s = none := by
      unfold whyD at hw
      rw [show (Str.ofString "lift" : Str) = liftS from rfl, hb, if_pos rfl] at hw
      simpa only [lf, if_false, if_true] using hw
    unfold whyLift at hl
    rw [hp] at hl
    simp only [] at hl
    split at hl
    · cases hl
    rename_i hpr
    split at hl
    · cases hl
    rename_i hc
    refine ⟨tn, sh.rl, sh.rin, by rw [List.length_set, sh.pl], fun q hq => ?_, fun y hy => ?_⟩
    · rcases List.mem_or_eq_of_mem_set hq with hq | rfl
      · exact sh.pin q hq
      · exact .inr (List.mem_map.mpr ⟨z0, List.mem_of_getElem? hz, rfl⟩)
    · have := sh.cnt y hy
      rw [List.count_set jl]
      by_cases e : z0.name = y.name
      · have ez : z0.hands = y.hands := by
          have : z0 = y := by
            obtain ⟨i, hi⟩ := List.mem_iff_getElem?.mp hy
            have h1 : (x.walkers.map WalkH.name)[t]? = some z0.name := by rw [List.getElem?_map, hz]; rfl
            have h2 : (x.walkers.map WalkH.name)[i]? = some y.name := by rw [List.getElem?_map, hi]; rfl
            by_cases ti : t = i
            · subst ti
              rw [hz] at hi
              exact Option.some.inj hi
            · exfalso
              rcases Nat.lt_or_gt_of_ne ti with h | h
              · exact first_at wnd h2 h h1 e
              · exact first_at wnd h1 h h2 e.symm
          rw [this]
        simp only [beq_iff_eq, e, if_true]
        rw [← e]
        omega
      · simp only [beq_iff_eq, e, if_false]
        omega
theorem place_in {x : HallH} {ps : List Str} {s q : Str} (h : placeOf x ps s = some q) : s ∈ placedL (x.stones.zip ps) q := by
  unfold placeOf at h
  obtain ⟨z, hz, e⟩ := Option.map_eq_some_iff.mp h
  have h1 := List.mem_of_find?_eq_some hz
  have h2 : z.1.1 = s := by
    have := List.find?_some hz
    exact of_decide_eq_true this
  unfold placedL
  exact List.mem_map.mpr ⟨z, List.mem_filter.mpr ⟨h1, decide_eq_true e⟩, h2⟩
/-- what can be done is told -/
theorem why_deeds {x : HallH} {rs ps d : List Str} {z : WalkH} {r : Str} (hl : d.length = 1 ∨ d.length = 2) (hw : whyD x rs ps z r d = none) : d ∈ deedsZ x rs ps z r := by
  unfold whyD at hw
  by_cases hb : deedB d = true
  · rw [if_pos hb] at hw
    match d, hl, hb, hw with
    | [w], _, hb, _ =>
      have e : w = Str.ofString "wait" := of_decide_eq_true hb
      subst e
      unfold deedsZ deedsOf
      exact List.mem_append_right _ (List.mem_singleton.mpr rfl)
    | [w, n], _, hb, hw =>
      have hw' : w = goS ∨ w = liftS ∨ w = layS := by
        have h1 := (Bool.and_eq_true_iff.mp hb).1
        obtain ⟨u, hu1, hu2⟩ := List.any_eq_true.mp h1
        have e : u = w := of_decide_eq_true hu2
        subst e
        simpa using hu1
      have lg : ¬ layS = goS := by decide +kernel
      have ll : ¬ layS = liftS := by decide +kernel
      have lf : ¬ liftS = goS := by decide +kernel
      unfold deedsZ deedsOf
      rcases hw' with rfl | rfl | rfl
      · simp only [if_true] at hw
        unfold whyGo at hw
        cases hf : x.doors.find? (fun d => decide (d.name = n)) with
        | none => rw [hf] at hw; cases hw
        | some dd =>
          rw [hf] at hw
          simp only [] at hw
          have h1 := List.mem_of_find?_eq_some hf
          have h2 : dd.name = n := by
            have := List.find?_some hf
            exact of_decide_eq_true this
          subst h2
          split at hw
          · cases hw
          rename_i hs
          split at hw
          · rename_i ho
            refine List.mem_append_left _ (List.mem_append_left _ (List.mem_append_left _ (List.mem_map.mpr ⟨dd.name, ?_, rfl⟩)))
            unfold goL
            refine List.mem_map.mpr ⟨dd, List.mem_filter.mpr ⟨h1, ?_⟩, rfl⟩
            rw [ho, Bool.true_and]
            cases hfr : farH dd r with
            | none => rw [hfr] at hs; exact absurd rfl hs
            | some b => rfl
          · cases hw
      · simp only [lf, if_false, if_true] at hw
        unfold whyLift at hw
        cases hp : placeOf x ps n with
        | none => rw [hp] at hw; cases hw
        | some q =>
          rw [hp] at hw
          simp only [] at hw
          split at hw
          · cases hw
          rename_i hq
          have hq : q = r := Decidable.of_not_not hq
          split at hw
          · cases hw
          rename_i hc
          refine List.mem_append_left _ (List.mem_append_right _ (List.mem_map.mpr ⟨n, ?_, rfl⟩))
          rw [if_pos (by omega), ← hq]
          exact place_in hp
      · simp only [lg, ll, if_false] at hw
        unfold whyLay at hw
        cases hp : placeOf x ps n with
        | none => rw [hp] at hw; cases hw
        | some q =>
          rw [hp] at hw
          simp only [] at hw
          split at hw
          · cases hw
          rename_i hq
          have hq : q = z.name := Decidable.of_not_not hq
          refine List.mem_append_left _ (List.mem_append_left _ (List.mem_append_right _ (List.mem_map.mpr ⟨n, ?_, rfl⟩)))
          rw [← hq]
          exact place_in hp
  · rw [if_neg hb] at hw
    cases hw
end Wd

set_option Elab.async false
set_option linter.all false
set_option maxRecDepth 100000
set_option maxHeartbeats 4000000
/-! Doors that stand open ahead, without what was shut and with what was opened, are those behind. -/
namespace Wd
open PySem PySem.Spec PyProof.Rows L2
def offL (as bs : List Str) : List Str := as.filter fun a => decide (a ∉ bs)
theorem offL_len (as bs : List Str) : (offL as bs).length ≤ as.length := List.length_filter_le _ _
theorem offL_mem {as bs : List Str} {a : Str} : a ∈ offL as bs ↔ a ∈ as ∧ a ∉ bs := by
  unfold offL
  rw [List.mem_filter, decide_eq_true_iff]
theorem offL_self (as : List Str) : offL as as = [] := List.filter_eq_nil_iff.mpr fun a ha h => (of_decide_eq_true h) ha
theorem swing_perm {as bs : List Str} (ha : as.Nodup) (hb : bs.Nodup) : (offL as (offL as bs) ++ offL bs as).Perm bs := by
  refine (List.perm_ext_iff_of_nodup ?_ hb).mpr fun c => ?_
  · refine List.nodup_append.mpr ⟨List.Nodup.sublist List.filter_sublist ha, List.Nodup.sublist List.filter_sublist hb, fun x hx y hy e => ?_⟩
    subst e
    exact (offL_mem.mp hy).2 (offL_mem.mp hx).1
  · rw [List.mem_append, offL_mem, offL_mem, offL_mem]
    by_cases h1 : c ∈ as <;> by_cases h2 : c ∈ bs <;> simp [h1, h2]
def openL (x : HallH) (rs ps : List Str) : List Str := (x.doors.filter (openB (borneH x rs ps none))).map DoorH.name
theorem openL_sub (x : HallH) (rs ps : List Str) : (openL x rs ps).Sublist (x.doors.map DoorH.name) := List.Sublist.map _ List.filter_sublist
end Wd

set_option Elab.async false
set_option linter.all false
set_option maxRecDepth 100000
set_option maxHeartbeats 4000000
/-! x in xs, x not in xs: xs a list or a tuple of texts, x of any kind. -/
namespace Wd
open PySem PySem.Spec PyProof.Rows L2 PySem.SeqAt
section
variable {A : Around} {s : Shared}
theorem str_declines_dict (b : Str) (u : Tok) (l : Addr) (c : Value) (es : Array DictEntry) (n : Nat) (dd : Option Addr) (sl : Array (Option Value)) :
    Meets (Builtin.«str.__eq__» ⟨[.str b u, .ref l], []⟩) (fun _ R s => s.heap.get? l = some { cls := c, dict := dd, data := .dict es n, slots := sl } ∧ R (.ok (.ret .notImplemented)) s) :=
  .of_wp fun prog w A R s h => by obtain ⟨hp, g, d, tk, os⟩ := s; obtain ⟨hl, h⟩ := h; wp_walk using wpAny_loadPart' hl, wpAny_load hl; exact ⟨_, rfl, h⟩
theorem dict_declines_str (l : Addr) (es : Array DictEntry) (n : Nat) (dd : Option Addr) (sl : Array (Option Value)) (b : Str) (u : Tok) :
    Meets (Builtin.«dict.__eq__» ⟨[.ref l, .str b u], []⟩) (fun _ R s => s.heap.get? l = some { cls := .type "dict", dict := dd, data := .dict es n, slots := sl } ∧ R (.ok (.ret .notImplemented)) s) :=
  .of_wp fun prog w A R s h => by obtain ⟨hp, g, d, tk, os⟩ := s; obtain ⟨hl, h⟩ := h; have f1 := F.sub_str_dict; wp_walk using wpAny_loadPart' hl; exact ⟨_, rfl, h⟩
theorem rcat_str_dict {l : Addr} {o : Obj} {es : Array DictEntry} {n : Nat} (b : Str) (u : Tok) (ho : s.heap.get? l = some o) (hx : o.cls = .type "dict") (hd : o.data = .dict es n) (hu : A.units < cLine) : RcAt A s (.str b u) (.ref l) false := fun prog w E Q h => by
  obtain ⟨cls, dd, data, sl⟩ := o
  simp only at hx hd
  subst hx hd
  exact rc_eq_decline_or (k := false) (typeIs_str s b u) ⟨_, ho, rfl⟩ (by decide) F.sub_dict_str F.slot_str_eq F.slot_dict_eq_refl
    (fun _ hq => call_meets F.slot_str_eq (typeIs_str s b u) F.entry_str_eq (F.args_str_eq_2 _ _) (str_declines_dict b u l (.type "dict") es n dd sl) ⟨ho, hq⟩)
    (fun _ hq => call_meets F.slot_dict_eq_refl ⟨_, ho, rfl⟩ F.entry_dict_eq (F.args_dict_eq_2 _ _) (dict_declines_str l es n dd sl b u) ⟨ho, hq⟩)
    (fun _ hq => wpAny_of_eq (rfl : isSame (.str b u) (.ref l) = pure false) hq) (.inr hu) h
theorem eqat_str_dict {l : Addr} {o : Obj} {es : Array DictEntry} {n : Nat} (b : Str) (u : Tok) (ho : s.heap.get? l = some o) (hx : o.cls = .type "dict") (hd : o.data = .dict es n) (hu : A.units < cLine) : EqAt A s (.str b u) (.ref l) false := fun prog w E Q h => by
  unfold eqBool
  refine wpAny_holding (wpAny_ite_split (fun hab => absurd (eq_of_beq hab) nofun) fun _ => wpAny_bind ?_)
  exact rcat_str_dict b u ho hx hd hu prog w E _ (wpAny_truthy_bool h)
end
/-- what x is, told by which texts it is equal to -/
inductive HitV (K : PySem.W.Frag) (H : Hp) : V → (Str → Bool) → Prop
  | str (a : Str) : HitV K H (.str a) (fun y => decide (y = a))
  | non : HitV K H .non fun _ => false
  | bl (b : Bool) : HitV K H (.bl b) fun _ => false
  | int (i : Int) : HitV K H (.int i) fun _ => false
  | lst {p : Addr} {xs : List V} : SqL K H p xs → HitV K H (.ref p) fun _ => false
  | tup {p : Addr} {xs : List V} : SqT K H p xs → HitV K H (.ref p) fun _ => false
  | dK {p : Addr} {kvs : List (Key × V)} : Rd H p (.dK kvs) → HitV K H (.ref p) fun _ => false
def hitE (hit : Str → Bool) : Value → Bool
  | .str y _ => hit y
  | _ => false
section
variable {X : Cx} {pins : List (Addr × Obj)} {σ : L2.St} {H : Hp} {s : Shared}
theorem dict_obj {p : Addr} {kvs : List (Key × V)} (I : Inv X pins σ H s) (h : Rd H p (.dK kvs)) : ∃ (o : Obj) (es : Array DictEntry) (n : Nat), s.heap.get? p = some o ∧ o.cls = .type "dict" ∧ o.data = .dict es n := by
  have z : ObjOk X.prog X.w H s.heap p (.dK kvs) := by
    rcases h with h | ⟨o, h⟩
    · exact I.hok p _ h
    · exact (I.hok p _ h).2
  obtain ⟨_, _, vs, _, hdo⟩ := z
  obtain ⟨o, es, ep, e1, e2, e3, _⟩ := hdo
  exact ⟨o, es, ep, e1, e2.1, e3⟩
theorem hit_eq {A : Around} {x : V} {v : Value} {hit : Str → Bool} (I : Inv X pins σ H s) (hu : A.units < cLine) (h : HitV X.K H x hit) (r : RelV x v) (y : Str) (t : Tok) : EqAt A s (.str y t) v (hit y) := by
  cases h with
  | str a =>
    obtain ⟨t2, rfl⟩ := r
    have e := EqAt.str_str (A := A) (s := s) y t a t2
    have e2 : (y == a) = decide (y = a) := rfl
    rw [e2] at e
    exact e
  | non =>
    obtain rfl : v = .none := r
    exact EqAt.str_none y t
  | bl b =>
    obtain rfl : v = .bool b := r
    exact EqAt.str_bool y t b
  | int i =>
    obtain ⟨t2, rfl⟩ := r
    exact EqAt.str_int y t i t2
  | lst hs =>
    obtain rfl : v = .ref _ := r
    obtain ⟨its, _, pl, _⟩ := I.list hs
    exact EqAt.str_list y t pl.isList hu
  | tup hs =>
    obtain rfl : v = .ref _ := r
    obtain ⟨its, _, pl, _⟩ := I.tuple hs
    exact EqAt.str_tuple y t pl hu
  | dK hd =>
    obtain rfl : v = .ref _ := r
    obtain ⟨o, es, n, e1, e2, e3⟩ := dict_obj I hd
    exact eqat_str_dict y t e1 e2 e3 hu
theorem hit_any {hit : Str → Bool} : ∀ {us : List Value} {ns : List Str}, Vals (ns.map V.str) us → us.any (hitE hit) = ns.any hit
  | [], [], .nil => rfl
  | u :: us, n :: ns, .cons h r => by
    obtain ⟨t, rfl⟩ := h
    rw [List.any_cons, List.any_cons, hit_any r]
    rfl
theorem hit_mem {A : Around} {x : V} {v : Value} {hit : Str → Bool} (I : Inv X pins σ H s) (hu : A.units < cLine) (h : HitV X.K H x hit) (rx : RelV x v) : ∀ {us : List Value} {ns : List Str}, Vals (ns.map V.str) us → ∀ y ∈ us, EqAt A s y v (hitE hit y)
  | u :: us, n :: ns, .cons r q, y, hy => by
    rcases List.mem_cons.mp hy with rfl | hy
    · obtain ⟨t, rfl⟩ := r
      exact hit_eq I hu h rx n t
    · exact hit_mem I hu h rx q y hy
/-- x in xs | x not in xs -/
def rInT (neg : Bool) (K : PySem.W.Frag) : R2 := fun x y H Q => ∃ (p : Addr) (ns : List Str) (hit : Str → Bool), y = .ref p ∧ (SqL K H p (ns.map V.str) ∨ SqT K H p (ns.map V.str)) ∧ HitV K H x hit ∧ Q (.bl (if neg then !ns.any hit else ns.any hit)) H
theorem op_inT {K : PySem.W.Frag} (hu : X.A.units + 64 < cLine) (hK : X.K = K := by rfl) : OpR X (compareOp .In) (rInT false K) := by
  subst hK
  intro pins s σ H x y v u Q I rx ry h
  obtain ⟨p, ns, hit, rfl, hs, hh, q⟩ := h
  obtain rfl : u = .ref p := ry
  have hu1 : X.A.in1.units < cLine := by
    have : X.A.in1.units = X.A.units + 1 := rfl
    omega
  rcases hs with hs | hs
  · obtain ⟨its, rv, pl, _⟩ := I.list hs
    refine in_listAt (hitE hit) pl.isList (fun y hy => hit_mem I hu1 hh rx rv y (by simpa using hy)) ⟨.bl _, H, I, rfl, ?_⟩
    rw [show its.toArray.any (hitE hit) = its.any (hitE hit) from by simp, hit_any rv]
    exact q
  · obtain ⟨its, rv, pl, _⟩ := I.tuple hs
    refine in_tupleAt (hitE hit) pl (fun y hy => hit_mem I hu1 hh rx rv y (by simpa using hy)) ⟨.bl _, H, I, rfl, ?_⟩
    rw [show its.toArray.any (hitE hit) = its.any (hitE hit) from by simp, hit_any rv]
    exact q
theorem op_notInT {K : PySem.W.Frag} (hu : X.A.units + 64 < cLine) (hK : X.K = K := by rfl) : OpR X (compareOp .NotIn) (rInT true K) := by
  subst hK
  intro pins s σ H x y v u Q I rx ry h
  obtain ⟨p, ns, hit, rfl, hs, hh, q⟩ := h
  obtain rfl : u = .ref p := ry
  have hu1 : X.A.in1.units < cLine := by
    have : X.A.in1.units = X.A.units + 1 := rfl
    omega
  rcases hs with hs | hs
  · obtain ⟨its, rv, pl, _⟩ := I.list hs
    refine notIn_listAt (hitE hit) pl.isList (fun y hy => hit_mem I hu1 hh rx rv y (by simpa using hy)) ⟨.bl _, H, I, rfl, ?_⟩
    rw [show its.toArray.any (hitE hit) = its.any (hitE hit) from by simp, hit_any rv]
    exact q
  · obtain ⟨its, rv, pl, _⟩ := I.tuple hs
    refine notIn_tupleAt (hitE hit) pl (fun y hy => hit_mem I hu1 hh rx rv y (by simpa using hy)) ⟨.bl _, H, I, rfl, ?_⟩
    rw [show its.toArray.any (hitE hit) = its.any (hitE hit) from by simp, hit_any rv]
    exact q
end
theorem any_names {ns : List Str} {r : Str} (h : r ∈ ns) : ns.any (fun y => decide (y = r)) = true := List.any_eq_true.mpr ⟨r, h, decide_eq_true rfl⟩
theorem HitV.same {K : PySem.W.Frag} {H H' : Hp} {x : V} {hit : Str → Bool} (s : Same H H') (h : HitV K H x hit) : HitV K H' x hit := by
  cases h with
  | str a => exact .str a
  | non => exact .non
  | bl b => exact .bl b
  | int i => exact .int i
  | lst e => exact .lst (sqL_at (fun o => s _ o) e)
  | tup e => exact .tup (same_sqT s e)
  | dK e => exact .dK (e.elim (fun e => .inl (s _ _ e)) fun ⟨o, e⟩ => .inr ⟨o, s _ _ e⟩)
end Wd

set_option Elab.async false
set_option linter.all false
set_option maxRecDepth 100000
set_option maxHeartbeats 4000000
/-! [x for x in xs if x not in ys] of texts; lists of texts compared; a stand past a list that changes. -/
namespace Wd
open PySem PySem.Spec PyProof.Rows L2
theorem pair_rising : ∀ (p : Str) (l : List Str), (p :: l).Pairwise leT → risingS p l = true
  | _, [], _ => rfl
  | p, x :: l, h => by
    obtain ⟨h1, h2⟩ := List.pairwise_cons.mp h
    have := ltCps_le.mpr (h1 x List.mem_cons_self)
    simp only [risingS, this, pair_rising x l h2, Bool.not_false, Bool.and_self]
theorem pair_sorted : ∀ {l : List Str}, l.Pairwise leT → sortedS l = true
  | [], _ => rfl
  | p :: l, h => pair_rising p l h
theorem any_memO {a : Str} {bs : List Str} : bs.any (fun y => decide (y = a)) = decide (a ∈ bs) := by
  rw [Bool.eq_iff_iff, List.any_eq_true, decide_eq_true_iff]
  constructor
  · rintro ⟨y, hy, e⟩
    have := of_decide_eq_true e
    rw [← this]
    exact hy
  · exact fun h => ⟨a, h, decide_eq_true rfl⟩
theorem lc_off {K : PySem.W.Frag} {σ : L2.St} {i j e : Nat} {H : Hp} {Q : VK} {l1 l2 : Addr} {xs ys : List Str} (hi : σ[i]? = some (some (.ref l1))) (hj : σ[j]? = some (some (.ref l2))) (ne : j ≠ e) (he : e < σ.length) (e1 : H l1 = some (.lst (xs.map V.str))) (e2 : H l2 = some (.lst (ys.map V.str))) (h : xs.length ≤ 60)
    (q : ∀ D Z, Same H Z → H D = none → Z D = some (.lst ((offL xs ys).map V.str)) → Q (.ref D) Z) : tLc (iList K (tVar i)) (gName e) (tTest (tOp (rInT true K) (tVar e) (tVar j))) (tVar e) [e] σ H Q := by
  refine ⟨.ref l1, hi, l1, rfl, ⟨_, .inl (.inl e1)⟩, fun D nD => ?_⟩
  refine lc_it (walk_list (a := l1) (xs := xs.map V.str)) (fun k Z => Same H Z ∧ Z D = some (.lst ((offL (xs.take k) ys).map V.str))) ⟨same_new nD, upd_same⟩ (fun k Z _ pv => .inl (.inl (pv.1 _ _ e1))) (fun k u Z Z' hk pv hy => ?_) (fun Z pv => ?_)
  · obtain ⟨sZ, z1⟩ := pv
    obtain ⟨rfl, hv⟩ := hy
    rw [List.getElem?_map] at hv
    obtain ⟨nm, hn, rfl⟩ := Option.map_eq_some_iff.mp hv
    have g1 : ((wipe σ [e]).set e (some (V.str nm)))[e]? = some (some (V.str nm)) := by
      show ((σ.set e none).set e (some (V.str nm)))[e]? = _
      rw [List.getElem?_set_self (by rw [List.length_set]; exact he)]
    have g2 : ((wipe σ [e]).set e (some (V.str nm)))[j]? = some (some (.ref l2)) := by
      show ((σ.set e none).set e (some (V.str nm)))[j]? = _
      rw [List.getElem?_set_ne (Ne.symm ne), List.getElem?_set_ne (Ne.symm ne)]
      exact hj
    refine ⟨?_, .str nm, g1, .ref l2, g2, l2, ys, _, rfl, .inl (.inl (.inl (sZ _ _ e2))), .str nm, _, rfl, ?_⟩
    · show ((σ.set e none).set e (some (V.str nm))).set e none = σ.set e none
      rw [List.set_set, List.set_set]
    rw [any_memO]
    have hl : (offL (xs.take k) ys).length ≤ 60 := Nat.le_trans (offL_len _ _) (by rw [List.length_take]; omega)
    have off : offL (xs.take (k + 1)) ys = offL (xs.take k) ys ++ if nm ∈ ys then [] else [nm] := by
      unfold offL
      rw [take_snoc hn, List.filter_append]
      congr 1
      by_cases hin : nm ∈ ys <;> simp [hin]
    rw [off, List.map_append]
    by_cases hin : nm ∈ ys
    · rw [if_pos hin, List.map_nil, List.append_nil, decide_eq_true hin]
      exact iteF ⟨sZ, z1⟩
    · rw [if_neg hin, decide_eq_false hin]
      exact iteT ⟨.str nm, g1, _, z1, by rw [List.length_map, sizeLine_eq]; omega, same_mut sZ nD, upd_same⟩
  · obtain ⟨sZ, z1⟩ := pv
    rw [List.length_map, List.take_length] at z1
    exact q D Z sZ nD z1
theorem dp_strs {K : PySem.W.Frag} {H : Hp} : ∀ xs : List Str, DpAll K H (xs.map V.str) (xs.map PyData.str)
  | [] => .nil
  | x :: xs => .cons (.str x) (dp_strs xs)
theorem shaped_strs {xs : List Str} (h : ∀ s ∈ xs, NameOk s) : SeqAt.shaped (.list (xs.map PyData.str)) = true := shaped_list (lay_strs h) (by rw [depth_strs]; omega)
theorem shaped_tup {xs : List Str} (h : ∀ s ∈ xs, NameOk s) : SeqAt.shaped (.tuple (xs.map PyData.str)) = true := by
  show (PyData.canLay0 _ && decide _) = true
  rw [Bool.and_eq_true]
  refine ⟨by simp only [PyData.canLay0]; exact lay_strs h, decide_eq_true ?_⟩
  have := depth_strs xs
  simp only [PyData.depth]
  omega
theorem ne_strs {K : PySem.W.Frag} {H : Hp} {a b : Addr} {xs : List Str} {Q : VK} (ea : H a = some (.lst (xs.map V.str))) (eb : H b = some (.lst (xs.map V.str))) (h : ∀ s ∈ xs, NameOk s) (q : Q (.bl false) H) : rNeX K (.ref a) (.ref b) H Q := by
  refine .inr ⟨.list (xs.map .str), .list (xs.map .str), .lst (.inl (.inl ea)) (dp_strs xs), .lst (.inl (.inl eb)) (dp_strs xs), shaped_strs h, shaped_strs h, ?_⟩
  rw [show PyData.eqv (.list (xs.map PyData.str)) (.list (xs.map PyData.str)) = true from by simp [PyData.eqv, eqv_strs]]
  exact q
/-- (ajar, shut) != ([], []) -/
theorem ne_none {K : PySem.W.Frag} {H : Hp} {u v la lb ea eb : Addr} {Q : VK} (hu : SqT K H u [.ref la, .ref lb]) (hv : SqT K H v [.ref ea, .ref eb]) (ha : H la = some (.lst [])) (hb : H lb = some (.lst [])) (h1 : H ea = some (.lst [])) (h2 : H eb = some (.lst [])) (q : Q (.bl false) H) : rNeX K (.ref u) (.ref v) H Q := by
  refine .inr ⟨.tuple [.list [], .list []], .tuple [.list [], .list []], .tup hu (.cons (.lst (.inl (.inl ha)) .nil) (.cons (.lst (.inl (.inl hb)) .nil) .nil)), .tup hv (.cons (.lst (.inl (.inl h1)) .nil) (.cons (.lst (.inl (.inl h2)) .nil) .nil)), by decide +kernel, by decide +kernel, ?_⟩
  rw [show PyData.eqv (.tuple [.list [], .list []]) (.tuple [.list [], .list []]) = true from by simp [PyData.eqv, PyData.eqvAll]]
  exact q
theorem sqT_off {K : PySem.W.Frag} {H : Hp} {l : Addr} {zs xs : List V} {o : HO} {a : Addr} (e : H l = some (.lst zs)) (h : SqT K H a xs) : SqT K (upd H l o) a xs := by
  rcases h with (h | ⟨u, h⟩) | h
  · exact .inl (.inl (by rw [upd_ne (fun z => by rw [z, e] at h; cases h)]; exact h))
  · exact .inl (.inr ⟨u, by rw [upd_ne (fun z => by rw [z, e] at h; cases h)]; exact h⟩)
  · exact .inr h
theorem StandAt.off {K : PySem.W.Frag} {H : Hp} {v : V} {t : Nat} {rs ps : List Str} {l : Addr} {zs : List V} {o : HO} (e : H l = some (.lst zs)) (h : StandAt K H v t rs ps) : StandAt K (upd H l o) v t rs ps :=
  h.move (fun _ _ z => sqT_off e z) fun a xs z => z.upd (z.ne e)
theorem eqvAll_strs : ∀ (xs ys : List Str), PyData.eqvAll (xs.map PyData.str) (ys.map PyData.str) = decide (xs = ys)
  | [], [] => rfl
  | [], _ :: _ => rfl
  | _ :: _, [] => rfl
  | x :: xs, y :: ys => by
    rw [List.map_cons, List.map_cons]
    simp only [PyData.eqvAll, PyData.eqv, eqvAll_strs xs ys]
    rw [Bool.eq_iff_iff]
    simp
end Wd

set_option Elab.async false
set_option linter.all false
set_option maxRecDepth 100000
set_option maxHeartbeats 4000000
/-! What a deed touches, as data: what rooms bear behind it. -/
namespace Wd
open PySem PySem.Spec PyProof.Rows L2
theorem addAt_at (g : Str → Int) (r q : Str) (h : Int) : addAt g r h q = g q + if r = q then h else 0 := by
  unfold addAt
  by_cases e : q = r
  · subst e
    simp
  · have : ¬ r = q := fun z => e z.symm
    simp [e, this]
theorem folkW_sum (q : Str) : ∀ (zs : List (WalkH × Str)) (g : Str → Int), folkW none zs g q = g q + (zs.map fun z => if z.2 = q then z.1.heft else 0).sum
  | [], g => by
    show g q = g q + 0
    omega
  | z :: zs, g => by
    have e : folkW none (z :: zs) g = folkW none zs (addAt g z.2 z.1.heft) := rfl
    rw [e, folkW_sum q zs, addAt_at, List.map_cons, List.sum_cons]
    omega
theorem stonesW_sum (wh : Str → Str) (q : Str) : ∀ (zs : List ((Str × Int) × Str)) (g : Str → Int), stonesW none wh zs g q = g q + (zs.map fun z => if wh z.2 = q then z.1.2 else 0).sum
  | [], g => by
    show g q = g q + 0
    omega
  | z :: zs, g => by
    have e : stonesW none wh (z :: zs) g = stonesW none wh zs (addAt g (wh z.2) z.1.2) := rfl
    rw [e, stonesW_sum wh q zs, addAt_at, List.map_cons, List.sum_cons]
    omega
theorem borne_sum (x : HallH) (rs ps : List Str) (q : Str) : borneH x rs ps none q = ((x.walkers.zip rs).map fun z => if z.2 = q then z.1.heft else 0).sum + ((x.stones.zip ps).map fun z => if whereH x rs z.2 = q then z.1.2 else 0).sum := by
  unfold borneH
  rw [stonesW_sum, folkW_sum]
  omega
theorem zip_set_sum {α : Type} (f : α × Str → Int) (b : Str) : ∀ {ws : List α} {rs : List Str} {t : Nat} {w : α} {r : Str}, ws[t]? = some w → rs[t]? = some r → ((ws.zip (rs.set t b)).map f).sum = ((ws.zip rs).map f).sum - f (w, r) + f (w, b)
  | w :: ws, r :: rs, 0, w', r', h1, h2 => by
    cases h1
    cases h2
    simp only [List.set_cons_zero, List.zip_cons_cons, List.map_cons, List.sum_cons]
    omega
  | w :: ws, r :: rs, t + 1, w', r', h1, h2 => by
    have ih := zip_set_sum f b (ws := ws) (rs := rs) (t := t) h1 h2
    simp only [List.set_cons_succ, List.zip_cons_cons, List.map_cons, List.sum_cons]
    omega
theorem whereL_set {b p : Str} : ∀ {ws : List WalkH} {rs : List Str} {t : Nat} {z : WalkH}, (ws.map WalkH.name).Nodup → rs.length = ws.length → ws[t]? = some z → whereL (ws.zip (rs.set t b)) p = if p = z.name then some b else whereL (ws.zip rs) p
  | w :: ws, r :: rs, 0, z, n, l, h => by
    cases h
    simp only [List.set_cons_zero, List.zip_cons_cons, whereL]
    by_cases e : w.name = p
    · rw [if_pos e, if_pos e.symm]
    · rw [if_neg e, if_neg fun c => e c.symm, if_neg e]
  | w :: ws, r :: rs, t + 1, z, n, l, h => by
    rw [List.map_cons] at n
    obtain ⟨n1, n2⟩ := List.nodup_cons.mp n
    have ih := whereL_set (b := b) (p := p) (ws := ws) (rs := rs) (t := t) n2 (by simpa using l) h
    have zin : z.name ∈ ws.map WalkH.name := List.mem_map.mpr ⟨z, List.mem_of_getElem? h, rfl⟩
    simp only [List.set_cons_succ, List.zip_cons_cons, whereL]
    by_cases e : w.name = p
    · rw [if_pos e, if_pos e, if_neg fun c => n1 (by rw [e, c]; exact zin)]
    · rw [if_neg e, if_neg e]
      exact ih
theorem where_set {x : HallH} {rs : List Str} {t : Nat} {z : WalkH} {b p : Str} (n : (x.walkers.map WalkH.name).Nodup) (l : rs.length = x.walkers.length) (h : x.walkers[t]? = some z) : whereH x (rs.set t b) p = if p = z.name then b else whereH x rs p := by
  unfold whereH
  rw [whereL_set n l h]
  by_cases e : p = z.name
  · rw [if_pos e, if_pos e]
    rfl
  · rw [if_neg e, if_neg e]
theorem where_own {x : HallH} {rs : List Str} {t : Nat} {z : WalkH} {r : Str} (n : (x.walkers.map WalkH.name).Nodup) (l : rs.length = x.walkers.length) (h : x.walkers[t]? = some z) (hr : rs[t]? = some r) : whereH x rs z.name = r := by
  have e : (rs.set t r) = rs := by
    apply List.ext_getElem?
    intro i
    by_cases c : t = i
    · subst c
      rw [List.getElem?_set_self (List.getElem?_eq_some_iff.mp hr).1, hr]
    · rw [List.getElem?_set_ne c]
  rw [← e, where_set n l h, if_pos rfl]
theorem where_room {x : HallH} {rs : List Str} {q : Str} (h : q ∉ x.walkers.map WalkH.name) : whereH x rs q = q := by
  unfold whereH
  cases e : whereL (x.walkers.zip rs) q with
  | none => rfl
  | some r =>
    exfalso
    have : ∀ {zs : List (WalkH × Str)}, whereL zs q = some r → ∃ z ∈ zs, z.1.name = q := by
      intro zs
      induction zs with
      | nil => intro h; cases h
      | cons y zs ih =>
        intro h
        unfold whereL at h
        by_cases c : y.1.name = q
        · exact ⟨y, List.mem_cons_self, c⟩
        · rw [if_neg c] at h
          obtain ⟨z, hz, e⟩ := ih h
          exact ⟨z, List.mem_cons_of_mem _ hz, e⟩
    obtain ⟨z, hz, e2⟩ := this e
    exact h (by rw [← e2]; exact List.mem_map.mpr ⟨z.1, (List.of_mem_zip (a := z.1) (b := z.2) hz).1, rfl⟩)
/-- the stones that a walker carries, their hefts -/
def loadL (x : HallH) (ps : List Str) (n : Str) : Int := ((x.stones.zip ps).map fun y => if y.2 = n then y.1.2 else 0).sum
theorem stones_moved (wh wh' : Str → Str) (n r b q : Str) (hn : wh n = r) (hw : ∀ p, wh' p = if p = n then b else wh p) : ∀ zs : List ((Str × Int) × Str), (zs.map fun z => if wh' z.2 = q then z.1.2 else 0).sum =
    (zs.map fun z => if wh z.2 = q then z.1.2 else 0).sum + (if b = q then (zs.map fun y => if y.2 = n then y.1.2 else 0).sum else 0) - (if r = q then (zs.map fun y => if y.2 = n then y.1.2 else 0).sum else 0)
  | [] => by simp
  | z :: zs => by
    have ih := stones_moved wh wh' n r b q hn hw zs
    simp only [List.map_cons, List.sum_cons]
    rw [ih, hw]
    by_cases c : z.2 = n
    · rw [if_pos c, if_pos c, c, hn]
      by_cases c1 : b = q <;> by_cases c2 : r = q <;> simp only [c1, c2, if_true, if_false] <;> omega
    · rw [if_neg c, if_neg c]
      by_cases c1 : b = q <;> by_cases c2 : r = q <;> simp only [c1, c2, if_true, if_false] <;> omega
theorem borne_go {x : HallH} {rs ps : List Str} {t : Nat} {z : WalkH} {r b : Str} (n : (x.walkers.map WalkH.name).Nodup) (l : rs.length = x.walkers.length) (h : x.walkers[t]? = some z) (hr : rs[t]? = some r) (q : Str) :
    borneH x (rs.set t b) ps none q - borneH x rs ps none q = (if b = q then z.heft + loadL x ps z.name else 0) - (if r = q then z.heft + loadL x ps z.name else 0) := by
  rw [borne_sum, borne_sum, zip_set_sum _ b h hr, stones_moved (whereH x rs) (whereH x (rs.set t b)) z.name r b q (where_own n l h hr) (fun p => where_set n l h)]
  show _ - (if r = q then z.heft else 0) + (if b = q then z.heft else 0) + (_ + (if b = q then loadL x ps z.name else 0) - (if r = q then loadL x ps z.name else 0)) - _ = _
  by_cases c1 : b = q <;> by_cases c2 : r = q <;> simp only [c1, c2, if_true, if_false] <;> omega
theorem borne_put {x : HallH} {rs ps : List Str} {j : Nat} {s : Str × Int} {o p : Str} (h : x.stones[j]? = some s) (hp : ps[j]? = some o) (e : whereH x rs p = whereH x rs o) (q : Str) : borneH x rs (ps.set j p) none q = borneH x rs ps none q := by
  rw [borne_sum, borne_sum, zip_set_sum _ p h hp]
  show _ + (_ - (if whereH x rs o = q then s.2 else 0) + (if whereH x rs p = q then s.2 else 0)) = _
  rw [e]
  omega
def unlikeL (xs ys : List Str) : List Nat := (List.range xs.length).filter fun k => decide (xs[k]? ≠ ys[k]?)
theorem unlike_same (xs : List Str) : unlikeL xs xs = [] := by
  unfold unlikeL
  rw [List.filter_eq_nil_iff]
  intro k _
  simp
theorem range_one (t : Nat) : ∀ n, (List.range n).filter (fun k => decide (k = t)) = if t < n then [t] else []
  | 0 => rfl
  | n + 1 => by
    rw [List.range_succ, List.filter_append, range_one t n]
    by_cases h : t < n
    · rw [if_pos h, if_pos (by omega)]
      have : ¬ n = t := by omega
      simp [this]
    · rw [if_neg h]
      by_cases e : n = t
      · subst e
        simp
      · rw [if_neg (by omega)]
        simp [e]
theorem unlike_set {xs : List Str} {t : Nat} {r b : Str} (h : xs[t]? = some r) (ne : b ≠ r) : unlikeL xs (xs.set t b) = [t] := by
  have tl := (List.getElem?_eq_some_iff.mp h).1
  unfold unlikeL
  have e : (List.range xs.length).filter (fun k => decide (xs[k]? ≠ (xs.set t b)[k]?)) = (List.range xs.length).filter fun k => decide (k = t) := by
    refine List.filter_congr fun k _ => ?_
    rw [decide_eq_decide]
    by_cases c : t = k
    · subst c
      rw [List.getElem?_set_self tl, h]
      constructor
      · intro _; rfl
      · intro _ z
        exact ne (Option.some.inj z).symm
    · rw [List.getElem?_set_ne c]
      constructor
      · intro z; exact absurd rfl z
      · intro z; exact absurd z.symm c
  rw [e, range_one, if_pos tl]
theorem dp_intsT {K : PySem.W.Frag} {H : Hp} : ∀ xs : List Int, DpAll K H (xs.map V.int) (xs.map PyData.int)
  | [] => .nil
  | x :: xs => .cons (.int x) (dp_intsT xs)
theorem lay_intsT : ∀ xs : List Int, PyData.canLayAll0 (xs.map PyData.int) = true ∧ PyData.depthAll (xs.map PyData.int) = 0
  | [] => ⟨rfl, by simp [PyData.depthAll]⟩
  | x :: xs => by
    obtain ⟨h1, h2⟩ := lay_intsT xs
    rw [List.map_cons]
    refine ⟨by simp only [PyData.canLayAll0, PyData.canLay0, h1, Bool.and_self], ?_⟩
    simp only [PyData.depthAll, PyData.depth, h2]
    decide
theorem shaped_intsT (xs : List Int) : SeqAt.shaped (.list (xs.map PyData.int)) = true := shaped_list (lay_intsT xs).1 (by rw [(lay_intsT xs).2]; omega)
theorem eqvAll_intsT : ∀ xs : List Int, PyData.eqvAll (xs.map PyData.int) (xs.map PyData.int) = true
  | [] => rfl
  | x :: xs => by
    rw [List.map_cons]
    simp [PyData.eqvAll, PyData.eqv, eqvAll_intsT xs]
theorem eq_intsT {K : PySem.W.Frag} {H : Hp} {a b : Addr} {xs : List Int} {Q : VK} (ea : H a = some (.lst (xs.map V.int))) (eb : H b = some (.lst (xs.map V.int))) (q : Q (.bl true) H) : rEqX K (.ref a) (.ref b) H Q := by
  refine .inr ⟨.list (xs.map .int), .list (xs.map .int), .lst (.inl (.inl ea)) (dp_intsT xs), .lst (.inl (.inl eb)) (dp_intsT xs), shaped_intsT xs, shaped_intsT xs, ?_⟩
  rw [show PyData.eqv (.list (xs.map PyData.int)) (.list (xs.map PyData.int)) = true from by simp [PyData.eqv, eqvAll_intsT]]
  exact q
theorem ne_intsT {K : PySem.W.Frag} {H : Hp} {a b : Addr} {xs : List Int} {Q : VK} (ea : H a = some (.lst (xs.map V.int))) (eb : H b = some (.lst (xs.map V.int))) (q : Q (.bl false) H) : rNeX K (.ref a) (.ref b) H Q := by
  refine .inr ⟨.list (xs.map .int), .list (xs.map .int), .lst (.inl (.inl ea)) (dp_intsT xs), .lst (.inl (.inl eb)) (dp_intsT xs), shaped_intsT xs, shaped_intsT xs, ?_⟩
  rw [show PyData.eqv (.list (xs.map PyData.int)) (.list (xs.map PyData.int)) = true from by simp [PyData.eqv, eqvAll_intsT]]
  exact q
theorem eq_strs {K : PySem.W.Frag} {H : Hp} {a b : Addr} {xs : List Str} {Q : VK} (ea : H a = some (.lst (xs.map V.str))) (eb : H b = some (.lst (xs.map V.str))) (h : ∀ s ∈ xs, NameOk s) (q : Q (.bl true) H) : rEqX K (.ref a) (.ref b) H Q := by
  refine .inr ⟨.list (xs.map .str), .list (xs.map .str), .lst (.inl (.inl ea)) (dp_strs xs), .lst (.inl (.inl eb)) (dp_strs xs), shaped_strs h, shaped_strs h, ?_⟩
  rw [show PyData.eqv (.list (xs.map PyData.str)) (.list (xs.map PyData.str)) = true from by simp [PyData.eqv, eqv_strs]]
  exact q
/-- nought everywhere, then at two places otherwise -/
theorem due_at {xs : List Str} {i j : Nat} {r b : Str} {g : Int} (nd : xs.Nodup) (hi : xs[i]? = some r) (hj : xs[j]? = some b) (ne : r ≠ b) :
    ((List.replicate xs.length (0 : Int)).set i (0 - g)).set j g = xs.map fun q => (if b = q then g else 0) - (if r = q then g else 0) := by
  have il := (List.getElem?_eq_some_iff.mp hi).1
  have jl := (List.getElem?_eq_some_iff.mp hj).1
  apply List.ext_getElem?
  intro k
  rw [List.getElem?_map]
  by_cases kl : k < xs.length
  · have hk := List.getElem?_eq_getElem kl
    generalize xs[k] = q at hk
    rw [hk]
    have iff : ∀ {m : Nat} {y : Str}, xs[m]? = some y → (m = k ↔ y = q) := fun {m y} hm => by
      constructor
      · intro e
        subst e
        rw [hk] at hm
        exact (Option.some.inj hm).symm
      · intro e
        subst e
        rcases Nat.lt_trichotomy m k with h | h | h
        · exact absurd rfl (first_at nd hk h hm)
        · exact h
        · exact absurd rfl (first_at nd hm h hk)
    by_cases c1 : j = k
    · have c1' := (iff hj).mp c1
      subst c1
      have c2 : ¬ r = q := fun z => ne (z.trans c1'.symm)
      rw [List.getElem?_set_self (by rw [List.length_set, List.length_replicate]; exact kl)]
      simp [c1', c2]
    · have c1' : ¬ b = q := fun z => c1 ((iff hj).mpr z)
      rw [List.getElem?_set_ne c1]
      by_cases c2 : i = k
      · have c2' := (iff hi).mp c2
        subst c2
        rw [List.getElem?_set_self (by rw [List.length_replicate]; exact kl)]
        simp [c1', c2']
      · have c2' : ¬ r = q := fun z => c2 ((iff hi).mpr z)
        rw [List.getElem?_set_ne c2, List.getElem?_replicate, if_pos kl]
        simp [c1', c2']
  · rw [List.getElem?_eq_none (by rw [List.length_set, List.length_set, List.length_replicate]; omega), List.getElem?_eq_none (by omega)]
    rfl
theorem load_sum (n : Str) : ∀ zs : List ((Str × Int) × Str), ((zs.filter fun z => decide (z.2 = n)).map fun z => z.1.2).sum = (zs.map fun y => if y.2 = n then y.1.2 else 0).sum
  | [] => rfl
  | z :: zs => by
    rw [List.map_cons, List.sum_cons, ← load_sum n zs]
    by_cases e : z.2 = n
    · rw [List.filter_cons_of_pos (by simp [e]), List.map_cons, List.sum_cons, if_pos e]
    · rw [List.filter_cons_of_neg (by simp [e]), if_neg e]
      omega
theorem why_liftAt {x : HallH} {rs ps : List Str} {z : WalkH} {r s : Str} {j : Nat} (snd : (x.stones.map Prod.fst).Nodup) (pl : ps.length = x.stones.length) (hj : (x.stones.map Prod.fst)[j]? = some s) (hw : whyD x rs ps z r [Str.ofString "lift", s] = none) : ps[j]? = some r := by
  have jl := (List.getElem?_eq_some_iff.mp hj).1
  rw [List.length_map, ← pl] at jl
  have hq := List.getElem?_eq_getElem jl
  generalize ps[j] = pq at hq
  have hp : placeOf x ps s = some pq := place_at snd hj hq
  have lf : ¬ liftS = goS := by decide +kernel
  unfold whyD at hw
  by_cases hb : deedB [Str.ofString "lift", s] = true
  · rw [if_pos hb] at hw
    have hl : whyLift x ps z r s = none := by simpa only [show (Str.ofString "lift" : Str) = liftS from rfl, lf, if_false, if_true] using hw
    unfold whyLift at hl
    rw [hp] at hl
    simp only [] at hl
    split at hl
    · cases hl
    · rename_i e
      rw [hq, Decidable.of_not_not e]
  · rw [if_neg hb] at hw
    cases hw
theorem why_layAt {x : HallH} {rs ps : List Str} {z : WalkH} {r s : Str} {j : Nat} (snd : (x.stones.map Prod.fst).Nodup) (pl : ps.length = x.stones.length) (hj : (x.stones.map Prod.fst)[j]? = some s) (hw : whyD x rs ps z r [Str.ofString "lay", s] = none) : ps[j]? = some z.name := by
  have jl := (List.getElem?_eq_some_iff.mp hj).1
  rw [List.length_map, ← pl] at jl
  have hq := List.getElem?_eq_getElem jl
  generalize ps[j] = pq at hq
  have hp : placeOf x ps s = some pq := place_at snd hj hq
  have lg : ¬ layS = goS := by decide +kernel
  have ll : ¬ layS = liftS := by decide +kernel
  unfold whyD at hw
  by_cases hb : deedB [Str.ofString "lay", s] = true
  · rw [if_pos hb] at hw
    have hl : whyLay x ps z s = none := by simpa only [show (Str.ofString "lay" : Str) = layS from rfl, lg, ll, if_false, if_true] using hw
    unfold whyLay at hl
    rw [hp] at hl
    simp only [] at hl
    split at hl
    · cases hl
    · rename_i e
      rw [hq, Decidable.of_not_not e]
  · rw [if_neg hb] at hw
    cases hw
/-- both rooms that a door joins, as its goer sees them -/
theorem ends_perm {d : DoorH} {r b : Str} (h : farH d r = some b) : [r, b].Perm [d.one, d.other] := by
  unfold farH at h
  split at h
  · rename_i e
    cases h
    rw [e]
  · split at h
    · rename_i e
      cases h
      rw [e.1]
      exact List.Perm.swap _ _ _
    · cases h
theorem far_ne {d : DoorH} {r b : Str} (h : farH d r = some b) (ne : d.one ≠ d.other) : r ≠ b := by
  unfold farH at h
  split at h
  · rename_i e
    cases h
    rw [e]
    exact ne
  · split at h
    · rename_i e
      cases h
      rw [e.1]
      exact ne.symm
    · cases h
theorem flat_names (ns : List Str) : (ns.map V.str).all flatV = true := by simp [flatV]
theorem idx_get {ns : List Str} {j : Nat} {s : Str} (hj : ns[j]? = some s) : (ns.map V.str)[j]? = some (.str s) := by rw [List.getElem?_map, hj]; rfl
theorem idx_eq (s : Str) : eqV (.str s) (.str s) = true := by simp [eqV]
theorem idx_first {ns : List Str} {j : Nat} {s : Str} (nd : ns.Nodup) (hj : ns[j]? = some s) (m : Nat) (z' : V) (hm : m < j) (hz : (ns.map V.str)[m]? = some z') : eqV z' (.str s) = false := by
  rw [List.getElem?_map] at hz
  obtain ⟨w, hw, rfl⟩ := Option.map_eq_some_iff.mp hz
  have := first_at nd hj hm hw
  simp [eqV, this]
theorem idx_names {K : PySem.W.Frag} {H : Hp} {l : Addr} {ns : List Str} {j : Nat} {s : Str} {Q : VK} (el : H l = some (.lst (ns.map V.str))) (nd : ns.Nodup) (hj : ns[j]? = some s) (q : Q (.int (j : Nat)) H) : rIndex K (.ref l) [.str s] H Q := by
  refine ⟨l, _, .str s, j, .str s, rfl, rfl, .inl (.inl el), rfl, by simp [flatV], by rw [List.getElem?_map, hj]; rfl, by simp [eqV], fun m z' hm hz => ?_, q⟩
  rw [List.getElem?_map] at hz
  obtain ⟨w, hw, rfl⟩ := Option.map_eq_some_iff.mp hz
  have := first_at nd hj hm hw
  simp [eqV, this]
theorem ixN_nat {n j : Nat} (h : j < n) : ixN n (j : Int) = some j := by
  unfold ixN
  rw [if_pos (by omega), if_pos (by omega)]
  simp
end Wd

set_option Elab.async false
set_option linter.all false
set_option maxRecDepth 100000
set_option maxHeartbeats 4000000
namespace Wd
open PySem PySem.Spec PyProof.Rows L2
abbrev s_is_name : Stmt := topS 3
theorem sc_is_name : FnScope ["thing", "sign"] ["thing"] (C8.fnScope s_is_name) := ⟨rfl, rfl, rfl, by decide +kernel, rfl, by decide +kernel, by decide +kernel⟩
def LET : Str := Str.ofString "abcdefghijklmnopqrstuvwxyz"
theorem let_mem (c : Nat) : c ∈ LET.cps.toList ↔ 97 ≤ c ∧ c ≤ 122 := by
  have e : LET.cps.toList = [97, 98, 99, 100, 101, 102, 103, 104, 105, 106, 107, 108, 109, 110, 111, 112, 113, 114, 115, 116, 117, 118, 119, 120, 121, 122] := by decide +kernel
  rw [e]
  simp only [List.mem_cons, List.not_mem_nil, or_false]
  omega
theorem name_dec {z : Str} (h1 : 1 ≤ z.length) (h2 : z.length ≤ 8) : decide (NameOk z) = (z.cps.toList.map fun c => decide (c ∈ LET.cps.toList)).all id := by
  have l : z.length = z.cps.toList.length := by simp [Str.length]
  rw [Bool.eq_iff_iff, decide_eq_true_iff, List.all_eq_true]
  constructor
  · intro h b hb
    obtain ⟨c, hc, rfl⟩ := List.mem_map.mp hb
    exact decide_eq_true ((let_mem c).mpr (h.2.2 c hc))
  · intro h
    refine ⟨by omega, by omega, fun c hc => (let_mem c).mp (of_decide_eq_true (h _ (List.mem_map.mpr ⟨c, hc, rfl⟩)))⟩
theorem hit_ty' {K : PySem.W.Frag} {H : Hp} {x : V} {hit : Str → Bool} (h : HitV K H x hit) : (∃ a, x = .str a ∧ hit = fun y => decide (y = a)) ∨ ∃ t, TyX K H x t ∧ PySem.W.kitOne K t (.type "str") = some false := by
  cases h with
  | str a => exact .inl ⟨a, rfl, rfl⟩
  | non => exact .inr ⟨_, .base .non, rfl⟩
  | bl b => exact .inr ⟨_, .base (.bl b), rfl⟩
  | int i => exact .inr ⟨_, .base (.int i), rfl⟩
  | lst e =>
    rcases e with (e | ⟨o, e⟩) | ⟨o, its, n, e1, e2, _⟩
    · exact .inr ⟨_, .base (.lst e), rfl⟩
    · exact .inr ⟨_, .base (.frz e), rfl⟩
    · exact .inr ⟨_, .kList e1 e2, rfl⟩
  | tup e =>
    rcases e with (e | ⟨o, e⟩) | ⟨o, its, n, e1, e2, _⟩
    · exact .inr ⟨_, .base (.tup e), rfl⟩
    · exact .inr ⟨_, .fTuple e, rfl⟩
    · exact .inr ⟨_, .kTuple e1 e2, rfl⟩
  | dK e =>
    rcases e with e | ⟨o, e⟩
    · exact .inr ⟨_, .base (.dK e), rfl⟩
    · exact .inr ⟨_, .fDict e, rfl⟩
section
variable {P : Program} {w : World} {K : PySem.W.Frag} {mg : Str → Option Value} {base : Heap}
def spIsName (K : PySem.W.Frag) : Sp := fun vs H Q _ => ∃ (y : V) (hit : Str → Bool), vs = [y] ∧ HitV K H y hit ∧ ((∃ z, y = .str z ∧ z.length ≤ 100000 ∧ ∀ H', Same H H' → Q (.bl (decide (NameOk z))) H') ∨ ((∀ z, y ≠ .str z) ∧ Q (.bl false) H))
theorem c_isname {c : CA} {tL tM : Tok} (T : Txt P w K mg base c) (hL : mg "LETTERS" = some (.str LET tL)) (hAll : mg "all" = none) (hM : mg "LONGEST_NAME" = some (.int 8 tM)) {f : Addr} {fd : FuncData} (F : C8.Def K mg "is_name" s_is_name f fd) (b : Binds K fd ["thing"] []) : C8.Cal P w K mg base 1 "is_name" (spIsName K) [] := by
  refine C8.cal0 F b .nil sc_is_name (fun vs H Q E h => ?_) (fun cdv A outer s H vs Q E hr h => ?_)
  · obtain ⟨y, hit, rfl, _⟩ := h
    rfl
  · obtain ⟨y, hit, rfl, hh, q⟩ := h
    have hu := hu_of hr
    have hu6 := hu64 hr
    refine ⟨_, (pss_cons (ps_if (PW.pt (pw_or (pt_not (pt_truK (K := K) (pe_callB (call_isAny) (by rfl) T.b_isinstance bt_isinstance (pa_cons (pv 0) (pa_cons (pe_bltn (v := .ty "str") (by rfl) T.b_str (by decide +kernel) rfl) pa_nil))) (fun _ => rfl))) (pw_or1 (pt_not (pt_chain op_le op_le pe_int (pe_callB (call_lenG (K := K)) (by rfl) T.b_len bt_len (pa_cons (pv 0) pa_nil)) (pe_glob (v := .int 8) (by rfl) hM ⟨tM, rfl⟩)))))) (pss_one (ps_ret pe_bl)) pss_nil)
  (pss_one (ps_ret (pe_callB (cr_all rfl) (by rfl) hAll (by rfl) (pa_cons (pe_lc (own := [("sign", 1)]) rfl sc_is_name.nd (pi_str (pv 0)) (blkOk_by (by kernel_rfl)) (fun _ _ _ _ _ => (pg_name (i := 1) sc_is_name.nd rfl (.inl rfl))) (fun _ _ _ _ _ => pts_nil)
      (fun _ _ _ _ _ => (pe_cmpR (op_in_sign) (pv 1) (pe_glob (v := .str LET) (by rfl) hL ⟨tL, rfl⟩) (by rfl)))) pa_nil))))), ?_⟩
    rcases q with ⟨z, rfl, zl, q⟩ | ⟨ny, q⟩
    · refine ⟨.str z, rfl, .inr (.inl ⟨.str z, .ty "str", .type "str", .type "str", true, rfl, .ty _, .base (.str _), rfl, true, rfl, ?_⟩)⟩
      refine iteF ?_
      have zs : z.length ≤ sizeLine := by rw [sizeLine_eq]; omega
      have l0 : z.cps.size = z.length := rfl
      have i0 : ((1 : Int) ≤ (z.length : Int)) = ((1 : Nat) ≤ z.length) := by rw [eq_iff_iff]; omega
      have i8 : ((z.length : Int) ≤ (8 : Int)) = (z.length ≤ 8) := by rw [eq_iff_iff]; omega
      by_cases h1 : 1 ≤ z.length
      · by_cases h2 : z.length ≤ 8
        · refine ⟨.str z, rfl, zs, _, _, rfl, rfl, _, rfl, ?_⟩
          rw [show decide ((1 : Int) ≤ (z.length : Int)) = true from decide_eq_true (by omega)]
          refine iteT ⟨_, _, rfl, rfl, _, rfl, ?_⟩
          rw [show decide ((z.length : Int) ≤ (8 : Int)) = true from decide_eq_true (by omega)]
          refine iteF ⟨.str z, rfl, z, rfl, fun D nD => ?_⟩
          refine lc_it (walk_str (z := z)) (fun i Z => Same H Z ∧ Z D = some (.lst (((z.cps.toList.take i).map fun c => decide (c ∈ LET.cps.toList)).map V.bl))) ⟨same_new nD, upd_same⟩ (fun i Z _ pv => trivial) (fun i v Z Z' hi pv hy => ?_) (fun Z pv => ?_)
          · obtain ⟨sZ, z1⟩ := pv
            obtain ⟨rfl, ch, hc, rfl⟩ := hy
            have hc' : z.cps.toList[i]? = some ch := by rw [Array.getElem?_toList]; exact hc
            refine ⟨rfl, yes_if ⟨.str ⟨#[ch]⟩, by kernel_rfl, ch, LET, rfl, rfl, _, z1, by rw [List.length_map, List.length_map, List.length_take]; exact small1000000 (by omega), same_mut sZ nD, ?_⟩⟩
            rw [upd_same, take_snoc hc', List.map_append, List.map_append]
            rfl
          obtain ⟨sZ, z1⟩ := pv
          have e : z.cps.toList.take z.cps.size = z.cps.toList := List.take_of_length_le (by simp)
          rw [e] at z1
          refine ⟨D, _, rfl, .inl (.inl z1), ?_⟩
          rw [← name_dec h1 h2]
          exact q Z sZ
        · refine ⟨.str z, rfl, zs, _, _, rfl, rfl, _, rfl, ?_⟩
          rw [show decide ((1 : Int) ≤ (z.length : Int)) = true from decide_eq_true (by omega)]
          refine iteT ⟨_, _, rfl, rfl, _, rfl, ?_⟩
          rw [show decide ((z.length : Int) ≤ (8 : Int)) = false from decide_eq_false (by omega)]
          have nn : decide (NameOk z) = false := decide_eq_false fun n => h2 (name_len n).2
          have := q H (fun _ _ e => e)
          rw [nn] at this
          exact iteT this
      · refine ⟨.str z, rfl, zs, _, _, rfl, rfl, _, rfl, ?_⟩
        rw [show decide ((1 : Int) ≤ (z.length : Int)) = false from decide_eq_false (by omega)]
        have nn : decide (NameOk z) = false := decide_eq_false fun n => h1 (name_len n).1
        have := q H (fun _ _ e => e)
        rw [nn] at this
        exact iteF ⟨_, rfl, iteT this⟩
    · rcases hit_ty' hh with ⟨nm, rfl, rfl⟩ | ⟨t, ty, kt⟩
      · exact absurd rfl (ny nm)
      · exact ⟨y, rfl, .inr (.inl ⟨y, .ty "str", t, .type "str", false, rfl, .ty _, ty, kt, false, rfl, iteT q⟩)⟩
end
end Wd

set_option Elab.async false
set_option linter.all false
set_option maxRecDepth 100000
set_option maxHeartbeats 4000000
/-! (..) == ('wait',) of a tuple whose first thing is of any kind. -/
namespace Wd
open PySem PySem.Spec PyProof.Rows L2 PySem.SeqAt
section
variable {A : Around} {s : Shared}
theorem rcat_dict_text {l : Addr} {o : Obj} {es : Array DictEntry} {n : Nat} (z : Str) (u : Tok) (ho : s.heap.get? l = some o) (hx : o.cls = .type "dict") (hd : o.data = .dict es n) (room : A.units < cLine) : RcAt A s (.ref l) (.str z u) false := fun prog w E Q h => by
  obtain ⟨cls, dd, data, sl⟩ := o
  simp only at hx hd
  subst hx hd
  exact rc_eq_decline_or (k := false) ⟨_, ho, rfl⟩ (typeIs_str s z u) (by decide) F.sub_str_dict F.slot_dict_eq F.slot_str_eq_refl
    (fun _ g => call_meets F.slot_dict_eq ⟨_, ho, rfl⟩ F.entry_dict_eq (F.args_dict_eq_2 _ _) (dict_declines_str l es n dd sl z u) ⟨ho, g⟩)
    (fun _ g => call_meets F.slot_str_eq_refl (typeIs_str s z u) F.entry_str_eq (F.args_str_eq_2 _ _) (str_declines_dict z u l (.type "dict") es n dd sl) ⟨ho, g⟩)
    (fun _ g => wpAny_of_eq (rfl : isSame (.ref l) (.str z u) = pure false) g) (.inr room) h
theorem eqat_dict_text {l : Addr} {o : Obj} {es : Array DictEntry} {n : Nat} (z : Str) (u : Tok) (ho : s.heap.get? l = some o) (hx : o.cls = .type "dict") (hd : o.data = .dict es n) (room : A.units < cLine) : EqAt A s (.ref l) (.str z u) false := fun prog w E Q h => by
  unfold eqBool
  refine wpAny_holding (wpAny_ite_split (fun hab => absurd (eq_of_beq hab) nofun) fun _ => wpAny_bind ?_)
  exact rcat_dict_text z u ho hx hd room prog w E _ (wpAny_truthy_bool h)
end
section
variable {X : Cx} {pins : List (Addr × Obj)} {σ : L2.St} {H : Hp} {s : Shared}
theorem hit_eqL {A : Around} {x : V} {v : Value} {hit : Str → Bool} (I : Inv X pins σ H s) (room : A.units < cLine) (h : HitV X.K H x hit) (r : RelV x v) (y : Str) (t : Tok) : EqAt A s v (.str y t) (hit y) := by
  cases h with
  | str a =>
    obtain ⟨t2, rfl⟩ := r
    have e := EqAt.str_str (A := A) (s := s) a t2 y t
    have e2 : (a == y) = decide (y = a) := by
      rw [Bool.eq_iff_iff, decide_eq_true_iff, beq_iff_eq]
      exact eq_comm
    rw [e2] at e
    exact e
  | non =>
    obtain rfl : v = .none := r
    exact EqAt.none_str y t
  | bl b =>
    obtain rfl : v = .bool b := r
    exact EqAt.bool_str b y t
  | int i =>
    obtain ⟨t2, rfl⟩ := r
    exact EqAt.int_str i t2 y t
  | lst hs =>
    obtain rfl : v = .ref _ := r
    obtain ⟨its, _, pl, _⟩ := I.list hs
    exact EqAt.list_str y t pl.isList room
  | tup hs =>
    obtain rfl : v = .ref _ := r
    obtain ⟨its, _, pl, _⟩ := I.tuple hs
    exact EqAt.tuple_str y t pl room
  | dK hd =>
    obtain rfl : v = .ref _ := r
    obtain ⟨o, es, n, e1, e2, e3⟩ := dict_obj I hd
    exact eqat_dict_text y t e1 e2 e3 room
/-- a tuple whose first thing is of any kind against a tuple of one text -/
def rEqW (K : PySem.W.Frag) : R2 := fun x y H Q => ∃ (a b : Addr) (xs : List V) (z : Str), x = .ref a ∧ y = .ref b ∧ SqT K H a xs ∧ SqT K H b [.str z] ∧
  ((xs.length ≠ 1 ∧ (∀ v, xs[0]? = some v → ∃ hit, HitV K H v hit) ∧ Q (.bl false) H) ∨ ∃ v hit, xs = [v] ∧ HitV K H v hit ∧ Q (.bl (hit z)) H)
theorem op_eqW {K : PySem.W.Frag} (hu : X.A.units + 64 < cLine) (hK : X.K = K := by rfl) : OpR X (compareOp .Eq) (rEqW K) := by
  subst hK
  intro pins s σ H x y v u Q I rx ry h
  obtain ⟨a, b, xs, z, rfl, rfl, ha, hb, h⟩ := h
  obtain rfl : v = .ref a := rx
  obtain rfl : u = .ref b := ry
  obtain ⟨its, r1, p1, _⟩ := I.tuple ha
  obtain ⟨its2, r2, p2, _⟩ := I.tuple hb
  have room : X.A.in1.units < cLine := by
    have : X.A.in1.units = X.A.units + 1 := rfl
    omega
  obtain ⟨w2, rfl, ⟨t2, rfl⟩⟩ : ∃ w2, its2 = [w2] ∧ RelV (.str z) w2 := by
    cases r2 with
    | cons r q =>
      cases q
      exact ⟨_, rfl, r⟩
  have go : ∀ (k : Bool), (∀ v0 u0, xs[0]? = some v0 → its[0]? = some u0 → RelV v0 u0 → EqAt X.A.in1 s u0 (.str z t2) k) → Q (.bl ((List.range (min its.length 1)).all (fun _ => k) && its.length == 1)) H → wpAny (model X.prog X.w) X.A (compareOp .Eq (.ref a) (.ref b)) (EP X pins σ Q) X.xe s := fun k hk q => by
    refine eq_tupleAt (e := fun _ => k) p1 p2 (by omega) (fun j j1 j2 => ?_) ⟨.bl _, H, I, rfl, ?_⟩
    · have j0 : j = 0 := by
        have : j < 1 := by simpa using j2
        omega
      subst j0
      have l1 : 0 < its.length := by simpa using j1
      have lx : 0 < xs.length := by rw [r1.length]; exact l1
      obtain ⟨u0, hu0, rr⟩ := r1.get (List.getElem?_eq_getElem lx)
      have e1 : its.toArray[0] = u0 := by
        have := List.getElem?_eq_getElem l1
        rw [hu0] at this
        simpa using (Option.some.inj this).symm
      have e2 : (#[Value.str z t2] : Array Value)[0] = .str z t2 := rfl
      have := hk xs[0] u0 (List.getElem?_eq_getElem lx) hu0 rr
      rw [← e1] at this
      exact this
    · have es : its.toArray.size = its.length := List.size_toArray
      show Q (.bl ((List.range (min its.toArray.size 1)).all (fun _ => k) && its.toArray.size == 1)) H
      rw [es]
      exact q
  rcases h with ⟨hn, hv, q⟩ | ⟨v0, hit, rfl, hv, q⟩
  · have hl : (its.length == 1) = false := by
      rw [← r1.length]
      exact beq_false_of_ne hn
    cases hx : xs[0]? with
    | none =>
      refine go false (fun v1 u1 h1 => by rw [hx] at h1; cases h1) ?_
      rw [hl, Bool.and_false]
      exact q
    | some v1 =>
      obtain ⟨hit, hh⟩ := hv v1 hx
      refine go (hit z) (fun v2 u2 h2 _ rr => ?_) (by rw [hl, Bool.and_false]; exact q)
      rw [hx] at h2
      cases h2
      exact hit_eqL I room hh rr z t2
  · refine go (hit z) (fun v2 u2 h2 _ rr => ?_) ?_
    · cases h2
      exact hit_eqL I room hv rr z t2
    · have : its.length = 1 := by rw [← r1.length]; rfl
      rw [this]
      show Q (.bl ((List.range 1).all (fun _ => hit z) && (1 == 1))) H
      have e : ((List.range 1).all (fun _ => hit z) && ((1 : Nat) == 1)) = hit z := by
        cases hit z <;> rfl
      rw [e]
      exact q
end
def rEqWX (K : PySem.W.Frag) : R2 := fun x y H Q => rEqX K x y H Q ∨ rEqW K x y H Q
theorem op_eqWX {X : Cx} {K : PySem.W.Frag} (hu : X.A.units + 64 < cLine) (hK : X.K = K := by rfl) : OpR X (compareOp .Eq) (rEqWX K) := by
  subst hK
  exact (op_eqX hu).or (op_eqW hu)
end Wd

set_option Elab.async false
set_option linter.all false
set_option maxRecDepth 100000
set_option maxHeartbeats 4000000
namespace Wd
open PySem PySem.Spec PyProof.Rows L2
abbrev s_is_deed : Stmt := topS 6
theorem sc_is_deed : FnScope ["thing"] ["thing"] (C8.fnScope s_is_deed) := ⟨rfl, rfl, rfl, by decide +kernel, rfl, by decide +kernel, by decide +kernel⟩
theorem truBd {K : PySem.W.Frag} {H : Hp} {k : Bool} : TruV K (.bl k) H k := by
  simp [TruV]
theorem tyx_same {K : PySem.W.Frag} {H H' : Hp} {y : V} {t : Value} (s : Same H H') (h : TyX K H y t) : TyX K H' y t := by
  cases h with
  | base h =>
    refine .base ?_
    cases h with
    | non => exact .non
    | bl b => exact .bl b
    | int i => exact .int i
    | str z => exact .str z
    | flt z => exact .flt z
    | lst e => exact .lst (s _ _ e)
    | frz e => exact .frz (s _ _ e)
    | tup e => exact .tup (s _ _ e)
    | dK e => exact .dK (s _ _ e)
    | dT e => exact .dT (s _ _ e)
    | ins e a b c d f => exact .ins (s _ _ e) a b c d f
  | byt b => exact .byt b
  | set e => exact .set (s _ _ e)
  | kList e c => exact .kList e c
  | kTuple e c => exact .kTuple e c
  | kDict e c => exact .kDict e c
  | fTuple e => exact .fTuple (s _ _ e)
  | fDict e => exact .fDict (s _ _ e)
/-- a thing that is no deed: no tuple, or a tuple of things of any kind -/
inductive OddD (K : PySem.W.Frag) (H : Hp) : V → Prop
  | thing {y : V} {t : Value} (ty : TyX K H y t) (k : PySem.W.kitOne K t (.type "tuple") = some false) : OddD K H y
  | len {a : Addr} {xs : List V} (e : SqT K H a xs) (h2 : xs.length ≠ 2) (h1 : xs.length ≠ 1) (hv : ∀ v, xs[0]? = some v → ∃ hit, HitV K H v hit) : OddD K H (.ref a)
  | one {a : Addr} {v : V} {hit : Str → Bool} (e : SqT K H a [v]) (h : HitV K H v hit) (n : hit (Str.ofString "wait") = false) : OddD K H (.ref a)
  | word {a : Addr} {v u : V} {hit : Str → Bool} (e : SqT K H a [v, u]) (h : HitV K H v hit) (n : [goS, liftS, layS].any hit = false) : OddD K H (.ref a)
  | name {a : Addr} {v u : V} {hit hit2 : Str → Bool} (e : SqT K H a [v, u]) (h : HitV K H v hit) (h2 : HitV K H u hit2) (n : (∃ z, u = .str z ∧ z.length ≤ 100000 ∧ PyData.strOk z = true ∧ ¬ NameOk z) ∨ ∀ z, u ≠ .str z) : OddD K H (.ref a)
theorem OddD.same {K : PySem.W.Frag} {H H' : Hp} {y : V} (s : Same H H') (h : OddD K H y) : OddD K H' y := by
  cases h with
  | thing ty k => exact .thing (tyx_same s ty) k
  | len e h2 h1 hv => exact .len (same_sqT s e) h2 h1 fun v hv' => by obtain ⟨hit, hh⟩ := hv v hv'; exact ⟨hit, hh.same s⟩
  | one e h n => exact .one (same_sqT s e) (h.same s) n
  | word e h n => exact .word (same_sqT s e) (h.same s) n
  | name e h h2 n => exact .name (same_sqT s e) (h.same s) (h2.same s) n
/-- a thing that may be a deed: a tuple of one or two texts, or what is no deed -/
def DeedV (K : PySem.W.Frag) (H : Hp) (y : V) (d : List Str) : Prop := (∃ a, y = .ref a ∧ SqT K H a (d.map V.str) ∧ (d.length = 1 ∨ d.length = 2) ∧ ∀ s ∈ d, s.length ≤ 100000 ∧ PyData.strOk s = true) ∨ (d = [] ∧ OddD K H y)
theorem DeedV.same {K : PySem.W.Frag} {H H' : Hp} {y : V} {d : List Str} (s : Same H H') (h : DeedV K H y d) : DeedV K H' y d := by
  rcases h with ⟨a, e, ea, h1, h2⟩ | ⟨e, o⟩
  · exact .inl ⟨a, e, same_sqT s ea, h1, h2⟩
  · exact .inr ⟨e, o.same s⟩
theorem tup_ty {K : PySem.W.Frag} {H : Hp} {a : Addr} {xs : List V} (ea : SqT K H a xs) : TyX K H (.ref a) (.type "tuple") := by
  rcases ea with (e | ⟨o, e⟩) | ⟨o, its, n, e1, e2, _⟩
  · exact .base (.tup e)
  · exact .fTuple e
  · exact .kTuple e1 e2
section
variable {P : Program} {w : World} {K : PySem.W.Frag} {mg : Str → Option Value} {base : Heap}
def spIsDeed (K : PySem.W.Frag) : Sp := fun vs H Q _ => ∃ (y : V) (d : List Str), vs = [y] ∧ DeedV K H y d ∧ ∀ H', Same H H' → Q (.bl (deedB d)) H'
theorem shaped_one {a : Str} (h : PyData.strOk a = true) : SeqAt.shaped (.tuple [.str a]) = true := by
  unfold SeqAt.shaped
  simp only [PyData.canLay0, PyData.canLayAll0, PyData.depth, PyData.depthAll]
  rw [h]
  rfl
theorem c_isdeed {c : CA} {aW : Addr} (T : Txt P w K mg base c) (hW : mg "WAIT" = some (.ref aW)) (tW : ∀ H, SqT K H aW [.str "wait"]) (cis_name : C8.Cal P w K mg base 1 "is_name" (spIsName K) []) {f : Addr} {fd : FuncData} (F : C8.Def K mg "is_deed" s_is_deed f fd) (b : Binds K fd ["thing"] []) : C8.Cal P w K mg base 2 "is_deed" (spIsDeed K) [] := by
  refine C8.cal0 F b .nil sc_is_deed (fun vs H Q E h => ?_) (fun cdv A outer s H vs Q E hr h => ?_)
  · obtain ⟨y, d, rfl, _⟩ := h
    rfl
  · obtain ⟨y, d, rfl, hd, q⟩ := h
    have hu := hu_of hr
    have hu6 := hu64 hr
    refine ⟨_, (pss_cons (ps_if (pt_not (pt_truK (K := K) (pe_callB (call_isAny) (by rfl) T.b_isinstance bt_isinstance (pa_cons (pv 0) (pa_cons (pe_bltn (v := .ty "tuple") (by rfl) T.b_tuple (by decide +kernel) rfl) pa_nil))) (fun _ => rfl))) (pss_one (ps_ret pe_bl)) pss_nil)
  (pss_cons (ps_if (pt_cmpR (op_eqX (K := K) hu6) (pe_callB (call_lenG (K := K)) (by rfl) T.b_len bt_len (pa_cons (pv 0) pa_nil)) pe_int (nomark _)) (pss_one (ps_ret (pe_andK (K := K) (pe_cmpR (op_inT (K := K) hu6) (pe_ix (ixG (K := K)) (pv 0) pe_int (fun _ _ => rfl)) (pe_tup (pa_cons pe_str (pa_cons pe_str (pa_cons pe_str pa_nil)))) (by rfl)) (pe_one (C8.pe_c cis_name hr (by decide) (by rfl) (pa_cons (pe_ix (ixG (K := K)) (pv 0) pe_int (fun _ _ => rfl)) pa_nil)))))) pss_nil)
  (pss_one (ps_ret (pe_cmpR (op_eqWX (K := K) hu6) (pv 0) (pe_glob (v := .ref aW) (by rfl) hW rfl) (nomark _)))))), ?_⟩
    rcases hd with ⟨a, rfl, ea, hl, hs⟩ | ⟨rfl, od⟩
    · have ty : TyX K H (.ref a) (.type "tuple") := by
        rcases ea with (e | ⟨o, e⟩) | ⟨o, its, n, e1, e2, _⟩
        · exact .base (.tup e)
        · exact .fTuple e
        · exact .kTuple e1 e2
      refine ⟨.ref a, rfl, .inr (.inl ⟨.ref a, .ty "tuple", .type "tuple", .type "tuple", true, rfl, .ty _, ty, rfl, true, rfl, iteF ?_⟩)⟩
      match d, hl, hs, ea, q with
      | [w], _, hs, ea, q =>
        refine ⟨.ref a, rfl, .inl ⟨_, .inr ea, .inl ⟨rfl, _, rfl, iteN (fun e => by simp at e) ?_⟩⟩⟩
        refine ⟨.ref a, rfl, .inl (.inr ⟨.tuple [.str w], .tuple [.str (Str.ofString "wait")], .tup ea (.cons (.str _) .nil), .tup (tW H) (.cons (.str _) .nil), shaped_one (hs w List.mem_cons_self).2, by decide +kernel, ?_⟩)⟩
        have e : PyData.eqv (.tuple [.str w]) (.tuple [.str (Str.ofString "wait")]) = decide (w = Str.ofString "wait") := by
          simp only [PyData.eqv, PyData.eqvAll, Bool.and_true]
          rw [Bool.eq_iff_iff]
          simp
        rw [e]
        exact q H fun _ _ e => e
      | [w, n], _, hs, ea, q =>
        refine ⟨.ref a, rfl, .inl ⟨_, .inr ea, .inl ⟨rfl, _, rfl, iteY rfl ?_⟩⟩⟩
        refine ⟨.ref a, rfl, .inr (.inl ⟨a, _, 0, _, rfl, rfl, ea, rfl, by show 3 ≤ sizeLine; decide, fun u nu => ?_⟩)⟩
        have s1 := same_new nu (o := .tup [.str (Str.ofString "go"), .str (Str.ofString "lift"), .str (Str.ofString "lay")])
        refine ⟨u, [goS, liftS, layS], _, rfl, .inr (.inl (.inl upd_same)), .str w, _, truBd, ?_⟩
        generalize upd H u (.tup [.str (Str.ofString "go"), .str (Str.ofString "lift"), .str (Str.ofString "lay")]) = G at s1
        have q' : ∀ H', Same H H' → Q (.bl ([goS, liftS, layS].any (fun y => decide (y = w)) && decide (NameOk n))) H' := q
        cases hw : [goS, liftS, layS].any (fun y => decide (y = w)) with
        | false =>
          rw [hw] at q'
          exact iteF (q' G s1)
        | true =>
          rw [hw] at q'
          refine iteT ⟨.ref a, rfl, .inr (.inl ⟨a, _, 1, _, rfl, rfl, same_sqT s1 ea, rfl, .str n, _, rfl, .str n, .inl ⟨n, rfl, (hs n (by simp)).1, fun H' s2 => ?_⟩⟩)⟩
          exact q' H' (s1.trans s2)
    · have q0 : ∀ H', Same H H' → Q (.bl false) H' := q
      cases od with
      | @thing y t ty kt => exact ⟨y, rfl, .inr (.inl ⟨y, .ty "tuple", t, .type "tuple", false, rfl, .ty _, ty, kt, false, rfl, iteT (q0 H fun _ _ e => e)⟩)⟩
      | @len a xs e h2 h1 hv =>
        refine ⟨.ref a, rfl, .inr (.inl ⟨.ref a, .ty "tuple", .type "tuple", .type "tuple", true, rfl, .ty _, tup_ty e, rfl, true, rfl, iteF ?_⟩)⟩
        refine ⟨.ref a, rfl, .inl ⟨_, .inr e, .inl ⟨rfl, _, rfl, iteN (fun c => h2 (by injection c with c; exact Int.ofNat.inj c)) ?_⟩⟩⟩
        exact ⟨.ref a, rfl, .inr ⟨a, aW, xs, _, rfl, rfl, e, tW H, .inl ⟨h1, hv, q0 H fun _ _ e => e⟩⟩⟩
      | @one a v hit e h n =>
        refine ⟨.ref a, rfl, .inr (.inl ⟨.ref a, .ty "tuple", .type "tuple", .type "tuple", true, rfl, .ty _, tup_ty e, rfl, true, rfl, iteF ?_⟩)⟩
        refine ⟨.ref a, rfl, .inl ⟨_, .inr e, .inl ⟨rfl, _, rfl, iteN (fun e => by simp at e) ?_⟩⟩⟩
        refine ⟨.ref a, rfl, .inr ⟨a, aW, [v], _, rfl, rfl, e, tW H, .inr ⟨v, hit, rfl, h, ?_⟩⟩⟩
        have n' : hit "wait" = false := n
        rw [n']
        exact q0 H fun _ _ e => e
      | @word a v u hit e h n =>
        refine ⟨.ref a, rfl, .inr (.inl ⟨.ref a, .ty "tuple", .type "tuple", .type "tuple", true, rfl, .ty _, tup_ty e, rfl, true, rfl, iteF ?_⟩)⟩
        refine ⟨.ref a, rfl, .inl ⟨_, .inr e, .inl ⟨rfl, _, rfl, iteY rfl ?_⟩⟩⟩
        refine ⟨.ref a, rfl, .inr (.inl ⟨a, _, 0, _, rfl, rfl, e, rfl, by show 3 ≤ sizeLine; decide, fun uu nu => ?_⟩)⟩
        have s1 := same_new nu (o := .tup [.str (Str.ofString "go"), .str (Str.ofString "lift"), .str (Str.ofString "lay")])
        refine ⟨uu, [goS, liftS, layS], hit, rfl, .inr (.inl (.inl upd_same)), h.same s1, _, truBd, ?_⟩
        rw [n]
        exact iteF (q0 _ s1)
      | @name a v u hit hit2 e h h2 n =>
        refine ⟨.ref a, rfl, .inr (.inl ⟨.ref a, .ty "tuple", .type "tuple", .type "tuple", true, rfl, .ty _, tup_ty e, rfl, true, rfl, iteF ?_⟩)⟩
        refine ⟨.ref a, rfl, .inl ⟨_, .inr e, .inl ⟨rfl, _, rfl, iteY rfl ?_⟩⟩⟩
        refine ⟨.ref a, rfl, .inr (.inl ⟨a, _, 0, _, rfl, rfl, e, rfl, by show 3 ≤ sizeLine; decide, fun uu nu => ?_⟩)⟩
        have s1 := same_new nu (o := .tup [.str (Str.ofString "go"), .str (Str.ofString "lift"), .str (Str.ofString "lay")])
        refine ⟨uu, [goS, liftS, layS], hit, rfl, .inr (.inl (.inl upd_same)), h.same s1, _, truBd, ?_⟩
        generalize upd H uu (.tup [.str (Str.ofString "go"), .str (Str.ofString "lift"), .str (Str.ofString "lay")]) = G at s1
        cases hw : [goS, liftS, layS].any hit with
        | false => exact iteF (q0 G s1)
        | true =>
          refine iteT ⟨.ref a, rfl, .inr (.inl ⟨a, _, 1, _, rfl, rfl, same_sqT s1 e, rfl, u, hit2, rfl, h2.same s1, ?_⟩)⟩
          rcases n with ⟨z, rfl, zl, _, nz⟩ | n
          · refine .inl ⟨z, rfl, zl, fun H' s2 => ?_⟩
            rw [decide_eq_false nz]
            exact q0 H' (s1.trans s2)
          · exact .inr ⟨n, q0 G s1⟩
end
end Wd

set_option Elab.async false
set_option linter.all false
set_option maxRecDepth 100000
set_option maxHeartbeats 4000000
/-! dict(zip(..)) of two lists, of any lengths; dict(d) of a dict. -/
namespace Wd
open PySem PySem.Spec PyProof.Rows L2 RZ Builtin
def tDictZL (K : PySem.W.Frag) (ta : TA) : TE := fun σ H Q => ta σ H fun vs H1 => ∃ (a b : Addr) (ks : List Key) (ys : List V), vs = [.ref a, .ref b] ∧ SqL K H1 a (ks.map kV) ∧ SqL K H1 b ys ∧ ∀ p, H1 p = none → Q (.ref p) (upd H1 p (.dK (mergeK [] (ks.zip ys))))
theorem kv_zipL : ∀ {ks : List Key} {ys : List V} {vs : List Value}, Vals ys vs → KV (ks.zip ys) (ks.zip vs)
  | [], _, _, _ => .nil
  | _ :: _, _, _, .nil => .nil
  | k :: ks, _, _, .cons h r => .cons ⟨rfl, h⟩ (kv_zipL r)
theorem pe_dictZL {X : Cx} {K : PySem.W.Frag} {e e2 : Expr} {ta : TA} {p p2 pos pos2 : Pos} (hc : X.calm = true) (hg : Gl X "dict") (hm : X.mg "dict" = none) (hg2 : Gl X "zip") (hm2 : X.mg "zip" = none) (ha : PA X [e, e2] ta) (hK : X.K = K := by rfl)
    (h1 : starEach [e, e2] X.env = (false, eval e X.env) :: starEach [e2] X.env := by rfl) (h2 : (backTo pos2 (starEach [e2] X.env)).any (·.1) = false := by rfl)
    (h3 : starEach [.Call (.Name "zip" p2) [e, e2] [] pos2] X.env = (false, eval (.Call (.Name "zip" p2) [e, e2] [] pos2) X.env) :: starEach [] X.env := by rfl) :
    PE X (.Call (.Name "dict" p) [.Call (.Name "zip" p2) [e, e2] [] pos2] [] pos) (tDictZL K ta) := by
  subst hK
  refine ⟨fun pins z0 σ H Q I h => ?_⟩
  refine Call_ (ld_blt I hg hm bt_dict (PyProof.Rows.callWith_type1 (args_cons ?_ h3) h3))
  refine Call_ (ld_blt I hg2 hm2 PyProof.Rows.boot_zip (PyProof.Rows.callWith_type1 (thn (ha.run pos2 pins z0 σ H _ I h) fun us z1 ⟨vs, H1, I1, r1, q1⟩ => ?_) h1 h2))
  obtain ⟨a, b, ks, ys, rfl, hqx, hqy, q⟩ := q1
  obtain ⟨u1, u2, rfl, r1', r2'⟩ := vals2 r1
  cases r1'
  cases r2'
  obtain ⟨its, rv, p1, hz1⟩ := I1.list hqx
  obtain ⟨its2, rv2, p2, hz2⟩ := I1.list hqy
  have l1 : its.length = ks.length := by rw [← rv.length, List.length_map]
  have l2 : its2.length = ys.length := rv2.length.symm
  refine call_zip_2 p1.isList p2.isList fun h' g1 g2 g3 g4 g5 g6 hk => args_nil ?_
  have I2 : Inv X pins σ H1 { z1 with heap := h' } := I1.kept (t' := z1.toks) hk
  have D := PySem.W.ktu_apart z1.heap.objs.size a b p1.lt p2.lt
  have hz : ks.length ≤ sizeLine := by rw [List.length_map] at hz1; exact hz1
  refine call_dict_pairs (knd := mixKind X.prog X.w) (kvs := ks.zip its2) (PairArg.zip _ _ _ _ _ a b D its.toArray its2.toArray) (I2.ok.hd hc) ⟨g1, g2, ⟨_, _, g3⟩, g4, g5, p1.isList.at fun o t => hk _ _ t, p2.isList.at fun o t => hk _ _ t⟩ ⟨by
    rw [List.length_zip]; simp; omega, fun i key v hr => ?_⟩ (by simp; omega) fun h2 tk hd' k2 => ?_
  · obtain ⟨t1, t2⟩ := hr
    have t1' : its[i]? = some key := by simpa using t1
    have t2' : its2[i]? = some v := by simpa using t2
    have hi : i < ks.length := by rw [← l1]; exact (List.getElem?_eq_some_iff.mp t1').1
    refine ⟨ks[i], ?_, ?_⟩
    · rw [List.getElem?_zip_eq_some]
      exact ⟨List.getElem?_eq_getElem hi, t2'⟩
    · obtain ⟨u, hu, ru⟩ := rv.get (i := i) (x := kV ks[i]) (by rw [List.getElem?_map, List.getElem?_eq_getElem hi]; rfl)
      rw [t1'] at hu
      cases hu
      exact kV_is (P := X.prog) (w := X.w) ru
  · have hbig : (h'.objs.size == sysModules) = false := beq_eq_false_iff_ne.mpr (Nat.ne_of_gt I2.big)
    have hlen2 : (mergeK [] (ks.zip ys)).length ≤ sizeLine := by
      refine Nat.le_trans (length_mergeK _ []) ?_
      rw [List.length_nil, Nat.zero_add, List.length_zip]
      omega
    have fresh : ∀ c o, z1.heap.get? c = some o → h2.get? c = some o := fun c o t => k2 c o (fun hm => by
      have hlt := Heap.lt_size t
      simp only [List.mem_cons, List.not_mem_nil, or_false] at hm
      rcases hm with rfl | rfl | rfl | rfl
      · exact absurd hlt (Nat.not_lt_of_le (Nat.le_add_right _ _))
      · exact absurd hlt (Nat.not_lt_of_le (Nat.le_add_right _ _))
      · exact absurd hlt (Nat.lt_irrefl _)
      · exact absurd hlt (Nat.not_lt_of_le (Nat.le_add_right _ _))) (hk c o t)
    have hle : z1.heap.objs.size ≤ h'.objs.size := by rw [g6]; exact Nat.le_add_right _ _
    refine ⟨.ref h'.objs.size, upd H1 h'.objs.size (.dK (mergeK [] (ks.zip ys))), ?_, rfl, q _ (I1.hok.fresh hle)⟩
    exact I1.laid (t' := tk) fresh hle (show ObjOk X.prog X.w _ _ _ (.dK (mergeK [] (ks.zip ys))) from ⟨hlen2, hbig, merged [] (ks.zip its2), KV.merge (kv_zipL rv2) .nil, hd'⟩)
/-- dict(d): a copy -/
theorem call_dictC {X : Cx} : CallR X (.type "dict") (fun xs H Q => ∃ (a : Addr) (kvs : List (Key × V)), xs = [.ref a] ∧ Rd H a (.dK kvs) ∧ ∀ p, H p = none → Q (.ref p) (upd H p (.dK kvs))) := by
  intro pins s σ H xs us Q I r q
  obtain ⟨a, kvs, ex, e, q⟩ := q
  subst ex
  obtain ⟨u, eu, rx⟩ := vals1 r
  subst eu
  cases rx
  exact d_copyOf I e fun p s' hp I' => ⟨.ref p, _, I', rfl, q p hp⟩
end Wd

set_option Elab.async false
set_option linter.all false
set_option maxRecDepth 100000
set_option maxHeartbeats 4000000
/-! Small things of any kind, and tuples of them, as data that outlives writes elsewhere. -/
namespace Wd
open PySem PySem.Spec PyProof.Rows L2
def TxtD (s : Str) : Prop := Neat 12 0 (.str s) ∧ PyData.strOk s = true ∧ s.length ≤ 9
theorem txt_name {s : Str} (h : NameOk s) : TxtD s := ⟨(neat_name h).mono (by decide) (Nat.le_refl _), name_ok h, by have := (name_len h).2; omega⟩
inductive Bt (N : Addr → Prop) (K : PySem.W.Frag) (H : Hp) : V → PyData → Prop
  | str {s : Str} (h : TxtD s) : Bt N K H (.str s) (.str s)
  | non : Bt N K H .non .none
  | bl (b : Bool) : Bt N K H (.bl b) (.bool b)
  | zero : Bt N K H (.int 0) (.int 0)
  | tup {u : Addr} {xs : List Str} (e : SqT K H u (xs.map V.str)) (l : xs.length ≤ 2) (h : ∀ s ∈ xs, TxtD s) : Bt N K H (.ref u) (.tuple (xs.map PyData.str))
  | lst {u : Addr} {xs : List Str} (n : N u) (e : H u = some (.lst (xs.map V.str))) (l : xs.length ≤ 2) (h : ∀ s ∈ xs, TxtD s) : Bt N K H (.ref u) (.list (xs.map PyData.str))
  | dct {u : Addr} (n : N u) (e : H u = some (.dK [])) : Bt N K H (.ref u) (.dict [])
inductive BtAll (N : Addr → Prop) (K : PySem.W.Frag) (H : Hp) : List V → List PyData → Prop
  | nil : BtAll N K H [] []
  | cons {v : V} {d : PyData} {vs : List V} {ds : List PyData} (h : Bt N K H v d) (q : BtAll N K H vs ds) : BtAll N K H (v :: vs) (d :: ds)
inductive Bn (N : Addr → Prop) (K : PySem.W.Frag) (H : Hp) : V → PyData → Prop
  | bit {v : V} {d : PyData} (h : Bt N K H v d) : Bn N K H v d
  | tup {u : Addr} {vs : List V} {ds : List PyData} (e : SqT K H u vs) (l : vs.length ≤ 3) (q : BtAll N K H vs ds) : Bn N K H (.ref u) (.tuple ds)
section
variable {N N' : Addr → Prop} {K : PySem.W.Frag} {H H' : Hp}
theorem Bt.move (n : ∀ a, N a → N' a) (t : ∀ a xs, SqT K H a xs → SqT K H' a xs) (s : ∀ a o, N a → H a = some o → H' a = some o) {v : V} {d : PyData} (h : Bt N K H v d) : Bt N' K H' v d := by
  cases h with
  | str h => exact .str h
  | non => exact .non
  | bl b => exact .bl b
  | zero => exact .zero
  | tup e l h => exact .tup (t _ _ e) l h
  | lst m e l h => exact .lst (n _ m) (s _ _ m e) l h
  | dct m e => exact .dct (n _ m) (s _ _ m e)
theorem BtAll.move (n : ∀ a, N a → N' a) (t : ∀ a xs, SqT K H a xs → SqT K H' a xs) (s : ∀ a o, N a → H a = some o → H' a = some o) : ∀ {vs : List V} {ds : List PyData}, BtAll N K H vs ds → BtAll N' K H' vs ds
  | _, _, .nil => .nil
  | _, _, .cons h q => .cons (h.move n t s) (q.move n t s)
theorem Bn.move (n : ∀ a, N a → N' a) (t : ∀ a xs, SqT K H a xs → SqT K H' a xs) (s : ∀ a o, N a → H a = some o → H' a = some o) {v : V} {d : PyData} (h : Bn N K H v d) : Bn N' K H' v d := by
  cases h with
  | bit h => exact .bit (h.move n t s)
  | tup e l q => exact .tup (t _ _ e) l (q.move n t s)
theorem Bt.dq {v : V} {d : PyData} (h : Bt N K H v d) : Dq anyA K H v d := by
  cases h with
  | str h => exact .str _
  | non => exact .non
  | bl b => exact .bl b
  | zero => exact .int 0
  | tup e l h => exact .tup trivial e (DqAll.strs _)
  | lst m e l h => exact .lst trivial (.inl (.inl e)) (DqAll.strs _)
  | dct m e => exact .dct trivial (.inl e) .nil
theorem BtAll.dq : ∀ {vs : List V} {ds : List PyData}, BtAll N K H vs ds → DqAll anyA K H vs ds
  | _, _, .nil => .nil
  | _, _, .cons h q => .cons h.dq q.dq
theorem Bn.dq {v : V} {d : PyData} (h : Bn N K H v d) : Dq anyA K H v d := by
  cases h with
  | bit h => exact h.dq
  | tup e l q => exact .tup trivial e q.dq
theorem Bt.neat {v : V} {d : PyData} (h : Bt N K H v d) : Neat 40 1 d := by
  cases h with
  | str h => exact h.1.mono (by decide) (by decide)
  | non => exact ⟨by decide +kernel, by decide +kernel, by decide +kernel, by decide +kernel⟩
  | bl b => cases b <;> exact ⟨by decide +kernel, by decide +kernel, by decide +kernel, by decide +kernel⟩
  | zero => exact ⟨by decide +kernel, by decide +kernel, by decide +kernel, by decide +kernel⟩
  | tup e l h => exact (neat_tup (w := 12) (dp := 0) (m := 2) (fun d hd => by obtain ⟨s, hs, rfl⟩ := List.mem_map.mp hd; exact (h s hs).1) (by rw [List.length_map]; exact l)).mono (by decide) (by decide)
  | lst m e l h => exact (neat_lst (w := 12) (dp := 0) (m := 2) (fun d hd => by obtain ⟨s, hs, rfl⟩ := List.mem_map.mp hd; exact (h s hs).1) (by rw [List.length_map]; exact l)).mono (by decide) (by decide)
  | dct m e => exact ⟨by decide +kernel, by decide +kernel, by decide +kernel, by decide +kernel⟩
theorem BtAll.neat : ∀ {vs : List V} {ds : List PyData}, BtAll N K H vs ds → ds.length = vs.length ∧ ∀ d ∈ ds, Neat 40 1 d
  | _, _, .nil => ⟨rfl, fun _ h => nomatch h⟩
  | _, _, .cons h q => by
    obtain ⟨a, b⟩ := q.neat
    refine ⟨by rw [List.length_cons, List.length_cons, a], fun d hd => ?_⟩
    rcases List.mem_cons.mp hd with rfl | hd
    · exact h.neat
    · exact b d hd
theorem Bn.neat {v : V} {d : PyData} (h : Bn N K H v d) : Neat 123 2 d := by
  cases h with
  | bit h => exact h.neat.mono (by decide) (by decide)
  | tup e l q =>
    obtain ⟨a, b⟩ := q.neat
    exact neat_tup (w := 40) (dp := 1) (m := 3) b (by rw [a]; exact l)
theorem Bt.hit {v : V} {d : PyData} (h : Bt N K H v d) : ∃ hit, HitV K H v hit ∧ ((∃ s, v = .str s ∧ TxtD s) ∨ ((∀ s, v ≠ .str s) ∧ hit = fun _ => false)) := by
  cases h with
  | str h => exact ⟨_, .str _, .inl ⟨_, rfl, h⟩⟩
  | non => exact ⟨_, .non, .inr ⟨(fun _ z => nomatch z), rfl⟩⟩
  | bl b => exact ⟨_, .bl b, .inr ⟨(fun _ z => nomatch z), rfl⟩⟩
  | zero => exact ⟨_, .int 0, .inr ⟨(fun _ z => nomatch z), rfl⟩⟩
  | tup e l h => exact ⟨_, .tup e, .inr ⟨(fun _ z => nomatch z), rfl⟩⟩
  | lst m e l h => exact ⟨_, .lst (.inl (.inl e)), .inr ⟨(fun _ z => nomatch z), rfl⟩⟩
  | dct m e => exact ⟨_, .dK (.inl e), .inr ⟨(fun _ z => nomatch z), rfl⟩⟩
theorem BtAll.strs : ∀ {xs : List Str}, (∀ s ∈ xs, TxtD s) → BtAll N K H (xs.map V.str) (xs.map PyData.str)
  | [], _ => .nil
  | x :: xs, h => .cons (.str (h x List.mem_cons_self)) (BtAll.strs fun s hs => h s (List.mem_cons_of_mem _ hs))
theorem BtAll.append : ∀ {vs ws : List V} {ds es : List PyData}, BtAll N K H vs ds → BtAll N K H ws es → BtAll N K H (vs ++ ws) (ds ++ es)
  | _, _, _, _, .nil, r => r
  | _, _, _, _, .cons h q, r => .cons h (q.append r)
theorem BtAll.mem : ∀ {vs : List V} {ds : List PyData} {v : V}, BtAll N K H vs ds → v ∈ vs → ∃ d, Bt N K H v d
  | _, _, _, .cons h q, m => by
    rcases List.mem_cons.mp m with rfl | m
    · exact ⟨_, h⟩
    · exact q.mem m
end
end Wd

set_option Elab.async false
set_option linter.all false
set_option maxRecDepth 100000
set_option maxHeartbeats 400000
namespace Wd
open PySem PySem.Spec PyProof.Rows L2
theorem tx_of {s : Str} (h1 : s.cps.all (fun c => decide (c < 1000)) = true) (h2 : s.length ≤ 9) : TxtD s := by
  have h : ∀ c ∈ s.cps.toList, c < 1000 := fun c hc => by
    rw [Array.all_eq_true_iff_forall_mem] at h1
    exact of_decide_eq_true (h1 c (by simpa using hc))
  refine ⟨neat_str (n := 12) (fun c hc => Nat.lt_trans (h c hc) (by decide)) (by omega), ?_, h2⟩
  show s.cps.all (fun c => decide (c < 0x110000)) = true
  rw [Array.all_eq_true_iff_forall_mem]
  exact fun c hc => decide_eq_true (by have := h c (by simpa using hc); omega)
theorem tx_go : TxtD (Str.ofString "go") := tx_of (by decide +kernel) (by decide +kernel)
theorem tx_lift : TxtD (Str.ofString "lift") := tx_of (by decide +kernel) (by decide +kernel)
theorem tx_lay : TxtD (Str.ofString "lay") := tx_of (by decide +kernel) (by decide +kernel)
theorem tx_wait : TxtD (Str.ofString "wait") := tx_of (by decide +kernel) (by decide +kernel)
theorem tx_emp : TxtD (Str.ofString "") := tx_of (by decide +kernel) (by decide +kernel)
theorem tx_big : TxtD (Str.ofString "A") := tx_of (by decide +kernel) (by decide +kernel)
theorem tx_sp : TxtD (Str.ofString "a b") := tx_of (by decide +kernel) (by decide +kernel)
theorem tx_long : TxtD (Str.ofString "abcdefghi") := tx_of (by decide +kernel) (by decide +kernel)
theorem tx_ab : TxtD (Str.ofString "ab") := tx_of (by decide +kernel) (by decide +kernel)
theorem tx_zz : TxtD (Str.ofString "zz") := tx_of (by decide +kernel) (by decide +kernel)
end Wd

set_option Elab.async false
set_option linter.all false
set_option maxRecDepth 100000
set_option maxHeartbeats 1000000
/-! [(word, name) for name in names]: tuples of texts in a list, as data. -/
namespace Wd
open PySem PySem.Spec PyProof.Rows L2
inductive TupAll (K : PySem.W.Frag) (H : Hp) : List V → List (List Str) → Prop
  | nil : TupAll K H [] []
  | cons {a : Addr} {d : List Str} {vs : List V} {ds : List (List Str)} (e : SqT K H a (d.map V.str)) (q : TupAll K H vs ds) : TupAll K H (.ref a :: vs) (d :: ds)
section
variable {K : PySem.W.Frag} {H H' : Hp}
theorem TupAll.move (t : ∀ a xs, SqT K H a xs → SqT K H' a xs) : ∀ {vs : List V} {ds : List (List Str)}, TupAll K H vs ds → TupAll K H' vs ds
  | _, _, .nil => .nil
  | _, _, .cons e q => .cons (t _ _ e) (q.move t)
theorem TupAll.same (s : Same H H') {vs : List V} {ds : List (List Str)} (h : TupAll K H vs ds) : TupAll K H' vs ds := h.move fun _ _ z => same_sqT s z
theorem TupAll.append : ∀ {vs ws : List V} {ds es : List (List Str)}, TupAll K H vs ds → TupAll K H ws es → TupAll K H (vs ++ ws) (ds ++ es)
  | _, _, _, _, .nil, r => r
  | _, _, _, _, .cons e q, r => .cons e (q.append r)
theorem TupAll.length : ∀ {vs : List V} {ds : List (List Str)}, TupAll K H vs ds → vs.length = ds.length
  | _, _, .nil => rfl
  | _, _, .cons _ q => by rw [List.length_cons, List.length_cons, q.length]
theorem TupAll.mem : ∀ {vs : List V} {ds : List (List Str)} {v : V}, TupAll K H vs ds → v ∈ vs → ∃ a d, v = .ref a ∧ d ∈ ds ∧ SqT K H a (d.map V.str)
  | _, _, _, .cons (a := a) (d := d) e q, m => by
    rcases List.mem_cons.mp m with rfl | m
    · exact ⟨a, d, rfl, List.mem_cons_self, e⟩
    · obtain ⟨a, d, g1, g2, g3⟩ := q.mem m
      exact ⟨a, d, g1, List.mem_cons_of_mem _ g2, g3⟩
theorem lc_pairs {σ : L2.St} {i e : Nat} {Q : VK} {nl : Addr} {ns : List Str} {w : Str} (hi : σ[i]? = some (some (.ref nl))) (he : e < σ.length) (el : H nl = some (.lst (ns.map V.str))) (hl : ns.length ≤ 1000)
    (q : ∀ D Z vs, Same H Z → H D = none → Z D = some (.lst vs) → TupAll K Z vs (ns.map fun n => [w, n]) → Q (.ref D) Z) :
    tLc (iList K (tVar i)) (gName e) tYes (tTup (tCons (tC (V.str w)) (tCons (tVar e) tNil))) [e] σ H Q := by
  refine ⟨.ref nl, hi, nl, rfl, ⟨_, .inl (.inl el)⟩, fun D nD => ?_⟩
  refine lc_it (walk_list (a := nl) (xs := ns.map V.str)) (fun k Z => Same H Z ∧ ∃ vs, Z D = some (.lst vs) ∧ TupAll K Z vs ((ns.take k).map fun n => [w, n])) ⟨same_new nD, [], upd_same, .nil⟩ (fun k Z _ pv => .inl (.inl (pv.1 _ _ el))) (fun k u Z Z' hk pv hy => ?_) (fun Z pv => ?_)
  · obtain ⟨sZ, vs, z1, z2⟩ := pv
    obtain ⟨rfl, hv⟩ := hy
    rw [List.getElem?_map] at hv
    obtain ⟨nm, hn, rfl⟩ := Option.map_eq_some_iff.mp hv
    have g1 : ((wipe σ [e]).set e (some (V.str nm)))[e]? = some (some (V.str nm)) := by
      show ((σ.set e none).set e (some (V.str nm)))[e]? = _
      rw [List.getElem?_set_self (by rw [List.length_set]; exact he)]
    refine ⟨?_, yes_if ⟨.str nm, g1, by show 2 ≤ sizeLine; decide, fun x nx => ?_⟩⟩
    · show ((σ.set e none).set e (some (V.str nm))).set e none = σ.set e none
      rw [List.set_set, List.set_set]
    have a1 := same_new nx (o := .tup [.str w, .str nm])
    have ex : (upd Z' x (.tup [.str w, .str nm])) x = some (.tup [.str w, .str nm]) := upd_same
    have z1 := a1 _ _ z1
    have z2 := z2.same a1
    generalize upd Z' x (.tup [.str w, .str nm]) = Y at a1 ex z1 z2
    have sY := sZ.trans a1
    have vl : vs.length ≤ 1000 := by
      rw [z2.length, List.length_map, List.length_take]
      omega
    refine ⟨_, z1, (by rw [sizeLine_eq]; omega), same_mut sY nD, vs ++ [.ref x], upd_same, ?_⟩
    rw [take_snoc hn, List.map_append]
    refine TupAll.move (fun b xs z => sqT_off z1 z) (z2.append (.cons (d := [w, nm]) (.inl (.inl ex)) .nil))
  · obtain ⟨sZ, vs, z1, z2⟩ := pv
    rw [List.length_map, List.take_length] at z2
    exact q D Z vs sZ nD z1 z2
end
end Wd

set_option Elab.async false
set_option linter.all false
set_option maxRecDepth 100000
set_option maxHeartbeats 4000000
/-! Texts: cut, joined, split; ways as texts. -/
namespace Wd
open PySem PySem.Spec PyProof.Rows L2 TL
/-- a text of at most n small signs -/
def TxG (n : Nat) (t : Str) : Prop := (∀ c ∈ tl t, c < 1000) ∧ (tl t).length ≤ n
theorem tl_len (t : Str) : (tl t).length = t.length := by
  show t.cps.toList.length = t.cps.size
  exact Array.length_toList
theorem TxG.len {n : Nat} {t : Str} (h : TxG n t) : t.length ≤ n := by rw [← tl_len]; exact h.2
theorem TxG.mono {m n : Nat} {t : Str} (h : TxG m t) (l : m ≤ n) : TxG n t := ⟨h.1, Nat.le_trans h.2 l⟩
theorem TxG.part {n : Nat} {t p : Str} {A B : List Nat} (h : TxG n t) (e : tl t = A ++ tl p ++ B) : TxG n p := by
  refine ⟨fun c hc => h.1 c (by rw [e]; simp [hc]), ?_⟩
  have := h.2
  rw [e] at this
  simp only [List.length_append] at this
  omega
theorem TxG.app {m n : Nat} {a b : Str} (h : TxG m a) (g : TxG n b) : TxG (m + n) (a ++ b) := by
  refine ⟨fun c hc => ?_, ?_⟩
  · rw [tl_append] at hc
    rcases List.mem_append.mp hc with hc | hc
    · exact h.1 c hc
    · exact g.1 c hc
  · rw [tl_append, List.length_append]
    have := h.2
    have := g.2
    omega
theorem TxG.neat {n : Nat} {t : Str} (h : TxG n t) : Neat n 0 (.str t) := neat_str (fun c hc => Nat.lt_trans (h.1 c hc) (by decide)) h.len
theorem TxG.ok {n : Nat} {t : Str} (h : TxG n t) : PyData.strOk t = true := by
  show t.cps.all (fun c => decide (c < 0x110000)) = true
  rw [Array.all_eq_true_iff_forall_mem]
  exact fun c hc => decide_eq_true (by have := h.1 c (by show c ∈ t.cps.toList; simpa using hc); omega)
theorem txg_of {n : Nat} {t : Str} (h1 : t.cps.all (fun c => decide (c < 1000)) = true) (h2 : t.length ≤ n) : TxG n t := by
  refine ⟨fun c hc => ?_, by rw [tl_len]; exact h2⟩
  rw [Array.all_eq_true_iff_forall_mem] at h1
  exact of_decide_eq_true (h1 c (by simpa [tl] using hc))
theorem txg_name {t : Str} (h : NameOk t) : TxG 8 t := ⟨fun c hc => by have := (h.2.2 c hc).2; omega, by rw [tl_len]; exact (name_len h).2⟩
theorem txg_txt {t : Str} (h : TxG 9 t) : TxtD t := ⟨h.neat.mono (by decide) (Nat.le_refl _), h.ok, h.len⟩
theorem txg_slice {n : Nat} {t : Str} (h : TxG n t) (lo hi : Option Int) : TxG n (Txt.slice t lo hi) := by
  rw [← C8.cutS_slice]
  obtain ⟨A, B, e⟩ : ∃ A B, tl t = A ++ tl (cutS t lo hi) ++ B := by
    unfold cutS
    refine ⟨(tl t).take (HT.sIx t.length 0 lo), ((tl t).drop (HT.sIx t.length 0 lo)).drop (HT.sIx t.length t.length hi - HT.sIx t.length 0 lo), ?_⟩
    rw [List.append_assoc]
    show tl t = _ ++ ((((tl t).drop _).take _) ++ _)
    rw [List.take_append_drop, List.take_append_drop]
  exact h.part e
theorem joinL_mem {S : List Nat} : ∀ {ps : List (List Nat)} {p : List Nat}, p ∈ ps → ∃ A B, joinL S ps = A ++ p ++ B
  | [q], p, h => by
    rw [List.mem_singleton.mp h]
    exact ⟨[], [], by show q = [] ++ q ++ []; simp⟩
  | q :: r :: ps, p, h => by
    rcases List.mem_cons.mp h with rfl | h
    · exact ⟨[], S ++ joinL S (r :: ps), by show p ++ _ = _; simp⟩
    · obtain ⟨A, B, e⟩ := joinL_mem (S := S) h
      exact ⟨q ++ (S ++ A), B, by show q ++ (S ++ joinL S (r :: ps)) = _; rw [e]; simp [List.append_assoc]⟩
theorem txg_split {n : Nat} {x y p : Str} (h : TxG n x) (hp : p ∈ Txt.split x y) : TxG n p := by
  have e : tl x = joinL (tl y) ((Txt.split x y).map tl) := by
    rw [← tl_join, StrLaws.join_split]
  obtain ⟨A, B, e2⟩ := joinL_mem (S := tl y) (List.mem_map.mpr ⟨p, hp, rfl⟩)
  exact h.part (e.trans e2)
theorem joinL_len {S : List Nat} {m : Nat} : ∀ {ps : List (List Nat)}, (∀ p ∈ ps, p.length ≤ m) → (joinL S ps).length ≤ (m + S.length) * ps.length
  | [], _ => Nat.le_refl _
  | [p], h => by
    have := h p List.mem_cons_self
    show p.length ≤ (m + S.length) * 1
    omega
  | p :: q :: ps, h => by
    have h1 := h p List.mem_cons_self
    have h2 := joinL_len (S := S) (ps := q :: ps) fun z hz => h z (List.mem_cons_of_mem _ hz)
    show (p ++ (S ++ joinL S (q :: ps))).length ≤ _
    rw [List.length_append, List.length_append, List.length_cons (a := p), Nat.mul_succ]
    omega
theorem joinL_signs {S : List Nat} {c : Nat} : ∀ {ps : List (List Nat)}, c ∈ joinL S ps → c ∈ S ∨ ∃ p ∈ ps, c ∈ p
  | [p], h => .inr ⟨p, List.mem_cons_self, h⟩
  | p :: q :: ps, h => by
    have h : c ∈ p ++ (S ++ joinL S (q :: ps)) := h
    rcases List.mem_append.mp h with h | h
    · exact .inr ⟨p, List.mem_cons_self, h⟩
    · rcases List.mem_append.mp h with h | h
      · exact .inl h
      · rcases joinL_signs h with h | ⟨z, hz, h⟩
        · exact .inl h
        · exact .inr ⟨z, List.mem_cons_of_mem _ hz, h⟩
theorem txg_join {m k : Nat} {y : Str} {ps : List Str} (hy : TxG k y) (h : ∀ p ∈ ps, TxG m p) : TxG ((m + k) * ps.length) (Txt.join y ps) := by
  rw [join_eq]
  refine ⟨fun c hc => ?_, ?_⟩
  · rw [tl_join] at hc
    rcases joinL_signs hc with hc | ⟨z, hz, hc⟩
    · exact hy.1 c hc
    · obtain ⟨p, hp, rfl⟩ := List.mem_map.mp hz
      exact (h p hp).1 c hc
  · rw [tl_join]
    refine Nat.le_trans (joinL_len (m := m) fun z hz => ?_) ?_
    · obtain ⟨p, hp, rfl⟩ := List.mem_map.mp hz
      exact (h p hp).2
    · rw [List.length_map]
      have := hy.2
      exact Nat.mul_le_mul_right _ (by omega)
def comS : Str := Str.ofString ", "
def blkS : Str := Str.ofString " "
theorem tl_com : tl comS = [44, 32] := by decide +kernel
theorem tl_blk : tl blkS = [32] := by decide +kernel
theorem txg_com : TxG 2 comS := txg_of (by decide +kernel) (by decide +kernel)
theorem txg_blk : TxG 1 blkS := txg_of (by decide +kernel) (by decide +kernel)
/-- the words of the parts of a text -/
def wordsOf (t : Str) : List (List Str) := (Txt.split t comS).map fun p => Txt.split p blkS
def wayOf (t : Str) : List (List Str) := if t = Str.empty then [] else wordsOf t
def firstBad : List (List Str) → Option Nat
  | [] => none
  | d :: ds => if deedB d then (firstBad ds).map (· + 1) else some 0
def readD (t : Str) : Option Nat := if t = Str.empty then none else firstBad (wordsOf t)
theorem firstBad_none : ∀ {ds : List (List Str)}, (∀ d ∈ ds, deedB d = true) → firstBad ds = none
  | [], _ => rfl
  | d :: ds, h => by
    unfold firstBad
    rw [if_pos (h d List.mem_cons_self), firstBad_none fun e he => h e (List.mem_cons_of_mem _ he)]
    rfl
theorem firstBad_at : ∀ {ds : List (List Str)} {k : Nat} {d : List Str}, (∀ i e, i < k → ds[i]? = some e → deedB e = true) → ds[k]? = some d → deedB d = false → firstBad ds = some k
  | e :: ds, 0, d, _, h, hb => by
    cases h
    unfold firstBad
    rw [hb]
    rfl
  | e :: ds, k + 1, d, h0, h, hb => by
    unfold firstBad
    rw [if_pos (h0 0 e (Nat.succ_pos _) rfl), firstBad_at (k := k) (fun i e hi he => h0 (i + 1) e (Nat.succ_lt_succ hi) he) (by simpa using h) hb]
    rfl
theorem firstBad_or : ∀ (ds : List (List Str)), (firstBad ds = none ∧ ∀ d ∈ ds, deedB d = true) ∨ ∃ k d, firstBad ds = some k ∧ ds[k]? = some d ∧ deedB d = false ∧ ∀ i e, i < k → ds[i]? = some e → deedB e = true
  | [] => .inl ⟨rfl, fun _ z => nomatch z⟩
  | d :: ds => by
    by_cases hb : deedB d = true
    · rcases firstBad_or ds with ⟨h1, h2⟩ | ⟨k, e, h1, h2, h3, h4⟩
      · refine .inl ⟨?_, fun z hz => ?_⟩
        · unfold firstBad
          rw [if_pos hb, h1]
          rfl
        · rcases List.mem_cons.mp hz with rfl | hz
          · exact hb
          · exact h2 z hz
      · refine .inr ⟨k + 1, e, ?_, by simpa using h2, h3, fun i z hi hz => ?_⟩
        · unfold firstBad
          rw [if_pos hb, h1]
          rfl
        · match i, hi, hz with
          | 0, _, hz => cases hz; exact hb
          | i + 1, hi, hz => exact h4 i z (Nat.lt_of_succ_lt_succ hi) (by simpa using hz)
    · refine .inr ⟨0, d, ?_, rfl, by simpa using hb, fun i z hi => absurd hi (Nat.not_lt_zero _)⟩
      unfold firstBad
      rw [if_neg hb]
/-- a way's text -/
def showOf (ds : List (List Str)) : Str := Txt.join comS (ds.map fun d => Txt.join blkS d)
def CleanD (d : List Str) : Prop := d ≠ [] ∧ ∀ s ∈ d, ∀ c ∈ tl s, 97 ≤ c
theorem split_words {d : List Str} (h : CleanD d) : Txt.split (Txt.join blkS d) blkS = d :=
  split_join tl_blk (by decide +kernel) h.1 fun p hp m => by
    have := h.2 p hp 32 m
    omega
theorem words_show {ds : List (List Str)} (hn : ds ≠ []) (h : ∀ d ∈ ds, CleanD d) : wordsOf (showOf ds) = ds := by
  unfold wordsOf showOf
  rw [split_join tl_com (by decide +kernel) (fun z => hn (List.map_eq_nil_iff.mp z)) fun p hp m => ?_]
  · rw [List.map_map]
    have : ∀ {l : List (List Str)}, (∀ d ∈ l, CleanD d) → l.map ((fun p => Txt.split p blkS) ∘ fun d => Txt.join blkS d) = l := fun {l} => by
      induction l with
      | nil => exact fun _ => rfl
      | cons d l ih =>
        intro hl
        rw [List.map_cons, ih fun e he => hl e (List.mem_cons_of_mem _ he)]
        show Txt.split (Txt.join blkS d) blkS :: l = d :: l
        rw [split_words (hl d List.mem_cons_self)]
    exact this h
  · obtain ⟨d, hd, rfl⟩ := List.mem_map.mp hp
    rw [join_eq, tl_join] at m
    rcases joinL_signs m with m | ⟨z, hz, m⟩
    · rw [tl_blk] at m
      simp at m
    · obtain ⟨s, hs, rfl⟩ := List.mem_map.mp hz
      have := (h d hd).2 s hs 44 m
      omega
theorem show_empty {ds : List (List Str)} (h : ∀ d ∈ ds, CleanD d ∧ ∀ s ∈ d, s ≠ Str.empty) (e : showOf ds = Str.empty) : ds = [] := by
  cases ds with
  | nil => rfl
  | cons d ds =>
    exfalso
    obtain ⟨⟨hd, _⟩, hs⟩ := h d List.mem_cons_self
    obtain ⟨s, hs1⟩ : ∃ s, s ∈ d := List.exists_mem_of_ne_nil d hd
    have e2 : tl (showOf (d :: ds)) = [] := by rw [e]; rfl
    unfold showOf at e2
    rw [join_eq, tl_join] at e2
    obtain ⟨A, B, h1⟩ := joinL_mem (S := tl comS) (ps := (((d :: ds).map fun d => Txt.join blkS d)).map tl) (p := tl (Txt.join blkS d)) (by simp)
    rw [h1] at e2
    have e3 : tl (Txt.join blkS d) = [] := by
      have := List.append_eq_nil_iff.mp e2
      exact (List.append_eq_nil_iff.mp this.1).2
    rw [join_eq, tl_join] at e3
    obtain ⟨A2, B2, h2⟩ := joinL_mem (S := tl blkS) (List.mem_map.mpr ⟨s, hs1, rfl⟩)
    rw [h2] at e3
    have e4 : tl s = [] := (List.append_eq_nil_iff.mp (List.append_eq_nil_iff.mp e3).1).2
    exact hs s hs1 (ext_tl e4)
theorem read_show {ds : List (List Str)} (h : ∀ d ∈ ds, CleanD d ∧ ∀ s ∈ d, s ≠ Str.empty) : wayOf (showOf ds) = ds := by
  unfold wayOf
  by_cases e : showOf ds = Str.empty
  · rw [if_pos e, show_empty h e]
  · rw [if_neg e]
    refine words_show (fun z => e ?_) fun d hd => (h d hd).1
    rw [z]
    rfl
end Wd
namespace Wd
open PySem PySem.Spec PyProof.Rows L2 TL
theorem len_sum {m : Nat} : ∀ {ys : List Str}, (∀ p ∈ ys, p.length ≤ m) → (ys.map (·.length)).sum ≤ m * ys.length
  | [], _ => Nat.le_refl _
  | y :: ys, h => by
    have h1 := h y List.mem_cons_self
    have h2 := len_sum (ys := ys) fun p hp => h p (List.mem_cons_of_mem _ hp)
    rw [List.map_cons, List.sum_cons, List.length_cons, Nat.mul_succ]
    omega
/-- a deed's words, short -/
def WordsD (d : List Str) : Prop := (d.length = 1 ∨ d.length = 2) ∧ ∀ s ∈ d, TxG 8 s
theorem join_words {d : List Str} (h : WordsD d) : TxG 18 (Txt.join blkS d) ∧ (d.map (·.length)).sum + d.length * blkS.length ≤ 16777216 := by
  have l2 : d.length ≤ 2 := by rcases h.1 with e | e <;> omega
  have b1 : blkS.length = 1 := by decide +kernel
  refine ⟨(txg_join (m := 8) (k := 1) txg_blk h.2).mono (by omega), ?_⟩
  have := len_sum (m := 8) fun p hp => (h.2 p hp).len
  rw [b1]
  omega
theorem join_way {ds : List (List Str)} (h : ∀ d ∈ ds, WordsD d) (hl : ds.length ≤ 1000) : TxG (20 * ds.length) (showOf ds) ∧ ((ds.map fun d => Txt.join blkS d).map (·.length)).sum + (ds.map fun d => Txt.join blkS d).length * comS.length ≤ 16777216 := by
  have h2 : ∀ p ∈ ds.map (fun d => Txt.join blkS d), TxG 18 p := fun p hp => by
    obtain ⟨d, hd, rfl⟩ := List.mem_map.mp hp
    exact (join_words (h d hd)).1
  have c2 : comS.length = 2 := by decide +kernel
  refine ⟨?_, ?_⟩
  · have := txg_join (m := 18) (k := 2) txg_com h2
    rw [List.length_map] at this
    exact this
  · have := len_sum (m := 18) fun p hp => (h2 p hp).len
    rw [List.length_map] at this ⊢
    rw [c2]
    omega
end Wd
namespace Wd
open PySem PySem.Spec PyProof.Rows L2 TL
def rJoinK (K : PySem.W.Frag) : V → List V → Hp → VK → Prop := fun x xs H Q => ∃ a p, ∃ ys : List Str, x = .str a ∧ xs = [.ref p] ∧ (SqL K H p (ys.map V.str) ∨ SqT K H p (ys.map V.str)) ∧ (ys.map (·.length)).sum + ys.length * a.length ≤ 16777216 ∧ Q (.str (Txt.join a ys)) H
theorem mt_joinK {X : Cx} {K : PySem.W.Frag} (hK : X.K = K := by rfl) : MtR X "str.join" (rJoinK K) := by
  subst hK
  exact mt_join
end Wd

set_option Elab.async false
set_option linter.all false
set_option maxRecDepth 100000
set_option maxHeartbeats 4000000
/-! A way gone, as data: as far as it can be, and why not further. -/
namespace Wd
open PySem PySem.Spec PyProof.Rows L2
structure Std where
  t : Nat
  rs : List Str
  ps : List Str
def Std.ok (x : HallH) (a : Std) : Prop := StandH x a.t a.rs a.ps
def Std.d (a : Std) : PyData := standD a.t a.rs a.ps
/-- the deed can be done, and leads on -/
def OneD (x : HallH) (d : List Str) (a b : Std) : Prop := ∃ (z : WalkH) (r : Str), x.walkers[a.t]? = some z ∧ a.rs[a.t]? = some r ∧ whyD x a.rs a.ps z r d = none ∧ StepH x a.t a.rs a.ps d b.rs b.ps ∧ b.t = (a.t + 1) % x.walkers.length
def StopD (x : HallH) (d : List Str) (a : Std) (why : Str) : Prop := ∃ (z : WalkH) (r : Str), x.walkers[a.t]? = some z ∧ a.rs[a.t]? = some r ∧ whyD x a.rs a.ps z r d = some why
/-- n deeds of ds are done -/
def RunD (x : HallH) (ds : Nat → List Str) (S : Nat → Std) (n : Nat) : Prop := ∀ i, i < n → OneD x (ds i) (S i) (S (i + 1))
section
variable {x : HallH} {sr sd ss sw : Nat}
theorem std_at {a : Std} (sh : a.ok x) : ∃ (z : WalkH) (r : Str), x.walkers[a.t]? = some z ∧ a.rs[a.t]? = some r := by
  have h1 : a.t < x.walkers.length := sh.t
  have h2 : a.t < a.rs.length := by
    have := sh.rl
    omega
  exact ⟨_, _, List.getElem?_eq_getElem h1, List.getElem?_eq_getElem h2⟩
theorem OneD.ok (ok : HallOk sr sd ss sw x) {d : List Str} {a b : Std} (sh : a.ok x) (h : OneD x d a b) : b.ok x := by
  obtain ⟨z, r, hz, hr, hw, st, ht⟩ := h
  unfold Std.ok
  rw [ht]
  exact step_stand ok sh hz hr st hw
theorem RunD.ok (ok : HallOk sr sd ss sw x) {ds : Nat → List Str} {S : Nat → Std} {n : Nat} (h0 : (S 0).ok x) (h : RunD x ds S n) : ∀ i, i ≤ n → (S i).ok x
  | 0, _ => h0
  | i + 1, hi => (h i hi).ok ok (RunD.ok ok h0 h i (Nat.le_of_succ_le hi))
theorem why_short {rs ps d : List Str} {z : WalkH} {r : Str} (h : whyD x rs ps z r d = none) : d.length = 1 ∨ d.length = 2 := by
  unfold whyD at h
  by_cases hb : deedB d = true
  · match d, hb with
    | [_], _ => exact .inl rfl
    | [_, _], _ => exact .inr rfl
  · rw [if_neg hb] at h
    cases h
theorem one_or (ok : HallOk sr sd ss sw x) {a : Std} (sh : a.ok x) (d : List Str) : (∃ b, OneD x d a b) ∨ ∃ why, StopD x d a why := by
  obtain ⟨z, r, hz, hr⟩ := std_at sh
  cases hw : whyD x a.rs a.ps z r d with
  | some why => exact .inr ⟨why, z, r, hz, hr, hw⟩
  | none =>
    obtain ⟨_, rs', ps', st⟩ := deeds_why ok sh hz hr (why_deeds (why_short hw) hw)
    exact .inl ⟨⟨(a.t + 1) % x.walkers.length, rs', ps'⟩, z, r, hz, hr, hw, st, rfl⟩
/-- each way is gone to its end, or to a deed that can't be done -/
theorem exists_run (ok : HallOk sr sd ss sw x) : ∀ (ds : List (List Str)) (a : Std), a.ok x → ∃ (S : Nat → Std) (n : Nat), S 0 = a ∧ n ≤ ds.length ∧ RunD x (fun i => ds[i]?.getD []) S n ∧ (n = ds.length ∨ ∃ d why, ds[n]? = some d ∧ StopD x d (S n) why)
  | [], a, _ => ⟨fun _ => a, 0, rfl, Nat.le_refl _, fun i hi => absurd hi (Nat.not_lt_zero _), .inl rfl⟩
  | d :: ds, a, sh => by
    rcases one_or ok sh d with ⟨b, h⟩ | ⟨why, h⟩
    · obtain ⟨S, n, e0, hn, run, fin⟩ := exists_run ok ds b (h.ok ok sh)
      refine ⟨fun i => match i with | 0 => a | i + 1 => S i, n + 1, rfl, by simp only [List.length_cons]; omega, fun i hi => ?_, ?_⟩
      · match i, hi with
        | 0, _ =>
          show OneD x d a (S 0)
          rw [e0]
          exact h
        | i + 1, hi => exact run i (by omega)
      · rcases fin with e | ⟨d', why, e1, e2⟩
        · exact .inl (by simp only [List.length_cons]; omega)
        · exact .inr ⟨d', why, e1, e2⟩
    · exact ⟨fun _ => a, 0, rfl, Nat.zero_le _, fun i hi => absurd hi (Nat.not_lt_zero _), .inr ⟨d, why, rfl, h⟩⟩
end
end Wd

set_option Elab.async false
set_option linter.all false
set_option maxRecDepth 100000
set_option maxHeartbeats 4000000
/-! Two deeds that touch nothing of one another: either first. -/
namespace Wd
open PySem PySem.Spec PyProof.Rows L2
def setO (rs : List Str) (t : Nat) : Option Str → List Str
  | none => rs
  | some b => rs.set t b
def setP (ps : List Str) : Option (Nat × Str) → List Str
  | none => ps
  | some (k, v) => ps.set k v
/-- rooms, rooms of rows, stones that a deed touches -/
inductive TouchH (x : HallH) (r : Str) : List Str → List Str → List Str → List Str → Prop
  | go {d : DoorH} (hd : d ∈ x.doors) : TouchH x r [Str.ofString "go", d.name] [d.one, d.other] (d.rows.map RowH.room) []
  | lift {s : Str} (hs : s ∈ x.stones.map Prod.fst) : TouchH x r [Str.ofString "lift", s] [r] [] [s]
  | lay {s : Str} (hs : s ∈ x.stones.map Prod.fst) : TouchH x r [Str.ofString "lay", s] [r] [] [s]
  | wait : TouchH x r [Str.ofString "wait"] [] [] []
/-- what a deed does, whatever else stands otherwise -/
structure EffH (x : HallH) (t : Nat) (r : Str) (d : List Str) (z : WalkH) (ps A C : List Str) (fr : Option Str) (fp : Option (Nat × Str)) : Prop where
  go : ∀ rs2 ps2, rs2[t]? = some r → StepH x t rs2 ps2 d (setO rs2 t fr) (setP ps2 fp)
  fr : ∀ b, fr = some b → r ∈ A ∧ b ∈ A ∧ fp = none
  fp : ∀ k v, fp = some (k, v) → ∃ s ∈ C, (x.stones.map Prod.fst)[k]? = some s ∧ ((ps[k]? = some r ∧ v = z.name) ∨ (ps[k]? = some z.name ∧ v = r))
theorem sumA (n : Str) (q : Str) : ∀ (zs : List (WalkH × Str)) (g : Str → Int), folkW (some n) zs g q = g q + (zs.map fun z => if z.1.name ≠ n ∧ z.2 = q then z.1.heft else 0).sum
  | [], g => by
    show g q = g q + 0
    omega
  | z :: zs, g => by
    have e : folkW (some n) (z :: zs) g = folkW (some n) zs (if some z.1.name = some n then g else addAt g z.2 z.1.heft) := rfl
    rw [e, sumA n q zs, List.map_cons, List.sum_cons]
    by_cases h : z.1.name = n
    · simp [h]
    · rw [if_neg (fun c => h (Option.some.inj c)), addAt_at]
      by_cases h2 : z.2 = q
      · simp [h, h2]; omega
      · simp [h, h2]
theorem sumB (n : Str) (wh : Str → Str) (q : Str) : ∀ (zs : List ((Str × Int) × Str)) (g : Str → Int), stonesW (some n) wh zs g q = g q + (zs.map fun z => if z.2 ≠ n ∧ wh z.2 = q then z.1.2 else 0).sum
  | [], g => by
    show g q = g q + 0
    omega
  | z :: zs, g => by
    have e : stonesW (some n) wh (z :: zs) g = stonesW (some n) wh zs (if some z.2 = some n then g else addAt g (wh z.2) z.1.2) := rfl
    rw [e, sumB n wh q zs, List.map_cons, List.sum_cons]
    by_cases h : z.2 = n
    · simp [h]
    · rw [if_neg (fun c => h (Option.some.inj c)), addAt_at]
      by_cases h2 : wh z.2 = q
      · simp [h, h2]; omega
      · simp [h, h2]
theorem borne_aside (x : HallH) (rs ps : List Str) (n q : Str) : borneH x rs ps (some n) q = ((x.walkers.zip rs).map fun z => if z.1.name ≠ n ∧ z.2 = q then z.1.heft else 0).sum + ((x.stones.zip ps).map fun z => if z.2 ≠ n ∧ whereH x rs z.2 = q then z.1.2 else 0).sum := by
  unfold borneH
  rw [sumB, sumA]
  omega
theorem place_set {x : HallH} {ps : List Str} {k : Nat} {v s1 s : Str} (snd : (x.stones.map Prod.fst).Nodup) (pl : ps.length = x.stones.length) (hk : (x.stones.map Prod.fst)[k]? = some s1) (ne : s1 ≠ s) : placeOf x (ps.set k v) s = placeOf x ps s := by
  by_cases hin : s ∈ x.stones.map Prod.fst
  · obtain ⟨j, hj⟩ := List.mem_iff_getElem?.mp hin
    have jl := (List.getElem?_eq_some_iff.mp hj).1
    rw [List.length_map, ← pl] at jl
    have hq := List.getElem?_eq_getElem jl
    have kj : k ≠ j := fun e => ne (by rw [e, hj] at hk; exact (Option.some.inj hk).symm)
    have h1 : placeOf x ps s = some ps[j] := place_at snd hj hq
    have h2 : placeOf x (ps.set k v) s = some ps[j] := place_at snd hj (by rw [List.getElem?_set_ne kj]; exact hq)
    rw [h1, h2]
  · have h1 : placeOf x ps s = none := place_off hin
    have h2 : placeOf x (ps.set k v) s = none := place_off hin
    rw [h1, h2]
theorem count_same {ps : List Str} {k : Nat} {v o n : Str} (h : ps[k]? = some o) (h1 : o ≠ n) (h2 : v ≠ n) : (ps.set k v).count n = ps.count n := by
  have kl := (List.getElem?_eq_some_iff.mp h).1
  have e := (List.getElem?_eq_some_iff.mp h).2
  rw [List.count_set kl, e]
  simp [h1, h2]
theorem eff_of {x : HallH} {t : Nat} {rs ps d rs1 ps1 : List Str} {z : WalkH} {r : Str} (snd : (x.stones.map Prod.fst).Nodup) (pl : ps.length = x.stones.length) (st : StepH x t rs ps d rs1 ps1) (hw : whyD x rs ps z r d = none) (hz : x.walkers[t]? = some z) (hr : rs[t]? = some r) :
    ∃ A B C fr fp, TouchH x r d A B C ∧ EffH x t r d z ps A C fr fp ∧ rs1 = setO rs t fr ∧ ps1 = setP ps fp := by
  cases st with
  | wait => exact ⟨_, _, _, none, none, .wait, ⟨fun _ _ _ => .wait, fun _ z => (by cases z), fun _ _ z => (by cases z)⟩, rfl, rfl⟩
  | @go dd r0 b hd hr0 hb =>
    have er : r0 = r := by rw [hr] at hr0; exact (Option.some.inj hr0).symm
    subst er
    have pm := ends_perm hb
    refine ⟨_, _, _, some b, none, .go hd, ⟨fun rs2 ps2 h => .go hd h hb, fun c e => ?_, fun _ _ z => (by cases z)⟩, rfl, rfl⟩
    cases e
    exact ⟨pm.mem_iff.mp List.mem_cons_self, pm.mem_iff.mp (List.mem_cons_of_mem _ List.mem_cons_self), rfl⟩
  | @lift j s z0 hs hz0 =>
    have ez : z0 = z := by rw [hz] at hz0; exact (Option.some.inj hz0).symm
    subst ez
    have hp := why_liftAt snd pl hs hw
    refine ⟨_, _, _, none, some (j, z0.name), .lift (List.mem_of_getElem? hs), ⟨fun rs2 ps2 h => .lift hs hz, fun _ z => (by cases z), fun k v e => ?_⟩, rfl, rfl⟩
    cases e
    exact ⟨s, List.mem_cons_self, hs, .inl ⟨hp, rfl⟩⟩
  | @lay j s r0 hs hr0 =>
    have er : r0 = r := by rw [hr] at hr0; exact (Option.some.inj hr0).symm
    subst er
    have hp := why_layAt snd pl hs hw
    refine ⟨_, _, _, none, some (j, r0), .lay (List.mem_of_getElem? hs), ⟨fun rs2 ps2 h => .lay hs h, fun _ z => (by cases z), fun k v e => ?_⟩, rfl, rfl⟩
    cases e
    exact ⟨s, List.mem_cons_self, hs, .inr ⟨hp, rfl⟩⟩
theorem name_inj {x : HallH} (wnd : (x.walkers.map WalkH.name).Nodup) {i j : Nat} {zi zj : WalkH} (hi : x.walkers[i]? = some zi) (hj : x.walkers[j]? = some zj) (ne : i ≠ j) : zi.name ≠ zj.name := fun e => by
  have h1 : (x.walkers.map WalkH.name)[i]? = some zi.name := by rw [List.getElem?_map, hi]; rfl
  have h2 : (x.walkers.map WalkH.name)[j]? = some zj.name := by rw [List.getElem?_map, hj]; rfl
  rcases Nat.lt_or_gt_of_ne ne with h | h
  · exact first_at wnd h2 h h1 e
  · exact first_at wnd h1 h h2 e.symm
theorem aside_go {x : HallH} {rs ps : List Str} {i : Nat} {z : WalkH} {r b n q : Str} (wnd : (x.walkers.map WalkH.name).Nodup) (l : rs.length = x.walkers.length) (h : x.walkers[i]? = some z) (hr : rs[i]? = some r) (n1 : r ≠ q) (n2 : b ≠ q) : borneH x (rs.set i b) ps (some n) q = borneH x rs ps (some n) q := by
  rw [borne_aside, borne_aside, zip_set_sum _ b h hr]
  have e1 : (if z.name ≠ n ∧ r = q then z.heft else 0) = 0 := by rw [if_neg (fun c => n1 c.2)]
  have e2 : (if z.name ≠ n ∧ b = q then z.heft else 0) = 0 := by rw [if_neg (fun c => n2 c.2)]
  show _ - (if z.name ≠ n ∧ r = q then z.heft else 0) + (if z.name ≠ n ∧ b = q then z.heft else 0) + _ = _
  rw [e1, e2]
  have e3 : ((x.stones.zip ps).map fun y => if y.2 ≠ n ∧ whereH x (rs.set i b) y.2 = q then y.1.2 else 0) = ((x.stones.zip ps).map fun y => if y.2 ≠ n ∧ whereH x rs y.2 = q then y.1.2 else 0) := by
    refine List.map_congr_left fun y _ => ?_
    rw [where_set wnd l h]
    by_cases c : y.2 = z.name
    · rw [if_pos c, if_neg (fun k => n2 k.2), c, where_own wnd l h hr, if_neg (fun k => n1 k.2)]
    · rw [if_neg c]
  rw [e3]
  omega
theorem aside_put {x : HallH} {rs ps : List Str} {k : Nat} {s : Str × Int} {o v n : Str} (h : x.stones[k]? = some s) (hp : ps[k]? = some o) (e : whereH x rs v = whereH x rs o) (h1 : o ≠ n) (h2 : v ≠ n) (q : Str) : borneH x rs (ps.set k v) (some n) q = borneH x rs ps (some n) q := by
  rw [borne_aside, borne_aside, zip_set_sum _ v h hp]
  show _ + (_ - (if o ≠ n ∧ whereH x rs o = q then s.2 else 0) + (if v ≠ n ∧ whereH x rs v = q then s.2 else 0)) = _
  rw [e]
  have : (v ≠ n ∧ whereH x rs o = q) = (o ≠ n ∧ whereH x rs o = q) := by
    rw [eq_iff_iff]
    exact ⟨fun c => ⟨h1, c.2⟩, fun c => ⟨h2, c.2⟩⟩
  simp only [this]
  omega
/-- what one's deed leaves of another one's, where they touch nothing of one another -/
theorem turned_why {sr sd ss sw : Nat} {x : HallH} {rs ps d1 d2 : List Str} {i j : Nat} {zi zj : WalkH} {ri rj : Str} {A1 C1 A2 B2 C2 : List Str} {fr : Option Str} {fp : Option (Nat × Str)} (ok : HallOk sr sd ss sw x) (sh : StandH x i rs ps) (ij : i ≠ j) (hzi : x.walkers[i]? = some zi) (hzj : x.walkers[j]? = some zj) (hri : rs[i]? = some ri) (hrj : rs[j]? = some rj)
    (E1 : EffH x i ri d1 zi ps A1 C1 fr fp) (T2 : TouchH x rj d2 A2 B2 C2) (hw : whyD x rs ps zj rj d2 = none) (ap1 : ∀ q ∈ A1, q ∉ B2) (ap2 : ∀ s ∈ C1, s ∉ C2) :
    whyD x (setO rs i fr) (setP ps fp) zj rj d2 = none ∧ (setO rs i fr)[j]? = some rj := by
  have nd := ok.n1
  have na := names_apart ok.n1 (sh.rin ri (List.mem_of_getElem? hri))
  unfold HallH.names at nd
  have wnd : (x.walkers.map WalkH.name).Nodup := (List.nodup_append.mp (List.nodup_append.mp nd).2.1).1
  have snd : (x.stones.map Prod.fst).Nodup := (List.nodup_append.mp (List.nodup_append.mp (List.nodup_append.mp nd).2.1).2.1).1
  have dnd : (x.doors.map DoorH.name).Nodup := (List.nodup_append.mp (List.nodup_append.mp (List.nodup_append.mp nd).2.1).2.1).2.1
  have zne := name_inj wnd hzi hzj ij
  have rne : ri ≠ zj.name := fun e => na (by rw [e]; exact List.mem_map.mpr ⟨zj, List.mem_of_getElem? hzj, rfl⟩)
  have hj : (setO rs i fr)[j]? = some rj := by
    cases fr with
    | none => exact hrj
    | some b => show (rs.set i b)[j]? = _; rw [List.getElem?_set_ne ij]; exact hrj
  refine ⟨?_, hj⟩
  -- stones
  have wh : ∀ k v, fp = some (k, v) → ∃ o s1, ps[k]? = some o ∧ s1 ∈ C1 ∧ (x.stones.map Prod.fst)[k]? = some s1 ∧ o ≠ zj.name ∧ v ≠ zj.name ∧ whereH x rs v = whereH x rs o := fun k v e => by
    obtain ⟨s1, h1, h2, h3⟩ := E1.fp k v e
    have w1 : whereH x rs zi.name = ri := where_own wnd sh.rl hzi hri
    have w2 : whereH x rs ri = ri := where_room na
    rcases h3 with ⟨h3, rfl⟩ | ⟨h3, rfl⟩
    · exact ⟨ri, s1, h3, h1, h2, rne, zne, by rw [w1, w2]⟩
    · exact ⟨zi.name, s1, h3, h1, h2, zne, rne, by rw [w1, w2]⟩
  have cnt : (setP ps fp).count zj.name = ps.count zj.name := by
    cases fp with
    | none => rfl
    | some kv =>
      obtain ⟨o, s1, h1, _, _, h4, h5, _⟩ := wh kv.1 kv.2 rfl
      exact count_same h1 h4 h5
  have plc : ∀ s, (∀ s1 ∈ C1, s1 ≠ s) → placeOf x (setP ps fp) s = placeOf x ps s := fun s hs => by
    cases fp with
    | none => rfl
    | some kv =>
      obtain ⟨o, s1, _, h2, h3, _⟩ := wh kv.1 kv.2 rfl
      exact place_set snd sh.pl h3 (hs s1 h2)
  have brn : ∀ q ∈ B2, borneH x (setO rs i fr) (setP ps fp) (some zj.name) q = borneH x rs ps (some zj.name) q := fun q hq => by
    cases fr with
    | some b =>
      obtain ⟨h1, h2, h3⟩ := E1.fr b rfl
      subst h3
      exact aside_go wnd sh.rl hzi hri (fun e => ap1 _ h1 (by rw [e]; exact hq)) (fun e => ap1 _ h2 (by rw [e]; exact hq))
    | none =>
      cases fp with
      | none => rfl
      | some kv =>
        obtain ⟨o, s1, h1, _, h3, h4, h5, h6⟩ := wh kv.1 kv.2 rfl
        obtain ⟨sx, hsx, _⟩ := Option.map_eq_some_iff.mp (show (x.stones[kv.1]?).map Prod.fst = some s1 from by rw [← List.getElem?_map]; exact h3)
        exact aside_put hsx h1 h6 h4 h5 q
  have lg : ¬ layS = goS := by decide +kernel
  have ll : ¬ layS = liftS := by decide +kernel
  have lf : ¬ liftS = goS := by decide +kernel
  cases T2 with
  | wait =>
    unfold whyD
    rw [show deedB [Str.ofString "wait"] = true from by show decide (Str.ofString "wait" = Str.ofString "wait") = true; exact decide_eq_true rfl, if_pos rfl]
  | @go d hd =>
    have eo : openB (borneH x (setO rs i fr) (setP ps fp) (some zj.name)) d = openB (borneH x rs ps (some zj.name)) d := by
      unfold openB
      rw [Bool.eq_iff_iff, List.all_eq_true, List.all_eq_true]
      constructor
      · intro h r hr
        have := h r hr
        unfold metB at this ⊢
        rw [← brn r.room (List.mem_map.mpr ⟨r, hr, rfl⟩)]
        exact this
      · intro h r hr
        have := h r hr
        unfold metB at this ⊢
        rw [brn r.room (List.mem_map.mpr ⟨r, hr, rfl⟩)]
        exact this
    unfold whyD at hw ⊢
    by_cases hb : deedB [Str.ofString "go", d.name] = true
    · rw [if_pos hb] at hw ⊢
      have hw' : whyGo x (borneH x rs ps (some zj.name)) rj d.name = none := by simpa only [show (Str.ofString "go" : Str) = goS from rfl, if_true] using hw
      have : whyGo x (borneH x (setO rs i fr) (setP ps fp) (some zj.name)) rj d.name = none := by
        unfold whyGo at hw' ⊢
        rw [find_name dnd hd] at hw' ⊢
        simp only [] at hw' ⊢
        rw [eo]
        exact hw'
      simpa only [show (Str.ofString "go" : Str) = goS from rfl, if_true] using this
    · rw [if_neg hb] at hw
      cases hw
  | @lift s hs =>
    have ep := plc s fun s1 h1 e => ap2 s1 h1 (by rw [e]; exact List.mem_cons_self)
    unfold whyD at hw ⊢
    by_cases hb : deedB [Str.ofString "lift", s] = true
    · rw [if_pos hb] at hw ⊢
      have hw' : whyLift x ps zj rj s = none := by simpa only [show (Str.ofString "lift" : Str) = liftS from rfl, lf, if_false, if_true] using hw
      have : whyLift x (setP ps fp) zj rj s = none := by
        unfold whyLift at hw' ⊢
        rw [ep, cnt]
        exact hw'
      simpa only [show (Str.ofString "lift" : Str) = liftS from rfl, lf, if_false, if_true] using this
    · rw [if_neg hb] at hw
      cases hw
  | @lay s hs =>
    have ep := plc s fun s1 h1 e => ap2 s1 h1 (by rw [e]; exact List.mem_cons_self)
    unfold whyD at hw ⊢
    by_cases hb : deedB [Str.ofString "lay", s] = true
    · rw [if_pos hb] at hw ⊢
      have hw' : whyLay x ps zj s = none := by simpa only [show (Str.ofString "lay" : Str) = layS from rfl, lg, ll, if_false, if_true] using hw
      have : whyLay x (setP ps fp) zj s = none := by
        unfold whyLay at hw' ⊢
        rw [ep]
        exact hw'
      simpa only [show (Str.ofString "lay" : Str) = layS from rfl, lg, ll, if_false, if_true] using this
    · rw [if_neg hb] at hw
      cases hw
/-- either first -/
theorem turned_same {rs ps : List Str} {i j : Nat} {fr1 fr2 : Option Str} {fp1 fp2 : Option (Nat × Str)} (ij : i ≠ j) (hk : ∀ k v l u, fp1 = some (k, v) → fp2 = some (l, u) → k ≠ l) :
    setO (setO rs i fr1) j fr2 = setO (setO rs j fr2) i fr1 ∧ setP (setP ps fp1) fp2 = setP (setP ps fp2) fp1 := by
  constructor
  · cases fr1 <;> cases fr2 <;> first | rfl | exact List.set_comm _ _ ij
  · cases fp1 with
    | none => cases fp2 <;> rfl
    | some a => cases fp2 with
      | none => rfl
      | some b => exact List.set_comm _ _ (hk a.1 a.2 b.1 b.2 rfl rfl)
theorem lc_in {K : PySem.W.Frag} {σ : L2.St} {e : Nat} {H : Hp} {Q : VK} {l1 : Addr} {xs ys : List Str} {ti te : TE} (hti : ∀ Q' : VK, Q' (.ref l1) H → ti σ H Q')
    (hte : ∀ (nm : Str) (Z : Hp) (Q' : VK), Same H Z → (∀ (l : Addr) (Z' : Hp), Same Z Z' → Z' l = some (.lst (ys.map V.str)) → Q' (.ref l) Z') → te ((σ.set e none).set e (some (.str nm))) Z Q') (he : e < σ.length) (e1 : H l1 = some (.lst (xs.map V.str))) (h : xs.length ≤ 60)
    (q : ∀ D Z, Same H Z → H D = none → Z D = some (.lst ((xs.filter fun a => decide (a ∈ ys)).map V.str)) → Q (.ref D) Z) : tLc (iList K ti) (gName e) (tTest (tOp (rInT false K) (tVar e) te)) (tVar e) [e] σ H Q := by
  refine hti _ ⟨l1, rfl, ⟨_, .inl (.inl e1)⟩, fun D nD => ?_⟩
  refine lc_it (walk_list (a := l1) (xs := xs.map V.str)) (fun k Z => Same H Z ∧ Z D = some (.lst (((xs.take k).filter fun a => decide (a ∈ ys)).map V.str))) ⟨same_new nD, upd_same⟩ (fun k Z _ pv => .inl (.inl (pv.1 _ _ e1))) (fun k u Z Z' hk pv hy => ?_) (fun Z pv => ?_)
  · obtain ⟨sZ, z1⟩ := pv
    obtain ⟨rfl, hv⟩ := hy
    rw [List.getElem?_map] at hv
    obtain ⟨nm, hn, rfl⟩ := Option.map_eq_some_iff.mp hv
    have g1 : ((wipe σ [e]).set e (some (V.str nm)))[e]? = some (some (V.str nm)) := by
      show ((σ.set e none).set e (some (V.str nm)))[e]? = _
      rw [List.getElem?_set_self (by rw [List.length_set]; exact he)]
    refine ⟨?_, .str nm, g1, ?_⟩
    · show ((σ.set e none).set e (some (V.str nm))).set e none = σ.set e none
      rw [List.set_set, List.set_set]
    refine hte nm _ _ sZ fun l Z2 s2 el => ⟨l, ys, _, rfl, .inl (.inl (.inl el)), .str nm, _, rfl, ?_⟩
    have z1' := s2 _ _ z1
    rw [any_memO]
    have hl : ((xs.take k).filter fun a => decide (a ∈ ys)).length ≤ 60 := Nat.le_trans (List.length_filter_le _ _) (by rw [List.length_take]; omega)
    have off : (xs.take (k + 1)).filter (fun a => decide (a ∈ ys)) = (xs.take k).filter (fun a => decide (a ∈ ys)) ++ if nm ∈ ys then [nm] else [] := by
      rw [take_snoc hn, List.filter_append]
      congr 1
      by_cases hin : nm ∈ ys <;> simp [hin]
    rw [off, List.map_append]
    by_cases hin : nm ∈ ys
    · rw [if_pos hin, decide_eq_true hin]
      exact iteT ⟨.str nm, g1, _, z1', by rw [List.length_map, sizeLine_eq]; omega, same_mut (sZ.trans s2) nD, upd_same⟩
    · rw [if_neg hin, List.map_nil, List.append_nil, decide_eq_false hin]
      exact iteF ⟨sZ.trans s2, z1'⟩
  · obtain ⟨sZ, z1⟩ := pv
    rw [List.length_map, List.take_length] at z1
    exact q D Z sZ nD z1
theorem turn_mod {t f n : Nat} (hf : f < n) : ((t + (((f : Int) - (t : Int)) % (n : Int)).toNat) % n : Nat) = f := by
  have hn : (0 : Int) < n := by omega
  have h0 := Int.emod_nonneg ((f : Int) - t) (show (n : Int) ≠ 0 by omega)
  have e : ((t + (((f : Int) - (t : Int)) % (n : Int)).toNat : Nat) : Int) % (n : Int) = (f : Int) := by
    rw [Int.natCast_add, Int.toNat_of_nonneg h0, Int.add_emod, Int.emod_emod_of_dvd _ (Int.dvd_refl _), ← Int.add_emod]
    rw [show (t : Int) + ((f : Int) - t) = f from by omega]
    exact Int.emod_eq_of_lt (by omega) (by omega)
  rw [← Int.natCast_emod] at e
  exact Int.ofNat.inj e
end Wd

set_option Elab.async false
set_option linter.all false
set_option maxRecDepth 100000
set_option maxHeartbeats 4000000
/-! Ways put together; a deed undone, as data. -/
namespace Wd
open PySem PySem.Spec PyProof.Rows L2
def getD (ds : List (List Str)) : Nat → List Str := fun i => ds[i]?.getD []
theorem getD_at {ds : List (List Str)} {i : Nat} {d : List Str} (h : ds[i]? = some d) : getD ds i = d := by
  unfold getD
  rw [h]
  rfl
theorem getD_app {ds es : List (List Str)} {i : Nat} (h : i < ds.length) : getD (ds ++ es) i = getD ds i := by
  unfold getD
  rw [List.getElem?_append_left h]
theorem getD_app2 {ds es : List (List Str)} {i : Nat} : getD (ds ++ es) (ds.length + i) = getD es i := by
  unfold getD
  rw [List.getElem?_append_right (by omega), Nat.add_sub_cancel_left]
/-- one way behind another -/
theorem run_app {x : HallH} {ds es : List (List Str)} {S U : Nat → Std} (h1 : RunD x (getD ds) S ds.length) (h2 : RunD x (getD es) U es.length) (e : U 0 = S ds.length) : ∃ R : Nat → Std, (∀ i, i ≤ ds.length → R i = S i) ∧ (∀ i, R (ds.length + i) = U i) ∧ RunD x (getD (ds ++ es)) R (ds.length + es.length) := by
  have r1 : ∀ i, i ≤ ds.length → (if i ≤ ds.length then S i else U (i - ds.length)) = S i := fun i hi => if_pos hi
  have r2 : ∀ i, (if ds.length + i ≤ ds.length then S (ds.length + i) else U (ds.length + i - ds.length)) = U i := fun i => by
    by_cases c : i = 0
    · subst c
      rw [if_pos (by omega), Nat.add_zero, e]
    · rw [if_neg (by omega), Nat.add_sub_cancel_left]
  refine ⟨fun i => if i ≤ ds.length then S i else U (i - ds.length), r1, r2, fun i hi => ?_⟩
  by_cases c : i < ds.length
  · dsimp only
    rw [getD_app c, r1 i (by omega), r1 (i + 1) (by omega)]
    exact h1 i c
  · obtain ⟨j, rfl⟩ : ∃ j, i = ds.length + j := ⟨i - ds.length, by omega⟩
    dsimp only
    rw [getD_app2, r2 j, Nat.add_assoc, r2 (j + 1)]
    exact h2 j (by omega)
theorem run_snoc {x : HallH} {ds : List (List Str)} {S : Nat → Std} {d : List Str} {b : Std} (h1 : RunD x (getD ds) S ds.length) (o : OneD x d (S ds.length) b) : ∃ R : Nat → Std, (∀ i, i ≤ ds.length → R i = S i) ∧ R (ds.length + 1) = b ∧ RunD x (getD (ds ++ [d])) R (ds.length + 1) := by
  obtain ⟨R, g1, g2, g3⟩ := run_app (es := [d]) (U := fun i => if i = 0 then S ds.length else b) h1 (fun i hi => by
    have : i = 0 := by
      have : i < 1 := hi
      omega
    subst this
    exact o) rfl
  exact ⟨R, g1, g2 1, g3⟩
theorem why_deedB {x : HallH} {rs ps d : List Str} {z : WalkH} {r : Str} (h : whyD x rs ps z r d = none) : deedB d = true := by
  unfold whyD at h
  by_cases c : deedB d = true
  · exact c
  · rw [if_neg c] at h
    cases h
theorem run_good {x : HallH} {ds : List (List Str)} {S : Nat → Std} (h : RunD x (getD ds) S ds.length) : ∀ d ∈ ds, deedB d = true := fun d hd => by
  obtain ⟨i, hi⟩ := List.mem_iff_getElem?.mp hd
  have hl := (List.getElem?_eq_some_iff.mp hi).1
  obtain ⟨z, r, _, _, hw, _⟩ := h i hl
  rw [getD_at hi] at hw
  exact why_deedB hw
def waitD : List Str := [Str.ofString "wait"]
/-- a goer's own steps change nothing of what it is weighed against -/
theorem aside_own {x : HallH} {rs ps : List Str} {t : Nat} {z : WalkH} {r b q : Str} (wnd : (x.walkers.map WalkH.name).Nodup) (l : rs.length = x.walkers.length) (h : x.walkers[t]? = some z) (hr : rs[t]? = some r) : borneH x (rs.set t b) ps (some z.name) q = borneH x rs ps (some z.name) q := by
  rw [borne_aside, borne_aside, zip_set_sum _ b h hr]
  have e1 : ∀ c : Str, (if z.name ≠ z.name ∧ c = q then z.heft else 0) = 0 := fun c => if_neg (fun k => k.1 rfl)
  show _ - (if z.name ≠ z.name ∧ r = q then z.heft else 0) + (if z.name ≠ z.name ∧ b = q then z.heft else 0) + _ = _
  rw [e1, e1]
  have e3 : ((x.stones.zip ps).map fun y => if y.2 ≠ z.name ∧ whereH x (rs.set t b) y.2 = q then y.1.2 else 0) = ((x.stones.zip ps).map fun y => if y.2 ≠ z.name ∧ whereH x rs y.2 = q then y.1.2 else 0) := by
    refine List.map_congr_left fun y _ => ?_
    rw [where_set wnd l h]
    by_cases c : y.2 = z.name
    · rw [if_neg (fun k => k.1 c), if_neg (fun k => k.1 c)]
    · rw [if_neg c]
  rw [e3]
  omega
theorem one_wait {x : HallH} {a : Std} (sh : a.ok x) : OneD x waitD a ⟨(a.t + 1) % x.walkers.length, a.rs, a.ps⟩ := by
  obtain ⟨z, r, hz, hr⟩ := std_at sh
  refine ⟨z, r, hz, hr, ?_, .wait, rfl⟩
  unfold whyD
  rw [if_pos (by decide +kernel)]
  rfl
/-- waits until it is another's turn -/
theorem run_waits {sr sd ss sw : Nat} {x : HallH} (ok : HallOk sr sd ss sw x) : ∀ (n : Nat) (a : Std), a.ok x → ∃ S : Nat → Std, S 0 = a ∧ RunD x (getD (List.replicate n waitD)) S n ∧ (S n).rs = a.rs ∧ (S n).ps = a.ps ∧ (S n).t = (a.t + n) % x.walkers.length
  | 0, a, sh => ⟨fun _ => a, rfl, fun i hi => absurd hi (Nat.not_lt_zero _), rfl, rfl, by
      show a.t = (a.t + 0) % _
      rw [Nat.add_zero, Nat.mod_eq_of_lt sh.t]⟩
  | n + 1, a, sh => by
    obtain ⟨S, h0, h1, h2, h3, h4⟩ := run_waits ok n a sh
    have hl : (List.replicate n waitD).length = n := List.length_replicate
    have s0 : (S 0).ok x := by rw [h0]; exact sh
    have on := one_wait (h1.ok ok s0 n (Nat.le_refl _))
    obtain ⟨R, g1, g2, g3⟩ := run_snoc (ds := List.replicate n waitD) (S := S) (by rw [hl]; exact h1) (by rw [hl]; exact on)
    rw [hl] at g2 g3
    refine ⟨R, by rw [g1 0 (Nat.zero_le _), h0], by rw [List.replicate_succ']; exact g3, by rw [g2]; exact h2, by rw [g2]; exact h3, ?_⟩
    rw [g2]
    show ((S n).t + 1) % _ = _
    rw [h4, Nat.mod_add_mod]
    rfl
def undoW (w : Str) : Str := if w = goS then goS else if w = liftS then layS else liftS
def undoD : List Str → List Str
  | [w, n] => [undoW w, n]
  | d => d
def LoneD (x : HallH) : List Str → Prop
  | [w, n] => w = goS ∧ ∃ d ∈ x.doors, d.name = n ∧ d.way = "on"
  | _ => False
theorem set_back {α : Type} : ∀ {l : List α} {i : Nat} {v w : α}, l[i]? = some v → (l.set i w).set i v = l
  | a :: l, 0, v, w, h => by cases h; rfl
  | a :: l, i + 1, v, w, h => by
    show a :: ((l.set i w).set i v) = a :: l
    rw [set_back (by simpa using h)]
theorem count_moved : ∀ {l : List Str} {i : Nat} {n r : Str}, l[i]? = some n → r ≠ n → (l.set i r).count n + 1 = l.count n
  | a :: l, 0, n, r, h, hr => by
    cases h
    show (r :: l).count a + 1 = (a :: l).count a
    rw [List.count_cons_self, List.count_cons_of_ne hr]
  | a :: l, i + 1, n, r, h, hr => by
    have ih := count_moved (l := l) (i := i) (by simpa using h) hr
    show (a :: l.set i r).count n + 1 = (a :: l).count n
    by_cases e : a = n
    · subst e
      rw [List.count_cons_self, List.count_cons_self]
      omega
    · rw [List.count_cons_of_ne e, List.count_cons_of_ne e]
      exact ih
theorem undo_one {sr sd ss sw : Nat} {x : HallH} (ok : HallOk sr sd ss sw x) {a b c : Std} (sh : a.ok x) {d : List Str} (h : OneD x d a b) (hd : d ≠ waitD) (lone : ¬ LoneD x d) (ct : c.t = a.t) (cr : c.rs = b.rs) (cp : c.ps = b.ps) : ∃ e, OneD x (undoD d) c e ∧ e.rs = a.rs ∧ e.ps = a.ps := by
  obtain ⟨t, rs, ps⟩ := a
  obtain ⟨bt, brs, bps⟩ := b
  obtain ⟨ct', crs, cps⟩ := c
  obtain ⟨z, r, hz, hr, hw, st, ht⟩ := h
  dsimp only at ct cr cp hz hr hw st ht
  subst ct cr cp
  have sh : StandH x ct' rs ps := sh
  have nd := ok.n1
  have rin := sh.rin r (List.mem_of_getElem? hr)
  have na := names_apart ok.n1 rin
  have zin : z.name ∈ x.walkers.map WalkH.name := List.mem_map.mpr ⟨z, List.mem_of_getElem? hz, rfl⟩
  have rz : r ≠ z.name := fun e => na (e ▸ zin)
  unfold HallH.names at nd
  have wnd : (x.walkers.map WalkH.name).Nodup := (List.nodup_append.mp (List.nodup_append.mp nd).2.1).1
  have snd : (x.stones.map Prod.fst).Nodup := (List.nodup_append.mp (List.nodup_append.mp (List.nodup_append.mp nd).2.1).2.1).1
  have dnd : (x.doors.map DoorH.name).Nodup := (List.nodup_append.mp (List.nodup_append.mp (List.nodup_append.mp nd).2.1).2.1).2.1
  have hb0 := why_deedB hw
  have lg : ¬ layS = goS := by decide +kernel
  have ll : ¬ layS = liftS := by decide +kernel
  have lf : ¬ liftS = goS := by decide +kernel
  have pat : ∀ {j : Nat} {s q : Str} {qs : List Str}, (x.stones.map Prod.fst)[j]? = some s → qs[j]? = some q → placeOf x qs s = some q := fun h1 h2 => place_at snd h1 h2
  have nameOf : ∀ {w n : Str}, deedB [w, n] = true → ∀ {u : Str}, u ∈ [goS, liftS, layS] → deedB [u, n] = true := fun {w n} h u hu => by
    have h2 := (Bool.and_eq_true_iff.mp h).2
    refine Bool.and_eq_true_iff.mpr ⟨List.any_eq_true.mpr ⟨u, hu, decide_eq_true rfl⟩, h2⟩
  cases st with
  | wait => exact absurd rfl hd
  | @go dd r' b' hdd hr' hb' =>
    have er : r' = r := by rw [hr] at hr'; exact (Option.some.inj hr').symm
    subst er
    have dok := ok.d4 dd hdd
    have both : dd.way = "both" := by
      rcases dok.way with h | h
      · exact h.1
      · exact absurd ⟨rfl, dd, hdd, rfl, h⟩ lone
    have far2 : farH dd b' = some r' := by
      unfold farH at hb' ⊢
      by_cases c1 : r' = dd.one
      · rw [if_pos c1] at hb'
        cases hb'
        rw [if_neg (fun e => dok.apart e.symm), if_pos ⟨rfl, both⟩, c1]
      · rw [if_neg c1] at hb'
        split at hb'
        · rename_i c2
          cases hb'
          rw [if_pos rfl, c2.1]
        · cases hb'
    have fn := find_name dnd hdd
    have hw2 : whyGo x (borneH x rs ps (some z.name)) r' dd.name = none := by
      unfold whyD at hw
      rw [if_pos hb0] at hw
      exact (if_pos rfl).symm.trans hw
    have op : openB (borneH x rs ps (some z.name)) dd = true := by
      unfold whyGo at hw2
      rw [fn] at hw2
      simp only [] at hw2
      split at hw2
      · cases hw2
      · split at hw2
        · assumption
        · cases hw2
    have ge : borneH x (rs.set ct' b') ps (some z.name) = borneH x rs ps (some z.name) := funext fun q => aside_own wnd sh.rl hz hr
    have hl : ct' < rs.length := (List.getElem?_eq_some_iff.mp hr).1
    have hr2 : (rs.set ct' b')[ct']? = some b' := by rw [List.getElem?_set_self hl]
    refine ⟨⟨(ct' + 1) % x.walkers.length, rs, ps⟩, ⟨z, b', hz, hr2, ?_, ?_, rfl⟩, rfl, rfl⟩
    · show whyD x (rs.set ct' b') ps z b' [undoW goS, dd.name] = none
      rw [show undoW goS = goS from if_pos rfl]
      unfold whyD
      rw [if_pos (show deedB [goS, dd.name] = true from hb0)]
      show (if goS = goS then _ else _) = none
      rw [if_pos rfl, ge]
      unfold whyGo
      rw [fn]
      simp only [far2, op]
      rfl
    · have st2 := StepH.go (x := x) (t := ct') (rs := rs.set ct' b') (ps := ps) hdd hr2 far2
      rw [set_back hr] at st2
      show StepH x ct' (rs.set ct' b') ps [undoW goS, dd.name] rs ps
      rw [show undoW goS = goS from if_pos rfl]
      exact st2
  | @lift j s z' hs hz' =>
    have ez : z' = z := by rw [hz] at hz'; exact (Option.some.inj hz').symm
    subst ez
    have hj : j < ps.length := by
      have := (List.getElem?_eq_some_iff.mp hs).1
      rw [List.length_map] at this
      rw [sh.pl]
      exact this
    obtain ⟨q, hq⟩ : ∃ q, ps[j]? = some q := ⟨_, List.getElem?_eq_getElem hj⟩
    have hw2 : whyLift x ps z' r s = none := by
      unfold whyD at hw
      rw [if_pos hb0] at hw
      have e1 : (if liftS = goS then whyGo x (borneH x rs ps (some z'.name)) r s else if liftS = liftS then whyLift x ps z' r s else whyLay x ps z' s) = none := hw
      rw [if_neg lf, if_pos rfl] at e1
      exact e1
    have eq : q = r := by
      unfold whyLift at hw2
      rw [pat hs hq] at hw2
      simp only [] at hw2
      split at hw2
      · cases hw2
      · rename_i h; exact Decidable.not_not.mp h
    subst eq
    have hq2 : (ps.set j z'.name)[j]? = some z'.name := by rw [List.getElem?_set_self hj]
    refine ⟨⟨(ct' + 1) % x.walkers.length, rs, ps⟩, ⟨z', q, hz, hr, ?_, ?_, rfl⟩, rfl, rfl⟩
    · show whyD x rs (ps.set j z'.name) z' q [undoW liftS, s] = none
      rw [show undoW liftS = layS from by unfold undoW; rw [if_neg lf, if_pos rfl]]
      unfold whyD
      rw [if_pos (nameOf hb0 (by simp))]
      show (if layS = goS then _ else if layS = liftS then _ else whyLay x (ps.set j z'.name) z' s) = none
      rw [if_neg lg, if_neg ll]
      unfold whyLay
      rw [pat hs hq2]
      simp
    · have st2 := StepH.lay (x := x) (t := ct') (rs := rs) (ps := ps.set j z'.name) hs hr
      rw [set_back hq] at st2
      show StepH x ct' rs (ps.set j z'.name) [undoW liftS, s] rs ps
      rw [show undoW liftS = layS from by unfold undoW; rw [if_neg lf, if_pos rfl]]
      exact st2
  | @lay j s r' hs hr' =>
    have er : r' = r := by rw [hr] at hr'; exact (Option.some.inj hr').symm
    subst er
    have hj : j < ps.length := by
      have := (List.getElem?_eq_some_iff.mp hs).1
      rw [List.length_map] at this
      rw [sh.pl]
      exact this
    obtain ⟨q, hq⟩ : ∃ q, ps[j]? = some q := ⟨_, List.getElem?_eq_getElem hj⟩
    have hw2 : whyLay x ps z s = none := by
      unfold whyD at hw
      rw [if_pos hb0] at hw
      have e1 : (if layS = goS then whyGo x (borneH x rs ps (some z.name)) r' s else if layS = liftS then whyLift x ps z r' s else whyLay x ps z s) = none := hw
      rw [if_neg lg, if_neg ll] at e1
      exact e1
    have eq : q = z.name := by
      unfold whyLay at hw2
      rw [pat hs hq] at hw2
      simp only [] at hw2
      split at hw2
      · cases hw2
      · rename_i h; exact Decidable.not_not.mp h
    subst eq
    have hq2 : (ps.set j r')[j]? = some r' := by rw [List.getElem?_set_self hj]
    have cm := count_moved hq rz
    have cn := sh.cnt z (List.mem_of_getElem? hz)
    refine ⟨⟨(ct' + 1) % x.walkers.length, rs, ps⟩, ⟨z, r', hz, hr, ?_, ?_, rfl⟩, rfl, rfl⟩
    · show whyD x rs (ps.set j r') z r' [undoW layS, s] = none
      rw [show undoW layS = liftS from by unfold undoW; rw [if_neg lg, if_neg ll]]
      unfold whyD
      rw [if_pos (nameOf hb0 (by simp))]
      show (if liftS = goS then _ else if liftS = liftS then whyLift x (ps.set j r') z r' s else _) = none
      rw [if_neg lf, if_pos rfl]
      unfold whyLift
      rw [pat hs hq2]
      simp only [ne_eq, not_true_eq_false, if_false]
      rw [if_neg (by omega)]
    · have st2 := StepH.lift (x := x) (t := ct') (rs := rs) (ps := ps.set j r') hs hz
      rw [set_back hq] at st2
      show StepH x ct' rs (ps.set j r') [undoW layS, s] rs ps
      rw [show undoW layS = liftS from by unfold undoW; rw [if_neg lg, if_neg ll]]
      exact st2
/-- one more deed undone: waits until it is its doer's turn, then what undoes it -/
theorem undo_step {sr sd ss sw : Nat} {x : HallH} (ok : HallOk sr sd ss sw x) {bd : List (List Str)} {R : Nat → Std} (rd : RunD x (getD bd) R bd.length) (s0 : (R 0).ok x) {a b : Std} (sh : a.ok x) {d : List Str} (h : OneD x d a b) (hd : d ≠ waitD) (lone : ¬ LoneD x d) (er : (R bd.length).rs = b.rs) (ep : (R bd.length).ps = b.ps) {w : Nat} (hw : ((R bd.length).t + w) % x.walkers.length = a.t) :
    ∃ R' : Nat → Std, RunD x (getD (bd ++ List.replicate w waitD ++ [undoD d])) R' (bd.length + w + 1) ∧ R' 0 = R 0 ∧ (R' (bd.length + w + 1)).rs = a.rs ∧ (R' (bd.length + w + 1)).ps = a.ps ∧ (R' (bd.length + w + 1)).t = (a.t + 1) % x.walkers.length := by
  obtain ⟨U, u0, u1, u2, u3, u4⟩ := run_waits ok w (R bd.length) (rd.ok ok s0 _ (Nat.le_refl _))
  have hl : (List.replicate w waitD).length = w := List.length_replicate
  obtain ⟨V, v1, v2, v3⟩ := run_app (es := List.replicate w waitD) (U := U) rd (by rw [hl]; exact u1) u0
  rw [hl] at v3
  have lb : (bd ++ List.replicate w waitD).length = bd.length + w := by rw [List.length_append, hl]
  have ve : V (bd.length + w) = U w := v2 w
  obtain ⟨e, o, e1, e2⟩ := undo_one ok sh h hd lone (c := V (bd.length + w)) (by rw [ve, u4, hw]) (by rw [ve, u2, er]) (by rw [ve, u3, ep])
  obtain ⟨W, w1, w2, w3⟩ := run_snoc (ds := bd ++ List.replicate w waitD) (S := V) (by rw [lb]; exact v3) (by rw [lb]; exact o)
  rw [lb] at w2 w3
  refine ⟨W, w3, by rw [w1 0 (Nat.zero_le _), v1 0 (Nat.zero_le _)], by rw [w2]; exact e1, by rw [w2]; exact e2, ?_⟩
  obtain ⟨z, r, _, _, _, _, ht⟩ := o
  rw [w2, ht, ve, u4, hw]
theorem deed_cases {d : List Str} (h : deedB d = true) : d = waitD ∨ ∃ w n, d = [w, n] ∧ w ∈ [goS, liftS, layS] := by
  match d, h with
  | [w], h => exact .inl (by rw [of_decide_eq_true (show decide (w = Str.ofString "wait") = true from h)]; rfl)
  | [w, n], h =>
    have h1 := (Bool.and_eq_true_iff.mp (show ([goS, liftS, layS].any (fun y => decide (y = w)) && decide (NameOk n)) = true from h)).1
    obtain ⟨u, hu1, hu2⟩ := List.any_eq_true.mp h1
    have e : u = w := of_decide_eq_true hu2
    subst e
    exact .inr ⟨u, n, rfl, hu1⟩
theorem go_door {x : HallH} {rs ps : List Str} {z : WalkH} {r n : Str} (hw : whyD x rs ps z r [goS, n] = none) : ∃ dd ∈ x.doors, dd.name = n := by
  have hb := why_deedB hw
  unfold whyD at hw
  rw [if_pos hb] at hw
  have hw2 : whyGo x (borneH x rs ps (some z.name)) r n = none := (if_pos rfl).symm.trans hw
  unfold whyGo at hw2
  cases hf : x.doors.find? (fun d => decide (d.name = n)) with
  | none => rw [hf] at hw2; cases hw2
  | some dd =>
    have := List.find?_some hf
    exact ⟨dd, List.mem_of_find?_eq_some hf, of_decide_eq_true this⟩
theorem lone_iff {x : HallH} {dd : DoorH} (nd : (x.doors.map DoorH.name).Nodup) (h : dd ∈ x.doors) : LoneD x [goS, dd.name] ↔ dd.way = "on" := by
  constructor
  · rintro ⟨_, d, hd, en, hw⟩
    have e1 := find_name nd h
    have e2 := find_name nd hd
    rw [en] at e2
    rw [e1] at e2
    cases e2
    exact hw
  · exact fun e => ⟨rfl, dd, h, rfl, e⟩
theorem lone_wait {x : HallH} : ¬ LoneD x waitD := fun h => h
theorem lone_go {x : HallH} {w n : Str} (h : w ≠ goS) : ¬ LoneD x [w, n] := fun l => h l.1
end Wd

set_option Elab.async false
set_option linter.all false
set_option maxRecDepth 100000
set_option maxHeartbeats 4000000
/-! Other names: a dict from names to names, and what becomes of rows of words, names and numbers. -/
namespace Wd
open PySem PySem.Spec PyProof.Rows L2
def keyP : Key → PyData
  | .inl i => .int i
  | .inr s => .str s
def becKey (kvs : List (Key × V)) (k : Key) : Key := match valV kvs k with
  | some (.str t) => .inr t
  | _ => k
structure NmD (kvs : List (Key × V)) : Prop where
  vals : ∀ p ∈ kvs, ∃ s t, p = (.inr s, .str t) ∧ NameOk t
  nodup : (kvs.map (·.1)).Nodup
  len : kvs.length ≤ 18
theorem valV_in {k : Key} {v : V} : ∀ {kvs : List (Key × V)}, valV kvs k = some v → (k, v) ∈ kvs
  | [], h => by cases h
  | p :: r, h => by
    by_cases c : p.1 = k
    · rw [valV_pos c] at h
      cases h
      rw [← c]
      exact List.mem_cons_self
    · rw [valV_neg c] at h
      exact List.mem_cons_of_mem _ (valV_in h)
theorem bec_val {kvs : List (Key × V)} (h : NmD kvs) (k : Key) : (valV kvs k).getD (kV k) = kV (becKey kvs k) := by
  unfold becKey
  cases e : valV kvs k with
  | none => rfl
  | some v =>
    obtain ⟨s, t, e2, _⟩ := h.vals _ (valV_in e)
    have : v = .str t := congrArg Prod.snd e2
    subst this
    rfl
theorem bec_ok {kvs : List (Key × V)} (h : NmD kvs) {k : Key} (hk : ∀ s, k = .inr s → NameOk s) : ∀ s, becKey kvs k = .inr s → NameOk s := fun s hs => by
  unfold becKey at hs
  cases e : valV kvs k with
  | none =>
    rw [e] at hs
    exact hk s hs
  | some v =>
    obtain ⟨q, t, e2, ht⟩ := h.vals _ (valV_in e)
    have : v = .str t := congrArg Prod.snd e2
    subst this
    rw [e] at hs
    cases hs
    exact ht
/-- a row by other names: its word stays -/
def turnR (kvs : List (Key × V)) : List Key → List Key
  | [] => []
  | w :: r => w :: r.map (becKey kvs)
inductive RowAll (K : PySem.W.Frag) (H : Hp) : List V → List (List Key) → Prop
  | nil : RowAll K H [] []
  | cons {a : Addr} {d : List Key} {vs : List V} {ds : List (List Key)} (e : SqT K H a (d.map kV)) (q : RowAll K H vs ds) : RowAll K H (.ref a :: vs) (d :: ds)
section
variable {K : PySem.W.Frag} {H H' : Hp}
theorem RowAll.move (t : ∀ a xs, SqT K H a xs → SqT K H' a xs) : ∀ {vs : List V} {ds : List (List Key)}, RowAll K H vs ds → RowAll K H' vs ds
  | _, _, .nil => .nil
  | _, _, .cons e q => .cons (t _ _ e) (q.move t)
theorem RowAll.same (s : Same H H') {vs : List V} {ds : List (List Key)} (h : RowAll K H vs ds) : RowAll K H' vs ds := h.move fun _ _ z => same_sqT s z
theorem RowAll.append : ∀ {vs ws : List V} {ds es : List (List Key)}, RowAll K H vs ds → RowAll K H ws es → RowAll K H (vs ++ ws) (ds ++ es)
  | _, _, _, _, .nil, r => r
  | _, _, _, _, .cons e q, r => .cons e (q.append r)
theorem RowAll.length : ∀ {vs : List V} {ds : List (List Key)}, RowAll K H vs ds → vs.length = ds.length
  | _, _, .nil => rfl
  | _, _, .cons _ q => by rw [List.length_cons, List.length_cons, q.length]
theorem RowAll.at : ∀ {vs : List V} {ds : List (List Key)} {i : Nat} {v : V}, RowAll K H vs ds → vs[i]? = some v → ∃ a d, v = .ref a ∧ ds[i]? = some d ∧ SqT K H a (d.map kV)
  | _, _, 0, _, .cons (a := a) (d := d) e q, m => by cases m; exact ⟨a, d, rfl, rfl, e⟩
  | _, _, i + 1, _, .cons e q, m => by
    obtain ⟨a, d, h1, h2, h3⟩ := q.at (i := i) (by simpa using m)
    exact ⟨a, d, h1, by simpa using h2, h3⟩
theorem keys_dq : ∀ d : List Key, DqAll anyA K H (d.map kV) (d.map keyP)
  | [] => .nil
  | .inl i :: d => .cons (.int i) (keys_dq d)
  | .inr s :: d => .cons (.str s) (keys_dq d)
theorem RowAll.dq : ∀ {ws : List V} {ds : List (List Key)}, RowAll K H ws ds → DqAll anyA K H ws (ds.map fun d => .tuple (d.map keyP))
  | _, _, .nil => .nil
  | _, _, .cons e q => .cons (.tup trivial e (keys_dq _)) q.dq
theorem row_of_tup : ∀ {ws : List V} {ds : List (List Str)}, TupAll K H ws ds → RowAll K H ws (ds.map fun d => d.map Sum.inr)
  | _, _, .nil => .nil
  | _, _, .cons (d := d) e q => .cons (by rw [List.map_map]; exact e) (row_of_tup q)
end
def rowsD (ds : List (List Key)) : PyData := .tuple (ds.map fun d => .tuple (d.map keyP))
theorem keys_lay : ∀ {d : List Key}, (∀ s, Sum.inr s ∈ d → PyData.strOk s = true) → PyData.canLayAll0 (d.map keyP) = true ∧ PyData.depthAll (d.map keyP) = 0 ∧ PyData.hasDictAll (d.map keyP) = false
  | [], _ => ⟨rfl, rfl, rfl⟩
  | k :: d, h => by
    obtain ⟨a, b, c⟩ := keys_lay (d := d) fun s m => h s (List.mem_cons_of_mem _ m)
    rw [List.map_cons]
    cases k with
    | inl i => exact ⟨by rw [PyData.canLayAll0, a]; rfl, by rw [PyData.depthAll, b]; rfl, by rw [PyData.hasDictAll, c]; rfl⟩
    | inr s =>
      have := h s List.mem_cons_self
      exact ⟨by rw [PyData.canLayAll0, a, show (keyP (.inr s)).canLay0 = PyData.strOk s from by rw [keyP, PyData.canLay0], this]; rfl, by rw [PyData.depthAll, b]; rfl, by rw [PyData.hasDictAll, c]; rfl⟩
theorem rows_lay : ∀ {ds : List (List Key)}, (∀ d ∈ ds, ∀ s, Sum.inr s ∈ d → PyData.strOk s = true) → PyData.canLayAll0 (ds.map fun d => .tuple (d.map keyP)) = true ∧ PyData.depthAll (ds.map fun d => PyData.tuple (d.map keyP)) ≤ 1 ∧ PyData.hasDictAll (ds.map fun d => PyData.tuple (d.map keyP)) = false
  | [], _ => ⟨rfl, by simp [PyData.depthAll], rfl⟩
  | d :: ds, h => by
    obtain ⟨a, b, c⟩ := rows_lay (ds := ds) fun e m => h e (List.mem_cons_of_mem _ m)
    obtain ⟨a1, b1, c1⟩ := keys_lay (h d List.mem_cons_self)
    rw [List.map_cons]
    refine ⟨by rw [PyData.canLayAll0, a, PyData.canLay0, a1]; rfl, ?_, by rw [PyData.hasDictAll, c, PyData.hasDict, c1]; rfl⟩
    rw [PyData.depthAll, PyData.depth, b1]
    omega
theorem rowsD_shaped {ds : List (List Key)} (h : ∀ d ∈ ds, ∀ s, Sum.inr s ∈ d → PyData.strOk s = true) : SeqAt.shaped (rowsD ds) = true ∧ (rowsD ds).hasDict = false := by
  obtain ⟨a, b, c⟩ := rows_lay h
  refine ⟨?_, by unfold rowsD; rw [PyData.hasDict]; exact c⟩
  show (PyData.canLay0 _ && decide _) = true
  unfold rowsD
  rw [Bool.and_eq_true]
  exact ⟨by simp only [PyData.canLay0]; exact a, decide_eq_true (by simp only [PyData.depth]; omega)⟩
theorem turn_ok {kvs : List (Key × V)} (h : NmD kvs) {d : List Key} (hd : ∀ s, Sum.inr s ∈ d → NameOk s) : ∀ s, Sum.inr s ∈ turnR kvs d → NameOk s := fun s hs => by
  cases d with
  | nil => cases hs
  | cons w r =>
    rcases List.mem_cons.mp hs with e | hs
    · exact hd s (by rw [e]; exact List.mem_cons_self)
    · obtain ⟨k, hk, e⟩ := List.mem_map.mp hs
      exact bec_ok h (fun q hq => hd q (by rw [← hq]; exact List.mem_cons_of_mem _ hk)) s e
theorem turn_len {kvs : List (Key × V)} {d : List Key} : (turnR kvs d).length = d.length := by
  cases d with
  | nil => rfl
  | cons w r => simp [turnR]
theorem Itz.pi {X : Cx} {K : PySem.W.Frag} {e e2 : Expr} {ta : TA} {p pos tpos : Pos} {elts : List Expr} {kk : Nat} (hg : Gl X "zip") (hm : X.mg "zip" = none) (ha : PA X [e, e2] ta) (hK : X.K = K := by rfl)
    (hs : starEach [e, e2] X.env = (false, eval e X.env) :: starEach [e2] X.env := by rfl) (hpl : (backTo pos (starEach [e2] X.env)).any (·.1) = false := by rfl) :
    PI X (.Tuple elts kk tpos) (.Call (.Name "zip" p) [e, e2] [] pos) (RZ.iZipA K ta) := by
  subst hK
  exact RZ.pi_zipA hg hm ha hs hpl
/-- unlike names, and what they become -/
theorem nmd_zip {ks xs : List Str} (nk : ks.Nodup) (ok : ∀ x ∈ xs, NameOk x) (l : ks.length ≤ 18) : mergeK [] ((ks.map (Sum.inr : Str → Key)).zip (xs.map V.str)) = (ks.map (Sum.inr : Str → Key)).zip (xs.map V.str) ∧ NmD ((ks.map (Sum.inr : Str → Key)).zip (xs.map V.str)) := by
  have sub : ∀ {as : List Key} {bs : List V}, ((as.zip bs).map (·.1)).Sublist as := fun {as bs} => by
    induction as generalizing bs with
    | nil => exact List.Sublist.refl _
    | cons a as ih =>
      cases bs with
      | nil => exact List.nil_sublist _
      | cons b bs => exact List.Sublist.cons_cons a ih
  have nd : (ks.map (Sum.inr : Str → Key)).Nodup := List.Pairwise.map _ (fun a b h e => h (by injection e)) nk
  have nd2 := (sub (as := ks.map (Sum.inr : Str → Key)) (bs := xs.map V.str)).nodup nd
  refine ⟨mergeK_new (acc := []) nd2, fun p hp => ?_, nd2, ?_⟩
  · obtain ⟨a, b⟩ := p
    have h1 := (List.of_mem_zip hp).1
    have h2 := (List.of_mem_zip hp).2
    obtain ⟨s, _, rfl⟩ := List.mem_map.mp h1
    obtain ⟨t, ht, rfl⟩ := List.mem_map.mp h2
    exact ⟨s, t, rfl, ok t ht⟩
  · rw [List.length_zip, List.length_map]
    omega
def unS : V → Str
  | .str s => s
  | _ => Str.empty
theorem perm_back {α : Type} {f : α → V} {g : V → α} (fg : ∀ x, g (f x) = x) {zs : List V} {xs : List α} (h : zs.Perm (xs.map f)) : ∃ ys : List α, zs = ys.map f ∧ ys.Perm xs := by
  refine ⟨zs.map g, ?_, ?_⟩
  · rw [List.map_map]
    have : zs.map (f ∘ g) = zs.map id := List.map_congr_left fun z hz => by
      obtain ⟨x, _, rfl⟩ := List.mem_map.mp (h.subset hz)
      show f (g (f x)) = f x
      rw [fg]
    rw [this, List.map_id]
  · have := h.map g
    rw [List.map_map] at this
    have e : xs.map (g ∘ f) = xs.map id := List.map_congr_left fun x _ => fg x
    rwa [e, List.map_id] at this
theorem perm_strs {zs : List V} {xs : List Str} (h : zs.Perm (xs.map V.str)) : ∃ ys : List Str, zs = ys.map V.str ∧ ys.Perm xs := perm_back (f := V.str) (g := unS) (fun _ => rfl) h
end Wd

set_option Elab.async false
set_option linter.all false
set_option maxRecDepth 100000
set_option maxHeartbeats 4000000
/-! enumerate of a tuple; of what is a list or a tuple. -/
namespace Wd
open PySem PySem.Spec PyProof.Rows L2 RZ Builtin
abbrev en1 (h : Heap) (a : Addr) : Heap := h.push { cls := .type "tuple_iterator", data := .fields #[.ref a, .int 0 0] }
abbrev en2 (h : Heap) (a : Addr) : Heap := (en1 h a).push { cls := .type "enumerate", data := .fields #[.none, .bool false, .ref h.objs.size, rawInt 0, .none, .none] }
theorem meets_enT (a : Addr) (ys : Array Value) :
    Meets (Builtin.«enumerate.__new__» ⟨[.type "enumerate", .ref a], []⟩) (fun _ R z => z.heap.IsTuple a ys ∧ R (.ok (.ret (.ref (en1 z.heap a).objs.size))) { z with heap := en2 z.heap a }) :=
  .of_wp fun prog w A R z h => by
    obtain ⟨g0, gn, df, tk, os⟩ := z; obtain ⟨tb, h⟩ := h
    have hsub := sub_enumerate
    have tb' : Heap.IsTuple (Shared.heap ⟨g0, gn, df, tk, os⟩) a ys := tb
    wp_walk using wpAny_pyIter_tuple tb'
    refine wpAny_stack_any fun st => wpAny_pure ?_
    split
    · rename_i c _ _ _ _ _
      cases (c == Value.type "enumerate")
      · wp_walk using wpAny_pyIter_tuple tb'
        exact ⟨_, rfl, h⟩
      · wp_walk using wpAny_pyIter_tuple tb'
        exact ⟨_, rfl, h⟩
    · wp_walk using wpAny_pyIter_tuple tb'
      exact ⟨_, rfl, h⟩
section
variable {prog : Program} {w : World} {A : Around} {E : Value → Shared → Prop} {z0 : Shared}
theorem call_enT {a : Addr} {ys : Array Value} {Q : Value → Shared → Prop} (tb : z0.heap.IsTuple a ys)
    (q : ∀ h', IsEnum h' (z0.heap.objs.size + 1) z0.heap.objs.size 0 .none → h'.IsTupleIter z0.heap.objs.size a 0 → h'.objs.size = z0.heap.objs.size + 2 → (∀ c o, z0.heap.get? c = some o → h'.get? c = some o) → Q (.ref (z0.heap.objs.size + 1)) { z0 with heap := h' }) :
    wpAny (model prog w) A (call (.type "enumerate") [.ref a]) Q E z0 := by
  refine callType_new F.called_enumerate (by decide) (F.typeCall_enumerate_1 _) (F.newCall_enumerate_1 _) (fun obj => F.args_object_init_2 obj _) F.entry_enumerate_new (meets_enT a ys) ⟨tb, ?_⟩
  have n1 : (en1 z0.heap a).objs.size = z0.heap.objs.size + 1 := Heap.size_push ..
  have n2 : (en2 z0.heap a).objs.size = z0.heap.objs.size + 2 := by rw [Heap.size_push, n1]
  have e2 : (en2 z0.heap a).get? (en1 z0.heap a).objs.size = some _ := Heap.get?_push_size _ rfl
  have e1 : (en2 z0.heap a).get? z0.heap.objs.size = some _ := Heap.get?_push_of_some _ (Heap.get?_push_size _ rfl)
  show _ ∧ _
  rw [n1] at e2 ⊢
  exact ⟨⟨_, e2, rfl⟩, q _ e2 ⟨_, e1, rfl, rfl⟩ n2 fun c o x => Heap.get?_push_of_some _ (Heap.get?_push_of_some _ x)⟩
end
/-- the tuple at a, each item in a new pair -/
def IteT (K : PySem.W.Frag) (a : Addr) : It :=
  ⟨fun i H => ∃ (xs : List V) (x : V), SqT K H a xs ∧ xs[i]? = some x, fun i H v H' => ∃ T x, v = .ref T ∧ H T = none ∧ H' = upd H T (.tup [.int (i : Nat), x]) ∧ ∀ xs, SqT K H a xs → xs[i]? = some x, fun i H => ∃ xs : List V, SqT K H a xs ∧ xs.length = i⟩
theorem turn_enT {P : Program} {w : World} {K : PySem.W.Frag} {elts : List Expr} {kk : Nat} {tpos : Pos} {a z i1 : Addr} (d1 : z ≠ i1) (d2 : z ≠ a) (d3 : a ≠ i1) :
    Turn P w K (.Tuple elts kk tpos) (IteT K a) [z, i1] z (fun i h => (∃ old, IsEnum h z i1 ((i : Nat) : Int) old) ∧ h.IsTupleIter i1 a i) where
  mem := by simp
  obj := fun i h q c hc => by
    obtain ⟨⟨old, q1⟩, ⟨o1, e1, _, t1⟩⟩ := q
    simp only [List.mem_cons, List.not_mem_nil, or_false] at hc
    rcases hc with rfl | rfl
    · exact ⟨_, q1, fun v t => nomatch t⟩
    · exact ⟨o1, e1, fun v t => by rw [t1] at t; cases t⟩
  keep := fun i h h' q k => by
    obtain ⟨⟨old, q1⟩, q2⟩ := q
    exact ⟨⟨old, k z (by simp) _ q1⟩, q2.at fun o t => k i1 (by simp) o t⟩
  item := by
    intro X hP hw hK hc i pins s0 σ H E I hf q hg
    subst hP hw hK
    obtain ⟨⟨old, q1⟩, q2⟩ := q
    obtain ⟨xs, x, hqx, hx⟩ := hg
    obtain ⟨vs, rv, p2, _⟩ := I.tuple hqx
    obtain ⟨u, hu, ru⟩ := rv.get hx
    have zl : z < s0.heap.objs.size := Heap.lt_size q1
    have hA : X.A.in1.handled = none := I.ok.hd hc
    refine wpAny_pyNext_enum_itemD (draws_tup hA i1 a d3 vs.toArray) q1 ⟨q2, p2⟩ (by
      have := (List.getElem?_eq_some_iff.mp hu).1; simpa using this) d1 (by simp [d1, d2]) fun x1 h1 tk g1 g2 g3 g4 g5 hk => ?_
    have e1 : x1 = u := by
      have t : vs[i]? = some x1 := by simpa using g1
      rw [hu] at t
      exact (Option.some.inj t).symm
    subst e1
    refine ⟨_, rfl, wpAny_letOwnedTupleGo_enum (s := { s0 with heap := h1, toks := tk + 1 }) g2 fun h2 z2 sb => ?_⟩
    have t2 : h2.get? s0.heap.objs.size = some { cls := .type "tuple", data := .seq #[.int i tk, x1] } := (sb.2 _ (Nat.ne_of_gt zl)).trans g4
    have new : ObjOk X.prog X.w (upd H s0.heap.objs.size (.tup [.int (i : Nat), x])) h2 s0.heap.objs.size (.tup [.int (i : Nat), x]) :=
      ⟨by show 2 ≤ sizeLine; decide, [.int i tk, x1], .cons ⟨_, rfl⟩ (.cons ru .nil), ⟨_, t2, rfl, _, rfl⟩⟩
    have I1 : Inv X pins σ (upd H s0.heap.objs.size (.tup [.int (i : Nat), x])) { s0 with heap := h2, toks := tk + 1 } :=
      I.turnedNew (ch := [z, i1]) (fun c o hb t => (sb.2 c (fun t' => hb (by simp [t']))).trans (hk c o (fun t' => hb (by simp [t'])) (fun t' => hb (by simp [t'])) t)) hf (Nat.le_refl _) new
    refine ⟨.ref s0.heap.objs.size, _, I1, rfl, ⟨_, x, rfl, I.hok.fresh (Nat.le_refl _), rfl, fun l hl => by rw [I.tuple_inj hl hqx]; exact hx⟩, ⟨⟨x1, ?_⟩, ?_⟩, fun c hcm => ?_⟩
    · have e2 : ((i + 1 : Nat) : Int) = (i : Int) + 1 := by omega
      rw [e2]
      exact z2
    · exact g3.1.at fun o t => (sb.2 _ (Ne.symm d1)).trans t
    · have hlt : c < s0.heap.objs.size := by
        simp only [List.mem_cons, List.not_mem_nil, or_false] at hcm
        rcases hcm with rfl | rfl
        · exact zl
        · obtain ⟨_, t, _⟩ := q2; exact Heap.lt_size t
      rw [upd_ne (Nat.ne_of_lt hlt)]
      exact (hf c hcm).1
  done := by
    intro X hP hw hK hc i pins s0 σ H E I hf q hg
    subst hP hw hK
    obtain ⟨⟨old, q1⟩, q2⟩ := q
    obtain ⟨xs, hqx, hl⟩ := hg
    obtain ⟨vs, rv, p2, _⟩ := I.tuple hqx
    have l2 := rv.length
    have hA : X.A.in1.handled = none := I.ok.hd hc
    obtain ⟨f0, f1, f2, f3, f4, f5⟩ := hf i1 (by simp)
    refine wpAny_pyNext_enum_endD (draws_tup hA i1 a d3 vs.toArray) q1 ⟨?_, p2⟩ fun h1 eb => ⟨rfl, I.turned (t' := s0.toks) (fun b o hb t => eb b o hb t) f0 f1 f3 f4 f5⟩
    have e : vs.toArray.size = i := by rw [List.size_toArray]; omega
    rw [e]
    exact q2
  self := fun A i s0 Q E q h => wpAny_pyIter_enum q.1.choose_spec h
theorem walk_enT {K : PySem.W.Frag} {a : Addr} {xs : List V} : Walk (IteT K a) xs.length (fun H => SqT K H a xs) (YPair (fun i => some (.int (i : Nat))) (fun i => xs[i]?)) := by
  refine ⟨fun i _ hi q => ⟨xs, xs[i], q, by simp [hi]⟩, fun _ q => ⟨xs, q, rfl⟩, fun i H v H' _ q y => ?_⟩
  obtain ⟨T, x, h1, h2, h3, h4⟩ := y
  exact ⟨T, .int (i : Nat), x, h1, h2, h3, rfl, h4 xs q⟩
/-- a list, or a tuple -/
def SqB (K : PySem.W.Frag) (b : Bool) (H : Hp) (a : Addr) (xs : List V) : Prop := match b with
  | true => SqL K H a xs
  | false => SqT K H a xs
theorem SqB.of {K : PySem.W.Frag} {H : Hp} {a : Addr} {xs : List V} (h : SqL K H a xs ∨ SqT K H a xs) : ∃ b, SqB K b H a xs := h.elim (fun z => ⟨true, z⟩) fun z => ⟨false, z⟩
theorem SqB.or {K : PySem.W.Frag} {b : Bool} {H : Hp} {a : Addr} {xs : List V} (h : SqB K b H a xs) : SqL K H a xs ∨ SqT K H a xs := match b, h with
  | true, z => .inl z
  | false, z => .inr z
theorem SqB.same {K : PySem.W.Frag} {b : Bool} {H H' : Hp} {a : Addr} {xs : List V} (s : Same H H') (h : SqB K b H a xs) : SqB K b H' a xs := match b, h with
  | true, z => sqL_at (fun o => s _ o) z
  | false, z => same_sqT s z
/-- enumerate of what is a list or a tuple -/
def iEnumS (K : PySem.W.Frag) (ta : TA) : TI := fun σ H R => ta σ H fun vs H1 => ∃ a xs b, vs = [.ref a] ∧ SqB K b H1 a xs ∧
  ∀ (J : It) (G : Hp → Prop), Walk J xs.length G (YPair (fun i => some (.int (i : Nat))) (fun i => xs[i]?)) → (∀ H', SqB K b H' a xs → G H') → R J H1
theorem pi_enumS {X : Cx} {K : PySem.W.Frag} {e : Expr} {ta : TA} {p pos tpos : Pos} {elts : List Expr} {kk : Nat} (hg : Gl X "enumerate") (hm : X.mg "enumerate" = none) (ha : PA X [e] ta) (hK : X.K = K := by rfl) (hs : starEach [e] X.env = [(false, eval e X.env)] := by rfl) :
    PI X (.Tuple elts kk tpos) (.Call (.Name "enumerate" p) [e] [] pos) (iEnumS K ta) := by
  subst hK
  refine ⟨fun pins z0 σ H R I h => ?_⟩
  refine Call_ (ld_blt I hg hm boot_enumerate (PyProof.Rows.callWith_type1 (thn (ha.run pos pins z0 σ H _ I h) fun us z1 ⟨vs, H1, I1, r1, q1⟩ => ?_) hs rfl))
  obtain ⟨a, xs, b, ex, hq, q⟩ := q1
  subst ex
  cases r1 with
  | cons r rr =>
    cases rr
    cases r
    match b, hq, q with
    | true, hq, q =>
      replace hq : SqL X.K H1 a xs := hq
      obtain ⟨its, rv, p', hz⟩ := I1.list hq
      refine call_enumerate_list p'.isList fun h' he hit hsz hk => wpAny_pyIter_enum he ?_
      have I2 : Inv X pins σ H1 { z1 with heap := h' } := I1.kept (t' := z1.toks) hk
      refine ⟨z1.heap.objs.size + 1, [z1.heap.objs.size + 1, z1.heap.objs.size], _, _, H1, rfl, I2, turn_enum a (z1.heap.objs.size + 1) z1.heap.objs.size, ⟨⟨.none, he⟩, hit, Nat.succ_ne_self _⟩, fun c hc => ?_, q _ _ walk_enum fun H' k => k⟩
      have hle : z1.heap.objs.size ≤ c := by
        simp only [List.mem_cons, List.not_mem_nil, or_false] at hc
        rcases hc with rfl | rfl
        · exact Nat.le_add_right _ _
        · exact Nat.le_refl _
      exact I1.fpOk hle (I1.hok.fresh hle)
    | false, hq, q =>
      replace hq : SqT X.K H1 a xs := hq
      obtain ⟨its, rv, p', _⟩ := I1.tuple hq
      obtain ⟨o2, ho2, _⟩ := id p'
      have al : a < z1.heap.objs.size := Heap.lt_size ho2
      refine call_enT (show z1.heap.IsTuple a its.toArray from p') fun h' he hit hsz hk => wpAny_pyIter_enum he ?_
      have I2 : Inv X pins σ H1 { z1 with heap := h' } := I1.kept (t' := z1.toks) hk
      refine ⟨z1.heap.objs.size + 1, [z1.heap.objs.size + 1, z1.heap.objs.size], _, _, H1, rfl, I2, turn_enT (a := a) (Nat.succ_ne_self _) (Nat.ne_of_gt (Nat.lt_succ_of_lt al)) (Nat.ne_of_lt al), ⟨⟨.none, he⟩, hit⟩, fun c hc => ?_, q _ _ walk_enT fun H' k => k⟩
      have hle : z1.heap.objs.size ≤ c := by
        simp only [List.mem_cons, List.not_mem_nil, or_false] at hc
        rcases hc with rfl | rfl
        · exact Nat.le_add_right _ _
        · exact Nat.le_refl _
      exact I1.fpOk hle (I1.hok.fresh hle)
end Wd
namespace Wd
open PySem PySem.Spec PyProof.Rows L2
/-- a walk over what is a list or a tuple -/
def iSeqS (K : PySem.W.Frag) (te : TE) : TI := fun σ H R => te σ H fun x H1 => ∃ a xs b, x = .ref a ∧ SqB K b H1 a xs ∧ ∀ (J : It) (G : Hp → Prop), Walk J xs.length G (YAt xs) → (∀ H', SqB K b H' a xs → G H') → R J H1
theorem pi_seqS {X : Cx} {K : PySem.W.Frag} {tg e : Expr} {te : TE} (he : PE X e te) (hK : X.K = K := by rfl) : PI X tg e (iSeqS K te) := by
  subst hK
  refine ⟨fun pins s σ H R I q => thn (he.run pins s σ H _ I q) fun v s1 ⟨x, H1, I1, r1, q1⟩ => ?_⟩
  obtain ⟨a, xs, b, ex, hq, q1⟩ := q1
  subst ex
  cases r1
  match b, hq, q1 with
  | true, hq, q1 => exact it_list I1 hq (q1 _ _ walk_list fun H' k => k)
  | false, hq, q1 => exact it_tup I1 hq (q1 _ _ walk_tup fun H' k => k)
end Wd

set_option Elab.async false
set_option linter.all false
set_option maxRecDepth 100000
set_option maxHeartbeats 4000000
/-! xs[:k] + (y,) + xs[k + 1:] of a tuple of texts: one text is put in the place of another. -/
namespace Wd
open PySem PySem.Spec PyProof.Rows L2
theorem cut_to (xs : List V) (k : Nat) : cutV xs none (some (k : Int)) = xs.take k := by
  unfold cutV
  rw [HT.sIx_nat, HT.sIx_none, List.drop_zero, Nat.sub_zero]
  by_cases h : k ≤ xs.length
  · rw [Nat.min_eq_left h]
  · rw [Nat.min_eq_right (by omega), List.take_length, List.take_of_length_le (by omega)]
theorem cut_from (xs : List V) (k : Nat) : cutV xs (some ((k : Int) + 1)) none = xs.drop (k + 1) := by
  unfold cutV
  rw [show ((k : Int) + 1) = ((k + 1 : Nat) : Int) from by omega, HT.sIx_nat, HT.sIx_none]
  by_cases h : k + 1 ≤ xs.length
  · rw [Nat.min_eq_left h, List.take_of_length_le (by rw [List.length_drop]; omega)]
  · rw [Nat.min_eq_right (by omega), Nat.sub_self, List.take_zero, List.drop_of_length_le (by omega)]
section
variable {K : PySem.W.Frag} {H : Hp} {Q : VK}
theorem slA {a : Addr} {xs : List V} {lo hi : Option Int} (e : SqT K H a xs) (q : ∀ b H', Same H H' → SqT K H' b (cutV xs lo hi) → Q (.ref b) H') : rSlG K (.ref a) lo hi H Q := by
  refine .inr (.inl ⟨a, xs, rfl, e, fun hw => ?_, fun _ p np => q p _ (same_new np) (.inl (.inl upd_same))⟩)
  refine q a H (fun _ _ e => e) ?_
  have : cutV xs lo hi = xs := by
    unfold cutV
    rw [hw.1, hw.2, List.drop_zero, Nat.sub_zero, List.take_length]
  rw [this]
  exact e
theorem catA {a b : Addr} {xs ys : List V} (ea : SqT K H a xs) (eb : SqT K H b ys) (hz : xs.length + ys.length ≤ sizeLine) (q : ∀ c H', Same H H' → SqT K H' c (xs ++ ys) → Q (.ref c) H') : rAddG K (.ref a) (.ref b) H Q := by
  refine .inr ⟨a, b, xs, ys, rfl, rfl, ea, eb, hz, fun h => ?_, fun _ h => ?_, fun _ _ p np => q p _ (same_new np) (.inl (.inl upd_same))⟩
  · exact q b H (fun _ _ e => e) (by rw [h, List.nil_append]; exact eb)
  · exact q a H (fun _ _ e => e) (by rw [h, List.append_nil]; exact ea)
theorem splice {σ : L2.St} {p i : Nat} {te : TE} {tr : Addr} {L : List Str} {k : Nat} {y : Str} (hp : σ[p]? = some (some (.ref tr))) (hi : σ[i]? = some (some (.int (k : Nat)))) (e : SqT K H tr (L.map V.str)) (hk : k < L.length) (hl : L.length ≤ 60)
    (ht : ∀ (H1 : Hp) (Q' : VK), Same H H1 → (∀ H2, Same H1 H2 → Q' (.str y) H2) → te σ H1 Q') (q : ∀ c H', Same H H' → SqT K H' c ((L.set k y).map V.str) → Q (.ref c) H') :
    tOp (rAddG K) (tOp (rAddG K) (tSl (rSlG K) (tVar p) tNoPart (tPart (tVar i))) (tTup (tCons te tNil))) (tSl (rSlG K) (tVar p) (tPart (tOp (rAddG K) (tVar i) (tC (V.int 1)))) tNoPart) σ H Q := by
  refine ⟨.ref tr, hp, .int k, hi, k, rfl, slA e fun b1 H1 s1 e1 => ?_⟩
  rw [cut_to] at e1
  refine ht H1 _ s1 fun H2 s2 => ⟨by show 1 ≤ sizeLine; decide, fun u nu => ?_⟩
  have s3 := same_new nu (o := .tup [.str y])
  have e3 : (upd H2 u (.tup [.str y])) u = some (.tup [.str y]) := upd_same
  generalize upd H2 u (.tup [.str y]) = H3 at s3 e3
  have l1 : ((L.map V.str).take k).length = k := by rw [List.length_take, List.length_map]; omega
  refine catA (same_sqT (s2.trans s3) e1) (.inl (.inl e3)) (by rw [l1, sizeLine_eq]; show k + 1 ≤ _; omega) fun b2 H4 s4 e4 => ?_
  refine ⟨.ref tr, hp, .int k, hi, _, rfl, slA (same_sqT (((s1.trans s2).trans s3).trans s4) e) fun b3 H5 s5 e5 => ?_⟩
  rw [cut_from] at e5
  refine catA (same_sqT s5 e4) e5 (by rw [List.length_append, l1, List.length_drop, List.length_map, sizeLine_eq]; show k + 1 + _ ≤ _; omega) fun c H6 s6 e6 => ?_
  refine q c H6 (((((s1.trans s2).trans s3).trans s4).trans s5).trans s6) ?_
  rw [List.set_eq_take_append_cons_drop, if_pos hk, List.map_append, List.map_cons, List.map_take, List.map_drop]
  rw [List.append_assoc] at e6
  exact e6
theorem spliceV {σ : L2.St} {p i : Nat} {te : TE} {tr : Addr} {L : List V} {k : Nat} {y : V} (hp : σ[p]? = some (some (.ref tr))) (hi : σ[i]? = some (some (.int (k : Nat)))) (e : SqT K H tr L) (hk : k < L.length) (hl : L.length ≤ 60)
    (ht : ∀ (H1 : Hp) (Q' : VK), Same H H1 → (∀ H2, Same H1 H2 → Q' y H2) → te σ H1 Q') (q : ∀ c H', Same H H' → SqT K H' c (L.take k ++ ([y] ++ L.drop (k + 1))) → Q (.ref c) H') :
    tOp (rAddG K) (tOp (rAddG K) (tSl (rSlG K) (tVar p) tNoPart (tPart (tVar i))) (tTup (tCons te tNil))) (tSl (rSlG K) (tVar p) (tPart (tOp (rAddG K) (tVar i) (tC (V.int 1)))) tNoPart) σ H Q := by
  refine ⟨.ref tr, hp, .int k, hi, k, rfl, slA e fun b1 H1 s1 e1 => ?_⟩
  rw [cut_to] at e1
  refine ht H1 _ s1 fun H2 s2 => ⟨by show 1 ≤ sizeLine; decide, fun u nu => ?_⟩
  have s3 := same_new nu (o := .tup [y])
  have e3 : (upd H2 u (.tup [y])) u = some (.tup [y]) := upd_same
  generalize upd H2 u (.tup [y]) = H3 at s3 e3
  have l1 : (L.take k).length = k := by rw [List.length_take]; omega
  refine catA (same_sqT (s2.trans s3) e1) (.inl (.inl e3)) (by rw [l1, sizeLine_eq]; show k + 1 ≤ _; omega) fun b2 H4 s4 e4 => ?_
  refine ⟨.ref tr, hp, .int k, hi, _, rfl, slA (same_sqT (((s1.trans s2).trans s3).trans s4) e) fun b3 H5 s5 e5 => ?_⟩
  rw [cut_from] at e5
  refine catA (same_sqT s5 e4) e5 (by rw [List.length_append, l1, List.length_drop, sizeLine_eq]; show k + 1 + _ ≤ _; omega) fun c H6 s6 e6 => ?_
  refine q c H6 (((((s1.trans s2).trans s3).trans s4).trans s5).trans s6) ?_
  rw [List.append_assoc] at e6
  exact e6
theorem cutout {σ : L2.St} {p i : Nat} {tr : Addr} {L : List V} {k : Nat} (hp : σ[p]? = some (some (.ref tr))) (hi : σ[i]? = some (some (.int (k : Nat)))) (e : SqT K H tr L) (hk : k < L.length) (hl : L.length ≤ 60)
    (q : ∀ c H', Same H H' → SqT K H' c (L.take k ++ L.drop (k + 1)) → Q (.ref c) H') :
    tOp (rAddG K) (tSl (rSlG K) (tVar p) tNoPart (tPart (tVar i))) (tSl (rSlG K) (tVar p) (tPart (tOp (rAddG K) (tVar i) (tC (V.int 1)))) tNoPart) σ H Q := by
  refine ⟨.ref tr, hp, .int k, hi, k, rfl, slA e fun b1 H1 s1 e1 => ?_⟩
  rw [cut_to] at e1
  refine ⟨.ref tr, hp, .int k, hi, _, rfl, slA (same_sqT s1 e) fun b3 H5 s5 e5 => ?_⟩
  rw [cut_from] at e5
  exact catA (same_sqT s5 e1) e5 (by rw [List.length_take, List.length_drop, sizeLine_eq]; omega) fun c H6 s6 e6 => q c H6 ((s1.trans s5).trans s6) e6
end
end Wd

set_option Elab.async false
set_option linter.all false
set_option maxRecDepth 100000
set_option maxHeartbeats 4000000
namespace Wd
open PySem PySem.Spec PyProof.Rows L2
abbrev s_become : Stmt := topS 8
theorem sc_become : FnScope ["names", "name"] ["names", "name"] (C8.fnScope s_become) := ⟨rfl, rfl, rfl, by decide +kernel, rfl, by decide +kernel, by decide +kernel⟩
abbrev s_turned_way : Stmt := topS 9
theorem sc_turned_way : FnScope ["names", "way", "deed"] ["names", "way"] (C8.fnScope s_turned_way) := ⟨rfl, rfl, rfl, by decide +kernel, rfl, by decide +kernel, by decide +kernel⟩
abbrev s_turned_deed : Stmt := topS 10
theorem sc_turned_deed : FnScope ["names", "deed"] ["names", "deed"] (C8.fnScope s_turned_deed) := ⟨rfl, rfl, rfl, by decide +kernel, rfl, by decide +kernel, by decide +kernel⟩
abbrev s_turned_goal : Stmt := topS 11
theorem sc_turned_goal : FnScope ["names", "goal", "wish", "part"] ["names", "goal"] (C8.fnScope s_turned_goal) := ⟨rfl, rfl, rfl, by decide +kernel, rfl, by decide +kernel, by decide +kernel⟩
abbrev s__law_turned_parts : Stmt := topS 24
theorem sc__law_turned_parts : FnScope ["names", "rows", "row", "part"] ["names", "rows"] (C8.fnScope s__law_turned_parts) := ⟨rfl, rfl, rfl, by decide +kernel, rfl, by decide +kernel, by decide +kernel⟩
section
variable {P : Program} {w : World} {K : PySem.W.Frag} {mg : Str → Option Value} {base : Heap}
def spBecome : Sp := fun vs H Q _ => ∃ (a : Addr) (kvs : List (Key × V)) (k : Key), vs = [.ref a, kV k] ∧ H a = some (.dK kvs) ∧ NmD kvs ∧ Q (kV (becKey kvs k)) H
theorem c_become {c : CA} (T : Txt P w K mg base c) {f : Addr} {fd : FuncData} (F : C8.Def K mg "become" s_become f fd) (b : Binds K fd ["names", "name"] []) : C8.Cal P w K mg base 1 "become" spBecome [] := by
  refine C8.cal0 F b .nil sc_become (fun vs H Q E h => ?_) (fun cdv A outer s H vs Q E hr h => ?_)
  · obtain ⟨a, kvs, k, rfl, _⟩ := h
    rfl
  · obtain ⟨a, kvs, k, rfl, e, nm, q⟩ := h
    have hu := hu_of hr
    have hu6 := hu64 hr
    refine ⟨_, (pss_one (ps_ret (pe_dget2 hu (pv 0) (pv 1) (pv 1) ⟨rfl, rfl, rfl, rfl⟩))), ?_⟩
    refine ⟨.ref a, rfl, a, rfl, .inl ⟨kvs, .inl e⟩, kV k, rfl, kV k, rfl, _, DGet.k e, ?_⟩
    rw [bec_val nm]
    exact q
def spTurnDeed (K : PySem.W.Frag) : Sp := fun vs H Q _ => ∃ (a u : Addr) (kvs : List (Key × V)) (d : List Str), vs = [.ref a, .ref u] ∧ H a = some (.dK kvs) ∧ NmD kvs ∧ SqT K H u (d.map V.str) ∧ deedB d = true ∧ (∀ s ∈ d, NameOk s) ∧
  ∀ u' H', Same H H' → SqT K H' u' ((turnR kvs (d.map Sum.inr)).map kV) → Q (.ref u') H'
theorem tupAt3 {K : PySem.W.Frag} {H : Hp} : ∀ {vs : List V} {ds : List (List Str)} {i : Nat} {v : V}, TupAll K H vs ds → vs[i]? = some v → ∃ a d, v = .ref a ∧ ds[i]? = some d ∧ SqT K H a (d.map V.str)
  | _, _, 0, _, .cons (a := a) (d := d) e q, m => by cases m; exact ⟨a, d, rfl, rfl, e⟩
  | _, _, i + 1, _, .cons e q, m => by
    obtain ⟨a, d, h1, h2, h3⟩ := tupAt3 (i := i) q (by simpa using m)
    exact ⟨a, d, h1, by simpa using h2, h3⟩
theorem shapedU3 {xs : List Str} (h : ∀ s ∈ xs, PyData.strOk s = true) : SeqAt.shaped (.tuple (xs.map PyData.str)) = true ∧ (PyData.tuple (xs.map PyData.str)).hasDict = false := by
  obtain ⟨a, b, c⟩ := keys_lay (d := xs.map Sum.inr) fun s hs => by
    obtain ⟨x, hx, e⟩ := List.mem_map.mp hs
    have e : x = s := by injection e
    rw [← e]
    exact h x hx
  rw [List.map_map] at a b c
  refine ⟨?_, by rw [PyData.hasDict]; exact c⟩
  show (PyData.canLay0 _ && decide _) = true
  rw [Bool.and_eq_true]
  exact ⟨by simp only [PyData.canLay0]; exact a, decide_eq_true (by simp only [PyData.depth]; have : PyData.depthAll (xs.map PyData.str) = 0 := b; omega)⟩
theorem c_turnDeed {c : CA} {aW : Addr} (T : Txt P w K mg base c) (hW : mg "WAIT" = some (.ref aW)) (tW : ∀ H, SqT K H aW [.str "wait"]) (cis_deed : C8.Cal P w K mg base 2 "is_deed" (spIsDeed K) []) (cbecome : C8.Cal P w K mg base 1 "become" spBecome []) {f : Addr} {fd : FuncData} (F : C8.Def K mg "turned_deed" s_turned_deed f fd) (b : Binds K fd ["names", "deed"] []) : C8.Cal P w K mg base 3 "turned_deed" (spTurnDeed K) [] := by
  refine C8.cal0 F b .nil sc_turned_deed (fun vs H Q E h => ?_) (fun cdv A outer s H vs Q E hr h => ?_)
  · obtain ⟨a, u, kvs, d, rfl, _⟩ := h
    rfl
  · obtain ⟨a, u, kvs, d, rfl, e, nm, eu, hd, ok, q⟩ := h
    have hu := hu_of hr
    have hu6 := hu64 hr
    refine ⟨_, (pss_cons (ps_if (PW.pt (pw_or (pt_not (pt_truK (K := K) (C8.pe_c cis_deed hr (by decide) (by rfl) (pa_cons (pv 1) pa_nil)) (fun _ => rfl))) (pw_or1 (pt_cmpR (op_eqX (K := K) hu6) (pv 1) (pe_glob (v := .ref aW) (by rfl) hW rfl) (nomark _))))) (pss_one (ps_ret (pv 1))) pss_nil)
  (pss_one (ps_ret (pe_tup (pa_cons (pe_ix (ixG (K := K)) (pv 1) pe_int (fun _ _ => rfl)) (pa_cons (C8.pe_c cbecome hr (by decide) (by rfl) (pa_cons (pv 0) (pa_cons (pe_ix (ixG (K := K)) (pv 1) pe_int (fun _ _ => rfl)) pa_nil))) pa_nil)))))), ?_⟩
    have hl : d.length = 1 ∨ d.length = 2 := by
      rcases deed_cases hd with rfl | ⟨w0, n0, rfl, _⟩
      · exact .inl rfl
      · exact .inr rfl
    have okS : ∀ s ∈ d, s.length ≤ 100000 ∧ PyData.strOk s = true := fun s hs => by
      have t := txt_name (ok s hs)
      exact ⟨by have := t.2.2; omega, t.2.1⟩
    refine ⟨.ref u, rfl, .ref u, d, rfl, .inl ⟨u, rfl, eu, hl, okS⟩, fun G s1 => ?_⟩
    rw [hd]
    refine ⟨_, truBd, iteF ?_⟩
    have eu1 := same_sqT s1 eu
    obtain ⟨sok, snd⟩ := shapedU3 fun s hs => (okS s hs).2
    refine ⟨.ref u, rfl, .inr ⟨.tuple (d.map PyData.str), .tuple (waitD.map PyData.str), Dq.dp (N := anyA) _ _ snd (.tup trivial eu1 (DqAll.strs d)), Dq.dp (N := anyA) _ _ (by decide +kernel) (.tup trivial (tW G) (DqAll.strs waitD)), sok, by decide +kernel, _, rfl, ?_⟩⟩
    have ev : PyData.eqv (.tuple (d.map PyData.str)) (.tuple (waitD.map PyData.str)) = decide (d = waitD) := by
      simp only [PyData.eqv]
      exact eqvAll_strs _ _
    rw [ev]
    rcases deed_cases hd with rfl | ⟨w0, n0, rfl, hw0⟩
    · rw [decide_eq_true rfl]
      exact iteT ⟨.ref u, rfl, q u G s1 eu1⟩
    · rw [decide_eq_false (fun z => by cases z)]
      refine iteF ⟨.ref u, rfl, .inr (.inl ⟨u, _, 0, .str w0, rfl, rfl, eu1, rfl, .ref a, rfl, .ref u, rfl, .inr (.inl ⟨u, _, 1, .str n0, rfl, rfl, eu1, rfl, ?_⟩)⟩)⟩
      refine ⟨a, kvs, .inr n0, rfl, s1 _ _ e, nm, by show 2 ≤ sizeLine; decide, fun t nt => ?_⟩
      exact q t _ (s1.trans (same_new nt)) (.inl (.inl upd_same))
def spTurnWay (K : PySem.W.Frag) : Sp := fun vs H Q _ => ∃ (a wl : Addr) (b : Bool) (kvs : List (Key × V)) (ws : List V) (ds : List (List Str)), vs = [.ref a, .ref wl] ∧ H a = some (.dK kvs) ∧ NmD kvs ∧ SqB K b H wl ws ∧ TupAll K H ws ds ∧ (∀ d ∈ ds, deedB d = true ∧ ∀ s ∈ d, NameOk s) ∧ ds.length ≤ 100 ∧
  ∀ u vs H', Same H H' → SqT K H' u vs → RowAll K H' vs ((ds.map fun d => d.map Sum.inr).map (turnR kvs)) → Q (.ref u) H'
theorem c_turnWay {c : CA} (T : Txt P w K mg base c) (cturned_deed : C8.Cal P w K mg base 3 "turned_deed" (spTurnDeed K) []) {f : Addr} {fd : FuncData} (F : C8.Def K mg "turned_way" s_turned_way f fd) (b : Binds K fd ["names", "way"] []) : C8.Cal P w K mg base 4 "turned_way" (spTurnWay K) [] := by
  refine C8.cal0 F b .nil sc_turned_way (fun vs H Q E h => ?_) (fun cdv A outer s H vs Q E hr h => ?_)
  · obtain ⟨a, wl, b, kvs, ws, ds, rfl, _⟩ := h
    rfl
  · obtain ⟨a, wl, b, kvs, ws, ds, rfl, e, nm, ew, ta, hds, l100, q⟩ := h
    have hu := hu_of hr
    have hu6 := hu64 hr
    refine ⟨_, (pss_one (ps_ret (pe_tupleOf (by rfl) T.b_tuple (pe_lc (own := [("deed", 2)]) rfl sc_turned_way.nd (pi_seqS (K := K) (pv 1)) (blkOk_by (by kernel_rfl)) (fun _ _ _ _ _ => (pg_name (i := 2) sc_turned_way.nd rfl (.inl rfl))) (fun _ _ _ _ _ => pts_nil)
      (fun _ _ _ _ _ => (C8.pe_c cturned_deed hr (by decide) (by rfl) (pa_cons (pv 0) (pa_cons (pv 2) pa_nil)))))))), ?_⟩
    refine ⟨.ref wl, rfl, wl, ws, b, rfl, ew, fun J GG wk hG D nD => ?_⟩
    refine lc_it wk (fun i Z => Same H Z ∧ ∃ vs, Z D = some (.lst vs) ∧ RowAll K Z vs (((ds.take i).map fun d => d.map Sum.inr).map (turnR kvs))) ⟨same_new nD, [], upd_same, .nil⟩ (fun k Z _ pv => hG Z (ew.same pv.1)) (fun i yv Z Z' hi pv hy => ?_) (fun Z pv => ?_)
    · obtain ⟨rfl, hyv⟩ := hy
      obtain ⟨sZ, vs, eZ, rZ⟩ := pv
      obtain ⟨u, d, rfl, hd, eu⟩ := tupAt3 (ta.same sZ) hyv
      obtain ⟨h1, h2⟩ := hds d (List.mem_of_getElem? hd)
      rw [take_snoc hd, List.map_append, List.map_append]
      refine ⟨rfl, yes_if ⟨.ref a, by kernel_rfl, .ref u, by kernel_rfl, ?_⟩⟩
      refine ⟨a, u, kvs, d, rfl, sZ _ _ e, nm, eu, h1, h2, fun u' Z2 s2 eu2 => ?_⟩
      have eZ2 := s2 _ _ eZ
      have lv : vs.length ≤ 100 := by rw [rZ.length, List.length_map, List.length_map, List.length_take]; omega
      refine ⟨_, eZ2, by rw [sizeLine_eq]; omega, same_mut (sZ.trans s2) nD, vs ++ [.ref u'], upd_same, ?_⟩
      exact RowAll.move (fun b xs z => sqT_off eZ2 z) ((rZ.same s2).append (.cons (d := turnR kvs (d.map Sum.inr)) eu2 .nil))
    · obtain ⟨sZ, vs, eZ, rZ⟩ := pv
      rw [ta.length, List.take_length] at rZ
      refine .inl ⟨D, _, rfl, .inl (.inl eZ), fun t nt => ?_⟩
      have s3 := same_new nt (o := .tup vs)
      exact q t vs _ (sZ.trans s3) (.inl (.inl upd_same)) (rZ.same s3)
def spTurnRows (K : PySem.W.Frag) : Sp := fun vs H Q _ => ∃ (a wl : Addr) (b : Bool) (kvs : List (Key × V)) (ws : List V) (rs : List (List Key)), vs = [.ref a, .ref wl] ∧ H a = some (.dK kvs) ∧ NmD kvs ∧ SqB K b H wl ws ∧ RowAll K H ws rs ∧ (∀ r ∈ rs, 1 ≤ r.length ∧ r.length ≤ 5) ∧ rs.length ≤ 100 ∧
  ∀ u vs H', Same H H' → SqT K H' u vs → RowAll K H' vs (rs.map (turnR kvs)) → Q (.ref u) H'
theorem c_turnGoal {c : CA} (T : Txt P w K mg base c) (cbecome : C8.Cal P w K mg base 1 "become" spBecome []) {f : Addr} {fd : FuncData} (F : C8.Def K mg "turned_goal" s_turned_goal f fd) (b : Binds K fd ["names", "goal"] []) : C8.Cal P w K mg base 2 "turned_goal" (spTurnRows K) [] := by
  refine C8.cal0 F b .nil sc_turned_goal (fun vs H Q E h => ?_) (fun cdv A outer s H vs Q E hr h => ?_)
  · obtain ⟨a, wl, b, kvs, ws, rs, rfl, _⟩ := h
    rfl
  · obtain ⟨a, wl, b, kvs, ws, rs, rfl, e, nm, ew, ra, hne, l100, q⟩ := h
    have hu := hu_of hr
    have hu6 := hu64 hr
    refine ⟨_, (pss_one (ps_ret (pe_tupleOf (by rfl) T.b_tuple (pe_lc (own := [("wish", 2)]) rfl sc_turned_goal.nd (pi_seqS (K := K) (pv 1)) (blkOk_by (by kernel_rfl)) (fun _ _ _ _ _ => (pg_name (i := 2) sc_turned_goal.nd rfl (.inl rfl))) (fun _ _ _ _ _ => pts_nil)
      (fun _ _ _ _ _ => (pe_op (op_addG (K := K)) (pe_slice (sl_any (K := K)) (pv 2) po_none (po_some pe_int)) (pe_tupleF (K := K) (by rfl) T.b_tuple (pe_lc (own := [("part", 3)]) rfl sc_turned_goal.nd (pi_tupK (K := K) (pe_slice (sl_any (K := K)) (pv 2) (po_some pe_int) po_none)) (blkOk_by (by kernel_rfl)) (fun _ _ _ _ _ => (pg_name (i := 3) sc_turned_goal.nd rfl (.inl rfl))) (fun _ _ _ _ _ => pts_nil)
      (fun _ _ _ _ _ => (C8.pe_c cbecome hr (by decide) (by rfl) (pa_cons (pv 0) (pa_cons (pv 3) pa_nil)))))))))))), ?_⟩
    refine ⟨.ref wl, rfl, wl, ws, b, rfl, ew, fun J GG wk hG D nD => ?_⟩
    refine lc_it wk (fun i Z => Same H Z ∧ ∃ vs, Z D = some (.lst vs) ∧ RowAll K Z vs ((rs.take i).map (turnR kvs))) ⟨same_new nD, [], upd_same, .nil⟩ (fun k Z _ pv => hG Z (ew.same pv.1)) (fun i yv Z Z' hi pv hy => ?_) (fun Z pv => ?_)
    · obtain ⟨rfl, hyv⟩ := hy
      obtain ⟨sZ, vs, eZ, rZ⟩ := pv
      obtain ⟨u, r, rfl, hd, eu⟩ := (ra.same sZ).at hyv
      obtain ⟨h1, h5⟩ := hne r (List.mem_of_getElem? hd)
      have ll := ra.length
      rw [take_snoc hd, List.map_append]
      refine ⟨rfl, yes_if ⟨.ref u, by kernel_rfl, 1, rfl, slA eu fun b1 Z1 s1 eb1 => ?_⟩⟩
      refine ⟨.ref u, by kernel_rfl, 1, rfl, slA (same_sqT s1 eu) fun b2 Z2 s2 eb2 => ?_⟩
      have s12 := s1.trans s2
      rw [show cutV (r.map kV) none (some 1) = (r.take 1).map kV from by rw [List.map_take]; exact cut_to _ 1] at eb1
      rw [show cutV (r.map kV) (some 1) none = (r.drop 1).map kV from by rw [List.map_drop]; exact cut_from _ 0] at eb2
      refine ⟨b2, rfl, ⟨_, eb2⟩, fun D2 nD2 => ?_⟩
      refine lc_it (walk_tup (K := K) (a := b2) (xs := (r.drop 1).map kV)) (fun j Y => Same Z2 Y ∧ Y D2 = some (.lst ((((r.drop 1).take j).map (becKey kvs)).map kV))) ⟨same_new nD2, upd_same⟩ (fun j Y _ pv => same_sqT pv.1 eb2) (fun j y2 Y Y' hj pv hy => ?_) (fun Y pv => ?_)
      · obtain ⟨rfl, hv⟩ := hy
        obtain ⟨sY, z1⟩ := pv
        rw [List.getElem?_map] at hv
        obtain ⟨k, hk, rfl⟩ := Option.map_eq_some_iff.mp hv
        rw [take_snoc hk, List.map_append, List.map_append]
        have eY := (s12.trans sY) _ _ (sZ _ _ e)
        refine ⟨rfl, yes_if ⟨.ref a, by kernel_rfl, kV k, by kernel_rfl, a, kvs, k, rfl, eY, nm, ?_⟩⟩
        refine ⟨_, z1, by rw [List.length_map, List.length_map, List.length_take, List.length_drop, sizeLine_eq]; omega, same_mut sY nD2, upd_same⟩
      · obtain ⟨sY, z1⟩ := pv
        rw [List.length_map, List.take_length] at z1
        refine ⟨D2, _, rfl, .inl (.inl z1), fun t o nt no => ?_⟩
        have s3 := sY.trans (same_new nt (o := .frz o (.tup (((r.drop 1).map (becKey kvs)).map kV))))
        have et : SqT K (upd Y t (.frz o (.tup (((r.drop 1).map (becKey kvs)).map kV)))) t (((r.drop 1).map (becKey kvs)).map kV) := .inl (.inr ⟨o, upd_same⟩)
        generalize upd Y t (.frz o (.tup (((r.drop 1).map (becKey kvs)).map kV))) = Y1 at s3 et
        have eb1 := same_sqT s3 (same_sqT s2 eb1)
        refine catA eb1 et (by rw [List.length_map, List.length_map, List.length_map, List.length_take, List.length_drop, sizeLine_eq]; omega) fun c0 Y2 s4 ec => ?_
        have sA := s12.trans (s3.trans s4)
        have eZ2 := sA _ _ eZ
        have lv : vs.length ≤ 100 := by rw [rZ.length, List.length_map, List.length_take]; omega
        refine ⟨_, eZ2, by rw [sizeLine_eq]; omega, same_mut (sZ.trans sA) nD, vs ++ [.ref c0], upd_same, ?_⟩
        refine RowAll.move (fun b xs z => sqT_off eZ2 z) ((rZ.same sA).append (.cons (d := turnR kvs r) ?_ .nil))
        have em : (turnR kvs r).map kV = (r.take 1).map kV ++ ((r.drop 1).map (becKey kvs)).map kV := by
          cases r with
          | nil => exact absurd h1 (by simp)
          | cons w0 r0 => rfl
        rw [em]
        exact ec
    · obtain ⟨sZ, vs, eZ, rZ⟩ := pv
      rw [ra.length, List.take_length] at rZ
      refine .inl ⟨D, _, rfl, .inl (.inl eZ), fun t nt => ?_⟩
      have s3 := same_new nt (o := .tup vs)
      exact q t vs _ (sZ.trans s3) (.inl (.inl upd_same)) (rZ.same s3)
theorem c_turnParts {c : CA} (T : Txt P w K mg base c) {f : Addr} {fd : FuncData} (F : C8.Def K mg "_law_turned_parts" s__law_turned_parts f fd) (b : Binds K fd ["names", "rows"] []) : C8.Cal P w K mg base 1 "_law_turned_parts" (spTurnRows K) [] := by
  refine C8.cal0 F b .nil sc__law_turned_parts (fun vs H Q E h => ?_) (fun cdv A outer s H vs Q E hr h => ?_)
  · obtain ⟨a, wl, b, kvs, ws, rs, rfl, _⟩ := h
    rfl
  · obtain ⟨a, wl, b, kvs, ws, rs, rfl, e, nm, ew, ra, hne, l100, q⟩ := h
    have hu := hu_of hr
    have hu6 := hu64 hr
    refine ⟨_, (pss_one (ps_ret (pe_tupleOf (by rfl) T.b_tuple (pe_lc (own := [("row", 2)]) rfl sc__law_turned_parts.nd (pi_seqS (K := K) (pv 1)) (blkOk_by (by kernel_rfl)) (fun _ _ _ _ _ => (pg_name (i := 2) sc__law_turned_parts.nd rfl (.inl rfl))) (fun _ _ _ _ _ => pts_nil)
      (fun _ _ _ _ _ => (pe_op (op_addG (K := K)) (pe_slice (sl_any (K := K)) (pv 2) po_none (po_some pe_int)) (pe_tupleF (K := K) (by rfl) T.b_tuple (pe_lc (own := [("part", 3)]) rfl sc__law_turned_parts.nd (pi_tupK (K := K) (pe_slice (sl_any (K := K)) (pv 2) (po_some pe_int) po_none)) (blkOk_by (by kernel_rfl)) (fun _ _ _ _ _ => (pg_name (i := 3) sc__law_turned_parts.nd rfl (.inl rfl))) (fun _ _ _ _ _ => pts_nil)
      (fun _ _ _ _ _ => (pe_dget2 hu (pv 0) (pv 3) (pv 3) ⟨rfl, rfl, rfl, rfl⟩)))))))))), ?_⟩
    refine ⟨.ref wl, rfl, wl, ws, b, rfl, ew, fun J GG wk hG D nD => ?_⟩
    refine lc_it wk (fun i Z => Same H Z ∧ ∃ vs, Z D = some (.lst vs) ∧ RowAll K Z vs ((rs.take i).map (turnR kvs))) ⟨same_new nD, [], upd_same, .nil⟩ (fun k Z _ pv => hG Z (ew.same pv.1)) (fun i yv Z Z' hi pv hy => ?_) (fun Z pv => ?_)
    · obtain ⟨rfl, hyv⟩ := hy
      obtain ⟨sZ, vs, eZ, rZ⟩ := pv
      obtain ⟨u, r, rfl, hd, eu⟩ := (ra.same sZ).at hyv
      obtain ⟨h1, h5⟩ := hne r (List.mem_of_getElem? hd)
      have ll := ra.length
      rw [take_snoc hd, List.map_append]
      refine ⟨rfl, yes_if ⟨.ref u, by kernel_rfl, 1, rfl, slA eu fun b1 Z1 s1 eb1 => ?_⟩⟩
      refine ⟨.ref u, by kernel_rfl, 1, rfl, slA (same_sqT s1 eu) fun b2 Z2 s2 eb2 => ?_⟩
      have s12 := s1.trans s2
      rw [show cutV (r.map kV) none (some 1) = (r.take 1).map kV from by rw [List.map_take]; exact cut_to _ 1] at eb1
      rw [show cutV (r.map kV) (some 1) none = (r.drop 1).map kV from by rw [List.map_drop]; exact cut_from _ 0] at eb2
      refine ⟨b2, rfl, ⟨_, eb2⟩, fun D2 nD2 => ?_⟩
      refine lc_it (walk_tup (K := K) (a := b2) (xs := (r.drop 1).map kV)) (fun j Y => Same Z2 Y ∧ Y D2 = some (.lst ((((r.drop 1).take j).map (becKey kvs)).map kV))) ⟨same_new nD2, upd_same⟩ (fun j Y _ pv => same_sqT pv.1 eb2) (fun j y2 Y Y' hj pv hy => ?_) (fun Y pv => ?_)
      · obtain ⟨rfl, hv⟩ := hy
        obtain ⟨sY, z1⟩ := pv
        rw [List.getElem?_map] at hv
        obtain ⟨k, hk, rfl⟩ := Option.map_eq_some_iff.mp hv
        rw [take_snoc hk, List.map_append, List.map_append]
        have eY := (s12.trans sY) _ _ (sZ _ _ e)
        refine ⟨rfl, yes_if ⟨.ref a, by kernel_rfl, a, rfl, .inl ⟨kvs, .inl eY⟩, kV k, by kernel_rfl, kV k, by kernel_rfl, _, DGet.k eY, ?_⟩⟩
        rw [bec_val nm]
        refine ⟨_, z1, by rw [List.length_map, List.length_map, List.length_take, List.length_drop, sizeLine_eq]; omega, same_mut sY nD2, upd_same⟩
      · obtain ⟨sY, z1⟩ := pv
        rw [List.length_map, List.take_length] at z1
        refine ⟨D2, _, rfl, .inl (.inl z1), fun t o nt no => ?_⟩
        have s3 := sY.trans (same_new nt (o := .frz o (.tup (((r.drop 1).map (becKey kvs)).map kV))))
        have et : SqT K (upd Y t (.frz o (.tup (((r.drop 1).map (becKey kvs)).map kV)))) t (((r.drop 1).map (becKey kvs)).map kV) := .inl (.inr ⟨o, upd_same⟩)
        generalize upd Y t (.frz o (.tup (((r.drop 1).map (becKey kvs)).map kV))) = Y1 at s3 et
        have eb1 := same_sqT s3 (same_sqT s2 eb1)
        refine catA eb1 et (by rw [List.length_map, List.length_map, List.length_map, List.length_take, List.length_drop, sizeLine_eq]; omega) fun c0 Y2 s4 ec => ?_
        have sA := s12.trans (s3.trans s4)
        have eZ2 := sA _ _ eZ
        have lv : vs.length ≤ 100 := by rw [rZ.length, List.length_map, List.length_take]; omega
        refine ⟨_, eZ2, by rw [sizeLine_eq]; omega, same_mut (sZ.trans sA) nD, vs ++ [.ref c0], upd_same, ?_⟩
        refine RowAll.move (fun b xs z => sqT_off eZ2 z) ((rZ.same sA).append (.cons (d := turnR kvs r) ?_ .nil))
        have em : (turnR kvs r).map kV = (r.take 1).map kV ++ ((r.drop 1).map (becKey kvs)).map kV := by
          cases r with
          | nil => exact absurd h1 (by simp)
          | cons w0 r0 => rfl
        rw [em]
        exact ec
    · obtain ⟨sZ, vs, eZ, rZ⟩ := pv
      rw [ra.length, List.take_length] at rZ
      refine .inl ⟨D, _, rfl, .inl (.inl eZ), fun t nt => ?_⟩
      have s3 := same_new nt (o := .tup vs)
      exact q t vs _ (sZ.trans s3) (.inl (.inl upd_same)) (rZ.same s3)
end
end Wd

set_option Elab.async false
set_option linter.all false
set_option maxRecDepth 100000
set_option maxHeartbeats 4000000
/-! Wishes and goals, as data. -/
namespace Wd
open PySem PySem.Spec PyProof.Rows L2
inductive WishH where
  | opn (d : Str)
  | atw (n r : Str)
  | bears (r : Str) (i : Int)
  | put (w s q : Str)
def WishH.data : WishH → PyData
  | .opn d => .tuple [.str (Str.ofString "open"), .str d]
  | .atw n r => .tuple [.str (Str.ofString "at"), .str n, .str r]
  | .bears r i => .tuple [.str (Str.ofString "bears"), .str r, .int i]
  | .put w s q => .tuple [.str w, .str s, .str q]
def goalD (ws : List WishH) : PyData := .tuple (ws.map WishH.data)
/-- a wish of the hall's own names -/
inductive WishOk (x : HallH) : WishH → Prop
  | opn {d : Str} (h : NameOk d) : WishOk x (.opn d)
  | atw {n r : Str} (h : n ∈ x.walkers.map WalkH.name) (hr : NameOk r) : WishOk x (.atw n r)
  | bears {r : Str} {i : Int} (h : r ∈ x.rooms) : WishOk x (.bears r i)
  | put {w s q : Str} (hw : w = Str.ofString "lies" ∨ w = Str.ofString "held") (h : s ∈ x.stones.map Prod.fst) (hq : NameOk q) : WishOk x (.put w s q)
def wishB (x : HallH) (rs ps : List Str) : WishH → Bool
  | .opn d => decide (d ∈ openL x rs ps)
  | .atw n r => decide (whereH x rs n = r)
  | .bears r i => decide (i ≤ borneH x rs ps none r)
  | .put _ s q => decide (placeOf x ps s = some q)
theorem dq_tup_inv {N : Addr → Prop} {K : PySem.W.Frag} {H : Hp} {v : V} {ds : List PyData} (h : Dq N K H v (.tuple ds)) : ∃ a vs, v = .ref a ∧ SqT K H a vs ∧ DqAll N K H vs ds := by
  cases h with
  | tup n e q => exact ⟨_, _, rfl, e, q⟩
theorem wish_opn {N : Addr → Prop} {K : PySem.W.Frag} {H : Hp} {v : V} {d : Str} (h : Dq N K H v (WishH.opn d).data) : ∃ a, v = .ref a ∧ SqT K H a [.str (Str.ofString "open"), .str d] := by
  obtain ⟨a, vs, rfl, e, q⟩ := dq_tup_inv h
  cases q with
  | cons q1 q => cases q with
    | cons q2 q =>
      cases q
      cases q1
      cases q2
      exact ⟨a, rfl, e⟩
theorem wish_three {N : Addr → Prop} {K : PySem.W.Frag} {H : Hp} {v : V} {a b c : Str} (h : Dq N K H v (.tuple [.str a, .str b, .str c])) : ∃ t, v = .ref t ∧ SqT K H t [.str a, .str b, .str c] := by
  obtain ⟨t, vs, rfl, e, q⟩ := dq_tup_inv h
  cases q with
  | cons q1 q => cases q with
    | cons q2 q => cases q with
      | cons q3 q =>
        cases q
        cases q1
        cases q2
        cases q3
        exact ⟨t, rfl, e⟩
theorem wish_bears {N : Addr → Prop} {K : PySem.W.Frag} {H : Hp} {v : V} {a b : Str} {i : Int} (h : Dq N K H v (.tuple [.str a, .str b, .int i])) : ∃ t, v = .ref t ∧ SqT K H t [.str a, .str b, .int i] := by
  obtain ⟨t, vs, rfl, e, q⟩ := dq_tup_inv h
  cases q with
  | cons q1 q => cases q with
    | cons q2 q => cases q with
      | cons q3 q =>
        cases q
        cases q1
        cases q2
        cases q3
        exact ⟨t, rfl, e⟩
theorem vstr_dec (a b : Str) : decide (V.str a = V.str b) = decide (a = b) := decide_eq_decide.mpr ⟨fun h => by injection h, fun h => by rw [h]⟩
theorem open_mem {x : HallH} {rs ps : List Str} {d : DoorH} (nd : (x.doors.map DoorH.name).Nodup) (h : d ∈ x.doors) : decide (d.name ∈ openL x rs ps) = openB (borneH x rs ps none) d := by
  rw [Bool.eq_iff_iff, decide_eq_true_iff]
  unfold openL
  rw [List.mem_map]
  constructor
  · rintro ⟨e, he, en⟩
    obtain ⟨h1, h2⟩ := List.mem_filter.mp he
    have f1 := find_name nd h
    have f2 := find_name nd h1
    rw [en] at f2
    rw [f1] at f2
    rw [Option.some.inj f2]
    exact h2
  · exact fun ho => ⟨d, List.mem_filter.mpr ⟨h, ho⟩, rfl⟩
theorem off_any {ns : List Str} {r : Str} (h : r ∉ ns) : ns.any (fun y => decide (y = r)) = false := List.any_eq_false.mpr fun y hy e => h (by rw [← of_decide_eq_true e]; exact hy)
theorem tOnly_wish (g : WishH) : tOnly g.data = true := by cases g <;> rfl
theorem tOnly_goal (gs : List WishH) : tOnly (goalD gs) = true := by
  unfold goalD
  rw [tOnly, tOnly_map tOnly_wish]
theorem wish_lay {sr sd ss sw : Nat} {x : HallH} {g : WishH} (ok : HallOk sr sd ss sw x) (h : WishOk x g) : g.data.canLay0 = true := by
  have nk := ok.n2
  unfold HallH.names at nk
  have so : ∀ {z : Str}, NameOk z → PyData.strOk z = true := fun h => name_ok h
  cases h with
  | opn h => simp only [WishH.data, PyData.canLay0, PyData.canLayAll0, so h, Bool.and_self, Bool.and_true]; decide +kernel
  | atw h hr => simp only [WishH.data, PyData.canLay0, PyData.canLayAll0, so (nk _ (List.mem_append_right _ (List.mem_append_left _ h))), so hr, Bool.and_self, Bool.and_true]; decide +kernel
  | bears h => simp only [WishH.data, PyData.canLay0, PyData.canLayAll0, so (nk _ (List.mem_append_left _ h)), Bool.and_self, Bool.and_true]; decide +kernel
  | put hw h hq =>
    rcases hw with rfl | rfl
    · simp only [WishH.data, PyData.canLay0, PyData.canLayAll0, so (nk _ (List.mem_append_right _ (List.mem_append_right _ (List.mem_append_left _ h)))), so hq, Bool.and_self, Bool.and_true]; decide +kernel
    · simp only [WishH.data, PyData.canLay0, PyData.canLayAll0, so (nk _ (List.mem_append_right _ (List.mem_append_right _ (List.mem_append_left _ h)))), so hq, Bool.and_self, Bool.and_true]; decide +kernel
theorem wish_depth (g : WishH) : g.data.depth = 1 := by
  cases g <;> simp [WishH.data, PyData.depth, PyData.depthAll]
theorem wishes_lay {sr sd ss sw : Nat} {x : HallH} (ok : HallOk sr sd ss sw x) : ∀ {gs : List WishH}, (∀ g ∈ gs, WishOk x g) → PyData.canLayAll0 (gs.map WishH.data) = true ∧ PyData.depthAll (gs.map WishH.data) ≤ 1
  | [], _ => ⟨rfl, by simp [PyData.depthAll]⟩
  | g :: gs, h => by
    obtain ⟨h1, h2⟩ := wishes_lay ok (gs := gs) fun z hz => h z (List.mem_cons_of_mem _ hz)
    have h3 := wish_depth g
    have h4 := wish_lay ok (h g List.mem_cons_self)
    rw [List.map_cons]
    constructor
    · simp only [PyData.canLayAll0, h1, h4, Bool.and_true]
    · simp only [PyData.depthAll]
      omega
theorem wishes_shaped {sr sd ss sw : Nat} {x : HallH} (ok : HallOk sr sd ss sw x) {gs : List WishH} (h : ∀ g ∈ gs, WishOk x g) : SeqAt.shaped (.list (gs.map WishH.data)) = true := shaped_list (wishes_lay ok h).1 (by have := (wishes_lay ok h).2; omega)
theorem noDict_wishes : ∀ gs : List WishH, PyData.hasDictAll (gs.map WishH.data) = false
  | [] => rfl
  | g :: gs => by
    rw [List.map_cons]
    have e : g.data.hasDict = false := by cases g <;> rfl
    simp only [PyData.hasDictAll, noDict_wishes gs, e, Bool.or_false]
theorem none_off (f : WishH → Bool) (gs : List WishH) : (gs.filter fun g => !f g).isEmpty = gs.all f := by
  induction gs with
  | nil => rfl
  | cons g gs ih =>
    cases h : f g with
    | true =>
      rw [List.filter_cons_of_neg (by simp [h]), ih, List.all_cons, h, Bool.true_and]
    | false =>
      rw [List.filter_cons_of_pos (by simp [h]), List.all_cons, h]
      rfl
theorem eqv_nilT (ds : List PyData) : PyData.eqv (.list ds) (.list []) = ds.isEmpty := by
  cases ds with
  | nil => simp [PyData.eqv, PyData.eqvAll]
  | cons a b => simp [PyData.eqv, PyData.eqvAll]
theorem DqAll.takeT {N : Addr → Prop} {K : PySem.W.Frag} {H : Hp} : ∀ {k : Nat} {vs : List V} {ds : List PyData}, DqAll N K H vs ds → DqAll N K H (vs.take k) (ds.take k)
  | 0, _, _, _ => by rw [List.take_zero, List.take_zero]; exact .nil
  | k + 1, _, _, .nil => .nil
  | k + 1, _, _, .cons a r => .cons a (DqAll.takeT r)
theorem DqAll.dropT {N : Addr → Prop} {K : PySem.W.Frag} {H : Hp} : ∀ {k : Nat} {vs : List V} {ds : List PyData}, DqAll N K H vs ds → DqAll N K H (vs.drop k) (ds.drop k)
  | 0, _, _, h => h
  | k + 1, _, _, .nil => .nil
  | k + 1, _, _, .cons a r => DqAll.dropT (k := k) r
end Wd

set_option Elab.async false
set_option linter.all false
set_option maxRecDepth 100000
set_option maxHeartbeats 4000000
namespace Wd
open PySem PySem.Spec PyProof.Rows L2
abbrev s__law_wish : Stmt := topS 22
theorem sc__law_wish : FnScope ["pen", "hall", "room", "folk", "some", "stone", "one"] ["pen", "hall"] (C8.fnScope s__law_wish) := ⟨rfl, rfl, rfl, by decide +kernel, rfl, by decide +kernel, by decide +kernel⟩
section
variable {P : Program} {w : World} {K : PySem.W.Frag} {mg : Str → Option Value} {base : Heap}
theorem Kp.mut {p l : Addr} {H H' : Hp} {o : HO} (k : Kp p H H') (n : H l = none) : Kp p H (upd H' l o) := fun b u nb e => by rw [upd_ne (fun z => by rw [z, n] at e; cases e)]; exact k b u nb e
/-- the wishes told so far, in a list of their own -/
structure Wsh (K : PySem.W.Frag) (H0 : Hp) (p sl lf : Addr) (qc : Addr × List Int) (n b : Nat) (x : HallH) (Z : Hp) : Prop where
  kp : Kp p H0 Z
  pen : Pen K Z p qc n
  fo : Z lf = some (.lst ((x.walkers.map WalkH.name).map V.str))
  nl : H0 sl = none
  ws : ∃ (ws : List V) (gs : List WishH), Z sl = some (.lst ws) ∧ DqAll anyA K Z ws (gs.map WishH.data) ∧ (∀ g ∈ gs, WishOk x g) ∧ ws.length ≤ b ∧ 0 < ws.length
theorem Wsh.kpp {K : PySem.W.Frag} {H0 : Hp} {p sl lf : Addr} {qc : Addr × List Int} {n n' b : Nat} {x : HallH} {Z Z' : Hp} (a : Wsh K H0 p sl lf qc n b x Z) (k : Kp p Z Z') (pen : Pen K Z' p qc n') : Wsh K H0 p sl lf qc n' b x Z' := by
  obtain ⟨t', r', e, _⟩ := id a.pen
  have ne : ∀ {l : Addr} {xs : List V}, Z l = some (.lst xs) → l ≠ p := fun h z => by rw [z, e] at h; cases h
  obtain ⟨ws, gs, h1, h2, h3⟩ := a.ws
  exact ⟨a.kp.trans k, pen, k _ _ (ne a.fo) a.fo, a.nl, ws, gs, k _ _ (ne h1) h1, DqAll.moveT (fun _ z => z) (fun b xs _ h => ExtM.sqT2 e (ExtM.kp k) b xs h) _ _ (tOnly_map tOnly_wish _) h2, h3⟩
theorem Wsh.same {K : PySem.W.Frag} {H0 : Hp} {p sl lf : Addr} {qc : Addr × List Int} {n b : Nat} {x : HallH} {Z Z' : Hp} (a : Wsh K H0 p sl lf qc n b x Z) (k : Same Z Z') : Wsh K H0 p sl lf qc n b x Z' := by
  obtain ⟨ws, gs, h1, h2, h3⟩ := a.ws
  exact ⟨a.kp.same k, a.pen.same k, k _ _ a.fo, a.nl, ws, gs, k _ _ h1, DqAll.mono k h2, h3⟩
theorem Wsh.add {K : PySem.W.Frag} {H0 : Hp} {p sl lf : Addr} {qc : Addr × List Int} {n b n0 : Nat} {x : HallH} {Z : Hp} (a : Wsh K H0 p sl lf qc n b x Z) (pen0 : Pen K H0 p qc n0) {vs : List V} {gs : List WishH} (dq : DqAll anyA K Z vs (gs.map WishH.data)) (ok : ∀ g ∈ gs, WishOk x g) (ne : lf ≠ sl) {ws : List V} (e : Z sl = some (.lst ws)) : Wsh K H0 p sl lf qc n (b + vs.length) x (upd Z sl (.lst (ws ++ vs))) := by
  obtain ⟨ws', gs', h1, h2, h3, h4, h5⟩ := a.ws
  have ew : ws' = ws := by rw [e] at h1; injection h1 with h1; injection h1 with h1; exact h1.symm
  subst ew
  refine ⟨a.kp.mut a.nl, a.pen.wr pen0 a.nl, by rw [upd_ne ne]; exact a.fo, a.nl, ws' ++ vs, gs' ++ gs, upd_same, ?_, fun g hg => ?_, by rw [List.length_append]; omega, by rw [List.length_append]; omega⟩
  · rw [List.map_append]
    refine DqAll.moveT (fun _ z => z) (fun a xs _ h => sqT_lst e h) _ _ ?_ (DqAll.append h2 dq)
    rw [← List.map_append]
    exact tOnly_map tOnly_wish _
  · rcases List.mem_append.mp hg with hg | hg
    · exact h3 g hg
    · exact ok g hg
theorem dq_three {K : PySem.W.Frag} {Z : Hp} {u : Addr} {a b c : Str} (e : SqT K Z u [.str a, .str b, .str c]) : Dq anyA K Z (.ref u) (.tuple [.str a, .str b, .str c]) := .tup trivial e (.cons (.str a) (.cons (.str b) (.cons (.str c) .nil)))
def spWish (K : PySem.W.Frag) : Sp := fun vs H Q _ => ∃ (p h : Addr) (qc : Addr × List Int) (n sr sd ss sw : Nat) (x : HallH), vs = [.ref p, .ref h] ∧ Pen K H p qc n ∧ n < 900000 ∧ HallAt (· ≠ p) K H h x ∧ HallOk sr sd ss sw x ∧ sr ≤ 60 ∧ sd ≤ 60 ∧ ss ≤ 60 ∧ sw ≤ 60 ∧
  ∀ v g H', Kp p H H' → Pen K H' p qc (n + 12) → Dq anyA K H' v g.data → WishOk x g → Q v H'
theorem c_wish {c : CA} (T : Txt P w K mg base c) (c_law_draw : C8.Cal P w K mg base 1 "_law_draw" (spDraw K) []) (c_law_pick : C8.Cal P w K mg base 2 "_law_pick" (spPick K) []) {f : Addr} {fd : FuncData} (F : C8.Def K mg "_law_wish" s__law_wish f fd) (b : Binds K fd ["pen", "hall"] []) : C8.Cal P w K mg base 3 "_law_wish" (spWish K) [] := by
  refine C8.cal0 F b .nil sc__law_wish (fun vs H Q E h => ?_) (fun cdv A outer s H vs Q E hr h => ?_)
  · obtain ⟨p, h, qc, n, sr, sd, ss, sw, x, rfl, _⟩ := h
    rfl
  · obtain ⟨p, h, qc, n, sr, sd, ss, sw, x, rfl, pen, hn, ha, ok, b1, b2, b3, b4, q⟩ := h
    have hu := hu_of hr
    have hu6 := hu64 hr
    refine ⟨_, (C8.pss_cut (ps_par (i := 2) (j := 3) rfl sc__law_wish.nd rfl rfl (by decide) rfl rfl (pa_cons (C8.pe_c c_law_pick hr (by decide) (by rfl) (pa_cons (pv 0) (pa_cons (pe_dget hu (pv 1) pe_str (fun _ _ => rfl)) pa_nil))) (pa_cons (pe_lc (own := [("one", 6)]) rfl sc__law_wish.nd (pi_listK (K := K) (pe_dget hu (pv 1) pe_str (fun _ _ => rfl))) (blkOk_by (by kernel_rfl)) (fun _ _ _ _ _ => (pg_name (i := 6) sc__law_wish.nd rfl (.inl rfl))) (fun _ _ _ _ _ => pts_nil)
      (fun _ _ _ _ _ => (pe_ix (ixG (K := K)) (pv 6) pe_int (fun _ _ => rfl)))) pa_nil)) rfl)
  (C8.pss_cut (ps_set (i := 4) sc__law_wish.nd rfl (.inl rfl) (pe_lst (pa_cons (pe_tup (pa_cons pe_str (pa_cons (C8.pe_c c_law_pick hr (by decide) (by rfl) (pa_cons (pv 0) (pa_cons (pv 3) pa_nil))) (pa_cons (pv 2) pa_nil)))) (pa_cons (pe_tup (pa_cons pe_str (pa_cons (C8.pe_c c_law_pick hr (by decide) (by rfl) (pa_cons (pv 0) (pa_cons (pv 3) pa_nil))) (pa_cons (pv 2) pa_nil)))) pa_nil))))
  (pss_cons (ps_expr (pe_bm PySem.F.plainAttrs_list PySem.F.slot_list_append PySem.F.type_list_append mt_append (pv 4) (pa_cons (pe_tup (pa_cons pe_str (pa_cons (pv 2) (pa_cons (pe_ix (ixG (K := K)) (pe_lst (pa_cons pe_int (pa_cons pe_int (pa_cons pe_int (pa_cons pe_int (pa_cons pe_int pa_nil)))))) (C8.pe_c c_law_draw hr (by decide) (by rfl) (pa_cons (pv 0) (pa_cons pe_int pa_nil))) (fun _ _ => rfl)) pa_nil)))) pa_nil)))
  (pss_cons (ps_expr (pe_bm PySem.F.plainAttrs_list PySem.F.slot_list_append PySem.F.type_list_append mt_append (pv 4) (pa_cons (pe_tup (pa_cons pe_str (pa_cons (C8.pe_c c_law_pick hr (by decide) (by rfl) (pa_cons (pv 0) (pa_cons (pe_op (op_addG (K := K)) (pe_callB (call_sortedD rfl) (by rfl) T.b_sorted bt_sorted (pa_cons (pe_dget hu (pv 1) pe_str (fun _ _ => rfl)) pa_nil)) (pe_lst (pa_cons pe_str pa_nil))) pa_nil))) pa_nil))) pa_nil)))
  (pss_cons (ps_for PassesOwn.never rfl (pi_listK (K := K) (pe_slice (sl_any (K := K)) (pe_callB (call_sortedD rfl) (by rfl) T.b_sorted bt_sorted (pa_cons (pe_dget hu (pv 1) pe_str (fun _ _ => rfl)) pa_nil)) po_none (po_some pe_int))) (pg_name (i := 5) sc__law_wish.nd rfl (.inl rfl))
    (pss_one (ps_expr (pe_bm PySem.F.plainAttrs_list PySem.F.slot_list_extend PySem.F.type_list_extend mt_extend (pv 4) (pa_cons (pe_lst (pa_cons (pe_tup (pa_cons pe_str (pa_cons (pv 5) (pa_cons (pv 2) pa_nil)))) (pa_cons (pe_tup (pa_cons pe_str (pa_cons (pv 5) (pa_cons (C8.pe_c c_law_pick hr (by decide) (by rfl) (pa_cons (pv 0) (pa_cons (pv 3) pa_nil))) pa_nil)))) pa_nil))) pa_nil)))))
  (pss_one (ps_ret (C8.pe_c c_law_pick hr (by decide) (by rfl) (pa_cons (pv 0) (pa_cons (pv 4) pa_nil)))))))))), ?_⟩
    obtain ⟨dA, st, wl, rA, dkv, wvs, n1, n2, n3, n4, n5, h1, h2, h3, h4, h5, h6, h7⟩ := id ha
    have nd := ok.n1
    have nk := ok.n2
    unfold HallH.names at nd nk
    have wl2 : x.walkers.length ≤ 60 := Nat.le_trans ok.w2 b4
    have sl2 : x.stones.length ≤ 60 := Nat.le_trans ok.s2 b3
    have dl2 : x.doors.length ≤ 60 := Nat.le_trans ok.d2 b2
    have rl2 : x.rooms.length ≤ 60 := Nat.le_trans ok.r2 b1
    have rl1 := ok.r1
    have wl1 := ok.w1
    have wvl : wvs.length = x.walkers.length := by rw [h6.length, List.length_map]
    have rnk : ∀ y ∈ x.rooms, NameOk y := fun y hy => nk y (List.mem_append_left _ hy)
    have wnk : ∀ y ∈ x.walkers.map WalkH.name, NameOk y := fun y hy => nk y (List.mem_append_right _ (List.mem_append_left _ hy))
    have dnk : ∀ y ∈ x.doors.map DoorH.name, NameOk y := fun y hy => nk y (List.mem_append_right _ (List.mem_append_right _ (List.mem_append_right _ hy)))
    have hallK : ∀ {Z : Hp}, Kp p H Z → HallAt (· ≠ p) K Z h x := fun k => by
      obtain ⟨t2, r2, eP2, _⟩ := id pen
      exact HallAt.extM eP2 (ExtM.kp k) ha
    -- room, folk
    refine ⟨fun σ Z => ∃ (r : Str) (lf : Addr), σ = [some (.ref p), some (.ref h), some (.str r), some (.ref lf), none, none, none] ∧ r ∈ x.rooms ∧ Kp p H Z ∧ Pen K Z p qc (n + 1) ∧ Z lf = some (.lst ((x.walkers.map WalkH.name).map V.str)), ?_, ?_⟩
    · refine ⟨.ref p, rfl, .ref h, rfl, h, .ref rA, rfl, DGet.k (k := .inr "rooms") h1, p, .ref rA, qc, n, _, rfl, pen, by omega, .inl ⟨rA, rfl, n5, .inl (.inl (.inl h7))⟩, by rw [List.length_map]; exact rl1, by rw [List.length_map]; omega, fun u Z hu2 kZ penZ => ?_⟩
      obtain ⟨r, hr, rfl⟩ := List.mem_map.mp hu2
      have h5' := kZ _ _ n4 h5
      refine ⟨.ref h, rfl, h, .ref wl, rfl, DGet.k (k := .inr "walkers") (kZ _ _ n1 h1), wl, rfl, ⟨_, .inl (.inl h5')⟩, fun l4 nl4 => ?_⟩
      have h6' : DqAll (· ≠ p) K Z wvs (x.walkers.map WalkH.data) := by
        obtain ⟨t2, r2, eP2, _⟩ := id pen
        exact DqAll.moveT (fun _ z => z) (fun b xs _ h => ExtM.sqT2 eP2 (ExtM.kp kZ) b xs h) _ _ (tOnly_map tOnly_walk _) h6
      refine lc_it (walk_list (a := wl) (xs := wvs)) (fun k Y => Same Z Y ∧ Y l4 = some (.lst (((x.walkers.take k).map WalkH.name).map V.str))) ⟨same_new nl4, upd_same⟩ (fun k Y _ pv => .inl (.inl (pv.1 _ _ h5'))) (fun k u Y Y' hk pv hy => ?_) (fun Y pv => ?_)
      · obtain ⟨sY, z1⟩ := pv
        obtain ⟨rfl, hv⟩ := hy
        obtain ⟨dd, hdd, dqv⟩ := h6'.get hv
        rw [List.getElem?_map] at hdd
        obtain ⟨zz, hzz, rfl⟩ := Option.map_eq_some_iff.mp hdd
        obtain ⟨t1, rfl, nt, et⟩ := walk_inv dqv
        refine ⟨rfl, yes_if ⟨.ref t1, by kernel_rfl, .inr (.inl ⟨t1, _, 0, _, rfl, rfl, same_sqT sY et, rfl, _, z1, by rw [List.length_map, List.length_map, List.length_take, sizeLine_eq]; omega, same_mut sY nl4, ?_⟩)⟩⟩
        rw [upd_same, take_snoc hzz, List.map_append, List.map_append]
        rfl
      obtain ⟨sY, z1⟩ := pv
      rw [wvl, List.take_length] at z1
      exact ⟨_, _, rfl, r, l4, rfl, hr, kZ.same sY, penZ.same sY, z1⟩
    rintro σ1 G1 ⟨r, lf, rfl, rin, k1, pen1, ef⟩
    have pl : ∀ {Z : Hp} {m : Nat} {l : Addr} {xs : List V}, Pen K Z p qc m → Z l = some (.lst xs) → l ≠ p := fun pe e z => by
      obtain ⟨t2, r2, eP2, _⟩ := pe
      rw [z, eP2] at e
      cases e
    have lfp := pl pen1 ef
    -- one of the folk
    have folk : ∀ {Z : Hp} {m : Nat} {Q' : VK}, Pen K Z p qc m → m < 1000000 → Z lf = some (.lst ((x.walkers.map WalkH.name).map V.str)) → (∀ (nm : Str) Z', nm ∈ x.walkers.map WalkH.name → Kp p Z Z' → Pen K Z' p qc (m + 1) → Q' (.str nm) Z') → spPick K [.ref p, .ref lf] Z Q' C8.E0 := fun pe hm e q' => by
      refine ⟨p, .ref lf, qc, _, _, rfl, pe, hm, .inl ⟨lf, rfl, lfp, .inl (.inl (.inl e))⟩, by rw [List.length_map, List.length_map]; omega, by rw [List.length_map, List.length_map]; omega, fun u Z' hu2 kZ penZ => ?_⟩
      obtain ⟨nm, hnm, rfl⟩ := List.mem_map.mp hu2
      exact q' nm Z' hnm kZ penZ
    -- two wishes
    refine ⟨fun σ Z => ∃ sl : Addr, σ = [some (.ref p), some (.ref h), some (.str r), some (.ref lf), some (.ref sl), none, none] ∧ Wsh K H p sl lf qc (n + 3) 2 x Z ∧ lf ≠ sl, ?_, ?_⟩
    · refine ⟨.ref p, rfl, .ref lf, rfl, folk pen1 (by omega) ef fun a1 Z1 ha1 kZ1 penZ1 => ?_⟩
      refine ⟨.str r, rfl, by show 3 ≤ sizeLine; decide, fun u1 nu1 => ?_⟩
      have s1 := same_new nu1 (o := .tup [.str (Str.ofString "at"), .str a1, .str r])
      have e1 : (upd Z1 u1 (.tup [.str (Str.ofString "at"), .str a1, .str r])) u1 = some (.tup [.str (Str.ofString "at"), .str a1, .str r]) := upd_same
      have ef1 := s1 _ _ (kZ1 _ _ lfp ef)
      have k2 := (k1.trans kZ1).same s1
      have pen2 := penZ1.same s1
      generalize upd Z1 u1 (.tup [.str (Str.ofString "at"), .str a1, .str r]) = Z2 at s1 e1 ef1 k2 pen2
      refine ⟨.ref p, rfl, .ref lf, rfl, folk pen2 (by omega) ef1 fun a2 Z3 ha2 kZ3 penZ3 => ?_⟩
      refine ⟨.str r, rfl, by show 3 ≤ sizeLine; decide, fun u2 nu2 => ?_⟩
      have s2 := same_new nu2 (o := .tup [.str (Str.ofString "at"), .str a2, .str r])
      have e2 : (upd Z3 u2 (.tup [.str (Str.ofString "at"), .str a2, .str r])) u2 = some (.tup [.str (Str.ofString "at"), .str a2, .str r]) := upd_same
      have u1p : u1 ≠ p := fun z => by
        obtain ⟨t2, r2, eP2, _⟩ := id pen2
        rw [z, eP2] at e1
        cases e1
      have e1' := s2 _ _ (kZ3 _ _ u1p e1)
      have ef2 := s2 _ _ (kZ3 _ _ lfp ef1)
      have k3 := (k2.trans kZ3).same s2
      have pen3 := penZ3.same s2
      clear s1 s2 k2 pen2
      generalize upd Z3 u2 (.tup [.str (Str.ofString "at"), .str a2, .str r]) = Z4 at e1' e2 ef2 k3 pen3
      refine ⟨by show 2 ≤ sizeLine; decide, fun sl nsl => ?_⟩
      have s3 := same_new nsl (o := .lst [.ref u1, .ref u2])
      have nslH : H sl = none := by
        cases e : H sl with
        | none => rfl
        | some u =>
          by_cases c : sl = p
          · exact absurd c (pen3.off nsl)
          · rw [k3 _ _ c e] at nsl; cases nsl
      refine ⟨sl, rfl, ⟨k3.same s3, pen3.same s3, s3 _ _ ef2, nslH, [.ref u1, .ref u2], [.atw a1 r, .atw a2 r], upd_same, .cons (dq_three (.inl (.inl (s3 _ _ e1')))) (.cons (dq_three (.inl (.inl (s3 _ _ e2)))) .nil), fun g hg => ?_, Nat.le_refl _, Nat.succ_pos _⟩, fun z => by rw [← z, ef2] at nsl; cases nsl⟩
      rcases List.mem_cons.mp hg with rfl | hg
      · exact .atw ha1 (rnk r rin)
      · rw [List.mem_singleton.mp hg]
        exact .atw ha2 (rnk r rin)
    rintro σ2 G2 ⟨sl, rfl, W2, lfs⟩
    clear k1 pen1 ef
    -- what a room bears
    obtain ⟨ws2, gs2, ew2, _⟩ := id W2.ws
    refine ⟨.ref sl, rfl, .inl ⟨rfl, _, .inl (.inl ew2)⟩, .str r, rfl, by show 5 ≤ sizeLine; decide, fun il nil => ?_⟩
    have s1 := same_new nil (o := .lst [.int 0, .int 1, .int 2, .int 5, .int 9999999])
    have W3 := W2.same s1
    have eil : (upd G2 il (.lst [.int 0, .int 1, .int 2, .int 5, .int 9999999])) il = some (.lst [.int 0, .int 1, .int 2, .int 5, .int 9999999]) := upd_same
    clear W2 ew2 s1
    generalize upd G2 il (.lst [.int 0, .int 1, .int 2, .int 5, .int 9999999]) = G3 at W3 eil
    refine ⟨.ref p, rfl, p, qc, 5, n + 3, rfl, W3.pen, by omega, by decide, by decide, fun dd Z d0 d1 kZ penZ => ?_⟩
    have eil := kZ _ _ (pl W3.pen eil) eil
    have W4 := W3.kpp kZ penZ
    obtain ⟨i0, hi0⟩ : ∃ i0 : Int, atI [V.int 0, .int 1, .int 2, .int 5, .int 9999999] dd = some (.int i0) := by
      have hd5 : dd = 0 ∨ dd = 1 ∨ dd = 2 ∨ dd = 3 ∨ dd = 4 := by omega
      rcases hd5 with rfl | rfl | rfl | rfl | rfl <;> exact ⟨_, rfl⟩
    refine .inl ⟨il, _, dd, _, rfl, rfl, .inl (.inl eil), hi0, by show 3 ≤ sizeLine; decide, fun u nu => ?_⟩
    have s2 := same_new nu (o := .tup [.str (Str.ofString "bears"), .str r, .int i0])
    have eu : (upd Z u (.tup [.str (Str.ofString "bears"), .str r, .int i0])) u = some (.tup [.str (Str.ofString "bears"), .str r, .int i0]) := upd_same
    have W5 := W4.same s2
    clear W3 W4 s2 eil
    generalize upd Z u (.tup [.str (Str.ofString "bears"), .str r, .int i0]) = G5 at W5 eu
    obtain ⟨ws5, gs5, ew5, _, _, wl5, _⟩ := id W5.ws
    refine ⟨sl, ws5, .ref u, rfl, rfl, ew5, by rw [sizeLine_eq]; omega, ?_⟩
    have W6 := W5.add pen (vs := [.ref u]) (gs := [.bears r i0]) (.cons (.tup trivial (.inl (.inl eu)) (.cons (.str _) (.cons (.str _) (.cons (.int _) .nil)))) .nil) (fun g hg => by rw [List.mem_singleton.mp hg]; exact .bears rin) lfs ew5
    clear W5 ew5
    generalize upd G5 sl (.lst (ws5 ++ [.ref u])) = G6 at W6
    have W6 : Wsh K H p sl lf qc (n + 4) 3 x G6 := W6
    -- a door open
    obtain ⟨ws6, gs6, ew6, _⟩ := id W6.ws
    have h1' := W6.kp _ _ n1 h1
    have h2' := W6.kp _ _ n2 h2
    have dkeys : dkv.map (·.1) = (x.doors.map DoorH.name).map Sum.inr := by
      rw [doorsKv_keys h3, List.map_map]
      rfl
    refine ⟨.ref sl, rfl, .inl ⟨rfl, _, .inl (.inl ew6)⟩, .ref p, rfl, .ref h, rfl, h, .ref dA, rfl, DGet.k (k := .inr "doors") h1', dA, dkv, x.doors.map DoorH.name, rfl, .inl h2', dkeys, by rw [List.length_map]; omega, fun ys l7 perm srt n7 => ?_⟩
    have ey : ys = x.doors.map DoorH.name := sort_texts srt ok.d3 perm
    subst ey
    have s7 := same_new n7 (o := .lst ((x.doors.map DoorH.name).map V.str))
    refine ⟨by show 1 ≤ sizeLine; decide, fun l8 n8 => ?_⟩
    have s8 := same_new n8 (o := .lst [.str (Str.ofString "nodoor")])
    refine .inl ⟨l7, l8, _, _, rfl, rfl, s8 _ _ upd_same, upd_same, by rw [List.length_map, List.length_map, sizeLine_eq]; show _ + 1 ≤ _; omega, fun l9 n9 => ?_⟩
    have s9 := same_new n9 (o := .lst ((x.doors.map DoorH.name).map V.str ++ [.str (Str.ofString "nodoor")]))
    have W9 := ((W6.same s7).same s8).same s9
    have e9 : (upd (upd (upd G6 l7 (.lst ((x.doors.map DoorH.name).map V.str))) l8 (.lst [.str (Str.ofString "nodoor")])) l9 (.lst ((x.doors.map DoorH.name).map V.str ++ [.str (Str.ofString "nodoor")]))) l9 = some (.lst ((x.doors.map DoorH.name ++ [Str.ofString "nodoor"]).map V.str)) := by rw [upd_same, List.map_append]; rfl
    clear W6 ew6 s7 s8 s9
    generalize upd (upd (upd G6 l7 (.lst ((x.doors.map DoorH.name).map V.str))) l8 (.lst [.str (Str.ofString "nodoor")])) l9 (.lst ((x.doors.map DoorH.name).map V.str ++ [.str (Str.ofString "nodoor")])) = G9 at W9 e9
    refine ⟨p, .ref l9, qc, n + 4, _, rfl, W9.pen, by omega, .inl ⟨l9, rfl, pl W9.pen e9, .inl (.inl (.inl e9))⟩, by rw [List.length_map, List.length_append]; exact Nat.succ_pos _, by rw [List.length_map, List.length_append, List.length_map]; show _ + 1 < _; omega, fun v1 Z1 hv1 kZ1 penZ1 => ?_⟩
    obtain ⟨dn, hdn, rfl⟩ := List.mem_map.mp hv1
    have dnok : NameOk dn := by
      rcases List.mem_append.mp hdn with hd | hd
      · exact dnk _ hd
      · rw [List.mem_singleton.mp hd]; decide +kernel
    have W10 := W9.kpp kZ1 penZ1
    refine ⟨by show 2 ≤ sizeLine; decide, fun u2 nu2 => ?_⟩
    have s2 := same_new nu2 (o := .tup [.str (Str.ofString "open"), .str dn])
    have eu2 : (upd Z1 u2 (.tup [.str (Str.ofString "open"), .str dn])) u2 = some (.tup [.str (Str.ofString "open"), .str dn]) := upd_same
    have W11 := W10.same s2
    clear W9 W10 s2 e9
    generalize upd Z1 u2 (.tup [.str (Str.ofString "open"), .str dn]) = G11 at W11 eu2
    obtain ⟨ws11, gs11, ew11, _, _, wl11, _⟩ := id W11.ws
    refine ⟨sl, ws11, .ref u2, rfl, rfl, ew11, by rw [sizeLine_eq]; omega, ?_⟩
    have W12 := W11.add pen (vs := [.ref u2]) (gs := [.opn dn]) (.cons (.tup trivial (.inl (.inl eu2)) (.cons (.str _) (.cons (.str _) .nil))) .nil) (fun g hg => by rw [List.mem_singleton.mp hg]; exact .opn dnok) lfs ew11
    clear W11 ew11
    generalize upd G11 sl (.lst (ws11 ++ [.ref u2])) = G12 at W12
    have W12 : Wsh K H p sl lf qc (n + 5) 4 x G12 := W12
    -- two stones
    have h1' := W12.kp _ _ n1 h1
    have h4' := W12.kp _ _ n3 h4
    have keys : (stonesKv x.stones).map (·.1) = (x.stones.map Prod.fst).map Sum.inr := by
      unfold stonesKv
      rw [List.map_map, List.map_map]
      rfl
    refine ⟨.ref h, rfl, h, .ref st, rfl, DGet.k (k := .inr "stones") h1', st, _, x.stones.map Prod.fst, rfl, .inl h4', keys, by rw [List.length_map]; omega, fun ys l13 perm srt n13 => ?_⟩
    have ey : ys = x.stones.map Prod.fst := sort_texts srt ok.s3 perm
    subst ey
    have s13 := same_new n13 (o := .lst ((x.stones.map Prod.fst).map V.str))
    refine ⟨2, rfl, .inl ⟨l13, _, rfl, .inl (.inl upd_same), fun l14 n14 => ?_⟩⟩
    rw [cutV_to (by decide), show (2 : Int).toNat = 2 from rfl, ← List.map_take]
    have s14 := same_new n14 (o := .lst (((x.stones.map Prod.fst).take 2).map V.str))
    have W14 := (W12.same s13).same s14
    have l14s : l14 ≠ sl := fun z => by
      obtain ⟨_, _, hh, _⟩ := (W12.same s13).ws
      rw [z, hh] at n14
      cases n14
    have e14 : (upd (upd G12 l13 (.lst ((x.stones.map Prod.fst).map V.str))) l14 (.lst (((x.stones.map Prod.fst).take 2).map V.str))) l14 = some (.lst (((x.stones.map Prod.fst).take 2).map V.str)) := upd_same
    clear W12 s13 s14 h1' h4'
    generalize upd (upd G12 l13 (.lst ((x.stones.map Prod.fst).map V.str))) l14 (.lst (((x.stones.map Prod.fst).take 2).map V.str)) = G14 at W14 e14
    have e14p := pl W14.pen e14
    refine ⟨l14, rfl, ⟨_, .inl (.inl e14)⟩, ?_⟩
    refine for_list (a := l14) (xs := ((x.stones.map Prod.fst).take 2).map V.str) (fun i σ Z => ∃ d5 d6 : Option V, σ = [some (.ref p), some (.ref h), some (.str r), some (.ref lf), some (.ref sl), d5, d6] ∧ Wsh K H p sl lf qc (n + 5 + i) (4 + 2 * i) x Z ∧ Z l14 = some (.lst (((x.stones.map Prod.fst).take 2).map V.str))) ⟨_, _, rfl, W14, e14⟩ (fun i σ Z _ pv => ?_) (fun i y σ Z hi pv => ?_) (fun σ Z pv => ?_)
    · obtain ⟨_, _, _, _, e⟩ := pv
      exact .inl (.inl e)
    · obtain ⟨d5, d6, rfl, Wi, ei⟩ := pv
      rw [List.getElem?_map] at hi
      obtain ⟨s, hs, rfl⟩ := Option.map_eq_some_iff.mp hi
      have sin : s ∈ x.stones.map Prod.fst := List.mem_of_mem_take (List.mem_of_getElem? hs)
      have i2 : i < 2 := by
        have := (List.getElem?_eq_some_iff.mp hs).1
        rw [List.length_take] at this
        omega
      obtain ⟨wsA, gsA, ewA, _⟩ := id Wi.ws
      refine ⟨.ref sl, rfl, .inl ⟨rfl, _, .inl (.inl ewA)⟩, ?_⟩
      refine ⟨.str s, rfl, .str r, rfl, by show 3 ≤ sizeLine; decide, fun uA nuA => ?_⟩
      have sA := same_new nuA (o := .tup [.str (Str.ofString "lies"), .str s, .str r])
      have euA : (upd Z uA (.tup [.str (Str.ofString "lies"), .str s, .str r])) uA = some (.tup [.str (Str.ofString "lies"), .str s, .str r]) := upd_same
      have WA := Wi.same sA
      have eA := sA _ _ ei
      clear Wi ewA sA
      generalize upd Z uA (.tup [.str (Str.ofString "lies"), .str s, .str r]) = ZA at WA eA euA
      refine ⟨.str s, rfl, .ref p, rfl, .ref lf, rfl, folk WA.pen (by omega) WA.fo fun nm ZB hnm kB penB => ?_⟩
      have WB := WA.kpp kB penB
      have eB := kB _ _ e14p eA
      have uAp : uA ≠ p := fun z => by
        obtain ⟨t2, r2, eP2, _⟩ := id WA.pen
        rw [z, eP2] at euA
        cases euA
      have euB := kB _ _ uAp euA
      refine ⟨by show 3 ≤ sizeLine; decide, fun uC nuC => ?_⟩
      have sC := same_new nuC (o := .tup [.str (Str.ofString "held"), .str s, .str nm])
      have euC : (upd ZB uC (.tup [.str (Str.ofString "held"), .str s, .str nm])) uC = some (.tup [.str (Str.ofString "held"), .str s, .str nm]) := upd_same
      have WC := WB.same sC
      have eC := sC _ _ eB
      have euA' := sC _ _ euB
      clear WA WB sC eA eB euA euB
      generalize upd ZB uC (.tup [.str (Str.ofString "held"), .str s, .str nm]) = ZC at WC eC euC euA'
      refine ⟨by show 2 ≤ sizeLine; decide, fun lD nlD => ?_⟩
      have sD := same_new nlD (o := .lst [.ref uA, .ref uC])
      have elD : (upd ZC lD (.lst [.ref uA, .ref uC])) lD = some (.lst [.ref uA, .ref uC]) := upd_same
      have WD := WC.same sD
      have eD := sD _ _ eC
      have e1 := sD _ _ euA'
      have e2 := sD _ _ euC
      clear WC sD eC euC euA'
      generalize upd ZC lD (.lst [.ref uA, .ref uC]) = ZD at WD eD elD e1 e2
      obtain ⟨wsD, gsD, ewD, _, _, wlD, _⟩ := id WD.ws
      refine ⟨sl, lD, wsD, _, rfl, rfl, ewD, elD, by rw [sizeLine_eq]; show _ + 2 ≤ _; omega, ?_⟩
      have WE := WD.add pen (vs := [.ref uA, .ref uC]) (gs := [.put (Str.ofString "lies") s r, .put (Str.ofString "held") s nm]) (.cons (dq_three (.inl (.inl e1))) (.cons (dq_three (.inl (.inl e2))) .nil)) (fun g hg => by
        rcases List.mem_cons.mp hg with rfl | hg
        · exact .put (.inl rfl) sin (rnk r rin)
        · rw [List.mem_singleton.mp hg]
          exact .put (.inr rfl) sin (wnk nm hnm)) lfs ewD
      exact ⟨_, _, rfl, WE, by rw [upd_ne l14s]; exact eD⟩
    · obtain ⟨d5, d6, rfl, WF, _⟩ := pv
      have i2 : (((x.stones.map Prod.fst).take 2).map V.str).length ≤ 2 := by rw [List.length_map, List.length_take]; omega
      generalize (((x.stones.map Prod.fst).take 2).map V.str).length = i at WF i2
      obtain ⟨wsF, gsF, ewF, dqF, okF, wlF, wpF⟩ := id WF.ws
      refine ⟨.ref p, rfl, .ref sl, rfl, p, .ref sl, qc, _, wsF, rfl, WF.pen, by omega, .inl ⟨sl, rfl, pl WF.pen ewF, .inl (.inl (.inl ewF))⟩, wpF, by omega, fun v Z2 hv kZ penZ => ?_⟩
      obtain ⟨j, hj, ej⟩ := List.getElem_of_mem hv
      obtain ⟨dd, hdd, dqd⟩ := dqF.get (show wsF[j]? = some v from by rw [List.getElem?_eq_getElem hj, ej])
      rw [List.getElem?_map] at hdd
      obtain ⟨g, hg, rfl⟩ := Option.map_eq_some_iff.mp hdd
      obtain ⟨t2, r2, eP2, _⟩ := id WF.pen
      exact q v g Z2 (WF.kp.trans kZ) (penZ.le (by omega)) (Dq.moveT (fun _ z => z) (fun b xs _ h => ExtM.sqT2 eP2 (ExtM.kp kZ) b xs h) _ _ (tOnly_wish g) dqd) (okF g (List.mem_of_getElem? hg))
end
end Wd

set_option Elab.async false
set_option linter.all false
set_option maxRecDepth 100000
set_option maxHeartbeats 4000000
/-! i not in range(lo, hi). -/
namespace Wd
open PySem PySem.Spec PyProof.Rows L2 PySem.SeqAt
section
variable {X : Cx}
theorem op_notIn_rng : OpR X (compareOp .NotIn) (fun x y H Q => ∃ i a lo hi, x = V.int i ∧ y = V.ref a ∧ H a = some (.rng lo hi) ∧ Q (.bl (!decide (lo ≤ i ∧ i < hi))) H) := by
  intro pins s σ H x y v u Q I rx ry h
  obtain ⟨i, a, lo, hi, rfl, rfl, ha, q⟩ := h
  obtain ⟨k, rfl⟩ := rx
  obtain rfl : u = Value.ref a := ry
  obtain ⟨t1, t2, t3, ho⟩ := I.hok a _ ha
  show wpAny _ _ (do return Value.bool (!(← contains (Value.ref a) (Value.int i k)))) _ _ s
  refine wpAny_bind (wpAny_contains_slot (T := "range") ⟨_, ho, rfl⟩ F.slot_range_contains (call_meets F.slot_range_contains ⟨_, ho, rfl⟩ F.entry_range_contains (F.args_range_contains_2 _ _) (q_contains a lo hi i t1 t2 t3 k)
    ⟨ho, wpAny_truthy_bool (wpAny_pure ⟨.bl _, H, I, rfl, ?_⟩)⟩))
  rw [place1]
  exact q
/-- a tuple of anything against the empty one -/
def rEq0 (K : PySem.W.Frag) : R2 := fun x y H Q => ∃ (a b : Addr) (xs : List V), x = .ref a ∧ y = .ref b ∧ SqT K H a xs ∧ SqT K H b [] ∧ Q (.bl (xs.length == 0)) H
theorem op_eq0 {K : PySem.W.Frag} (hu : X.A.units + 64 < cLine) (hK : X.K = K := by rfl) : OpR X (compareOp .Eq) (rEq0 K) := by
  subst hK
  intro pins s σ H x y v u Q I rx ry h
  obtain ⟨a, b, xs, rfl, rfl, ha, hb, q⟩ := h
  obtain rfl : v = .ref a := rx
  obtain rfl : u = .ref b := ry
  obtain ⟨its, r1, p1, _⟩ := I.tuple ha
  obtain ⟨its2, r2, p2, _⟩ := I.tuple hb
  obtain rfl : its2 = [] := by cases r2; rfl
  refine eq_tupleAt (e := fun _ => true) p1 p2 (by omega) (fun j j1 j2 => absurd j2 (Nat.not_lt_zero _)) ⟨.bl _, H, I, rfl, ?_⟩
  have es : its.toArray.size = its.length := List.size_toArray
  show Q (.bl ((List.range (min its.toArray.size 0)).all (fun _ => true) && its.toArray.size == 0)) H
  rw [es, Nat.min_zero, ← r1.length]
  exact q
end
end Wd

set_option Elab.async false
set_option linter.all false
set_option maxRecDepth 100000
set_option maxHeartbeats 4000000
namespace Wd
open PySem PySem.Spec PyProof.Rows L2
abbrev s__law_every_name : Stmt := topS 23
theorem sc__law_every_name : FnScope ["hall", "found", "one"] ["hall"] (C8.fnScope s__law_every_name) := ⟨rfl, rfl, rfl, by decide +kernel, rfl, by decide +kernel, by decide +kernel⟩
abbrev s__law_deed : Stmt := topS 26
theorem sc__law_deed : FnScope ["pen", "known", "word"] ["pen", "known"] (C8.fnScope s__law_deed) := ⟨rfl, rfl, rfl, by decide +kernel, rfl, by decide +kernel, by decide +kernel⟩
section
variable {P : Program} {w : World} {K : PySem.W.Frag} {mg : Str → Option Value} {base : Heap}
theorem src_strs {xs : List Str} {p : Addr} {K : PySem.W.Frag} {H : Hp} (ok : ∀ x ∈ xs, NameOk x) : ∀ y ∈ xs.map V.str, ∃ d, Dq (· ≠ p) K H y d ∧ Plain d := fun y hy => by
  obtain ⟨x, hx, rfl⟩ := List.mem_map.mp hy
  exact ⟨.str x, .str _, rfl, by rw [PyData.canLay0]; exact (txt_name (ok x hx)).2.1, by simp [PyData.depth]⟩
theorem iteAny {c : Bool} {A B : Prop} (a : A) (b : B) : if c = true then A else B := by
  cases c
  · exact iteF b
  · exact iteT a
def everyL (x : HallH) : List Str := x.rooms ++ x.doors.map DoorH.name ++ x.stones.map Prod.fst ++ x.walkers.map WalkH.name
def spEvery (K : PySem.W.Frag) : Sp := fun vs H Q _ => ∃ (N : Addr → Prop) (h : Addr) (x : HallH) (sr sd ss sw : Nat), vs = [.ref h] ∧ HallAt N K H h x ∧ HallOk sr sd ss sw x ∧ sr ≤ 60 ∧ sd ≤ 60 ∧ ss ≤ 60 ∧ sw ≤ 60 ∧ ∀ l H', Same H H' → H l = none → H' l = some (.lst ((everyL x).map V.str)) → Q (.ref l) H'
theorem c_every {c : CA} (T : Txt P w K mg base c) {f : Addr} {fd : FuncData} (F : C8.Def K mg "_law_every_name" s__law_every_name f fd) (b : Binds K fd ["hall"] []) : C8.Cal P w K mg base 1 "_law_every_name" (spEvery K) [] := by
  refine C8.cal0 F b .nil sc__law_every_name (fun vs H Q E h => ?_) (fun cdv A outer s H vs Q E hr h => ?_)
  · obtain ⟨N, h, x, sr, sd, ss, sw, rfl, _⟩ := h
    rfl
  · obtain ⟨N, h, x, sr, sd, ss, sw, rfl, ha, ok, b1, b2, b3, b4, q⟩ := h
    have hu := hu_of hr
    have hu6 := hu64 hr
    refine ⟨_, (pss_cons (ps_set (i := 1) sc__law_every_name.nd rfl (.inl rfl) (pe_op (op_addG (K := K)) (pe_op (op_addG (K := K)) (pe_dget hu (pv 0) pe_str (fun _ _ => rfl)) (pe_callB (call_sortedD rfl) (by rfl) T.b_sorted bt_sorted (pa_cons (pe_dget hu (pv 0) pe_str (fun _ _ => rfl)) pa_nil))) (pe_callB (call_sortedD rfl) (by rfl) T.b_sorted bt_sorted (pa_cons (pe_dget hu (pv 0) pe_str (fun _ _ => rfl)) pa_nil))))
  (pss_one (ps_ret (pe_op (op_addG (K := K)) (pv 1) (pe_lc (own := [("one", 2)]) rfl sc__law_every_name.nd (pi_listK (K := K) (pe_dget hu (pv 0) pe_str (fun _ _ => rfl))) (blkOk_by (by kernel_rfl)) (fun _ _ _ _ _ => (pg_name (i := 2) sc__law_every_name.nd rfl (.inl rfl))) (fun _ _ _ _ _ => pts_nil)
      (fun _ _ _ _ _ => (pe_ix (ixG (K := K)) (pv 2) pe_int (fun _ _ => rfl)))))))), ?_⟩
    obtain ⟨dA, st, wl, rA, dkv, wvs, n1, n2, n3, n4, n5, h1, h2, h3, h4, h5, h6, h7⟩ := id ha
    have rl := ok.r2
    have dl := ok.d2
    have sl := ok.s2
    have wl2 := ok.w2
    have wvl : wvs.length = x.walkers.length := by rw [h6.length, List.length_map]
    have wget : ∀ {i : Nat} {v : V}, wvs[i]? = some v → ∃ (z : WalkH) (t : Addr), x.walkers[i]? = some z ∧ v = .ref t ∧ SqT K H t [.str z.name, .int z.heft, .int z.hands] := fun {i v} hv => by
      obtain ⟨dd, hdd, dqv⟩ := h6.get hv
      rw [List.getElem?_map] at hdd
      obtain ⟨z, hz, rfl⟩ := Option.map_eq_some_iff.mp hdd
      obtain ⟨t, rfl, nt, et⟩ := walk_inv dqv
      exact ⟨z, t, hz, rfl, et⟩
    refine ⟨.ref h, rfl, h, .ref rA, rfl, DGet.k (k := .inr "rooms") h1, ?_⟩
    have dkeys : dkv.map (·.1) = (x.doors.map DoorH.name).map Sum.inr := by
      rw [doorsKv_keys h3, List.map_map]
      rfl
    have skeys : (stonesKv x.stones).map (·.1) = (x.stones.map Prod.fst).map Sum.inr := by
      unfold stonesKv
      rw [List.map_map, List.map_map]
      rfl
    refine ⟨.ref h, rfl, h, .ref dA, rfl, DGet.k (k := .inr "doors") h1, dA, dkv, x.doors.map DoorH.name, rfl, .inl h2, dkeys, by rw [List.length_map]; omega, fun ys l1 perm srt n1 => ?_⟩
    have ey : ys = x.doors.map DoorH.name := sort_texts srt ok.d3 perm
    subst ey
    have s1 := same_new n1 (o := .lst ((x.doors.map DoorH.name).map V.str))
    have e1 : (upd H l1 (.lst ((x.doors.map DoorH.name).map V.str))) l1 = some (.lst ((x.doors.map DoorH.name).map V.str)) := upd_same
    generalize upd H l1 (.lst ((x.doors.map DoorH.name).map V.str)) = A1 at s1 e1
    refine .inl ⟨rA, l1, _, _, rfl, rfl, s1 _ _ h7, e1, by simp only [List.length_map]; rw [sizeLine_eq]; omega, fun l2 n2 => ?_⟩
    rw [← List.map_append]
    have s2 := s1.trans (same_new n2 (o := .lst ((x.rooms ++ x.doors.map DoorH.name).map V.str)))
    have e2 : (upd A1 l2 (.lst ((x.rooms ++ x.doors.map DoorH.name).map V.str))) l2 = some (.lst ((x.rooms ++ x.doors.map DoorH.name).map V.str)) := upd_same
    generalize upd A1 l2 (.lst ((x.rooms ++ x.doors.map DoorH.name).map V.str)) = A2 at s2 e2
    refine ⟨.ref h, rfl, h, .ref st, rfl, DGet.k (k := .inr "stones") (s2 _ _ h1), st, _, x.stones.map Prod.fst, rfl, .inl (s2 _ _ h4), skeys, by rw [List.length_map]; omega, fun ys l3 perm srt n3 => ?_⟩
    have ey : ys = x.stones.map Prod.fst := sort_texts srt ok.s3 perm
    subst ey
    have s3' := same_new n3 (o := .lst ((x.stones.map Prod.fst).map V.str))
    have e3 : (upd A2 l3 (.lst ((x.stones.map Prod.fst).map V.str))) l3 = some (.lst ((x.stones.map Prod.fst).map V.str)) := upd_same
    have e2 := s3' _ _ e2
    have s3 := s2.trans s3'
    generalize upd A2 l3 (.lst ((x.stones.map Prod.fst).map V.str)) = A3 at s3 e3 e2
    clear s3'
    refine .inl ⟨l2, l3, _, _, rfl, rfl, e2, e3, by simp only [List.length_map, List.length_append]; rw [sizeLine_eq]; omega, fun l4 n4 => ?_⟩
    rw [← List.map_append]
    have s4 := s3.trans (same_new n4 (o := .lst ((x.rooms ++ x.doors.map DoorH.name ++ x.stones.map Prod.fst).map V.str)))
    have e4 : (upd A3 l4 (.lst ((x.rooms ++ x.doors.map DoorH.name ++ x.stones.map Prod.fst).map V.str))) l4 = some (.lst ((x.rooms ++ x.doors.map DoorH.name ++ x.stones.map Prod.fst).map V.str)) := upd_same
    generalize upd A3 l4 (.lst ((x.rooms ++ x.doors.map DoorH.name ++ x.stones.map Prod.fst).map V.str)) = A4 at s4 e4
    refine ⟨.ref l4, rfl, .ref h, rfl, h, .ref wl, rfl, DGet.k (k := .inr "walkers") (s4 _ _ h1), wl, rfl, ⟨_, .inl (.inl (s4 _ _ h5))⟩, fun D nD => ?_⟩
    refine lc_it (walk_list (a := wl) (xs := wvs)) (fun i Z => Same A4 Z ∧ Z D = some (.lst (((x.walkers.take i).map WalkH.name).map V.str))) ⟨same_new nD, upd_same⟩ (fun i Z _ pv => .inl (.inl (pv.1 _ _ (s4 _ _ h5)))) (fun i v Z Z' hi pv hy => ?_) (fun Z pv => ?_)
    · obtain ⟨rfl, hv⟩ := hy
      obtain ⟨sZ, z1⟩ := pv
      obtain ⟨z, t, hz, rfl, et⟩ := wget hv
      rw [take_snoc hz, List.map_append, List.map_append]
      refine ⟨rfl, yes_if ⟨.ref t, by kernel_rfl, .inr (.inl ⟨t, _, 0, _, rfl, rfl, same_sqT (s4.trans sZ) et, rfl, _, z1, by rw [List.length_map, List.length_map, List.length_take, sizeLine_eq]; omega, same_mut sZ nD, upd_same⟩)⟩⟩
    · obtain ⟨sZ, z1⟩ := pv
      rw [wvl, List.take_length] at z1
      refine .inl ⟨l4, D, _, _, rfl, rfl, sZ _ _ e4, z1, by simp only [List.length_map, List.length_append]; rw [sizeLine_eq]; omega, fun l5 n5 => ?_⟩
      rw [← List.map_append]
      have s5 := sZ.trans (same_new n5 (o := .lst ((everyL x).map V.str)))
      exact q l5 _ (s4.trans s5) (s4.free (sZ.free n5)) upd_same
theorem every_nodup {sr sd ss sw : Nat} {x : HallH} (ok : HallOk sr sd ss sw x) : (everyL x).Nodup ∧ ∀ z ∈ everyL x, NameOk z := by
  have pm : (everyL x).Perm x.names := by
    unfold everyL HallH.names
    rw [List.append_assoc, List.append_assoc]
    refine List.Perm.append_left _ ?_
    rw [← List.append_assoc]
    exact List.perm_append_comm.trans (List.Perm.append_left _ List.perm_append_comm)
  exact ⟨pm.symm.nodup ok.n1, fun z hz => ok.n2 z (pm.subset hz)⟩
def spDeedL (K : PySem.W.Frag) : Sp := fun vs H Q _ => ∃ (p kl : Addr) (qc : Addr × List Int) (n : Nat) (ns : List Str), vs = [.ref p, .ref kl] ∧ Pen K H p qc n ∧ n + 2 < 1000000 ∧ H kl = some (.lst (ns.map V.str)) ∧ (∀ x ∈ ns, NameOk x) ∧ ns.length ≤ 18 ∧
  ∀ u d H', Kp p H H' → Pen K H' p qc (n + 2) → SqT K H' u (d.map V.str) → deedB d = true → (∀ s ∈ d, NameOk s) → Q (.ref u) H'
theorem c_deedL {c : CA} (T : Txt P w K mg base c) (c_law_pick : C8.Cal P w K mg base 2 "_law_pick" (spPick K) []) {f : Addr} {fd : FuncData} (F : C8.Def K mg "_law_deed" s__law_deed f fd) (b : Binds K fd ["pen", "known"] []) : C8.Cal P w K mg base 3 "_law_deed" (spDeedL K) [] := by
  refine C8.cal0 F b .nil sc__law_deed (fun vs H Q E h => ?_) (fun cdv A outer s H vs Q E hr h => ?_)
  · obtain ⟨p, kl, qc, n, ns, rfl, _⟩ := h
    rfl
  · obtain ⟨p, kl, qc, n, ns, rfl, pen, hn, ek, ok, l18, q⟩ := h
    have hu := hu_of hr
    have hu6 := hu64 hr
    refine ⟨_, (pss_cons (ps_set (i := 2) sc__law_deed.nd rfl (.inl rfl) (C8.pe_c c_law_pick hr (by decide) (by rfl) (pa_cons (pv 0) (pa_cons (pe_lst (pa_cons pe_str (pa_cons pe_str (pa_cons pe_str (pa_cons pe_str pa_nil))))) pa_nil))))
  (pss_cons (ps_if (pt_cmpR (op_eqX (K := K) hu6) (pv 2) pe_str (nomark _)) (pss_one (ps_ret (pe_tup (pa_cons (pv 2) pa_nil)))) pss_nil)
  (pss_one (ps_ret (pe_tup (pa_cons (pv 2) (pa_cons (C8.pe_c c_law_pick hr (by decide) (by rfl) (pa_cons (pv 0) (pa_cons (pe_op (op_addG (K := K)) (pv 1) (pe_lst (pa_cons pe_str (pa_cons pe_str (pa_cons pe_str (pa_cons pe_str pa_nil)))))) pa_nil))) pa_nil))))))), ?_⟩
    have klp : kl ≠ p := fun z => by
      obtain ⟨t, r, e2, _⟩ := id pen
      rw [z, e2] at ek
      cases ek
    refine ⟨.ref p, rfl, by show 4 ≤ sizeLine; decide, fun l1 n1 => ?_⟩
    have s1 := same_new n1 (o := .lst [.str (Str.ofString "go"), .str (Str.ofString "lift"), .str (Str.ofString "lay"), .str (Str.ofString "wait")])
    refine ⟨p, .ref l1, qc, n, [.str (Str.ofString "go"), .str (Str.ofString "lift"), .str (Str.ofString "lay"), .str (Str.ofString "wait")], rfl, pen.same s1, by omega, .inl ⟨l1, rfl, pen.off n1, .inl (.inl (.inl upd_same))⟩, by show 0 < 4; decide, by show 4 < 1000000; decide, fun y Z my kZ penZ => ?_⟩
    have ek := kZ _ _ klp (s1 _ _ ek)
    have k1 : Kp p H Z := Kp.trans (fun b o _ e => s1 b o e) kZ
    obtain ⟨wd, rfl, hw⟩ : ∃ wd, y = .str wd ∧ (wd = Str.ofString "wait" ∨ wd ∈ [goS, liftS, layS]) := by
      simp only [List.mem_cons, List.not_mem_nil, or_false] at my
      rcases my with rfl | rfl | rfl | rfl
      · exact ⟨_, rfl, .inr (by decide +kernel)⟩
      · exact ⟨_, rfl, .inr (by decide +kernel)⟩
      · exact ⟨_, rfl, .inr (by decide +kernel)⟩
      · exact ⟨_, rfl, .inl rfl⟩
    by_cases cw : wd = Str.ofString "wait"
    · subst cw
      refine ⟨_, rfl, .inl ⟨rfl, _, rfl, iteY rfl ?_⟩⟩
      refine ⟨_, rfl, by show 1 ≤ sizeLine; decide, fun u nu => ?_⟩
      refine q u waitD _ (k1.new nu) ((penZ.same (same_new nu)).le (by omega)) (.inl (.inl upd_same)) (by decide +kernel) fun s hs => ?_
      rw [List.mem_singleton.mp hs]
      decide +kernel
    · have hw := hw.resolve_left cw
      refine ⟨_, rfl, .inl ⟨rfl, _, rfl, iteN (fun e => cw (by injection e)) ?_⟩⟩
      refine ⟨_, rfl, .ref p, rfl, .ref kl, rfl, by show 4 ≤ sizeLine; decide, fun l2 n2 => ?_⟩
      have s2 := same_new n2 (o := .lst [.str (Str.ofString "go"), .str (Str.ofString "wait"), .str (Str.ofString "x"), .str (Str.ofString "qqqqqqqq")])
      have e2 : (upd Z l2 (.lst [.str (Str.ofString "go"), .str (Str.ofString "wait"), .str (Str.ofString "x"), .str (Str.ofString "qqqqqqqq")])) l2 = some (.lst ([Str.ofString "go", Str.ofString "wait", Str.ofString "x", Str.ofString "qqqqqqqq"].map V.str)) := upd_same
      have ek := s2 _ _ ek
      have pen2 := penZ.same s2
      have k2 : Kp p H (upd Z l2 (.lst [.str (Str.ofString "go"), .str (Str.ofString "wait"), .str (Str.ofString "x"), .str (Str.ofString "qqqqqqqq")])) := k1.new n2
      generalize upd Z l2 (.lst [.str (Str.ofString "go"), .str (Str.ofString "wait"), .str (Str.ofString "x"), .str (Str.ofString "qqqqqqqq")]) = Z2 at e2 ek pen2 k2
      refine .inl ⟨kl, l2, _, _, rfl, rfl, ek, e2, by rw [List.length_map, List.length_map, sizeLine_eq]; show ns.length + 4 ≤ _; omega, fun l3 n3 => ?_⟩
      rw [← List.map_append]
      have s3 := same_new n3 (o := .lst ((ns ++ [Str.ofString "go", Str.ofString "wait", Str.ofString "x", Str.ofString "qqqqqqqq"]).map V.str))
      refine ⟨p, .ref l3, qc, n + 1, _, rfl, pen2.same s3, by omega, .inl ⟨l3, rfl, pen2.off n3, .inl (.inl (.inl upd_same))⟩, by rw [List.length_map, List.length_append]; exact Nat.add_pos_right _ (by show 0 < 4; decide), by rw [List.length_map, List.length_append]; show ns.length + 4 < _; omega, fun y Z3 my k3 pen3 => ?_⟩
      obtain ⟨nm, hnm, rfl⟩ := List.mem_map.mp my
      have okn : NameOk nm := by
        rcases List.mem_append.mp hnm with h | h
        · exact ok nm h
        · simp only [List.mem_cons, List.not_mem_nil, or_false] at h
          rcases h with rfl | rfl | rfl | rfl <;> decide +kernel
      have okw : NameOk wd := by
        simp only [List.mem_cons, List.not_mem_nil, or_false] at hw
        rcases hw with rfl | rfl | rfl <;> decide +kernel
      refine ⟨by show 2 ≤ sizeLine; decide, fun u nu => ?_⟩
      refine q u [wd, nm] _ (((k2.trans (fun b o _ e => s3 b o e)).trans k3).new nu) (pen3.same (same_new nu)) (.inl (.inl upd_same)) ?_ fun s hs => ?_
      · show ([goS, liftS, layS].any (fun y => decide (y = wd)) && decide (NameOk nm)) = true
        rw [decide_eq_true okn, List.any_eq_true.mpr ⟨wd, hw, decide_eq_true rfl⟩]
        rfl
      · rcases List.mem_cons.mp hs with rfl | hs
        · exact okw
        · rw [List.mem_singleton.mp hs]; exact okn
end
end Wd

set_option Elab.async false
set_option linter.all false
set_option maxRecDepth 100000
set_option maxHeartbeats 4000000
namespace Wd
open PySem PySem.Spec PyProof.Rows L2
abbrev s__law_renaming : Stmt := topS 25
theorem sc__law_renaming : FnScope ["pen", "hall", "known", "way", "some", "fresh", "many", "one", "other"] ["pen", "hall"] (C8.fnScope s__law_renaming) := ⟨rfl, rfl, rfl, by decide +kernel, rfl, by decide +kernel, by decide +kernel⟩
section
variable {P : Program} {w : World} {K : PySem.W.Frag} {mg : Str → Option Value} {base : Heap}
theorem cutV_map {α : Type} {f : α → V} (xs : List α) (lo hi : Option Int) : ∃ a b, cutV (xs.map f) lo hi = ((xs.drop a).take b).map f := by
  unfold cutV
  exact ⟨_, _, by rw [← List.map_drop, ← List.map_take]⟩
theorem paired_move {K : PySem.W.Frag} {H H' : Hp} (t : ∀ a xs, SqT K H a xs → SqT K H' a xs) : ∀ {qs : List Addr} {kvs : List (Key × V)}, Paired (fun p kv => SqT K H p [kV kv.1, kv.2]) qs kvs → Paired (fun p kv => SqT K H' p [kV kv.1, kv.2]) qs kvs
  | _, _, .nil => .nil
  | _, _, .cons e q => .cons (t _ _ e) (paired_move t q)
theorem paired_same {K : PySem.W.Frag} {H H' : Hp} (s : Same H H') {qs : List Addr} {kvs : List (Key × V)} (h : Paired (fun p kv => SqT K H p [kV kv.1, kv.2]) qs kvs) : Paired (fun p kv => SqT K H' p [kV kv.1, kv.2]) qs kvs := paired_move (fun _ _ z => same_sqT s z) h
theorem paired_snoc3 {α β : Type} {F : α → β → Prop} {x : α} {y : β} : ∀ {xs : List α} {ys : List β}, Paired F xs ys → F x y → Paired F (xs ++ [x]) (ys ++ [y])
  | _, _, .nil, f => .cons f .nil
  | _, _, .cons e q, f => .cons e (paired_snoc3 q f)
def spRen (K : PySem.W.Frag) : Sp := fun vs H Q _ => ∃ (p h : Addr) (qc : Addr × List Int) (n : Nat) (x : HallH), vs = [.ref p, .ref h] ∧ Pen K H p qc n ∧ n + 200 < 1000000 ∧ HallAt (· ≠ p) K H h x ∧ HallOk 3 4 3 3 x ∧
  ∀ (a : Addr) (kvs : List (Key × V)) (H' : Hp), Kp p H H' → Pen K H' p qc (n + 200) → H' a = some (.dK kvs) → H a = none → NmD kvs → a ≠ p → Q (.ref a) H'
theorem c_ren {c : CA} (T : Txt P w K mg base c) (c_law_draw : C8.Cal P w K mg base 1 "_law_draw" (spDraw K) []) (c_law_shuffled : C8.Cal P w K mg base 2 "_law_shuffled" (spShuf K) []) (c_law_names : C8.Cal P w K mg base 3 "_law_names" (spNames K) []) (c_law_every_name : C8.Cal P w K mg base 1 "_law_every_name" (spEvery K) [])
    {f : Addr} {fd : FuncData} (F : C8.Def K mg "_law_renaming" s__law_renaming f fd) (b : Binds K fd ["pen", "hall"] []) : C8.Cal P w K mg base 4 "_law_renaming" (spRen K) [] := by
  refine C8.cal0 F b .nil sc__law_renaming (fun vs H Q E h => ?_) (fun cdv A outer s H vs Q E hr h => ?_)
  · obtain ⟨p, h, qc, n, x, rfl, _⟩ := h
    rfl
  · obtain ⟨p, h, qc, n, x, rfl, pen, hn, ha, ok, q⟩ := h
    have hu := hu_of hr
    have hu6 := hu64 hr
    refine ⟨_, (C8.pss_cut (ps_set (i := 2) sc__law_renaming.nd rfl (.inr rfl) (C8.pe_c c_law_every_name hr (by decide) (by rfl) (pa_cons (pv 1) pa_nil)))
  (C8.pss_cut (ps_set (i := 3) sc__law_renaming.nd rfl (.inl rfl) (C8.pe_c c_law_draw hr (by decide) (by rfl) (pa_cons (pv 0) (pa_cons pe_int pa_nil))))
  (C8.pss_cut (ps_set (i := 4) sc__law_renaming.nd rfl (.inl rfl) (C8.pe_c c_law_shuffled hr (by decide) (by rfl) (pa_cons (pv 0) (pa_cons (pv 2) pa_nil))))
  (pss_cons (ps_if (pt_cmpR (op_eqX (K := K) hu6) (pv 3) pe_int (nomark _)) (pss_one (ps_ret (pe_callTy (call_dictP rfl) (by rfl) T.b_dict bt_dict (pa_cons (pe_lc (own := [("one", 7), ("other", 8)]) rfl sc__law_renaming.nd (Itz.pi (K := K) (by rfl) T.b_zip (pa_cons (pv 2) (pa_cons (pv 4) pa_nil))) (blkOk_by (by kernel_rfl)) (fun _ _ _ _ _ => (pg_tupK (K := K) (n := 2) rfl (pgs_cons (pg_name (i := 7) sc__law_renaming.nd rfl (.inl rfl)) (pgs_cons (pg_name (i := 8) sc__law_renaming.nd rfl (.inl rfl)) pgs_nil)))) (fun _ _ _ _ _ => (pts_one (pt_cmpR (op_neX (K := K) hu6) (pv 7) (pv 8) (nomark _))))
      (fun _ _ _ _ _ => (pe_tup (pa_cons (pv 7) (pa_cons (pv 8) pa_nil))))) pa_nil)))) pss_nil)
  (pss_cons (ps_if (pt_cmpR (op_eqX (K := K) hu6) (pv 3) pe_int (nomark _)) (pss_one (ps_ret (pe_dictZL (K := K) rfl (by rfl) T.b_dict (by rfl) T.b_zip (pa_cons (pv 2) (pa_cons (pv 4) pa_nil))))) pss_nil)
  (pss_cons (ps_if (pt_cmpR (op_eqX (K := K) hu6) (pv 3) pe_int (nomark _)) (pss_one (ps_ret (pe_dictZL (K := K) rfl (by rfl) T.b_dict (by rfl) T.b_zip (pa_cons (pv 2) (pa_cons (C8.pe_c c_law_shuffled hr (by decide) (by rfl) (pa_cons (pv 0) (pa_cons (C8.pe_c c_law_names hr (by decide) (by rfl) (pa_cons (pv 0) (pa_cons pe_int pa_nil))) pa_nil))) pa_nil))))) pss_nil)
  (pss_cons (ps_if (pt_cmpR (op_eqX (K := K) hu6) (pv 3) pe_int (nomark _)) (pss_cons (ps_setLc (i := 5) rfl sc__law_renaming.nd rfl rfl (sw_true rfl rfl rfl (by decide +kernel)) (own := [("one", 7)]) (pi_listK (K := K) (C8.pe_c c_law_names hr (by decide) (by rfl) (pa_cons (pv 0) (pa_cons pe_int pa_nil)))) (blkOk_by (by kernel_rfl)) (fun _ _ _ _ _ => (pg_name (i := 7) sc__law_renaming.nd rfl (.inl rfl))) (fun _ _ _ _ _ => (pts_one (pt_cmpR (op_notInT (K := K) hu6) (pv 7) (pv 2) (by rfl))))
      (fun _ _ _ _ _ => (pv 7)))
  (pss_one (ps_ret (pe_dictZL (K := K) rfl (by rfl) T.b_dict (by rfl) T.b_zip (pa_cons (pe_slice (sl_any (K := K)) (pv 4) po_none (po_some (C8.pe_c c_law_draw hr (by decide) (by rfl) (pa_cons (pv 0) (pa_cons (pe_op (op_addG (K := K)) (pe_callB (call_lenG (K := K)) (by rfl) T.b_len bt_len (pa_cons (pv 4) pa_nil)) pe_int) pa_nil))))) (pa_cons (pv 5) pa_nil)))))) pss_nil)
  (pss_cons (ps_set (i := 6) sc__law_renaming.nd rfl (.inl rfl) (C8.pe_c c_law_draw hr (by decide) (by rfl) (pa_cons (pv 0) (pa_cons (pe_op (op_addG (K := K)) (pe_callB (call_lenG (K := K)) (by rfl) T.b_len bt_len (pa_cons (pv 4) pa_nil)) pe_int) pa_nil))))
  (pss_one (ps_ret (pe_dictZL (K := K) rfl (by rfl) T.b_dict (by rfl) T.b_zip (pa_cons (pe_slice (sl_any (K := K)) (pv 4) po_none (po_some (pv 6))) (pa_cons (pe_op (op_addG (K := K)) (pe_slice (sl_any (K := K)) (pv 4) (po_some pe_int) (po_some (pv 6))) (pe_slice (sl_any (K := K)) (pv 4) po_none (po_some pe_int))) pa_nil))))))))))))), ?_⟩
    obtain ⟨end_, enk⟩ := every_nodup ok
    have el13 : (everyL x).length ≤ 13 := by
      have a1 := ok.r2
      have a2 := ok.d2
      have a3 := ok.s2
      have a4 := ok.w2
      unfold everyL
      simp only [List.length_append, List.length_map]
      omega
    -- all names
    refine ⟨fun σ Z => ∃ kl : Addr, σ = [some (.ref p), some (.ref h), some (.ref kl), none, none, none, none, none, none] ∧ Same H Z ∧ H kl = none ∧ Z kl = some (.lst ((everyL x).map V.str)), ?_, ?_⟩
    · refine ⟨.ref h, rfl, ?_⟩
      dsimp only [tNil]
      exact ⟨_, h, x, 3, 4, 3, 3, rfl, ha, ok, by decide, by decide, by decide, by decide, fun l Z s1 nl el => ⟨l, rfl, s1, nl, el⟩⟩
    rintro σ1 G1 ⟨kl, rfl, s1, nk, ek⟩
    generalize everyL x = ks at end_ enk el13 ek
    refine ⟨fun σ Z => ∃ v : Nat, σ = [some (.ref p), some (.ref h), some (.ref kl), some (.int (v : Nat)), none, none, none, none, none] ∧ Kp p H Z ∧ Pen K Z p qc (n + 1) ∧ Z kl = some (.lst (ks.map V.str)), ?_, ?_⟩
    · refine ⟨.ref p, rfl, p, qc, 5, n, rfl, pen.same s1, by omega, by decide, by decide, fun d Z d0 d1 kZ penZ => ?_⟩
      obtain ⟨v, rfl⟩ := Int.eq_ofNat_of_zero_le d0
      exact ⟨v, rfl, Kp.trans (fun b o _ e => s1 b o e) kZ, penZ, kZ _ _ (pen.off nk) ek⟩
    rintro σ2 G2 ⟨v, rfl, k2, pen2, ek⟩
    have klp := pen.off nk
    clear s1
    refine ⟨fun σ Z => ∃ (sl : Addr) (ss : List Str), σ = [some (.ref p), some (.ref h), some (.ref kl), some (.int (v : Nat)), some (.ref sl), none, none, none, none] ∧ Kp p H Z ∧ Pen K Z p qc (n + 20) ∧ Z kl = some (.lst (ks.map V.str)) ∧ Z sl = some (.lst (ss.map V.str)) ∧ ss.Perm ks ∧ sl ≠ p, ?_, ?_⟩
    · refine ⟨.ref p, rfl, .ref kl, rfl, ?_⟩
      dsimp only [tNil]
      refine ⟨p, kl, qc, n + 1, _, rfl, pen2, by rw [List.length_map]; omega, .inl (.inl (.inl ek)), src_strs enk, fun l zs Z pm nl el lp kZ penZ => ?_⟩
      obtain ⟨ss, rfl, ps⟩ := perm_strs pm
      exact ⟨l, ss, rfl, k2.trans kZ, penZ.le (by rw [List.length_map]; omega), kZ _ _ klp ek, el, ps, lp⟩
    clear pen2 ek k2
    rintro σ3 G3 ⟨sl, ss, rfl, k3, pen3, ek, es, ps, slp⟩
    have okS : ∀ z ∈ ss, NameOk z := fun z hz => enk z (ps.subset hz)
    have ndS : ss.Nodup := ps.symm.nodup end_
    have lss : ss.length = ks.length := ps.length_eq
    have frH : ∀ {Z : Hp} {l : Addr} {n' : Nat}, Kp p H Z → Pen K Z p qc n' → Z l = none → H l = none := fun {Z l n'} k pz nl => by
      cases e : H l with
      | none => rfl
      | some o =>
        have := k l o (pz.off nl) e
        rw [nl] at this
        cases this
    have eki : ks.map V.str = (ks.map (Sum.inr : Str → Key)).map kV := by rw [List.map_map]; rfl
    have esi : ∀ zs : List Str, zs.map V.str = (zs.map (Sum.inr : Str → Key)).map kV := fun zs => by rw [List.map_map]; rfl
    have fin : ∀ {Z : Hp} {n' : Nat} {as bs : List Str}, Kp p H Z → Pen K Z p qc n' → n' ≤ n + 200 → as.Nodup → (∀ z ∈ bs, NameOk z) → as.length ≤ 18 → ∀ a, Z a = none → Q (.ref a) (upd Z a (.dK (mergeK [] ((as.map (Sum.inr : Str → Key)).zip (bs.map V.str))))) := fun {Z n' as bs} k pz hn' nd okb l a na => by
      obtain ⟨e, nm⟩ := nmd_zip nd okb l
      rw [e]
      exact q a _ _ (k.new na) ((pz.same (same_new na)).le hn') upd_same (frH k pz na) nm (pz.off na)
    -- way 0
    refine ⟨.int (v : Nat), rfl, .inl ⟨rfl, _, rfl, ?_⟩⟩
    by_cases c0 : v = 0
    · subst c0
      refine iteY rfl ⟨.ref kl, rfl, .ref sl, rfl, kl, sl, _, _, rfl, .inl ⟨.inl (.inl ek), .inl (.inl es), fun D nD => ?_⟩⟩
      refine lc_it (walk_zip (K := K) (a := kl) (b := sl) (xs := ks.map V.str) (ys := ss.map V.str) (n := ks.length) (by rw [List.length_map, List.length_map, lss]; omega)) (fun i Z => Same G3 Z ∧ ∃ (ps : List Addr) (kvs : List (Key × V)), Z D = some (.lst (ps.map V.ref)) ∧ Paired (fun p kv => SqT K Z p [kV kv.1, kv.2]) ps kvs ∧ (kvs.map (·.1)).Sublist ((ks.take i).map Sum.inr) ∧ ∀ z ∈ kvs, ∃ s t, z = (.inr s, .str t) ∧ NameOk t) ⟨same_new nD, [], [], upd_same, .nil, List.nil_sublist _, fun _ z => nomatch z⟩ (fun i Z _ pv => ⟨.inl (.inl (pv.1 _ _ ek)), .inl (.inl (pv.1 _ _ es))⟩) (fun i yv Z Z' hi pv hy => ?_) (fun Z pv => ?_)
      · obtain ⟨Tp, a0, y0, rfl, nT, rfl, ha0, hy0⟩ := hy
        obtain ⟨sZ, qs, kvs, z1, z2, z3, z4⟩ := pv
        dsimp only at ha0 hy0
        rw [List.getElem?_map] at ha0 hy0
        obtain ⟨ka, hka, rfl⟩ := Option.map_eq_some_iff.mp ha0
        obtain ⟨sa, hsa, rfl⟩ := Option.map_eq_some_iff.mp hy0
        have sT := same_new nT (o := .tup [.str ka, .str sa])
        have eT : (upd Z Tp (.tup [.str ka, .str sa])) Tp = some (.tup [.str ka, .str sa]) := upd_same
        have z1 := sT _ _ z1
        have z2 := paired_same sT z2
        have sZ := sZ.trans sT
        generalize upd Z Tp (.tup [.str ka, .str sa]) = Z2 at sZ eT z1 z2
        have lq : qs.length = kvs.length := Paired.length z2
        have lk : kvs.length ≤ i := by
          have := z3.length_le
          rw [List.length_map, List.length_map, List.length_take] at this
          omega
        have sub2 : ((ks.take i).map (Sum.inr : Str → Key)).Sublist ((ks.take (i + 1)).map Sum.inr) := by
          rw [take_snoc hka, List.map_append]
          exact List.sublist_append_left _ _
        refine ⟨Tp, _, rfl, .inl (.inl eT), rfl, _, _, rfl, _, _, rfl, rfl, rfl, ?_⟩
        refine ⟨.str ka, by kernel_rfl, .str sa, by kernel_rfl, .inl ⟨rfl, ?_⟩⟩
        refine ⟨_, rfl, iteAny ?_ ?_⟩
        · refine ⟨.str ka, by kernel_rfl, .str sa, by kernel_rfl, by show 2 ≤ sizeLine; decide, fun u nu => ?_⟩
          have su := same_new nu (o := .tup [.str ka, .str sa])
          have eu : SqT K (upd Z2 u (.tup [.str ka, .str sa])) u [kV (.inr ka), .str sa] := .inl (.inl upd_same)
          have z1 := su _ _ z1
          have z2 := paired_same su z2
          have sZ := sZ.trans su
          generalize upd Z2 u (.tup [.str ka, .str sa]) = Z3 at sZ eu z1 z2
          refine ⟨_, z1, by rw [List.length_map, sizeLine_eq]; omega, same_mut sZ nD, qs ++ [u], kvs ++ [(.inr ka, .str sa)], by rw [upd_same, List.map_append]; rfl, ?_, ?_, fun z hz => ?_⟩
          · exact paired_snoc3 (paired_move (fun b xs h => sqT_off z1 h) z2) (sqT_off z1 eu)
          · rw [take_snoc hka, List.map_append, List.map_append]
            exact z3.append (List.Sublist.refl _)
          · rcases List.mem_append.mp hz with hz | hz
            · exact z4 z hz
            · rw [List.mem_singleton.mp hz]
              exact ⟨ka, sa, rfl, okS sa (List.mem_of_getElem? hsa)⟩
        · exact ⟨sZ, qs, kvs, z1, z2, z3.trans sub2, z4⟩
      · obtain ⟨sZ, qs, kvs, z1, z2, z3, z4⟩ := pv
        rw [List.take_length] at z3
        have nd : (kvs.map (·.1)).Nodup := z3.nodup (List.Pairwise.map _ (fun a b h e => h (by injection e)) end_)
        have lk : kvs.length ≤ 18 := by
          have := z3.length_le
          rw [List.length_map, List.length_map] at this
          omega
        refine ⟨D, qs, kvs, rfl, .inl (.inl z1), z2, fun a na => ?_⟩
        rw [mergeK_new (acc := []) nd]
        have kZ : Kp p G3 Z := fun b o _ e => sZ b o e
        exact q a kvs _ ((k3.trans kZ).new na) (((pen3.same sZ).same (same_new na)).le (by omega)) upd_same (frH (k3.trans kZ) (pen3.same sZ) na) ⟨z4, nd, lk⟩ ((pen3.same sZ).off na)
    refine iteN (fun e => c0 (by injection e with e; exact_mod_cast e)) ?_
    -- way 1
    refine ⟨.int (v : Nat), rfl, .inl ⟨rfl, _, rfl, ?_⟩⟩
    by_cases c1 : v = 1
    · subst c1
      refine iteY rfl ?_
      exact ⟨.ref kl, rfl, .ref sl, rfl, kl, sl, ks.map Sum.inr, ss.map V.str, rfl, .inl (.inl (by rw [← eki]; exact ek)), .inl (.inl es), fin k3 pen3 (by omega) end_ okS (by omega)⟩
    refine iteN (fun e => c1 (by injection e with e; exact_mod_cast e)) ?_
    -- way 2
    refine ⟨.int (v : Nat), rfl, .inl ⟨rfl, _, rfl, ?_⟩⟩
    by_cases c2 : v = 2
    · subst c2
      refine iteY rfl ⟨.ref kl, rfl, .ref p, rfl, .ref p, rfl, p, qc, n + 20, 18, rfl, pen3, by omega, by decide, by decide, fun l xs Z hx nd okx nl el lp kZ penZ => ?_⟩
      dsimp only [tNil]
      refine ⟨p, l, qc, n + 20 + 20, _, rfl, penZ, by rw [List.length_map]; omega, .inl (.inl (.inl el)), src_strs okx, fun l2 zs Z2 pm nl2 el2 lp2 k4 pen4 => ?_⟩
      obtain ⟨us, rfl, pu⟩ := perm_strs pm
      rw [List.length_map] at pen4
      exact ⟨kl, l2, ks.map Sum.inr, us.map V.str, rfl, .inl (.inl (by rw [← eki]; exact k4 _ _ klp (kZ _ _ klp ek))), .inl (.inl el2), fin ((k3.trans kZ).trans k4) pen4 (by omega) end_ (fun z hz => okx z (pu.subset hz)) (by omega)⟩
    refine iteN (fun e => c2 (by injection e with e; exact_mod_cast e)) ?_
    -- way 3
    refine ⟨.int (v : Nat), rfl, .inl ⟨rfl, _, rfl, ?_⟩⟩
    by_cases c3 : v = 3
    · subst c3
      refine iteY rfl ⟨.ref p, rfl, p, qc, n + 20, 18, rfl, pen3, by omega, by decide, by decide, fun l xs Z hx nd okx nl el lp kZ penZ => ⟨l, rfl, ⟨_, .inl (.inl el)⟩, fun D nD => ?_⟩⟩
      have ekZ := kZ _ _ klp ek
      have esZ := kZ _ _ slp es
      refine lc_it (walk_list (a := l) (xs := xs.map V.str)) (fun i Y => Same Z Y ∧ ∃ fs : List Str, Y D = some (.lst (fs.map V.str)) ∧ fs.length ≤ i ∧ ∀ z ∈ fs, NameOk z) ⟨same_new nD, [], upd_same, Nat.le_refl _, fun _ z => nomatch z⟩ (fun i Y _ pv => .inl (.inl (pv.1 _ _ el))) (fun i y Y Y' hi pv hy => ?_) (fun Y pv => ?_)
      · obtain ⟨rfl, hv⟩ := hy
        obtain ⟨sY, fs, z1, z2, z3⟩ := pv
        rw [List.getElem?_map] at hv
        obtain ⟨nm, hnm, rfl⟩ := Option.map_eq_some_iff.mp hv
        rw [List.length_map] at hi
        refine ⟨rfl, .str nm, by kernel_rfl, .ref kl, by kernel_rfl, kl, ks, _, rfl, .inl (.inl (.inl (sY _ _ ekZ))), .str nm, _, rfl, iteAny ?_ ?_⟩
        · refine ⟨.str nm, by kernel_rfl, _, z1, by rw [List.length_map, sizeLine_eq]; omega, same_mut sY nD, fs ++ [nm], by rw [upd_same, List.map_append]; rfl, by rw [List.length_append]; show fs.length + 1 ≤ _; omega, fun z hz => ?_⟩
          rcases List.mem_append.mp hz with hz | hz
          · exact z3 z hz
          · rw [List.mem_singleton.mp hz]; exact okx nm (List.mem_of_getElem? hnm)
        · exact ⟨sY, fs, z1, by omega, z3⟩
      · obtain ⟨sY, fs, z1, z2, z3⟩ := pv
        have kY : Kp p G3 Y := kZ.trans fun b o _ e => sY b o e
        refine ⟨.ref sl, rfl, .ref p, rfl, .ref sl, rfl, .inl ⟨_, .inl (.inl (.inl (sY _ _ esZ))), ?_⟩⟩
        rw [List.length_map]
        refine ⟨p, qc, _, n + 20 + 20, rfl, penZ.same sY, by omega, by omega, by omega, fun d Z2 d0 d1 k4 pen4 => ?_⟩
        refine ⟨_, rfl, .inl ⟨sl, _, rfl, .inl (.inl (k4 _ _ slp (sY _ _ esZ))), fun l2 n2 => ?_⟩⟩
        rw [cutV_to d0, ← List.map_take]
        have s5 := same_new n2 (o := .lst ((ss.take d.toNat).map V.str))
        have Dp : D ≠ p := penZ.off nD
        exact ⟨.ref D, rfl, l2, D, (ss.take d.toNat).map Sum.inr, fs.map V.str, rfl, .inl (.inl (by rw [← esi]; exact upd_same)), .inl (.inl (s5 _ _ (k4 _ _ Dp z1))), fin (((k3.trans kY).trans k4).new n2) (pen4.same s5) (by omega) ((List.take_sublist _ _).nodup ndS) z3 (by rw [List.length_take]; omega)⟩
    refine iteN (fun e => c3 (by injection e with e; exact_mod_cast e)) ?_
    -- the other way
    refine ⟨.ref p, rfl, .ref sl, rfl, .inl ⟨_, .inl (.inl (.inl es)), ?_⟩⟩
    rw [List.length_map]
    refine ⟨p, qc, _, n + 20, rfl, pen3, by omega, by omega, by omega, fun d Z d0 d1 k4 pen4 => ?_⟩
    have esZ := k4 _ _ slp es
    refine ⟨.ref sl, rfl, .int d, rfl, _, rfl, .inl ⟨sl, _, rfl, .inl (.inl esZ), fun l1 n1 => ?_⟩⟩
    rw [cutV_to d0, ← List.map_take]
    have s1 := same_new n1 (o := .lst ((ss.take d.toNat).map V.str))
    have e1 : (upd Z l1 (.lst ((ss.take d.toNat).map V.str))) l1 = some (.lst ((ss.take d.toNat).map V.str)) := upd_same
    have pen5 := pen4.same s1
    have k5 : Kp p H (upd Z l1 (.lst ((ss.take d.toNat).map V.str))) := (k3.trans k4).new n1
    have esZ := s1 _ _ esZ
    generalize upd Z l1 (.lst ((ss.take d.toNat).map V.str)) = Z1 at e1 pen5 k5 esZ
    obtain ⟨a1, a2, ec⟩ := cutV_map (f := V.str) ss (some 1) (some d)
    obtain ⟨b1, b2, ec2⟩ := cutV_map (f := V.str) ss none (some 1)
    refine ⟨.ref sl, rfl, _, rfl, .int d, rfl, _, rfl, .inl ⟨sl, _, rfl, .inl (.inl esZ), fun l2 n2 => ?_⟩⟩
    rw [ec]
    have s2 := same_new n2 (o := .lst (((ss.drop a1).take a2).map V.str))
    have e2 : (upd Z1 l2 (.lst (((ss.drop a1).take a2).map V.str))) l2 = some (.lst (((ss.drop a1).take a2).map V.str)) := upd_same
    have e1 := s2 _ _ e1
    have esZ := s2 _ _ esZ
    have pen5 := pen5.same s2
    have k5 : Kp p H (upd Z1 l2 (.lst (((ss.drop a1).take a2).map V.str))) := k5.new n2
    generalize upd Z1 l2 (.lst (((ss.drop a1).take a2).map V.str)) = Z2 at e1 e2 pen5 k5 esZ
    refine ⟨.ref sl, rfl, _, rfl, .inl ⟨sl, _, rfl, .inl (.inl esZ), fun l3 n3 => ?_⟩⟩
    rw [ec2]
    have s3 := same_new n3 (o := .lst (((ss.drop b1).take b2).map V.str))
    have e3 : (upd Z2 l3 (.lst (((ss.drop b1).take b2).map V.str))) l3 = some (.lst (((ss.drop b1).take b2).map V.str)) := upd_same
    have e1 := s3 _ _ e1
    have e2 := s3 _ _ e2
    have pen5 := pen5.same s3
    have k5 : Kp p H (upd Z2 l3 (.lst (((ss.drop b1).take b2).map V.str))) := k5.new n3
    generalize upd Z2 l3 (.lst (((ss.drop b1).take b2).map V.str)) = Z3 at e1 e2 e3 pen5 k5
    refine .inl ⟨l2, l3, _, _, rfl, rfl, e2, e3, by simp only [List.length_map, List.length_take, List.length_drop]; rw [sizeLine_eq]; omega, fun l4 n4 => ?_⟩
    rw [← List.map_append]
    have s4 := same_new n4 (o := .lst ((((ss.drop a1).take a2) ++ ((ss.drop b1).take b2)).map V.str))
    refine ⟨l1, l4, (ss.take d.toNat).map Sum.inr, _, rfl, .inl (.inl (by rw [← esi]; exact s4 _ _ e1)), .inl (.inl upd_same), fin (k5.new n4) (pen5.same s4) (by omega) ((List.take_sublist _ _).nodup ndS) (fun z hz => ?_) (by rw [List.length_take]; omega)⟩
    rcases List.mem_append.mp hz with hz | hz
    · exact okS z (List.mem_of_mem_drop (List.mem_of_mem_take hz))
    · exact okS z (List.mem_of_mem_drop (List.mem_of_mem_take hz))
end
end Wd

set_option Elab.async false
set_option linter.all false
set_option maxRecDepth 100000
set_option maxHeartbeats 4000000
namespace Wd
open PySem PySem.Spec PyProof.Rows L2
abbrev s_law : Stmt := topS 27
theorem sc_law : FnScope ["script", "pen", "bout", "hall", "names", "known", "kept", "way", "told", "goal", "more", "k", "one", "wish"] ["script"] (C8.fnScope s_law) := ⟨rfl, rfl, rfl, by decide +kernel, rfl, by decide +kernel, by decide +kernel⟩
section
variable {P : Program} {w : World} {K : PySem.W.Frag} {mg : Str → Option Value} {base : Heap}
theorem tup_dqL {K : PySem.W.Frag} {H : Hp} : ∀ {ws : List V} {ds : List (List Str)}, TupAll K H ws ds → DqAll anyA K H ws (ds.map fun d => .tuple (d.map .str))
  | _, _, .nil => .nil
  | _, _, .cons e q => .cons (.tup trivial e (DqAll.strs _)) (tup_dqL q)
def wayDB (b : Bool) (ds : List (List Str)) : PyData := if b then .list (ds.map fun d => .tuple (d.map .str)) else .tuple (ds.map fun d => .tuple (d.map .str))
theorem wayDB_neat {b : Bool} {ds : List (List Str)} (h : ∀ d ∈ ds, deedB d = true ∧ ∀ s ∈ d, NameOk s) (l : ds.length ≤ 8) : Neat 200 2 (wayDB b ds) := by
  have one : ∀ q ∈ ds.map fun d => PyData.tuple (d.map .str), Neat 18 1 q := fun q hq => by
    obtain ⟨d, hd, rfl⟩ := List.mem_map.mp hq
    obtain ⟨h1, h2⟩ := h d hd
    have hl : d.length ≤ 2 := by
      rcases deed_cases h1 with rfl | ⟨w0, n0, rfl, _⟩
      · exact (by decide : 1 ≤ 2)
      · exact Nat.le_refl 2
    refine (neat_tup (w := 8) (dp := 0) (m := 2) (fun z hz => ?_) (by rw [List.length_map]; exact hl)).mono (by decide) (by decide)
    obtain ⟨s, hs, rfl⟩ := List.mem_map.mp hz
    exact neat_name (h2 s hs)
  unfold wayDB
  cases b
  · exact (neat_tup one (m := 8) (by rw [List.length_map]; exact l)).mono (by decide) (by decide)
  · exact (neat_lst one (m := 8) (by rw [List.length_map]; exact l)).mono (by decide) (by decide)
theorem wayDB_dq {K : PySem.W.Frag} {H : Hp} {a : Addr} {ws : List V} {ds : List (List Str)} : ∀ {b : Bool}, SqB K b H a ws → TupAll K H ws ds → Dq anyA K H (.ref a) (wayDB b ds)
  | true, e, t => .lst trivial e (tup_dqL t)
  | false, e, t => .tup trivial e (tup_dqL t)
def wishR : WishH → List Key
  | .opn d => [.inr (Str.ofString "open"), .inr d]
  | .atw n r => [.inr (Str.ofString "at"), .inr n, .inr r]
  | .bears r i => [.inr (Str.ofString "bears"), .inr r, .inl i]
  | .put w s q => [.inr w, .inr s, .inr q]
theorem dq_keys {K : PySem.W.Frag} {H : Hp} : ∀ {vs : List V} {ks : List Key}, DqAll anyA K H vs (ks.map keyP) → vs = ks.map kV
  | [], [], _ => rfl
  | v :: vs, .inl i :: ks, h => by
    rw [List.map_cons] at h
    cases h with
    | cons a b =>
      cases a
      rw [List.map_cons, dq_keys b]
      rfl
  | v :: vs, .inr s :: ks, h => by
    rw [List.map_cons] at h
    cases h with
    | cons a b =>
      cases a
      rw [List.map_cons, dq_keys b]
      rfl
  | [], _ :: _, h => by cases h
  | _ :: _, [], h => by cases h
theorem wish_row {K : PySem.W.Frag} {H : Hp} {v : V} {g : WishH} (h : Dq anyA K H v g.data) : ∃ u, v = .ref u ∧ SqT K H u ((wishR g).map kV) := by
  have e : g.data = .tuple ((wishR g).map keyP) := by cases g <;> rfl
  rw [e] at h
  obtain ⟨u, vs, rfl, eu, dq⟩ := dq_tup_inv h
  rw [dq_keys dq] at eu
  exact ⟨u, rfl, eu⟩
def RowOk (r : List Key) : Prop := (∃ (w s : Str) (rest : List Key), r = .inr w :: .inr s :: rest) ∧ r.length ≤ 3 ∧ ∀ s, Sum.inr s ∈ r → NameOk s
theorem wish_ok {sr sd ss sw : Nat} {x : HallH} {g : WishH} (ok : HallOk sr sd ss sw x) (h : WishOk x g) : RowOk (wishR g) := by
  have rn : ∀ z ∈ x.rooms, NameOk z := fun z hz => ok.n2 _ (by unfold HallH.names; exact List.mem_append_left _ hz)
  have wn : ∀ z ∈ x.walkers.map WalkH.name, NameOk z := fun z hz => ok.n2 _ (by unfold HallH.names; exact List.mem_append_right _ (List.mem_append_left _ hz))
  have sn : ∀ z ∈ x.stones.map Prod.fst, NameOk z := fun z hz => ok.n2 _ (by unfold HallH.names; exact List.mem_append_right _ (List.mem_append_right _ (List.mem_append_left _ hz)))
  have l1 : NameOk (Str.ofString "open") := by decide +kernel
  have l2 : NameOk (Str.ofString "at") := by decide +kernel
  have l3 : NameOk (Str.ofString "bears") := by decide +kernel
  have l4 : NameOk (Str.ofString "lies") := by decide +kernel
  have l5 : NameOk (Str.ofString "held") := by decide +kernel
  cases h with
  | @opn d h =>
    refine ⟨⟨_, _, _, rfl⟩, by show 2 ≤ 3; decide, fun s hs => ?_⟩
    simp only [wishR, List.mem_cons, Sum.inr.injEq, List.not_mem_nil, or_false] at hs
    rcases hs with rfl | rfl
    · exact l1
    · exact h
  | @atw n r h hr =>
    refine ⟨⟨_, _, _, rfl⟩, by show 3 ≤ 3; decide, fun s hs => ?_⟩
    simp only [wishR, List.mem_cons, Sum.inr.injEq, List.not_mem_nil, or_false] at hs
    rcases hs with rfl | rfl | rfl
    · exact l2
    · exact wn _ h
    · exact hr
  | @bears r i h =>
    refine ⟨⟨_, _, _, rfl⟩, by show 3 ≤ 3; decide, fun s hs => ?_⟩
    simp only [wishR, List.mem_cons, Sum.inr.injEq, List.not_mem_nil, or_false, reduceCtorEq] at hs
    rcases hs with rfl | rfl
    · exact l3
    · exact rn _ h
  | @put w s q hw h hq =>
    refine ⟨⟨_, _, _, rfl⟩, by show 3 ≤ 3; decide, fun s' hs => ?_⟩
    simp only [wishR, List.mem_cons, Sum.inr.injEq, List.not_mem_nil, or_false] at hs
    rcases hs with rfl | rfl | rfl
    · rcases hw with rfl | rfl
      · exact l4
      · exact l5
    · exact sn _ h
    · exact hq
theorem RowOk.len {r : List Key} (h : RowOk r) : 1 ≤ r.length ∧ r.length ≤ 5 := by
  obtain ⟨⟨w, k, rest, rfl⟩, h2, _⟩ := h
  exact ⟨by simp, by omega⟩
theorem rows_turned {kvs : List (Key × V)} (nm : NmD kvs) {rs : List (List Key)} (h : ∀ r ∈ rs, ∀ s, Sum.inr s ∈ r → NameOk s) : SeqAt.shaped (rowsD (rs.map (turnR kvs))) = true ∧ (rowsD (rs.map (turnR kvs))).hasDict = false := rowsD_shaped fun d hd s hs => by
  obtain ⟨r, hr, rfl⟩ := List.mem_map.mp hd
  exact (txt_name (turn_ok nm (h r hr) s hs)).2.1
theorem row_dq {K : PySem.W.Frag} {H : Hp} {u : Addr} {vs : List V} {ds : List (List Key)} (e : SqT K H u vs) (r : RowAll K H vs ds) : Dq anyA K H (.ref u) (rowsD ds) := .tup trivial e r.dq
theorem ne_alikeR {K : PySem.W.Frag} {x y : V} {H : Hp} {Q : VK} {d : PyData} (h1 : Dp K H x d) (h2 : Dp K H y d) (sh : SeqAt.shaped d = true) (q : Q (.bl false) H) : rNeX K x y H Q := by
  refine .inr ⟨d, d, h1, h2, sh, sh, ?_⟩
  rw [SeqAt.eqv_refl _ (SeqAt.canLay_of_shaped sh)]
  exact q
def spLaw (K : PySem.W.Frag) : Sp := fun vs H Q _ => ∃ (a : Addr) (L : List Int), vs = [.ref a] ∧ SqL K H a (L.map V.int) ∧ L.length ≤ 63 ∧ ∀ H', Q (.bl true) H'
theorem c_law {c : CA} (T : Txt P w K mg base c) (c_law_pen : C8.Cal P w K mg base 1 "_law_pen" (spPen K) []) (c_law_draw : C8.Cal P w K mg base 1 "_law_draw" (spDraw K) []) (c_law_hall : C8.Cal P w K mg base 5 "_law_hall" (spHall K) []) (c_law_renaming : C8.Cal P w K mg base 4 "_law_renaming" (spRen K) []) (c_law_every_name : C8.Cal P w K mg base 1 "_law_every_name" (spEvery K) [])
    (c_law_deed : C8.Cal P w K mg base 3 "_law_deed" (spDeedL K) []) (c_law_wish : C8.Cal P w K mg base 3 "_law_wish" (spWish K) []) (c_law_turned_parts : C8.Cal P w K mg base 1 "_law_turned_parts" (spTurnRows K) []) (cturned_way : C8.Cal P w K mg base 4 "turned_way" (spTurnWay K) []) (cturned_goal : C8.Cal P w K mg base 2 "turned_goal" (spTurnRows K) [])
    {f : Addr} {fd : FuncData} (F : C8.Def K mg "law" s_law f fd) : FnG P w K mg base CX0 7 f fd ["script"] (spLaw K) := by
  refine fng F sc_law (fun vs H Q E h => ?_) (fun cdv A outer s H vs Q E hgd hr h => ?_)
  · obtain ⟨a, L, rfl, _⟩ := h
    rfl
  · obtain ⟨a, L, rfl, hs, hl, q⟩ := h
    have hu := hu_of hr
    have hu6 := hu64 hr
    have hu1 : (A.deeper (envOfC "law" (C8.fnScope s_law) s.heap.objs.size f cdv)).units < cLine := by
      have := hr.un
      omega
    refine ⟨_, (pss_cons (ps_set (i := 1) sc_law.nd rfl (.inr rfl) (C8.pe_c c_law_pen hr (by decide) (by rfl) (pa_cons (pv 0) pa_nil)))
  (pss_cons (ps_for PassesOwn.never rfl (pi_range1 rfl T.b_range (pa_cons pe_int pa_nil)) (pg_name (i := 2) sc_law.nd rfl (.inl rfl))
    (C8.pss_cut (ps_set (i := 3) sc_law.nd rfl (.inr rfl) (C8.pe_c c_law_hall hr (by decide) (by rfl) (pa_cons (pv 1) (pa_cons (pe_tup (pa_cons pe_int (pa_cons pe_int (pa_cons pe_int (pa_cons pe_int pa_nil))))) pa_nil))))
  (C8.pss_cut (ps_asg (pe_tup (pa_cons (C8.pe_c c_law_renaming hr (by decide) (by rfl) (pa_cons (pv 1) (pa_cons (pv 3) pa_nil))) (pa_cons (C8.pe_c c_law_every_name hr (by decide) (by rfl) (pa_cons (pv 3) pa_nil)) pa_nil))) (pg_tupK (K := K) (n := 2) rfl (pgs_cons (pg_name (i := 4) sc_law.nd rfl (.inl rfl)) (pgs_cons (pg_name (i := 5) sc_law.nd rfl (.inr rfl)) pgs_nil))))
  (C8.pss_cut (ps_set (i := 6) sc_law.nd rfl (.inr rfl) (pe_callTy (call_dictC) (by rfl) T.b_dict bt_dict (pa_cons (pv 4) pa_nil)))
  (C8.pss_cut (ps_setLc (i := 7) rfl sc_law.nd rfl rfl (sw_true rfl rfl rfl (by decide +kernel)) (own := [("k", 11)]) (pi_range1 rfl T.b_range (pa_cons (C8.pe_c c_law_draw hr (by decide) (by rfl) (pa_cons (pv 1) (pa_cons pe_int pa_nil))) pa_nil)) (blkOk_by (by kernel_rfl)) (fun _ _ _ _ _ => (pg_name (i := 11) sc_law.nd rfl (.inl rfl))) (fun _ _ _ _ _ => pts_nil)
      (fun _ _ _ _ _ => (C8.pe_c c_law_deed hr (by decide) (by rfl) (pa_cons (pv 1) (pa_cons (pv 5) pa_nil)))))
  (C8.pss_cut (ps_if (pt_cmpR (op_eqX (K := K) hu6) (C8.pe_c c_law_draw hr (by decide) (by rfl) (pa_cons (pv 1) (pa_cons pe_int pa_nil))) pe_int (nomark _)) (pss_one (ps_set (i := 7) sc_law.nd rfl (.inl rfl) (pe_tupleOf (by rfl) T.b_tuple (pv 7)))) pss_nil)
  (C8.pss_cut (ps_set (i := 8) sc_law.nd rfl (.inl rfl) (pe_callB (call_reprG hgd hu6) (by rfl) T.b_repr bt_repr (pa_cons (pv 7) pa_nil)))
  (C8.pss_cut (ps_if (PW.pt (pw_or (pt_cmpR (op_neX (K := K) hu6) (C8.pe_c cturned_way hr (by decide) (by rfl) (pa_cons (pv 4) (pa_cons (pv 7) pa_nil))) (C8.pe_c c_law_turned_parts hr (by decide) (by rfl) (pa_cons (pv 6) (pa_cons (pv 7) pa_nil))) (nomark _)) (pw_or1 (pt_cmpR (op_neX (K := K) hu6) (pe_callB (call_reprG hgd hu6) (by rfl) T.b_repr bt_repr (pa_cons (pv 7) pa_nil)) (pv 8) (nomark _))))) (pss_one (ps_ret pe_bl)) pss_nil)
  (C8.pss_cut (ps_lock (ps_asg (pe_tup (pa_cons (pe_lc (own := [("k", 11)]) rfl sc_law.nd (pi_range1 rfl T.b_range (pa_cons (C8.pe_c c_law_draw hr (by decide) (by rfl) (pa_cons (pv 1) (pa_cons pe_int pa_nil))) pa_nil)) (blkOk_by (by kernel_rfl)) (fun _ _ _ _ _ => (pg_name (i := 11) sc_law.nd rfl (.inl rfl))) (fun _ _ _ _ _ => pts_nil)
      (fun _ _ _ _ _ => (C8.pe_c c_law_wish hr (by decide) (by rfl) (pa_cons (pv 1) (pa_cons (pv 3) pa_nil))))) (pa_cons (pe_lc (own := [("one", 12)]) rfl sc_law.nd (pi_keys (pv 6)) (blkOk_by (by kernel_rfl)) (fun _ _ _ _ _ => (pg_name (i := 12) sc_law.nd rfl (.inl rfl))) (fun _ _ _ _ _ => pts_nil)
      (fun _ _ _ _ _ => (pe_dget hu (pv 6) (pv 12) (fun _ _ => rfl)))) pa_nil))) (pg_tupK (K := K) (n := 2) rfl (pgs_cons (pg_name (i := 9) sc_law.nd rfl (.inl rfl)) (pgs_cons (pg_name (i := 10) sc_law.nd rfl (.inr rfl)) pgs_nil)))))
  (C8.pss_cut (ps_set (i := 9) sc_law.nd rfl (.inl rfl) (pe_tupleOf (by rfl) T.b_tuple (pe_lc (own := [("wish", 13)]) rfl sc_law.nd (pi_listK (K := K) (pv 9)) (blkOk_by (by kernel_rfl)) (fun _ _ _ _ _ => (pg_name (i := 13) sc_law.nd rfl (.inl rfl))) (fun _ _ _ _ _ => (pts_one (PW.pt (pw_or (pt_cmpR (op_neX (K := K) hu6) (pe_ix (ixG (K := K)) (pv 13) pe_int (fun _ _ => rfl)) pe_str (nomark _)) (pw_or (pt_cmpR (op_inT (K := K) hu6) (pe_ix (ixG (K := K)) (pv 13) pe_int (fun _ _ => rfl)) (pv 5) (by rfl)) (pw_or1 (pt_cmpR (op_notInT (K := K) hu6) (pe_ix (ixG (K := K)) (pv 13) pe_int (fun _ _ => rfl)) (pv 10) (by rfl))))))))
      (fun _ _ _ _ _ => (pv 13)))))
  (C8.pss_cut (ps_if (pt_cmpR (op_neX (K := K) hu6) (C8.pe_c cturned_goal hr (by decide) (by rfl) (pa_cons (pv 4) (pa_cons (pv 9) pa_nil))) (C8.pe_c c_law_turned_parts hr (by decide) (by rfl) (pa_cons (pv 6) (pa_cons (pv 9) pa_nil))) (nomark _)) (pss_one (ps_ret pe_bl)) pss_nil)
  (pss_one (ps_if (PW.pt (pw_or (pt_cmpR (op_neX (K := K) hu6) (C8.pe_c cturned_way hr (by decide) (by rfl) (pa_cons (pv 4) (pa_cons (pe_tup pa_nil) pa_nil))) (pe_tup pa_nil) (nomark _)) (pw_or (pt_cmpR (op_neX (K := K) hu6) (C8.pe_c cturned_goal hr (by decide) (by rfl) (pa_cons (pv 4) (pa_cons (pe_tup pa_nil) pa_nil))) (pe_tup pa_nil) (nomark _)) (pw_or1 (pt_cmpR (op_ne_dictA hu1) (pv 4) (pv 6) (nomark _)))))) (pss_one (ps_ret pe_bl)) pss_nil)))))))))))))
  (pss_one (ps_ret pe_bl)))), ?_⟩
    -- GENMARK
    refine ⟨.ref a, rfl, a, L, rfl, hs, hl, fun p qc G0 np s0 pen0 => ?_⟩
    refine ⟨3, rfl, by decide, by decide, ?_⟩
    refine for_range (fun i σ G => ∃ d2 d3 d4 d5 d6 d7 d8 d9 d10 d11 d12 d13 : Option V, σ = [some (.ref a), some (.ref p), d2, d3, d4, d5, d6, d7, d8, d9, d10, d11, d12, d13] ∧ Pen K G p qc (4000 * i)) ⟨_, _, _, _, _, _, _, _, _, _, _, _, rfl, pen0⟩ (fun i σ G hi pv => ?_) (fun σ G pv => ?_)
    rotate_left
    · obtain ⟨d2, d3, d4, d5, d6, d7, d8, d9, d10, d11, d12, d13, rfl, _⟩ := pv
      exact q _
    obtain ⟨d2, d3, d4, d5, d6, d7, d8, d9, d10, d11, d12, d13, rfl, pen⟩ := pv
    have hi3 : i < 3 := hi
    -- a hall
    refine ⟨fun σ G => ∃ (h : Addr) (x : HallH), σ = [some (.ref a), some (.ref p), some (.int (0 + i)), some (.ref h), d4, d5, d6, d7, d8, d9, d10, d11, d12, d13] ∧ Pen K G p qc (4000 * i + 2021) ∧ HallAt (· ≠ p) K G h x ∧ HallOk 3 4 3 3 x, ?_, ?_⟩
    · refine ⟨.ref p, rfl, by show 4 ≤ sizeLine; decide, fun u1 nu1 => ?_⟩
      have k1 := same_new nu1 (o := .tup [.int 3, .int 4, .int 3, .int 3])
      have q1 := pen.off nu1
      have e1 : (upd G u1 (.tup [.int 3, .int 4, .int 3, .int 3])) u1 = some (.tup [.int 3, .int 4, .int 3, .int 3]) := upd_same
      have pen := pen.same k1
      generalize upd G u1 (.tup [.int 3, .int 4, .int 3, .int 3]) = Ga at k1 e1 pen
      exact ⟨p, u1, qc, 4000 * i, 3, 4, 3, 3, rfl, pen, by omega, q1, .inl (.inl e1), by decide, by decide, by decide, fun h x Z ok hall kZ penZ nh => ⟨h, x, rfl, penZ.le (by omega), hall, ok⟩⟩
    rintro σ1 G1 ⟨h, x, rfl, penH, hallH, ok⟩
    obtain ⟨tP, rP, ePH, _⟩ := id penH
    have hallK : ∀ {Z : Hp}, Kp p G1 Z → HallAt (· ≠ p) K Z h x := fun k => HallAt.extM ePH (ExtM.kp k) hallH
    obtain ⟨end_, enk⟩ := every_nodup ok
    have el13 : (everyL x).length ≤ 13 := by
      have a1 := ok.r2
      have a2 := ok.d2
      have a3 := ok.s2
      have a4 := ok.w2
      unfold everyL
      simp only [List.length_append, List.length_map]
      omega
    -- other names
    refine ⟨fun σ Z => ∃ (nd kl : Addr) (kvs : List (Key × V)), σ = [some (.ref a), some (.ref p), some (.int (0 + i)), some (.ref h), some (.ref nd), some (.ref kl), d6, d7, d8, d9, d10, d11, d12, d13] ∧ Kp p G1 Z ∧ Pen K Z p qc (4000 * i + 2300) ∧ G1 nd = none ∧ Z nd = some (.dK kvs) ∧ NmD kvs ∧ Z kl = some (.lst ((everyL x).map V.str)) ∧ nd ≠ p, ?_, ?_⟩
    · refine ⟨.ref p, rfl, .ref h, rfl, ?_⟩
      dsimp only [tNil]
      refine ⟨p, h, qc, 4000 * i + 2021, x, rfl, penH, by omega, hallH, ok, fun nd kvs Z kZ penZ en nn nm np => ?_⟩
      refine ⟨.ref h, rfl, ?_⟩
      dsimp only [tNil]
      refine ⟨_, h, x, 3, 4, 3, 3, rfl, hallK kZ, ok, by decide, by decide, by decide, by decide, fun l Z2 s2 nl el => ?_⟩
      refine ⟨by show 2 ≤ sizeLine; decide, fun t nt => ⟨t, _, rfl, .inl (.inl upd_same), rfl, _, _, rfl, _, _, rfl, rfl, ?_⟩⟩
      have s3 := same_new nt (o := .tup [.ref nd, .ref l])
      exact ⟨nd, l, kvs, rfl, fun b o n e => s3 _ _ (s2 _ _ (kZ b o n e)), ((penZ.same s2).same s3).le (by omega), nn, s3 _ _ (s2 _ _ en), nm, s3 _ _ el, np⟩
    rintro σ2 G2 ⟨nd, kl, kvs, rfl, k2, pen2, nnd, en, nm, ek, ndp⟩
    -- a copy
    refine ⟨fun σ Z => ∃ kd : Addr, σ = [some (.ref a), some (.ref p), some (.int (0 + i)), some (.ref h), some (.ref nd), some (.ref kl), some (.ref kd), d7, d8, d9, d10, d11, d12, d13] ∧ Same G2 Z ∧ G2 kd = none ∧ Z kd = some (.dK kvs), ?_, ?_⟩
    · exact ⟨.ref nd, rfl, nd, kvs, rfl, .inl en, fun kd nk => ⟨kd, rfl, same_new nk, nk, upd_same⟩⟩
    rintro σ3 G3 ⟨kd, rfl, s3, nkd, ekd⟩
    have kdp : kd ≠ p := pen2.off nkd
    have nkd1 : G1 kd = none := by
      cases e : G1 kd with
      | none => rfl
      | some o =>
        have := k2 kd o kdp e
        rw [nkd] at this
        cases this
    have ndk : nd ≠ kd := fun z => by rw [z, nkd] at en; cases en
    have k3 : Kp p G1 G3 := fun b o n e => s3 _ _ (k2 b o n e)
    have pen3 := pen2.same s3
    have en := s3 _ _ en
    have ek := s3 _ _ ek
    clear s3 k2 pen2
    have klp : kl ≠ p := fun z => by
      obtain ⟨t, r, e2, _⟩ := id pen3
      rw [z, e2] at ek
      cases ek
    generalize hL : everyL x = nl at end_ enk el13 ek
    clear hL
    -- a way
    refine ⟨fun σ Z => ∃ (wl : Addr) (ws : List V) (ds : List (List Str)), σ = [some (.ref a), some (.ref p), some (.int (0 + i)), some (.ref h), some (.ref nd), some (.ref kl), some (.ref kd), some (.ref wl), d8, d9, d10, d11, d12, d13] ∧ Kp p G3 Z ∧ Pen K Z p qc (4000 * i + 2330) ∧ Z wl = some (.lst ws) ∧ TupAll K Z ws ds ∧ ds.length ≤ 8 ∧ ∀ d ∈ ds, deedB d = true ∧ ∀ s ∈ d, NameOk s, ?_, ?_⟩
    · refine ⟨.ref p, rfl, p, qc, 9, 4000 * i + 2300, rfl, pen3, by omega, by decide, by decide, fun dd Z1 d0 d1 k1 pen1 => ⟨dd, rfl, by omega, by omega, fun D nD => ?_⟩⟩
      have d8 : dd.toNat ≤ 8 := by omega
      generalize dd.toNat = nq at d8
      refine lc_it (walk_range (lo := 0) (n := nq)) (fun j Y => Kp p Z1 Y ∧ Pen K Y p qc (4000 * i + 2301 + 2 * j) ∧ ∃ (ws : List V) (ds : List (List Str)), Y D = some (.lst ws) ∧ TupAll K Y ws ds ∧ ds.length = j ∧ ∀ d ∈ ds, deedB d = true ∧ ∀ s ∈ d, NameOk s) ⟨fun u o _ e => same_new nD _ _ e, pen1.same (same_new nD), [], [], upd_same, .nil, rfl, fun _ z => nomatch z⟩ (fun k Y _ pv => trivial) (fun j yv Y Y' hj pv hy => ?_) (fun Y pv => ?_)
      · obtain ⟨kY, penY, ws, ds, eY, tY, ld, hds⟩ := pv
        obtain ⟨rfl, rfl⟩ := hy
        have ekY := kY _ _ klp (k1 _ _ klp ek)
        refine ⟨rfl, yes_if ⟨.ref p, by kernel_rfl, .ref kl, by kernel_rfl, ?_⟩⟩
        refine ⟨p, kl, qc, 4000 * i + 2301 + 2 * j, nl, rfl, penY, by omega, ekY, enk, by omega, fun u d Y2 k2 pen2 eu hd hn => ?_⟩
        have eY2 := k2 _ _ (pen1.off nD) eY
        have lw : ws.length = j := by rw [tY.length, ld]
        obtain ⟨t2, r2, eP2, _⟩ := id penY
        have tY2 : TupAll K Y2 ws ds := tY.move fun b xs z => ExtM.sqT2 eP2 (ExtM.kp k2) b xs z
        refine ⟨_, eY2, by rw [sizeLine_eq]; omega, fun u o np e => ?_, (pen2.wr pen1 nD).le (by omega), ws ++ [.ref u], ds ++ [d], upd_same, ?_, by rw [List.length_append, ld]; rfl, fun e he => ?_⟩
        · rw [upd_ne (fun z => by rw [z, nD] at e; cases e)]
          exact k2 u o np (kY u o np e)
        · exact TupAll.move (fun b xs z => sqT_off eY2 z) (tY2.append (.cons eu .nil))
        · rcases List.mem_append.mp he with he | he
          · exact hds e he
          · rw [List.mem_singleton.mp he]; exact ⟨hd, hn⟩
      · obtain ⟨kY, penY, ws, ds, eY, tY, ld, hds⟩ := pv
        exact ⟨D, ws, ds, rfl, k1.trans kY, penY.le (by omega), eY, tY, by omega, hds⟩
    rintro σ4 G4 ⟨wl, ws, ds, rfl, k4, pen4, ew, tw, ld, hds⟩
    have en := k4 _ _ ndp en
    have ek := k4 _ _ klp ek
    have ekd := k4 _ _ kdp ekd
    have k4 := k3.trans k4
    clear pen3 k3
    have wlp : wl ≠ p := fun z => by
      obtain ⟨t, r, e2, _⟩ := id pen4
      rw [z, e2] at ew
      cases ew
    refine ⟨fun σ Z => ∃ (wl : Addr) (b : Bool), σ = [some (.ref a), some (.ref p), some (.int (0 + i)), some (.ref h), some (.ref nd), some (.ref kl), some (.ref kd), some (.ref wl), d8, d9, d10, d11, d12, d13] ∧ Kp p G4 Z ∧ Pen K Z p qc (4000 * i + 2331) ∧ SqB K b Z wl ws ∧ TupAll K Z ws ds, ?_, ?_⟩
    · refine ⟨.ref p, rfl, p, qc, 2, 4000 * i + 2330, rfl, pen4, by omega, by decide, by decide, fun d Z d0 d1 kZ penZ => .inl ⟨rfl, _, rfl, ?_⟩⟩
      obtain ⟨t2, r2, eP2, _⟩ := id pen4
      have twZ : TupAll K Z ws ds := tw.move fun b xs z => ExtM.sqT2 eP2 (ExtM.kp kZ) b xs z
      refine iteAny ?_ ?_
      · refine ⟨.ref wl, rfl, .inl ⟨wl, _, rfl, .inl (.inl (kZ _ _ wlp ew)), fun t nt => ?_⟩⟩
        have s := same_new nt (o := .tup ws)
        exact ⟨t, false, rfl, fun b o n e => s _ _ (kZ b o n e), (penZ.same s).le (by omega), .inl (.inl upd_same), twZ.same s⟩
      · exact ⟨wl, true, rfl, kZ, penZ.le (by omega), .inl (.inl (kZ _ _ wlp ew)), twZ⟩
    clear ew wlp
    rintro σ5 G5 ⟨wl, bb, rfl, k5, pen5, ew, tw⟩
    have en := k5 _ _ ndp en
    have ek := k5 _ _ klp ek
    have ekd := k5 _ _ kdp ekd
    have k5 := k4.trans k5
    clear pen4 k4
    have nW := wayDB_neat (b := bb) hds ld
    obtain ⟨q1, q2, q3⟩ := nW.repr (by decide) (by decide)
    obtain ⟨tx, htx⟩ : ∃ tx, tx = (wayDB bb ds).shown := ⟨_, rfl⟩
    refine ⟨fun σ Z => σ = [some (.ref a), some (.ref p), some (.int (0 + i)), some (.ref h), some (.ref nd), some (.ref kl), some (.ref kd), some (.ref wl), some (.str tx), d9, d10, d11, d12, d13] ∧ Same G5 Z, ?_, ?_⟩
    · refine ⟨.ref wl, rfl, .ref wl, _, rfl, wayDB_dq ew tw, q1, q2, q3, ?_⟩
      rw [← htx]
      exact ⟨rfl, fun _ _ e => e⟩
    rintro σ6 G6 ⟨rfl, s6⟩
    -- the way by other names
    have hnR : ∀ r ∈ ds.map (fun d => d.map (Sum.inr : Str → Key)), (1 ≤ r.length ∧ r.length ≤ 5) ∧ ∀ s, Sum.inr s ∈ r → NameOk s := fun r hr => by
      obtain ⟨d, hd, rfl⟩ := List.mem_map.mp hr
      obtain ⟨h1, h2⟩ := hds d hd
      refine ⟨?_, fun s hs => ?_⟩
      · rw [List.length_map]
        rcases deed_cases h1 with rfl | ⟨w0, n0, rfl, _⟩
        · exact ⟨Nat.le_refl 1, by decide⟩
        · exact ⟨by show 1 ≤ 2; decide, by show 2 ≤ 5; decide⟩
      · obtain ⟨z, hz, e⟩ := List.mem_map.mp hs
        have e : z = s := by injection e
        rw [← e]
        exact h2 z hz
    obtain ⟨shW, ndW⟩ := rows_turned nm (fun r hr => (hnR r hr).2)
    refine ⟨fun σ Z => σ = [some (.ref a), some (.ref p), some (.int (0 + i)), some (.ref h), some (.ref nd), some (.ref kl), some (.ref kd), some (.ref wl), some (.str tx), d9, d10, d11, d12, d13] ∧ Same G5 Z, ?_, ?_⟩
    · refine ⟨.ref nd, rfl, .ref wl, rfl, ?_⟩
      dsimp only [tNil]
      refine ⟨nd, wl, bb, kvs, ws, ds, rfl, s6 _ _ en, nm, ew.same s6, tw.same s6, hds, by omega, fun u vs Z sZ eu ru => ?_⟩
      have s7 := s6.trans sZ
      refine ⟨.ref kd, rfl, .ref wl, rfl, ?_⟩
      dsimp only [tNil]
      refine ⟨kd, wl, bb, kvs, ws, _, rfl, s7 _ _ ekd, nm, ew.same s7, row_of_tup (tw.same s7), fun r hr => (hnR r hr).1, by rw [List.length_map]; omega, fun u2 vs2 Z2 s2 eu2 ru2 => ?_⟩
      refine ne_alikeR (Dq.dp _ _ ndW (row_dq (same_sqT s2 eu) (ru.same s2))) (Dq.dp _ _ ndW (row_dq eu2 ru2)) shW ⟨_, rfl, iteF ?_⟩
      have s8 := s7.trans s2
      refine ⟨.ref wl, rfl, .ref wl, _, rfl, wayDB_dq (ew.same s8) (tw.same s8), q1, q2, q3, .str tx, rfl, ?_⟩
      rw [← htx]
      refine .inl ⟨by kernel_rfl, ?_⟩
      rw [decide_eq_true rfl]
      exact ⟨_, rfl, iteF ⟨rfl, s8⟩⟩
    clear s6
    rintro σ7 G7 ⟨rfl, s7⟩
    have en := s7 _ _ en
    have ek := s7 _ _ ek
    have ekd := s7 _ _ ekd
    have k7 : Kp p G1 G7 := fun b o n e => s7 _ _ (k5 b o n e)
    have pen7 := pen5.same s7
    clear s7 pen5 k5 ew tw
    -- a goal, and what names become
    refine ⟨fun σ Z => ∃ (gl ml : Addr) (gs : List V) (rs : List (List Key)) (ts : List Str), σ = [some (.ref a), some (.ref p), some (.int (0 + i)), some (.ref h), some (.ref nd), some (.ref kl), some (.ref kd), some (.ref wl), some (.str tx), some (.ref gl), some (.ref ml), d11, d12, d13] ∧ Kp p G1 Z ∧ Pen K Z p qc (4000 * i + 2500) ∧ Z nd = some (.dK kvs) ∧ Z kd = some (.dK kvs) ∧ Z kl = some (.lst (nl.map V.str)) ∧ Z gl = some (.lst gs) ∧ RowAll K Z gs rs ∧ (∀ r ∈ rs, RowOk r) ∧ rs.length ≤ 8 ∧ Z ml = some (.lst (ts.map V.str)), ?_, ?_⟩
    · refine ⟨kd, .dK kvs, ekd, trivial, fun od => ?_⟩
      have kA : Kp p G1 (upd G7 kd (.frz od (.dK kvs))) := fun b o n e => by
        rw [upd_ne (fun z => by rw [z, nkd1] at e; cases e)]
        exact k7 b o n e
      have penA := pen7.wr (u := .frz od (.dK kvs)) penH nkd1
      have eF : (upd G7 kd (.frz od (.dK kvs))) kd = some (.frz od (.dK kvs)) := upd_same
      have enA : (upd G7 kd (.frz od (.dK kvs))) nd = some (.dK kvs) := by rw [upd_ne ndk]; exact en
      have klk : kl ≠ kd := fun z => by rw [z, ekd] at ek; cases ek
      have ekA : (upd G7 kd (.frz od (.dK kvs))) kl = some (.lst (nl.map V.str)) := by rw [upd_ne klk]; exact ek
      generalize upd G7 kd (.frz od (.dK kvs)) = A at kA penA eF enA ekA
      refine ⟨.ref p, rfl, p, qc, 9, 4000 * i + 2331, rfl, penA, by omega, by decide, by decide, fun dd Z1 d0 d1 k1 pen1 => ⟨dd, rfl, by omega, by omega, fun D nD => ?_⟩⟩
      have d8 : dd.toNat ≤ 8 := by omega
      generalize dd.toNat = nq at d8
      have kA1 := kA.trans k1
      refine lc_it (walk_range (lo := 0) (n := nq)) (fun j Y => Kp p Z1 Y ∧ Pen K Y p qc (4000 * i + 2332 + 12 * j) ∧ ∃ (gs : List V) (rs : List (List Key)), Y D = some (.lst gs) ∧ RowAll K Y gs rs ∧ rs.length = j ∧ ∀ r ∈ rs, RowOk r) ⟨fun u o _ e => same_new nD _ _ e, pen1.same (same_new nD), [], [], upd_same, .nil, rfl, fun _ z => nomatch z⟩ (fun k Y _ pv => trivial) (fun j yv Y Y' hj pv hy => ?_) (fun Y pv => ?_)
      · obtain ⟨kY, penY, gs, rs, eY, rY, lr, hrs⟩ := pv
        obtain ⟨rfl, rfl⟩ := hy
        refine ⟨rfl, yes_if ⟨.ref p, by kernel_rfl, .ref h, by kernel_rfl, ?_⟩⟩
        refine ⟨p, h, qc, 4000 * i + 2332 + 12 * j, 3, 4, 3, 3, x, rfl, penY, by omega, hallK (kA1.trans kY), ok, by decide, by decide, by decide, by decide, fun v g Y2 k2 pen2 dq wo => ?_⟩
        obtain ⟨u, rfl, eu⟩ := wish_row dq
        have eY2 := k2 _ _ (pen1.off nD) eY
        have lw : gs.length = j := by rw [rY.length, lr]
        obtain ⟨t2, r2, eP2, _⟩ := id penY
        have rY2 : RowAll K Y2 gs rs := rY.move fun b xs z => ExtM.sqT2 eP2 (ExtM.kp k2) b xs z
        refine ⟨_, eY2, by rw [sizeLine_eq]; omega, fun u o np e => ?_, (pen2.wr pen1 nD).le (by omega), gs ++ [.ref u], rs ++ [wishR g], upd_same, ?_, by rw [List.length_append, lr]; rfl, fun r hr => ?_⟩
        · rw [upd_ne (fun z => by rw [z, nD] at e; cases e)]
          exact k2 u o np (kY u o np e)
        · exact RowAll.move (fun b xs z => sqT_off eY2 z) (rY2.append (.cons eu .nil))
        · rcases List.mem_append.mp hr with hr | hr
          · exact hrs r hr
          · rw [List.mem_singleton.mp hr]; exact wish_ok ok wo
      obtain ⟨kY, penY, gs, rs, eY, rY, lr, hrs⟩ := pv
      have eF := kY _ _ kdp (k1 _ _ kdp eF)
      refine ⟨.ref kd, rfl, kd, od, rfl, .inl ⟨kvs, eF, fun D2 nD2 => ?_⟩⟩
      refine lc_it walk_keys (fun j Y2 => Same Y Y2 ∧ Y2 D2 = some (.lst ((kvs.take j).map (·.2)))) ⟨same_new nD2, upd_same⟩ (fun j Y2 _ pv => pv.1 _ _ eF) (fun j v Y2 Y2' hj pv hy => ?_) (fun Y2 pv => ?_)
      · obtain ⟨rfl, k, y, hk, rfl⟩ := hy
        obtain ⟨sY, z1⟩ := pv
        have lk := nm.len
        rw [take_snoc hk, List.map_append]
        refine ⟨rfl, yes_if ⟨.ref kd, by kernel_rfl, kV k, by kernel_rfl, kd, y, rfl, .inl ⟨kvs, k, .inr ⟨od, sY _ _ eF⟩, rfl, (valV_mem nm.nodup (List.mem_of_getElem? hk)).symm⟩, _, z1, ?_, same_mut sY nD2, upd_same⟩⟩
        rw [List.length_map, List.length_take, sizeLine_eq]
        omega
      obtain ⟨sY, z1⟩ := pv
      rw [List.take_length] at z1
      refine ⟨by show 2 ≤ sizeLine; decide, fun t nt => ⟨t, _, rfl, .inl (.inl upd_same), rfl, _, _, rfl, _, _, rfl, rfl, ?_⟩⟩
      have s3 := sY.trans (same_new nt (o := .tup [.ref D, .ref D2]))
      have z1 := same_new nt (o := .tup [.ref D, .ref D2]) _ _ z1
      have eF3 := s3 _ _ eF
      have kZ := kA1.trans kY
      have eg3 := s3 _ _ eY
      generalize upd Y2 t (.tup [.ref D, .ref D2]) = Y3 at s3 z1 eF3 eg3 ⊢
      refine ⟨eF3, D, D2, gs, rs, kvs.map fun z => unS z.2, rfl, fun b o n e => ?_, ?_, ?_, upd_same, ?_, ?_, ?_, hrs, by omega, ?_⟩
      · rw [upd_ne (fun z => by rw [z, nkd1] at e; cases e)]
        exact s3 _ _ (kZ b o n e)
      · exact ((penY.same s3).wr penH nkd1).le (by omega)
      · rw [upd_ne ndk]
        exact s3 _ _ (kY _ _ ndp (k1 _ _ ndp enA))
      · rw [upd_ne klk]
        exact s3 _ _ (kY _ _ klp (k1 _ _ klp ekA))
      · rw [upd_ne (fun z => by rw [z, eF3] at eg3; cases eg3)]
        exact eg3
      · exact RowAll.move (fun b xs z => sqT_frz eF3 z) (rY.same s3)
      · rw [upd_ne (fun z => by rw [z, eF3] at z1; cases z1), z1, List.map_map]
        refine congrArg (fun z => some (HO.lst z)) (List.map_congr_left fun z hz => ?_)
        obtain ⟨s, t, rfl, _⟩ := nm.vals z hz
        rfl
    rintro σ8 G8 ⟨gl, ml, gs, rs, ts, rfl, k8, pen8, en, ekd, ek, eg, rg, hrs, lrs, em⟩
    clear pen7 k7
    -- some of its wishes
    refine ⟨fun σ Z => ∃ (gl : Addr) (gs : List V) (rs : List (List Key)), σ = [some (.ref a), some (.ref p), some (.int (0 + i)), some (.ref h), some (.ref nd), some (.ref kl), some (.ref kd), some (.ref wl), some (.str tx), some (.ref gl), some (.ref ml), d11, d12, d13] ∧ Same G8 Z ∧ SqT K Z gl gs ∧ RowAll K Z gs rs ∧ (∀ r ∈ rs, RowOk r) ∧ rs.length ≤ 8, ?_, ?_⟩
    · refine ⟨.ref gl, rfl, gl, rfl, ⟨_, .inl (.inl eg)⟩, fun D nD => ?_⟩
      refine lc_it (walk_list (a := gl) (xs := gs)) (fun j Y => Same G8 Y ∧ ∃ (vs : List V) (qs : List (List Key)), Y D = some (.lst vs) ∧ RowAll K Y vs qs ∧ (∀ r ∈ qs, RowOk r) ∧ qs.length ≤ j) ⟨same_new nD, [], [], upd_same, .nil, (fun _ z => nomatch z), Nat.le_refl _⟩ (fun j Y _ pv => .inl (.inl (pv.1 _ _ eg))) (fun j y Y Y' hj pv hy => ?_) (fun Y pv => ?_)
      · obtain ⟨rfl, hv⟩ := hy
        obtain ⟨sY, vs, qs, z1, z2, z3, z4⟩ := pv
        obtain ⟨u, r, rfl, hr, eu⟩ := (rg.same sY).at hv
        have ro := hrs r (List.mem_of_getElem? hr)
        obtain ⟨⟨w, s, rest, rfl⟩, l3, on⟩ := id ro
        have lv : vs.length ≤ 8 := by have := rg.length; rw [z2.length]; omega
        have yes : ∃ acc, Y' D = some (.lst acc) ∧ acc.length < sizeLine ∧ Same G8 (upd Y' D (.lst (acc ++ [.ref u]))) ∧ ∃ (vs : List V) (qs : List (List Key)), (upd Y' D (.lst (acc ++ [.ref u]))) D = some (.lst vs) ∧ RowAll K (upd Y' D (.lst (acc ++ [.ref u]))) vs qs ∧ (∀ r ∈ qs, RowOk r) ∧ qs.length ≤ j + 1 := by
          refine ⟨vs, z1, by rw [sizeLine_eq]; omega, same_mut sY nD, vs ++ [.ref u], qs ++ [.inr w :: .inr s :: rest], upd_same, RowAll.move (fun b xs z => sqT_off z1 z) (z2.append (.cons eu .nil)), fun r hr => ?_, by rw [List.length_append]; show qs.length + 1 ≤ _; omega⟩
          rcases List.mem_append.mp hr with hr | hr
          · exact z3 r hr
          · rw [List.mem_singleton.mp hr]; exact ro
        refine ⟨rfl, .ref u, by kernel_rfl, .inr (.inl ⟨u, _, 0, .str w, rfl, rfl, eu, atI_in (j := 0) rfl rfl, .inl ⟨rfl, _, rfl, iteAny ?_ ?_⟩⟩)⟩
        · exact ⟨.ref u, by kernel_rfl, yes⟩
        refine ⟨.ref u, by kernel_rfl, .inr (.inl ⟨u, _, 1, .str s, rfl, rfl, eu, atI_in (j := 1) rfl rfl, .ref kl, by kernel_rfl, kl, nl, _, rfl, .inl (.inl (.inl (sY _ _ ek))), .str s, _, rfl, iteAny ?_ ?_⟩)⟩
        · exact ⟨.ref u, by kernel_rfl, yes⟩
        refine ⟨.ref u, by kernel_rfl, .inr (.inl ⟨u, _, 1, .str s, rfl, rfl, eu, atI_in (j := 1) rfl rfl, .ref ml, by kernel_rfl, ml, ts, _, rfl, .inl (.inl (.inl (sY _ _ em))), .str s, _, rfl, iteAny ?_ ?_⟩)⟩
        · exact ⟨.ref u, by kernel_rfl, yes⟩
        · exact ⟨sY, vs, qs, z1, z2, z3, by omega⟩
      · obtain ⟨sY, vs, qs, z1, z2, z3, z4⟩ := pv
        have := rg.length
        refine .inl ⟨D, _, rfl, .inl (.inl z1), fun t nt => ?_⟩
        have s3 := same_new nt (o := .tup vs)
        exact ⟨t, vs, qs, rfl, sY.trans s3, .inl (.inl upd_same), z2.same s3, z3, by omega⟩
    clear eg rg hrs lrs
    rintro σ9 G9 ⟨gl, gs, rs, rfl, s9, eg, rg, hrs, lrs⟩
    have en := s9 _ _ en
    have ekd := s9 _ _ ekd
    have pen9 := pen8.same s9
    clear s9 pen8 em
    obtain ⟨shG, ndG⟩ := rows_turned nm (fun r hr => (hrs r hr).2.2)
    refine ⟨fun σ Z => σ = [some (.ref a), some (.ref p), some (.int (0 + i)), some (.ref h), some (.ref nd), some (.ref kl), some (.ref kd), some (.ref wl), some (.str tx), some (.ref gl), some (.ref ml), d11, d12, d13] ∧ Same G9 Z, ?_, ?_⟩
    · refine ⟨.ref nd, rfl, .ref gl, rfl, ?_⟩
      dsimp only [tNil]
      refine ⟨nd, gl, false, kvs, gs, rs, rfl, en, nm, eg, rg, fun r hr => (hrs r hr).len, by omega, fun u vs Z sZ eu ru => ?_⟩
      refine ⟨.ref kd, rfl, .ref gl, rfl, ?_⟩
      dsimp only [tNil]
      refine ⟨kd, gl, false, kvs, gs, rs, rfl, sZ _ _ ekd, nm, same_sqT sZ eg, rg.same sZ, fun r hr => (hrs r hr).len, by omega, fun u2 vs2 Z2 s2 eu2 ru2 => ?_⟩
      exact ne_alikeR (Dq.dp _ _ ndG (row_dq (same_sqT s2 eu) (ru.same s2))) (Dq.dp _ _ ndG (row_dq eu2 ru2)) shG ⟨_, rfl, iteF ⟨rfl, sZ.trans s2⟩⟩
    rintro σ10 G10 ⟨rfl, s10⟩
    have en := s10 _ _ en
    have ekd := s10 _ _ ekd
    have sh0 : SeqAt.shaped (rowsD []) = true := by decide +kernel
    -- of nothing
    refine ⟨.ref nd, rfl, by show 0 ≤ sizeLine; decide, fun t1 n1 => ?_⟩
    dsimp only [tNil]
    have a1 := same_new n1 (o := .tup [])
    refine ⟨nd, t1, false, kvs, [], [], rfl, a1 _ _ en, nm, .inl (.inl upd_same), .nil, (fun _ z => nomatch z), by decide, fun u vs Z sZ eu ru => ?_⟩
    refine ⟨by show 0 ≤ sizeLine; decide, fun t2 n2 => ?_⟩
    have a2 := same_new n2 (o := .tup [])
    have e2 : SqT K (upd Z t2 (.tup [])) t2 [] := .inl (.inl upd_same)
    have eu := same_sqT a2 eu
    have ru := ru.same a2
    have a3 := (a1.trans sZ).trans a2
    generalize upd Z t2 (.tup []) = Z2 at a3 e2 eu ru
    refine ne_alikeR (d := rowsD []) (Dq.dp _ _ rfl (row_dq eu ru)) (Dq.dp _ _ rfl (row_dq e2 .nil)) sh0 ⟨_, rfl, iteF ?_⟩
    refine ⟨.ref nd, rfl, by show 0 ≤ sizeLine; decide, fun t3 n3 => ?_⟩
    dsimp only [tNil]
    have b1 := same_new n3 (o := .tup [])
    refine ⟨nd, t3, false, kvs, [], [], rfl, b1 _ _ (a3 _ _ en), nm, .inl (.inl upd_same), .nil, (fun _ z => nomatch z), by decide, fun u4 vs4 Z4 s4 eu4 ru4 => ?_⟩
    refine ⟨by show 0 ≤ sizeLine; decide, fun t5 n5 => ?_⟩
    have b2 := same_new n5 (o := .tup [])
    have e5 : SqT K (upd Z4 t5 (.tup [])) t5 [] := .inl (.inl upd_same)
    have eu4 := same_sqT b2 eu4
    have ru4 := ru4.same b2
    have b3 := a3.trans ((b1.trans s4).trans b2)
    generalize upd Z4 t5 (.tup []) = Z5 at b3 e5 eu4 ru4
    refine ne_alikeR (d := rowsD []) (Dq.dp _ _ rfl (row_dq eu4 ru4)) (Dq.dp _ _ rfl (row_dq e5 .nil)) sh0 ⟨_, rfl, iteF ?_⟩
    refine ⟨.ref nd, rfl, .ref kd, rfl, nd, kd, kvs, kvs, rfl, rfl, b3 _ _ en, b3 _ _ ekd, rfl, fun z hz => ⟨valV_mem nm.nodup hz, ?_⟩, _, rfl, iteF ?_⟩
    · obtain ⟨s, t, rfl, _⟩ := nm.vals z hz
      rfl
    · exact ⟨_, _, _, _, _, _, _, _, _, _, _, _, rfl, ((pen9.same s10).same b3).le (by omega)⟩
end
end Wd

set_option Elab.async false
set_option linter.all false
set_option maxRecDepth 100000
set_option maxHeartbeats 8000000
namespace Wd
open PySem PySem.Spec PyProof.Rows L2
theorem all_mk {l : PySem.W.OpenLaw} {w : World} {K : PySem.W.Frag} {h : Heap} {mg : Str → Option Value} {fa : Addr} (X : K.In h) (G : h.Ns mainGlobals mg) (hfa : mg "law" = some (.ref fa))
    {fis_name : Addr} {ocis_name kVis_name docis_name pmis_name ctis_name : Value} {cdis_name : Value} {odis_name anis_name : Option Addr} {slis_name : Array (Option Value)}
    {fis_deed : Addr} {ocis_deed kVis_deed docis_deed pmis_deed ctis_deed : Value} {cdis_deed : Value} {odis_deed anis_deed : Option Addr} {slis_deed : Array (Option Value)}
    {fbecome : Addr} {ocbecome kVbecome docbecome pmbecome ctbecome : Value} {cdbecome : Value} {odbecome anbecome : Option Addr} {slbecome : Array (Option Value)}
    {fturned_way : Addr} {octurned_way kVturned_way docturned_way pmturned_way ctturned_way : Value} {cdturned_way : Value} {odturned_way anturned_way : Option Addr} {slturned_way : Array (Option Value)}
    {fturned_deed : Addr} {octurned_deed kVturned_deed docturned_deed pmturned_deed ctturned_deed : Value} {cdturned_deed : Value} {odturned_deed anturned_deed : Option Addr} {slturned_deed : Array (Option Value)}
    {fturned_goal : Addr} {octurned_goal kVturned_goal docturned_goal pmturned_goal ctturned_goal : Value} {cdturned_goal : Value} {odturned_goal anturned_goal : Option Addr} {slturned_goal : Array (Option Value)}
    {f_law_pen : Addr} {oc_law_pen kV_law_pen doc_law_pen pm_law_pen ct_law_pen : Value} {cd_law_pen : Value} {od_law_pen an_law_pen : Option Addr} {sl_law_pen : Array (Option Value)}
    {f_law_draw : Addr} {oc_law_draw kV_law_draw doc_law_draw pm_law_draw ct_law_draw : Value} {cd_law_draw : Value} {od_law_draw an_law_draw : Option Addr} {sl_law_draw : Array (Option Value)}
    {f_law_pick : Addr} {oc_law_pick kV_law_pick doc_law_pick pm_law_pick ct_law_pick : Value} {cd_law_pick : Value} {od_law_pick an_law_pick : Option Addr} {sl_law_pick : Array (Option Value)}
    {f_law_shuffled : Addr} {oc_law_shuffled kV_law_shuffled doc_law_shuffled pm_law_shuffled ct_law_shuffled : Value} {cd_law_shuffled : Value} {od_law_shuffled an_law_shuffled : Option Addr} {sl_law_shuffled : Array (Option Value)}
    {f_law_names : Addr} {oc_law_names kV_law_names doc_law_names pm_law_names ct_law_names : Value} {cd_law_names : Value} {od_law_names an_law_names : Option Addr} {sl_law_names : Array (Option Value)}
    {f_law_heft : Addr} {oc_law_heft kV_law_heft doc_law_heft pm_law_heft ct_law_heft : Value} {cd_law_heft : Value} {od_law_heft an_law_heft : Option Addr} {sl_law_heft : Array (Option Value)}
    {f_law_rows : Addr} {oc_law_rows kV_law_rows doc_law_rows pm_law_rows ct_law_rows : Value} {cd_law_rows : Value} {od_law_rows an_law_rows : Option Addr} {sl_law_rows : Array (Option Value)}
    {f_law_hall : Addr} {oc_law_hall kV_law_hall doc_law_hall pm_law_hall ct_law_hall : Value} {cd_law_hall : Value} {od_law_hall an_law_hall : Option Addr} {sl_law_hall : Array (Option Value)}
    {f_law_hall_of : Addr} {oc_law_hall_of kV_law_hall_of doc_law_hall_of pm_law_hall_of ct_law_hall_of : Value} {cd_law_hall_of : Value} {od_law_hall_of an_law_hall_of : Option Addr} {sl_law_hall_of : Array (Option Value)}
    {f_law_wish : Addr} {oc_law_wish kV_law_wish doc_law_wish pm_law_wish ct_law_wish : Value} {cd_law_wish : Value} {od_law_wish an_law_wish : Option Addr} {sl_law_wish : Array (Option Value)}
    {f_law_every_name : Addr} {oc_law_every_name kV_law_every_name doc_law_every_name pm_law_every_name ct_law_every_name : Value} {cd_law_every_name : Value} {od_law_every_name an_law_every_name : Option Addr} {sl_law_every_name : Array (Option Value)}
    {f_law_turned_parts : Addr} {oc_law_turned_parts kV_law_turned_parts doc_law_turned_parts pm_law_turned_parts ct_law_turned_parts : Value} {cd_law_turned_parts : Value} {od_law_turned_parts an_law_turned_parts : Option Addr} {sl_law_turned_parts : Array (Option Value)}
    {f_law_renaming : Addr} {oc_law_renaming kV_law_renaming doc_law_renaming pm_law_renaming ct_law_renaming : Value} {cd_law_renaming : Value} {od_law_renaming an_law_renaming : Option Addr} {sl_law_renaming : Array (Option Value)}
    {f_law_deed : Addr} {oc_law_deed kV_law_deed doc_law_deed pm_law_deed ct_law_deed : Value} {cd_law_deed : Value} {od_law_deed an_law_deed : Option Addr} {sl_law_deed : Array (Option Value)}
    {flaw : Addr} {oclaw kVlaw doclaw pmlaw ctlaw : Value} {cdlaw : Value} {odlaw anlaw : Option Addr} {sllaw : Array (Option Value)}
    {cWAIT : Addr} {cdWAIT : Option Addr} {cnWAIT : Nat} {csWAIT : Array (Option Value)} {ctWAIT0 : Tok}
    {tkLETTERS : Tok}
    {tkLONGEST_NAME : Tok}
    (ais_name : PySem.W.nsIn K mainGlobals "is_name" = some (some (.ref fis_name)))
    (lis_name : K.lookup fis_name = some ⟨ocis_name, odis_name, .func (PySem.W.fnOf "is_name" "is_name" (C8.fnArgs s_is_name) (C8.fnBody s_is_name) (C8.fnScope s_is_name) .none kVis_name docis_name pmis_name anis_name cdis_name ctis_name), slis_name⟩)
    (vis_name : PySem.W.codeIn K cdis_name "is_name" = true)
    (pis_name : PySem.W.keepIn K (.ref fis_name) = true)
    (ais_deed : PySem.W.nsIn K mainGlobals "is_deed" = some (some (.ref fis_deed)))
    (lis_deed : K.lookup fis_deed = some ⟨ocis_deed, odis_deed, .func (PySem.W.fnOf "is_deed" "is_deed" (C8.fnArgs s_is_deed) (C8.fnBody s_is_deed) (C8.fnScope s_is_deed) .none kVis_deed docis_deed pmis_deed anis_deed cdis_deed ctis_deed), slis_deed⟩)
    (vis_deed : PySem.W.codeIn K cdis_deed "is_deed" = true)
    (pis_deed : PySem.W.keepIn K (.ref fis_deed) = true)
    (abecome : PySem.W.nsIn K mainGlobals "become" = some (some (.ref fbecome)))
    (lbecome : K.lookup fbecome = some ⟨ocbecome, odbecome, .func (PySem.W.fnOf "become" "become" (C8.fnArgs s_become) (C8.fnBody s_become) (C8.fnScope s_become) .none kVbecome docbecome pmbecome anbecome cdbecome ctbecome), slbecome⟩)
    (vbecome : PySem.W.codeIn K cdbecome "become" = true)
    (pbecome : PySem.W.keepIn K (.ref fbecome) = true)
    (aturned_way : PySem.W.nsIn K mainGlobals "turned_way" = some (some (.ref fturned_way)))
    (lturned_way : K.lookup fturned_way = some ⟨octurned_way, odturned_way, .func (PySem.W.fnOf "turned_way" "turned_way" (C8.fnArgs s_turned_way) (C8.fnBody s_turned_way) (C8.fnScope s_turned_way) .none kVturned_way docturned_way pmturned_way anturned_way cdturned_way ctturned_way), slturned_way⟩)
    (vturned_way : PySem.W.codeIn K cdturned_way "turned_way" = true)
    (pturned_way : PySem.W.keepIn K (.ref fturned_way) = true)
    (aturned_deed : PySem.W.nsIn K mainGlobals "turned_deed" = some (some (.ref fturned_deed)))
    (lturned_deed : K.lookup fturned_deed = some ⟨octurned_deed, odturned_deed, .func (PySem.W.fnOf "turned_deed" "turned_deed" (C8.fnArgs s_turned_deed) (C8.fnBody s_turned_deed) (C8.fnScope s_turned_deed) .none kVturned_deed docturned_deed pmturned_deed anturned_deed cdturned_deed ctturned_deed), slturned_deed⟩)
    (vturned_deed : PySem.W.codeIn K cdturned_deed "turned_deed" = true)
    (pturned_deed : PySem.W.keepIn K (.ref fturned_deed) = true)
    (aturned_goal : PySem.W.nsIn K mainGlobals "turned_goal" = some (some (.ref fturned_goal)))
    (lturned_goal : K.lookup fturned_goal = some ⟨octurned_goal, odturned_goal, .func (PySem.W.fnOf "turned_goal" "turned_goal" (C8.fnArgs s_turned_goal) (C8.fnBody s_turned_goal) (C8.fnScope s_turned_goal) .none kVturned_goal docturned_goal pmturned_goal anturned_goal cdturned_goal ctturned_goal), slturned_goal⟩)
    (vturned_goal : PySem.W.codeIn K cdturned_goal "turned_goal" = true)
    (pturned_goal : PySem.W.keepIn K (.ref fturned_goal) = true)
    (a_law_pen : PySem.W.nsIn K mainGlobals "_law_pen" = some (some (.ref f_law_pen)))
    (l_law_pen : K.lookup f_law_pen = some ⟨oc_law_pen, od_law_pen, .func (PySem.W.fnOf "_law_pen" "_law_pen" (C8.fnArgs s__law_pen) (C8.fnBody s__law_pen) (C8.fnScope s__law_pen) .none kV_law_pen doc_law_pen pm_law_pen an_law_pen cd_law_pen ct_law_pen), sl_law_pen⟩)
    (v_law_pen : PySem.W.codeIn K cd_law_pen "_law_pen" = true)
    (p_law_pen : PySem.W.keepIn K (.ref f_law_pen) = true)
    (a_law_draw : PySem.W.nsIn K mainGlobals "_law_draw" = some (some (.ref f_law_draw)))
    (l_law_draw : K.lookup f_law_draw = some ⟨oc_law_draw, od_law_draw, .func (PySem.W.fnOf "_law_draw" "_law_draw" (C8.fnArgs s__law_draw) (C8.fnBody s__law_draw) (C8.fnScope s__law_draw) .none kV_law_draw doc_law_draw pm_law_draw an_law_draw cd_law_draw ct_law_draw), sl_law_draw⟩)
    (v_law_draw : PySem.W.codeIn K cd_law_draw "_law_draw" = true)
    (p_law_draw : PySem.W.keepIn K (.ref f_law_draw) = true)
    (a_law_pick : PySem.W.nsIn K mainGlobals "_law_pick" = some (some (.ref f_law_pick)))
    (l_law_pick : K.lookup f_law_pick = some ⟨oc_law_pick, od_law_pick, .func (PySem.W.fnOf "_law_pick" "_law_pick" (C8.fnArgs s__law_pick) (C8.fnBody s__law_pick) (C8.fnScope s__law_pick) .none kV_law_pick doc_law_pick pm_law_pick an_law_pick cd_law_pick ct_law_pick), sl_law_pick⟩)
    (v_law_pick : PySem.W.codeIn K cd_law_pick "_law_pick" = true)
    (p_law_pick : PySem.W.keepIn K (.ref f_law_pick) = true)
    (a_law_shuffled : PySem.W.nsIn K mainGlobals "_law_shuffled" = some (some (.ref f_law_shuffled)))
    (l_law_shuffled : K.lookup f_law_shuffled = some ⟨oc_law_shuffled, od_law_shuffled, .func (PySem.W.fnOf "_law_shuffled" "_law_shuffled" (C8.fnArgs s__law_shuffled) (C8.fnBody s__law_shuffled) (C8.fnScope s__law_shuffled) .none kV_law_shuffled doc_law_shuffled pm_law_shuffled an_law_shuffled cd_law_shuffled ct_law_shuffled), sl_law_shuffled⟩)
    (v_law_shuffled : PySem.W.codeIn K cd_law_shuffled "_law_shuffled" = true)
    (p_law_shuffled : PySem.W.keepIn K (.ref f_law_shuffled) = true)
    (a_law_names : PySem.W.nsIn K mainGlobals "_law_names" = some (some (.ref f_law_names)))
    (l_law_names : K.lookup f_law_names = some ⟨oc_law_names, od_law_names, .func (PySem.W.fnOf "_law_names" "_law_names" (C8.fnArgs s__law_names) (C8.fnBody s__law_names) (C8.fnScope s__law_names) .none kV_law_names doc_law_names pm_law_names an_law_names cd_law_names ct_law_names), sl_law_names⟩)
    (v_law_names : PySem.W.codeIn K cd_law_names "_law_names" = true)
    (p_law_names : PySem.W.keepIn K (.ref f_law_names) = true)
    (a_law_heft : PySem.W.nsIn K mainGlobals "_law_heft" = some (some (.ref f_law_heft)))
    (l_law_heft : K.lookup f_law_heft = some ⟨oc_law_heft, od_law_heft, .func (PySem.W.fnOf "_law_heft" "_law_heft" (C8.fnArgs s__law_heft) (C8.fnBody s__law_heft) (C8.fnScope s__law_heft) .none kV_law_heft doc_law_heft pm_law_heft an_law_heft cd_law_heft ct_law_heft), sl_law_heft⟩)
    (v_law_heft : PySem.W.codeIn K cd_law_heft "_law_heft" = true)
    (p_law_heft : PySem.W.keepIn K (.ref f_law_heft) = true)
    (a_law_rows : PySem.W.nsIn K mainGlobals "_law_rows" = some (some (.ref f_law_rows)))
    (l_law_rows : K.lookup f_law_rows = some ⟨oc_law_rows, od_law_rows, .func (PySem.W.fnOf "_law_rows" "_law_rows" (C8.fnArgs s__law_rows) (C8.fnBody s__law_rows) (C8.fnScope s__law_rows) .none kV_law_rows doc_law_rows pm_law_rows an_law_rows cd_law_rows ct_law_rows), sl_law_rows⟩)
    (v_law_rows : PySem.W.codeIn K cd_law_rows "_law_rows" = true)
    (p_law_rows : PySem.W.keepIn K (.ref f_law_rows) = true)
    (a_law_hall : PySem.W.nsIn K mainGlobals "_law_hall" = some (some (.ref f_law_hall)))
    (l_law_hall : K.lookup f_law_hall = some ⟨oc_law_hall, od_law_hall, .func (PySem.W.fnOf "_law_hall" "_law_hall" (C8.fnArgs s__law_hall) (C8.fnBody s__law_hall) (C8.fnScope s__law_hall) .none kV_law_hall doc_law_hall pm_law_hall an_law_hall cd_law_hall ct_law_hall), sl_law_hall⟩)
    (v_law_hall : PySem.W.codeIn K cd_law_hall "_law_hall" = true)
    (p_law_hall : PySem.W.keepIn K (.ref f_law_hall) = true)
    (a_law_hall_of : PySem.W.nsIn K mainGlobals "_law_hall_of" = some (some (.ref f_law_hall_of)))
    (l_law_hall_of : K.lookup f_law_hall_of = some ⟨oc_law_hall_of, od_law_hall_of, .func (PySem.W.fnOf "_law_hall_of" "_law_hall_of" (C8.fnArgs s__law_hall_of) (C8.fnBody s__law_hall_of) (C8.fnScope s__law_hall_of) .none kV_law_hall_of doc_law_hall_of pm_law_hall_of an_law_hall_of cd_law_hall_of ct_law_hall_of), sl_law_hall_of⟩)
    (v_law_hall_of : PySem.W.codeIn K cd_law_hall_of "_law_hall_of" = true)
    (p_law_hall_of : PySem.W.keepIn K (.ref f_law_hall_of) = true)
    (a_law_wish : PySem.W.nsIn K mainGlobals "_law_wish" = some (some (.ref f_law_wish)))
    (l_law_wish : K.lookup f_law_wish = some ⟨oc_law_wish, od_law_wish, .func (PySem.W.fnOf "_law_wish" "_law_wish" (C8.fnArgs s__law_wish) (C8.fnBody s__law_wish) (C8.fnScope s__law_wish) .none kV_law_wish doc_law_wish pm_law_wish an_law_wish cd_law_wish ct_law_wish), sl_law_wish⟩)
    (v_law_wish : PySem.W.codeIn K cd_law_wish "_law_wish" = true)
    (p_law_wish : PySem.W.keepIn K (.ref f_law_wish) = true)
    (a_law_every_name : PySem.W.nsIn K mainGlobals "_law_every_name" = some (some (.ref f_law_every_name)))
    (l_law_every_name : K.lookup f_law_every_name = some ⟨oc_law_every_name, od_law_every_name, .func (PySem.W.fnOf "_law_every_name" "_law_every_name" (C8.fnArgs s__law_every_name) (C8.fnBody s__law_every_name) (C8.fnScope s__law_every_name) .none kV_law_every_name doc_law_every_name pm_law_every_name an_law_every_name cd_law_every_name ct_law_every_name), sl_law_every_name⟩)
    (v_law_every_name : PySem.W.codeIn K cd_law_every_name "_law_every_name" = true)
    (p_law_every_name : PySem.W.keepIn K (.ref f_law_every_name) = true)
    (a_law_turned_parts : PySem.W.nsIn K mainGlobals "_law_turned_parts" = some (some (.ref f_law_turned_parts)))
    (l_law_turned_parts : K.lookup f_law_turned_parts = some ⟨oc_law_turned_parts, od_law_turned_parts, .func (PySem.W.fnOf "_law_turned_parts" "_law_turned_parts" (C8.fnArgs s__law_turned_parts) (C8.fnBody s__law_turned_parts) (C8.fnScope s__law_turned_parts) .none kV_law_turned_parts doc_law_turned_parts pm_law_turned_parts an_law_turned_parts cd_law_turned_parts ct_law_turned_parts), sl_law_turned_parts⟩)
    (v_law_turned_parts : PySem.W.codeIn K cd_law_turned_parts "_law_turned_parts" = true)
    (p_law_turned_parts : PySem.W.keepIn K (.ref f_law_turned_parts) = true)
    (a_law_renaming : PySem.W.nsIn K mainGlobals "_law_renaming" = some (some (.ref f_law_renaming)))
    (l_law_renaming : K.lookup f_law_renaming = some ⟨oc_law_renaming, od_law_renaming, .func (PySem.W.fnOf "_law_renaming" "_law_renaming" (C8.fnArgs s__law_renaming) (C8.fnBody s__law_renaming) (C8.fnScope s__law_renaming) .none kV_law_renaming doc_law_renaming pm_law_renaming an_law_renaming cd_law_renaming ct_law_renaming), sl_law_renaming⟩)
    (v_law_renaming : PySem.W.codeIn K cd_law_renaming "_law_renaming" = true)
    (p_law_renaming : PySem.W.keepIn K (.ref f_law_renaming) = true)
    (a_law_deed : PySem.W.nsIn K mainGlobals "_law_deed" = some (some (.ref f_law_deed)))
    (l_law_deed : K.lookup f_law_deed = some ⟨oc_law_deed, od_law_deed, .func (PySem.W.fnOf "_law_deed" "_law_deed" (C8.fnArgs s__law_deed) (C8.fnBody s__law_deed) (C8.fnScope s__law_deed) .none kV_law_deed doc_law_deed pm_law_deed an_law_deed cd_law_deed ct_law_deed), sl_law_deed⟩)
    (v_law_deed : PySem.W.codeIn K cd_law_deed "_law_deed" = true)
    (p_law_deed : PySem.W.keepIn K (.ref f_law_deed) = true)
    (alaw : PySem.W.nsIn K mainGlobals "law" = some (some (.ref flaw)))
    (llaw : K.lookup flaw = some ⟨oclaw, odlaw, .func (PySem.W.fnOf "law" "law" (C8.fnArgs s_law) (C8.fnBody s_law) (C8.fnScope s_law) .none kVlaw doclaw pmlaw anlaw cdlaw ctlaw), sllaw⟩)
    (vlaw : PySem.W.codeIn K cdlaw "law" = true)
    (plaw : PySem.W.keepIn K (.ref flaw) = true)
    (aWAIT : PySem.W.nsIn K mainGlobals "WAIT" = some (some (.ref cWAIT)))
    (lWAIT : K.lookup cWAIT = some { cls := .type "tuple", dict := cdWAIT, data := .seq #[.str "wait" ctWAIT0] cnWAIT, slots := csWAIT })
    (aLETTERS : PySem.W.nsIn K mainGlobals "LETTERS" = some (some (.str "abcdefghijklmnopqrstuvwxyz" tkLETTERS)))
    (aLONGEST_NAME : PySem.W.nsIn K mainGlobals "LONGEST_NAME" = some (some (.int 8 tkLONGEST_NAME)))
    (zall : PySem.W.nsIn K mainGlobals "all" = some none)
    (zlen : PySem.W.nsIn K mainGlobals "len" = some none)
    (zabs : PySem.W.nsIn K mainGlobals "abs" = some none)
    (zlist : PySem.W.nsIn K mainGlobals "list" = some none)
    (zrange : PySem.W.nsIn K mainGlobals "range" = some none)
    (zmin : PySem.W.nsIn K mainGlobals "min" = some none)
    (zmax : PySem.W.nsIn K mainGlobals "max" = some none)
    (zsum : PySem.W.nsIn K mainGlobals "sum" = some none)
    (zsorted : PySem.W.nsIn K mainGlobals "sorted" = some none)
    (ztuple : PySem.W.nsIn K mainGlobals "tuple" = some none)
    (zint : PySem.W.nsIn K mainGlobals "int" = some none)
    (zstr : PySem.W.nsIn K mainGlobals "str" = some none)
    (zisinstance : PySem.W.nsIn K mainGlobals "isinstance" = some none)
    (zrepr : PySem.W.nsIn K mainGlobals "repr" = some none)
    (zdict : PySem.W.nsIn K mainGlobals "dict" = some none)
    (zzip : PySem.W.nsIn K mainGlobals "zip" = some none)
    (zKeyError : PySem.W.nsIn K mainGlobals "KeyError" = some none) :
    ∃ fd : FuncData, (∀ (s : Shared) (v : Value), BindsTo s fd ⟨[v], []⟩ [("script", v)]) ∧ ∀ base : Heap, K.In base → base.Ns mainGlobals mg → FnG l.prog w K mg base CX0 7 fa fd ["script"] (spLaw K) := by
  have e := hfa.symm.trans (PySem.W.mg_of X G alaw)
  cases e
  have Dis_name : C8.Def K mg "is_name" s_is_name fis_name (PySem.W.fnOf "is_name" "is_name" (C8.fnArgs s_is_name) (C8.fnBody s_is_name) (C8.fnScope s_is_name) .none kVis_name docis_name pmis_name anis_name cdis_name ctis_name) := ⟨⟨⟨_, _, _, _, _, _, _, _, _, _, rfl, lis_name, vis_name⟩⟩, PySem.W.mg_of X G ais_name, pis_name⟩
  have bis_name : Binds K (PySem.W.fnOf "is_name" "is_name" (C8.fnArgs s_is_name) (C8.fnBody s_is_name) (C8.fnScope s_is_name) .none kVis_name docis_name pmis_name anis_name cdis_name ctis_name) ["thing"] [] := .all fun us hl => match us, hl with | [_], _ => rfl
  have Dis_deed : C8.Def K mg "is_deed" s_is_deed fis_deed (PySem.W.fnOf "is_deed" "is_deed" (C8.fnArgs s_is_deed) (C8.fnBody s_is_deed) (C8.fnScope s_is_deed) .none kVis_deed docis_deed pmis_deed anis_deed cdis_deed ctis_deed) := ⟨⟨⟨_, _, _, _, _, _, _, _, _, _, rfl, lis_deed, vis_deed⟩⟩, PySem.W.mg_of X G ais_deed, pis_deed⟩
  have bis_deed : Binds K (PySem.W.fnOf "is_deed" "is_deed" (C8.fnArgs s_is_deed) (C8.fnBody s_is_deed) (C8.fnScope s_is_deed) .none kVis_deed docis_deed pmis_deed anis_deed cdis_deed ctis_deed) ["thing"] [] := .all fun us hl => match us, hl with | [_], _ => rfl
  have Dbecome : C8.Def K mg "become" s_become fbecome (PySem.W.fnOf "become" "become" (C8.fnArgs s_become) (C8.fnBody s_become) (C8.fnScope s_become) .none kVbecome docbecome pmbecome anbecome cdbecome ctbecome) := ⟨⟨⟨_, _, _, _, _, _, _, _, _, _, rfl, lbecome, vbecome⟩⟩, PySem.W.mg_of X G abecome, pbecome⟩
  have bbecome : Binds K (PySem.W.fnOf "become" "become" (C8.fnArgs s_become) (C8.fnBody s_become) (C8.fnScope s_become) .none kVbecome docbecome pmbecome anbecome cdbecome ctbecome) ["names", "name"] [] := .all fun us hl => match us, hl with | [_, _], _ => rfl
  have Dturned_way : C8.Def K mg "turned_way" s_turned_way fturned_way (PySem.W.fnOf "turned_way" "turned_way" (C8.fnArgs s_turned_way) (C8.fnBody s_turned_way) (C8.fnScope s_turned_way) .none kVturned_way docturned_way pmturned_way anturned_way cdturned_way ctturned_way) := ⟨⟨⟨_, _, _, _, _, _, _, _, _, _, rfl, lturned_way, vturned_way⟩⟩, PySem.W.mg_of X G aturned_way, pturned_way⟩
  have bturned_way : Binds K (PySem.W.fnOf "turned_way" "turned_way" (C8.fnArgs s_turned_way) (C8.fnBody s_turned_way) (C8.fnScope s_turned_way) .none kVturned_way docturned_way pmturned_way anturned_way cdturned_way ctturned_way) ["names", "way"] [] := .all fun us hl => match us, hl with | [_, _], _ => rfl
  have Dturned_deed : C8.Def K mg "turned_deed" s_turned_deed fturned_deed (PySem.W.fnOf "turned_deed" "turned_deed" (C8.fnArgs s_turned_deed) (C8.fnBody s_turned_deed) (C8.fnScope s_turned_deed) .none kVturned_deed docturned_deed pmturned_deed anturned_deed cdturned_deed ctturned_deed) := ⟨⟨⟨_, _, _, _, _, _, _, _, _, _, rfl, lturned_deed, vturned_deed⟩⟩, PySem.W.mg_of X G aturned_deed, pturned_deed⟩
  have bturned_deed : Binds K (PySem.W.fnOf "turned_deed" "turned_deed" (C8.fnArgs s_turned_deed) (C8.fnBody s_turned_deed) (C8.fnScope s_turned_deed) .none kVturned_deed docturned_deed pmturned_deed anturned_deed cdturned_deed ctturned_deed) ["names", "deed"] [] := .all fun us hl => match us, hl with | [_, _], _ => rfl
  have Dturned_goal : C8.Def K mg "turned_goal" s_turned_goal fturned_goal (PySem.W.fnOf "turned_goal" "turned_goal" (C8.fnArgs s_turned_goal) (C8.fnBody s_turned_goal) (C8.fnScope s_turned_goal) .none kVturned_goal docturned_goal pmturned_goal anturned_goal cdturned_goal ctturned_goal) := ⟨⟨⟨_, _, _, _, _, _, _, _, _, _, rfl, lturned_goal, vturned_goal⟩⟩, PySem.W.mg_of X G aturned_goal, pturned_goal⟩
  have bturned_goal : Binds K (PySem.W.fnOf "turned_goal" "turned_goal" (C8.fnArgs s_turned_goal) (C8.fnBody s_turned_goal) (C8.fnScope s_turned_goal) .none kVturned_goal docturned_goal pmturned_goal anturned_goal cdturned_goal ctturned_goal) ["names", "goal"] [] := .all fun us hl => match us, hl with | [_, _], _ => rfl
  have D_law_pen : C8.Def K mg "_law_pen" s__law_pen f_law_pen (PySem.W.fnOf "_law_pen" "_law_pen" (C8.fnArgs s__law_pen) (C8.fnBody s__law_pen) (C8.fnScope s__law_pen) .none kV_law_pen doc_law_pen pm_law_pen an_law_pen cd_law_pen ct_law_pen) := ⟨⟨⟨_, _, _, _, _, _, _, _, _, _, rfl, l_law_pen, v_law_pen⟩⟩, PySem.W.mg_of X G a_law_pen, p_law_pen⟩
  have b_law_pen : Binds K (PySem.W.fnOf "_law_pen" "_law_pen" (C8.fnArgs s__law_pen) (C8.fnBody s__law_pen) (C8.fnScope s__law_pen) .none kV_law_pen doc_law_pen pm_law_pen an_law_pen cd_law_pen ct_law_pen) ["script"] [] := .all fun us hl => match us, hl with | [_], _ => rfl
  have D_law_draw : C8.Def K mg "_law_draw" s__law_draw f_law_draw (PySem.W.fnOf "_law_draw" "_law_draw" (C8.fnArgs s__law_draw) (C8.fnBody s__law_draw) (C8.fnScope s__law_draw) .none kV_law_draw doc_law_draw pm_law_draw an_law_draw cd_law_draw ct_law_draw) := ⟨⟨⟨_, _, _, _, _, _, _, _, _, _, rfl, l_law_draw, v_law_draw⟩⟩, PySem.W.mg_of X G a_law_draw, p_law_draw⟩
  have b_law_draw : Binds K (PySem.W.fnOf "_law_draw" "_law_draw" (C8.fnArgs s__law_draw) (C8.fnBody s__law_draw) (C8.fnScope s__law_draw) .none kV_law_draw doc_law_draw pm_law_draw an_law_draw cd_law_draw ct_law_draw) ["pen", "many"] [] := .all fun us hl => match us, hl with | [_, _], _ => rfl
  have D_law_pick : C8.Def K mg "_law_pick" s__law_pick f_law_pick (PySem.W.fnOf "_law_pick" "_law_pick" (C8.fnArgs s__law_pick) (C8.fnBody s__law_pick) (C8.fnScope s__law_pick) .none kV_law_pick doc_law_pick pm_law_pick an_law_pick cd_law_pick ct_law_pick) := ⟨⟨⟨_, _, _, _, _, _, _, _, _, _, rfl, l_law_pick, v_law_pick⟩⟩, PySem.W.mg_of X G a_law_pick, p_law_pick⟩
  have b_law_pick : Binds K (PySem.W.fnOf "_law_pick" "_law_pick" (C8.fnArgs s__law_pick) (C8.fnBody s__law_pick) (C8.fnScope s__law_pick) .none kV_law_pick doc_law_pick pm_law_pick an_law_pick cd_law_pick ct_law_pick) ["pen", "some"] [] := .all fun us hl => match us, hl with | [_, _], _ => rfl
  have D_law_shuffled : C8.Def K mg "_law_shuffled" s__law_shuffled f_law_shuffled (PySem.W.fnOf "_law_shuffled" "_law_shuffled" (C8.fnArgs s__law_shuffled) (C8.fnBody s__law_shuffled) (C8.fnScope s__law_shuffled) .none kV_law_shuffled doc_law_shuffled pm_law_shuffled an_law_shuffled cd_law_shuffled ct_law_shuffled) := ⟨⟨⟨_, _, _, _, _, _, _, _, _, _, rfl, l_law_shuffled, v_law_shuffled⟩⟩, PySem.W.mg_of X G a_law_shuffled, p_law_shuffled⟩
  have b_law_shuffled : Binds K (PySem.W.fnOf "_law_shuffled" "_law_shuffled" (C8.fnArgs s__law_shuffled) (C8.fnBody s__law_shuffled) (C8.fnScope s__law_shuffled) .none kV_law_shuffled doc_law_shuffled pm_law_shuffled an_law_shuffled cd_law_shuffled ct_law_shuffled) ["pen", "some"] [] := .all fun us hl => match us, hl with | [_, _], _ => rfl
  have D_law_names : C8.Def K mg "_law_names" s__law_names f_law_names (PySem.W.fnOf "_law_names" "_law_names" (C8.fnArgs s__law_names) (C8.fnBody s__law_names) (C8.fnScope s__law_names) .none kV_law_names doc_law_names pm_law_names an_law_names cd_law_names ct_law_names) := ⟨⟨⟨_, _, _, _, _, _, _, _, _, _, rfl, l_law_names, v_law_names⟩⟩, PySem.W.mg_of X G a_law_names, p_law_names⟩
  have b_law_names : Binds K (PySem.W.fnOf "_law_names" "_law_names" (C8.fnArgs s__law_names) (C8.fnBody s__law_names) (C8.fnScope s__law_names) .none kV_law_names doc_law_names pm_law_names an_law_names cd_law_names ct_law_names) ["pen", "many"] [] := .all fun us hl => match us, hl with | [_, _], _ => rfl
  have D_law_heft : C8.Def K mg "_law_heft" s__law_heft f_law_heft (PySem.W.fnOf "_law_heft" "_law_heft" (C8.fnArgs s__law_heft) (C8.fnBody s__law_heft) (C8.fnScope s__law_heft) .none kV_law_heft doc_law_heft pm_law_heft an_law_heft cd_law_heft ct_law_heft) := ⟨⟨⟨_, _, _, _, _, _, _, _, _, _, rfl, l_law_heft, v_law_heft⟩⟩, PySem.W.mg_of X G a_law_heft, p_law_heft⟩
  have b_law_heft : Binds K (PySem.W.fnOf "_law_heft" "_law_heft" (C8.fnArgs s__law_heft) (C8.fnBody s__law_heft) (C8.fnScope s__law_heft) .none kV_law_heft doc_law_heft pm_law_heft an_law_heft cd_law_heft ct_law_heft) ["pen"] [] := .all fun us hl => match us, hl with | [_], _ => rfl
  have D_law_rows : C8.Def K mg "_law_rows" s__law_rows f_law_rows (PySem.W.fnOf "_law_rows" "_law_rows" (C8.fnArgs s__law_rows) (C8.fnBody s__law_rows) (C8.fnScope s__law_rows) .none kV_law_rows doc_law_rows pm_law_rows an_law_rows cd_law_rows ct_law_rows) := ⟨⟨⟨_, _, _, _, _, _, _, _, _, _, rfl, l_law_rows, v_law_rows⟩⟩, PySem.W.mg_of X G a_law_rows, p_law_rows⟩
  have b_law_rows : Binds K (PySem.W.fnOf "_law_rows" "_law_rows" (C8.fnArgs s__law_rows) (C8.fnBody s__law_rows) (C8.fnScope s__law_rows) .none kV_law_rows doc_law_rows pm_law_rows an_law_rows cd_law_rows ct_law_rows) ["pen", "rooms", "hefts"] [] := .all fun us hl => match us, hl with | [_, _, _], _ => rfl
  have D_law_hall : C8.Def K mg "_law_hall" s__law_hall f_law_hall (PySem.W.fnOf "_law_hall" "_law_hall" (C8.fnArgs s__law_hall) (C8.fnBody s__law_hall) (C8.fnScope s__law_hall) .none kV_law_hall doc_law_hall pm_law_hall an_law_hall cd_law_hall ct_law_hall) := ⟨⟨⟨_, _, _, _, _, _, _, _, _, _, rfl, l_law_hall, v_law_hall⟩⟩, PySem.W.mg_of X G a_law_hall, p_law_hall⟩
  have b_law_hall : Binds K (PySem.W.fnOf "_law_hall" "_law_hall" (C8.fnArgs s__law_hall) (C8.fnBody s__law_hall) (C8.fnScope s__law_hall) .none kV_law_hall doc_law_hall pm_law_hall an_law_hall cd_law_hall ct_law_hall) ["pen", "size"] [] := .all fun us hl => match us, hl with | [_, _], _ => rfl
  have D_law_hall_of : C8.Def K mg "_law_hall_of" s__law_hall_of f_law_hall_of (PySem.W.fnOf "_law_hall_of" "_law_hall_of" (C8.fnArgs s__law_hall_of) (C8.fnBody s__law_hall_of) (C8.fnScope s__law_hall_of) .none kV_law_hall_of doc_law_hall_of pm_law_hall_of an_law_hall_of cd_law_hall_of ct_law_hall_of) := ⟨⟨⟨_, _, _, _, _, _, _, _, _, _, rfl, l_law_hall_of, v_law_hall_of⟩⟩, PySem.W.mg_of X G a_law_hall_of, p_law_hall_of⟩
  have b_law_hall_of : Binds K (PySem.W.fnOf "_law_hall_of" "_law_hall_of" (C8.fnArgs s__law_hall_of) (C8.fnBody s__law_hall_of) (C8.fnScope s__law_hall_of) .none kV_law_hall_of doc_law_hall_of pm_law_hall_of an_law_hall_of cd_law_hall_of ct_law_hall_of) ["pen", "names", "size"] [] := .all fun us hl => match us, hl with | [_, _, _], _ => rfl
  have D_law_wish : C8.Def K mg "_law_wish" s__law_wish f_law_wish (PySem.W.fnOf "_law_wish" "_law_wish" (C8.fnArgs s__law_wish) (C8.fnBody s__law_wish) (C8.fnScope s__law_wish) .none kV_law_wish doc_law_wish pm_law_wish an_law_wish cd_law_wish ct_law_wish) := ⟨⟨⟨_, _, _, _, _, _, _, _, _, _, rfl, l_law_wish, v_law_wish⟩⟩, PySem.W.mg_of X G a_law_wish, p_law_wish⟩
  have b_law_wish : Binds K (PySem.W.fnOf "_law_wish" "_law_wish" (C8.fnArgs s__law_wish) (C8.fnBody s__law_wish) (C8.fnScope s__law_wish) .none kV_law_wish doc_law_wish pm_law_wish an_law_wish cd_law_wish ct_law_wish) ["pen", "hall"] [] := .all fun us hl => match us, hl with | [_, _], _ => rfl
  have D_law_every_name : C8.Def K mg "_law_every_name" s__law_every_name f_law_every_name (PySem.W.fnOf "_law_every_name" "_law_every_name" (C8.fnArgs s__law_every_name) (C8.fnBody s__law_every_name) (C8.fnScope s__law_every_name) .none kV_law_every_name doc_law_every_name pm_law_every_name an_law_every_name cd_law_every_name ct_law_every_name) := ⟨⟨⟨_, _, _, _, _, _, _, _, _, _, rfl, l_law_every_name, v_law_every_name⟩⟩, PySem.W.mg_of X G a_law_every_name, p_law_every_name⟩
  have b_law_every_name : Binds K (PySem.W.fnOf "_law_every_name" "_law_every_name" (C8.fnArgs s__law_every_name) (C8.fnBody s__law_every_name) (C8.fnScope s__law_every_name) .none kV_law_every_name doc_law_every_name pm_law_every_name an_law_every_name cd_law_every_name ct_law_every_name) ["hall"] [] := .all fun us hl => match us, hl with | [_], _ => rfl
  have D_law_turned_parts : C8.Def K mg "_law_turned_parts" s__law_turned_parts f_law_turned_parts (PySem.W.fnOf "_law_turned_parts" "_law_turned_parts" (C8.fnArgs s__law_turned_parts) (C8.fnBody s__law_turned_parts) (C8.fnScope s__law_turned_parts) .none kV_law_turned_parts doc_law_turned_parts pm_law_turned_parts an_law_turned_parts cd_law_turned_parts ct_law_turned_parts) := ⟨⟨⟨_, _, _, _, _, _, _, _, _, _, rfl, l_law_turned_parts, v_law_turned_parts⟩⟩, PySem.W.mg_of X G a_law_turned_parts, p_law_turned_parts⟩
  have b_law_turned_parts : Binds K (PySem.W.fnOf "_law_turned_parts" "_law_turned_parts" (C8.fnArgs s__law_turned_parts) (C8.fnBody s__law_turned_parts) (C8.fnScope s__law_turned_parts) .none kV_law_turned_parts doc_law_turned_parts pm_law_turned_parts an_law_turned_parts cd_law_turned_parts ct_law_turned_parts) ["names", "rows"] [] := .all fun us hl => match us, hl with | [_, _], _ => rfl
  have D_law_renaming : C8.Def K mg "_law_renaming" s__law_renaming f_law_renaming (PySem.W.fnOf "_law_renaming" "_law_renaming" (C8.fnArgs s__law_renaming) (C8.fnBody s__law_renaming) (C8.fnScope s__law_renaming) .none kV_law_renaming doc_law_renaming pm_law_renaming an_law_renaming cd_law_renaming ct_law_renaming) := ⟨⟨⟨_, _, _, _, _, _, _, _, _, _, rfl, l_law_renaming, v_law_renaming⟩⟩, PySem.W.mg_of X G a_law_renaming, p_law_renaming⟩
  have b_law_renaming : Binds K (PySem.W.fnOf "_law_renaming" "_law_renaming" (C8.fnArgs s__law_renaming) (C8.fnBody s__law_renaming) (C8.fnScope s__law_renaming) .none kV_law_renaming doc_law_renaming pm_law_renaming an_law_renaming cd_law_renaming ct_law_renaming) ["pen", "hall"] [] := .all fun us hl => match us, hl with | [_, _], _ => rfl
  have D_law_deed : C8.Def K mg "_law_deed" s__law_deed f_law_deed (PySem.W.fnOf "_law_deed" "_law_deed" (C8.fnArgs s__law_deed) (C8.fnBody s__law_deed) (C8.fnScope s__law_deed) .none kV_law_deed doc_law_deed pm_law_deed an_law_deed cd_law_deed ct_law_deed) := ⟨⟨⟨_, _, _, _, _, _, _, _, _, _, rfl, l_law_deed, v_law_deed⟩⟩, PySem.W.mg_of X G a_law_deed, p_law_deed⟩
  have b_law_deed : Binds K (PySem.W.fnOf "_law_deed" "_law_deed" (C8.fnArgs s__law_deed) (C8.fnBody s__law_deed) (C8.fnScope s__law_deed) .none kV_law_deed doc_law_deed pm_law_deed an_law_deed cd_law_deed ct_law_deed) ["pen", "known"] [] := .all fun us hl => match us, hl with | [_, _], _ => rfl
  have Dlaw : C8.Def K mg "law" s_law fa (PySem.W.fnOf "law" "law" (C8.fnArgs s_law) (C8.fnBody s_law) (C8.fnScope s_law) .none kVlaw doclaw pmlaw anlaw cdlaw ctlaw) := ⟨⟨⟨_, _, _, _, _, _, _, _, _, _, rfl, llaw, vlaw⟩⟩, PySem.W.mg_of X G alaw, plaw⟩
  have blaw : Binds K (PySem.W.fnOf "law" "law" (C8.fnArgs s_law) (C8.fnBody s_law) (C8.fnScope s_law) .none kVlaw doclaw pmlaw anlaw cdlaw ctlaw) ["script"] [] := .all fun us hl => match us, hl with | [_], _ => rfl
  have gWAIT := PySem.W.mg_of X G aWAIT
  have tWAIT : ∀ H, SqT K H cWAIT [V.str "wait"] := fun H => .inr ⟨_, _, _, lWAIT, rfl, rfl, by rw [sizeLine_eq]; show 1 ≤ 16777216; decide, .cons ⟨ctWAIT0, rfl⟩ (.nil)⟩
  refine ⟨PySem.W.fnOf "law" "law" (C8.fnArgs s_law) (C8.fnBody s_law) (C8.fnScope s_law) .none kVlaw doclaw pmlaw anlaw cdlaw ctlaw, fun s v => .of_eq rfl, fun base _ _ => ?_⟩
  have T : Txt l.prog w K mg base ⟨⟩ := {
    b_len := PySem.W.mg_none_of X G zlen
    b_abs := PySem.W.mg_none_of X G zabs
    b_list := PySem.W.mg_none_of X G zlist
    b_range := PySem.W.mg_none_of X G zrange
    b_min := PySem.W.mg_none_of X G zmin
    b_max := PySem.W.mg_none_of X G zmax
    b_sum := PySem.W.mg_none_of X G zsum
    b_sorted := PySem.W.mg_none_of X G zsorted
    b_tuple := PySem.W.mg_none_of X G ztuple
    b_int := PySem.W.mg_none_of X G zint
    b_str := PySem.W.mg_none_of X G zstr
    b_isinstance := PySem.W.mg_none_of X G zisinstance
    b_repr := PySem.W.mg_none_of X G zrepr
    b_dict := PySem.W.mg_none_of X G zdict
    b_zip := PySem.W.mg_none_of X G zzip
    b_KeyError := PySem.W.mg_none_of X G zKeyError }
  have cd := c_draw T D_law_draw b_law_draw
  have cp := c_pick T cd D_law_pick b_law_pick
  have ch := c_hall T (c_names T cd cp D_law_names b_law_names) (c_hallOf T cd cp (c_heft T cd D_law_heft b_law_heft) (c_rows T cd cp D_law_rows b_law_rows) D_law_hall_of b_law_hall_of) D_law_hall b_law_hall
  have isn := c_isname T (PySem.W.mg_of X G aLETTERS) (PySem.W.mg_none_of X G zall) (PySem.W.mg_of X G aLONGEST_NAME) Dis_name bis_name
  have isd := c_isdeed T gWAIT tWAIT isn Dis_deed bis_deed
  have pen := c_pen T D_law_pen b_law_pen
  have wi := c_wish T cd cp D_law_wish b_law_wish
  have sf := c_shuf T cd D_law_shuffled b_law_shuffled
  have nm := c_names T cd cp D_law_names b_law_names
  have ev := c_every T D_law_every_name b_law_every_name
  have rn := c_ren T cd sf nm ev D_law_renaming b_law_renaming
  have dl := c_deedL T cp D_law_deed b_law_deed
  have bc := c_become T Dbecome bbecome
  have td := c_turnDeed T gWAIT tWAIT isd bc Dturned_deed bturned_deed
  have tw := c_turnWay T td Dturned_way bturned_way
  have tg := c_turnGoal T bc Dturned_goal bturned_goal
  have tp := c_turnParts T D_law_turned_parts b_law_turned_parts
  exact c_law T pen cd ch rn ev dl wi tp tw tg Dlaw
end Wd

set_option Elab.async false
set_option linter.all false
set_option maxRecDepth 100000
open PySem PySem.W PyProof.Rows
set_option maxHeartbeats 0 in
theorem PySem.Challenge.cw_weighdoors_k69_ways_and_goals_by_other_n_holds : PySem.Challenge.rw_weighdoors_k69_ways_and_goals_by_other_n.Holds := by
  w_on; o_law; k_head; (case hw => w_witness2)
  k_fill
  refine Wd.walk_g (l := PySem.Challenge.rw_weighdoors_k69_ways_and_goals_by_other_n) (n := 63) (k := 7) (x := "script") (sp := fun w => Wd.spLaw _) rfl (by decide) rfl ⟨rfl, by decide, by decide⟩ (fun w h Y => PySem.W.kIn_of Y) ?F (fun _ _ a ks hl _ hS => ⟨a, ks, rfl, hS, hl, fun _ => rfl⟩)
  case F =>
    intro w mg fa h KX G hmg
    refine' Wd.all_mk KX G hmg ?ais_name ?lis_name ?vis_name ?pis_name ?ais_deed ?lis_deed ?vis_deed ?pis_deed ?abecome ?lbecome ?vbecome ?pbecome ?aturned_way ?lturned_way ?vturned_way ?pturned_way ?aturned_deed ?lturned_deed ?vturned_deed ?pturned_deed ?aturned_goal ?lturned_goal ?vturned_goal ?pturned_goal ?a_law_pen ?l_law_pen ?v_law_pen ?p_law_pen ?a_law_draw ?l_law_draw ?v_law_draw ?p_law_draw ?a_law_pick ?l_law_pick ?v_law_pick ?p_law_pick ?a_law_shuffled ?l_law_shuffled ?v_law_shuffled ?p_law_shuffled ?a_law_names ?l_law_names ?v_law_names ?p_law_names ?a_law_heft ?l_law_heft ?v_law_heft ?p_law_heft ?a_law_rows ?l_law_rows ?v_law_rows ?p_law_rows ?a_law_hall ?l_law_hall ?v_law_hall ?p_law_hall ?a_law_hall_of ?l_law_hall_of ?v_law_hall_of ?p_law_hall_of ?a_law_wish ?l_law_wish ?v_law_wish ?p_law_wish ?a_law_every_name ?l_law_every_name ?v_law_every_name ?p_law_every_name ?a_law_turned_parts ?l_law_turned_parts ?v_law_turned_parts ?p_law_turned_parts ?a_law_renaming ?l_law_renaming ?v_law_renaming ?p_law_renaming ?a_law_deed ?l_law_deed ?v_law_deed ?p_law_deed ?alaw ?llaw ?vlaw ?plaw ?aWAIT ?lWAIT ?aLETTERS ?aLONGEST_NAME ?zall ?zlen ?zabs ?zlist ?zrange ?zmin ?zmax ?zsum ?zsorted ?ztuple ?zint ?zstr ?zisinstance ?zrepr ?zdict ?zzip ?zKeyError
    (case ais_name => k_is); (case lis_name => k_is); (case vis_name => k_is); (case pis_name => k_is); (case ais_deed => k_is); (case lis_deed => k_is)
    (case vis_deed => k_is); (case pis_deed => k_is); (case abecome => k_is); (case lbecome => k_is); (case vbecome => k_is); (case pbecome => k_is)
    (case aturned_way => k_is); (case lturned_way => k_is); (case vturned_way => k_is); (case pturned_way => k_is); (case aturned_deed => k_is); (case lturned_deed => k_is)
    (case vturned_deed => k_is); (case pturned_deed => k_is); (case aturned_goal => k_is); (case lturned_goal => k_is); (case vturned_goal => k_is); (case pturned_goal => k_is)
    (case a_law_pen => k_is); (case l_law_pen => k_is); (case v_law_pen => k_is); (case p_law_pen => k_is); (case a_law_draw => k_is); (case l_law_draw => k_is)
    (case v_law_draw => k_is); (case p_law_draw => k_is); (case a_law_pick => k_is); (case l_law_pick => k_is); (case v_law_pick => k_is); (case p_law_pick => k_is)
    (case a_law_shuffled => k_is); (case l_law_shuffled => k_is); (case v_law_shuffled => k_is); (case p_law_shuffled => k_is); (case a_law_names => k_is); (case l_law_names => k_is)
    (case v_law_names => k_is); (case p_law_names => k_is); (case a_law_heft => k_is); (case l_law_heft => k_is); (case v_law_heft => k_is); (case p_law_heft => k_is)
    (case a_law_rows => k_is); (case l_law_rows => k_is); (case v_law_rows => k_is); (case p_law_rows => k_is); (case a_law_hall => k_is); (case l_law_hall => k_is)
    (case v_law_hall => k_is); (case p_law_hall => k_is); (case a_law_hall_of => k_is); (case l_law_hall_of => k_is); (case v_law_hall_of => k_is); (case p_law_hall_of => k_is)
    (case a_law_wish => k_is); (case l_law_wish => k_is); (case v_law_wish => k_is); (case p_law_wish => k_is); (case a_law_every_name => k_is); (case l_law_every_name => k_is)
    (case v_law_every_name => k_is); (case p_law_every_name => k_is); (case a_law_turned_parts => k_is); (case l_law_turned_parts => k_is); (case v_law_turned_parts => k_is); (case p_law_turned_parts => k_is)
    (case a_law_renaming => k_is); (case l_law_renaming => k_is); (case v_law_renaming => k_is); (case p_law_renaming => k_is); (case a_law_deed => k_is); (case l_law_deed => k_is)
    (case v_law_deed => k_is); (case p_law_deed => k_is); (case alaw => k_is); (case llaw => k_is); (case vlaw => k_is); (case plaw => k_is)
    (case aWAIT => k_is); (case lWAIT => k_is); (case aLETTERS => k_is); (case aLONGEST_NAME => k_is); (case zall => k_is); (case zlen => k_is)
    (case zabs => k_is); (case zlist => k_is); (case zrange => k_is); (case zmin => k_is); (case zmax => k_is); (case zsum => k_is)
    (case zsorted => k_is); (case ztuple => k_is); (case zint => k_is); (case zstr => k_is); (case zisinstance => k_is); (case zrepr => k_is)
    (case zdict => k_is); (case zzip => k_is); (case zKeyError => k_is)
