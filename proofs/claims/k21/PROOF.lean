import PyProof.Rows.All
import Wide.All
import OpenK.AllK
import Wide.FinOn
import HandS.ForMost
import HandS.Wide
import HandS.Style
import HandS.Flow
import HandS.RaiseMore
import HandS.Defaults
import HandS.MakeKwOnly
import HandS.Evl
import KE.DataCmp
import HandS.Property
import HandS.Comp
import HandS.DictComp
import HandS.ExcInit
import HandS.ExcIs
import HandS.More
import HandS.Star
import HandS.Strs
import HandS.TryOnly
import HandS.CallSlots
import HandS.WordsExc
import HandS.SetFor
import PyProof.SeqIndex
import HandS.IsInst
import HandS.ExcField
import HandS.Dict
import PySem.Challenge.RW_ownwake_k21_live_tables
set_option Elab.async false
set_option maxRecDepth 100000
/-! defs that are called where nothing is being shown (repr): the layer's own def rule with that one fact carried along -/
namespace Own
open PySem PySem.Spec PyProof.Rows L2

abbrev Quiet (A : Around) : Prop := A.guards = some []

/-- a def that keeps sp, called where nothing is being shown -/
structure GOk (P : Program) (w : World) (K : PySem.W.Frag) (mg : Str → Option Value) (g0 : Heap) (Z : CXT) (k : Nat)
    (f : Addr) (fd : FuncData) (ps : List Str) (sp : Sp) : Prop where
  len : ∀ vs H Q E, sp vs H Q E → vs.length = ps.length
  run : ∀ (A : Around) (up : List Env) (s : Shared) (H : Hp) (as : Args) (us : List Value) (vs : List V) (Q : VK) (E : XK),
    Quiet A → Room k A → Env0 P w K mg g0 A up s H → BindsTo s fd as (ps.zip us) → Vals vs us → sp vs H Q E →
    codeAny (model P w) A (.call (.ref f) as) (CR Z up P w H s Q E) s

section
variable {P : Program} {w : World} {K : PySem.W.Frag} {mg : Str → Option Value} {g0 : Heap} {Z : CXT} {k j : Nat}
  {f : Addr} {fd : FuncData} {ps : List Str} {sp : Sp}
theorem GOk.of (F : FnOk P w K mg g0 Z k f fd ps sp) : GOk P w K mg g0 Z k f fd ps sp :=
  ⟨F.len, fun A up s H as us vs Q E _ => F.run A up s H as us vs Q E⟩
theorem GOk.mono (F : GOk P w K mg g0 Z j f fd ps sp) (h : j ≤ k) : GOk P w K mg g0 Z k f fd ps sp :=
  ⟨F.len, fun A up s H as us vs Q E q r => F.run A up s H as us vs Q E q (r.mono h)⟩
end

section
variable {X : Cx} {Z : CXT} {k : Nat} {f : Addr} {fd : FuncData} {ps : List Str} {sp : Sp} {dvs : List V} {ds : List Value}
  {E : XK} {x : Str} {p pos : Pos} {e : Expr} {es : List Expr} {t : TA}

theorem goRun {pins : List (Addr × Obj)} {σ : L2.St} {H : Hp} {s : Shared} {Q : VK} {us : List Value} {vs : List V}
    (qt : Quiet X.A) (F : GOk X.prog X.w X.K X.mg X.base Z k f fd ps sp) (room : Room k X.A)
    (bd : Binds X.K fd ps ds) (dv : Vals dvs ds) (px : Passes Z X E) (I : Inv X pins σ H s) (rv : Vals vs us)
    (q : sp (vs ++ dvs) H Q E) : wpAny (model X.prog X.w) X.A (call (.ref f) us) (EP X pins σ Q) X.xe s := by
  have rr : Vals (vs ++ dvs) (us ++ ds) := rv.append dv
  have ll : (us ++ ds).length = ps.length := rr.length.symm.trans (F.len _ _ _ _ q)
  have cc := F.run X.A X.stack s H ⟨us, []⟩ (us ++ ds) (vs ++ dvs) Q E qt room I.env0 (bd s us I.kIn ll) rr q
  refine wpAny_call (codeAny_mono cc ?_)
  intro r s' z
  match r, z with
  | .error e, z => exact px pins σ H s e s' I z
  | .ok (.ret u), z => exact I.after z
  | .ok .next, z => exact z.elim
  | .ok .brk, z => exact z.elim
  | .ok .cont, z => exact z.elim

/-- f(e, ..) -/
theorem pe_callG (qt : Quiet X.A) (F : GOk X.prog X.w X.K X.mg X.base Z k f fd ps sp) (room : Room k X.A) (gl : Gl X x)
    (at_ : X.mg x = some (.ref f)) (kp : PySem.W.keepIn X.K (.ref f) = true) (bd : Binds X.K fd ps ds) (dv : Vals dvs ds)
    (px : Passes Z X E) (pa : PA X (e :: es) t) (nodbg : (x == ("__debug__" : Str)) = false := by decide)
    (st : starEach (e :: es) X.env = (false, eval e X.env) :: starEach es X.env := by rfl)
    (pl : (backTo pos (starEach es X.env)).any (·.1) = false := by rfl) :
    PE X (.Call (.Name x p) (e :: es) [] pos) (tCall sp dvs E t) := by
  constructor
  intro pins s σ H Q I q
  refine wpAny_Call_Name_kw (ld_glob I gl at_ ?_ nodbg)
  refine PySem.W.callWith_K (h₀ := X.base) I.ok.mod.kin kp ?_ st pl
  exact thn (pa.run pos pins s σ H _ I q) fun us s1 ⟨vs, H1, I1, rv, q1⟩ => ⟨I1.kIn, goRun qt F room bd dv px I1 rv q1⟩
end

/-- a def of the text, by its body, where nothing is being shown -/
theorem okG {P : Program} {w : World} {K : PySem.W.Frag} {mg : Str → Option Value} {g0 : Heap} {x qual : Str} {st : Stmt} {f : Addr}
    {fd : FuncData} {N ps : List Str} {k : Nat} {sp : Sp} (F : Fun K x qual st f fd) (S : FnScope N ps (defScope st))
    (len : ∀ vs H Q E, sp vs H Q E → vs.length = ps.length)
    (body : ∀ (cdv : Value) (A : Around) (up : List Env) (s : Shared) (H : Hp) (vs : List V) (Q : VK) (E : XK), Quiet A →
      Room k (A.deeper (envOfC qual (defScope st) s.heap.objs.size f cdv)) → sp vs H Q E →
      ∃ t, PSs (cxOf CX0 P w K mg g0 N qual (defScope st) f cdv A up s H E).nox (defBody st) t ∧
        t { nx := fun _ H' => Q .non H', rt := Q } (start N vs) H) : GOk P w K mg g0 CX0 (k + 1) f fd ps sp := by
  obtain ⟨oc, od, kV, doc, pm, an, cdv, ct, osl, rfl, lk, hcd⟩ := F.ex
  refine ⟨len, ?_⟩
  intro A up s H as us vs Q E qt room e0 bd rv q
  have ll := len _ _ _ _ q
  have kk : K.In s.heap := e0.mod.kin.keeps fun b o e => (e0.bs b o e).1
  have nolim : s.heap.NoLimit := e0.mod.nolimit.keeps fun b o e => (e0.bs b o e).1
  have names : ∀ y ∈ ps.zip us, (defScope st).names.lookup y.1 = some .local ∨
      ((defScope st).names.lookup y.1 = some .cell ∧
        ((cellsFrom (s.heap.objs.size + 1) (defScope st).names []).lookup y.1).isSome = true) := by
    rintro ⟨n, v⟩ hy
    exact (S.par n (List.of_mem_zip hy).1).imp id fun z => ⟨z, PySem.W.cellsFrom_some _ _ _ (.inl z)⟩
  refine codeAny_call_function room.depth (kk _ _ lk) rfl S.co S.gen rfl (PySem.W.codeRec_of kk hcd) (bd _ _ _ _ ?_)
  refine wpAny_newFunctionEnv_cells S.kind names ?_
  intro env he s1 ic
  subst he
  refine ⟨nolim.keeps ic.toInCall.keep, codeAny_func ?_⟩
  obtain ⟨t, pt, rd⟩ := body cdv A up s H vs Q E qt (room.deeper _) q
  have I := inv_start (CX := CX0) (E := E) S room.hd e0 ll rv ic
  have run := (PSs.nox pt).run [] s1 (start N vs) H _ I rd
  refine wpAny_mono run ?_ fun e s' z => z
  intro fl s' z
  have fin : ∀ {σ' : L2.St} {H' : Hp} {v : V} {u : Value},
      Inv (cxOf CX0 P w K mg g0 N qual (defScope st) f cdv A up s H E) [] σ' H' s' → RelV v u → Q v H' → CE up P w H s Q u s' := by
    intro σ' H' v u J rr qq
    exact ⟨v, H', J.os, J.bare, J.base, J.hok, rr, qq⟩
  match fl, z with
  | .ret u, ⟨v, σ', H', J, rr, qq⟩ => exact fin J rr qq
  | .next, ⟨σ', H', J, qq⟩ => exact fin (v := V.non) (u := Value.none) J rfl qq
  | .brk, ⟨_, _, _, z⟩ => exact z.elim
  | .cont, ⟨_, _, _, z⟩ => exact z.elim

theorem quiet_deeper {A : Around} {env : Env} (q : Quiet A) : Quiet (A.deeper env) := q
theorem quiet_caller : Quiet callerA := rfl

/-! ### repr of data -/
mutual
theorem dp_nodict {K : PySem.W.Frag} {H : Hp} : ∀ {d : PyData} {v : V}, Dp K H v d → d.hasDict = false
  | .none, _, _ => rfl
  | .bool _, _, _ => rfl
  | .int _, _, _ => rfl
  | .str _, _, _ => rfl
  | .list _, _, .lst _ a => dps_nodict a
  | .tuple _, _, .tup _ a => dps_nodict a
theorem dps_nodict {K : PySem.W.Frag} {H : Hp} : ∀ {ds : List PyData} {vs : List V}, DpAll K H vs ds → PyData.hasDictAll ds = false
  | [], _, _ => rfl
  | _ :: _, _, .cons a b => by
    show (_ || _) = false
    rw [dp_nodict a, dps_nodict b]
    rfl
end
/-- repr(x), x data -/
def rRepr (K : PySem.W.Frag) : List V → Hp → VK → Prop := fun xs H Q =>
  ∃ x d, xs = [x] ∧ Dp K H x d ∧ d.showable = true ∧ d.depth ≤ 60 ∧ d.shown.length ≤ sizeLine ∧ Q (.str d.shown) H
theorem call_repr {X : Cx} (qt : Quiet X.A) (hu : X.A.units + 64 < cLine) : CallR X (.builtin "repr") (rRepr X.K) := by
  intro pins s σ H xs us Q I rv h
  obtain ⟨x, d, rfl, hd, hs, hz, hl, q⟩ := h
  obtain ⟨u, rfl, rx⟩ : ∃ u, us = [u] ∧ RelV x u := by
    cases rv with
    | cons a b =>
      cases b
      exact ⟨_, rfl, a⟩
  obtain ⟨as, rd⟩ := Dp.reads I d x u hd rx
  have nd := dp_nodict hd
  cases hd with
  | non =>
    cases rx
    exact P.repr_of_none ⟨.str "None", H, I.tok _, ⟨_, rfl⟩, q⟩
  | bl b =>
    cases rx
    exact P.repr_of_bool ⟨.str (if b then "True" else "False"), H, I.tok _, ⟨_, rfl⟩, q⟩
  | int i =>
    obtain ⟨t, rfl⟩ := rx
    refine P.repr_of_int ?_ ⟨.str (toString i), H, I.tok _, ⟨_, rfl⟩, q⟩
    simpa [PyData.showable] using hs
  | str y =>
    obtain ⟨t, rfl⟩ := rx
    exact P.repr_of_str ⟨.str (reprText y), H, I.tok _, ⟨_, rfl⟩, q⟩ hl
  | lst _ _ =>
    cases rx
    exact repr_of_reads' rd hs (fun z => by rw [nd] at z; cases z) qt (by omega) (fun _ _ z => z)
      (fun h' w tk k => ⟨.str _, H, I.kept k, ⟨_, rfl⟩, q⟩) hl
  | tup _ _ =>
    cases rx
    exact repr_of_reads' rd hs (fun z => by rw [nd] at z; cases z) qt (by omega) (fun _ _ z => z)
      (fun h' w tk k => ⟨.str _, H, I.kept k, ⟨_, rfl⟩, q⟩) hl

/-! ### a < b, a > b of alike data -/
def rLtD (K : PySem.W.Frag) : R2 := fun x y H Q => ∃ d e, Dp K H x d ∧ Dp K H y e ∧ PySem.W.alike d e = true ∧ d ≠ .none ∧ d.depth ≤ 60 ∧ Q (.bl (PySem.W.dataLt d e)) H
def rGtD (K : PySem.W.Frag) : R2 := fun x y H Q => ∃ d e, Dp K H x d ∧ Dp K H y e ∧ PySem.W.alike d e = true ∧ d ≠ .none ∧ d.depth ≤ 60 ∧ Q (.bl (PySem.W.dataLt e d)) H
theorem op_ltD {X : Cx} (hu : X.A.units + 64 < cLine) : OpR X (compareOp .Lt) (rLtD X.K) := by
  intro pins s σ H x y v u Q I rx ry h
  obtain ⟨d, e, hd, he, al, nn, dp, q⟩ := h
  obtain ⟨as, r1⟩ := Dp.reads I d x v hd rx
  obtain ⟨bs, r2⟩ := Dp.reads I e y u he ry
  exact PySem.W.lt_data r1 r2 al nn (by omega) ⟨.bl _, H, I, rfl, q⟩
theorem op_gtD {X : Cx} (hu : X.A.units + 64 < cLine) : OpR X (compareOp .Gt) (rGtD X.K) := by
  intro pins s σ H x y v u Q I rx ry h
  obtain ⟨d, e, hd, he, al, nn, dp, q⟩ := h
  obtain ⟨as, r1⟩ := Dp.reads I d x v hd rx
  obtain ⟨bs, r2⟩ := Dp.reads I e y u he ry
  exact PySem.W.gt_data r1 r2 al nn (by omega) ⟨.bl _, H, I, rfl, q⟩
end Own

set_option Elab.async false
set_option maxRecDepth 100000
/-! the law's call, from a promise that is kept where nothing is being shown -/
namespace Own
open PySem PySem.Spec PyProof.Rows L2

/-- the wish of the law: True -/
abbrev qTrue : VK := fun v _ => v = .bl true

theorem lawG {P : Program} {w : World} {K : PySem.W.Frag} {mg mb : Str → Option Value} {k : Nat} {fa a : Addr} {fd : FuncData}
    {x : Str} {sp : Sp} {s : Shared} {vs : List Value} {ns : List Int} (kk : K.In s.heap) (gm : s.heap.Ns mainGlobals mg)
    (gb : s.heap.Ns builtinsNs mb) (gbb : ∀ y : Str, y ≠ "__name__" → mb y = bootBuiltins y) (nolim : s.heap.NoLimit)
    (nog : s.gens = #[]) (at_ : s.heap.get? a = some { cls := .type "list", data := .seq vs.toArray }) (hin : IntsAre vs ns)
    (small : ns.length ≤ sizeLine) (room : Room k callerA)
    (F : ∀ g0 : Heap, K.In g0 → g0.Ns mainGlobals mg → GOk P w K mg g0 CX0 k fa fd [x] sp)
    (bd : ∀ (s : Shared) (u : Value), BindsTo s fd ⟨[u], []⟩ [(x, u)])
    (sp0 : ∀ H : Hp, Only H → SqL K H a (ns.map V.int) → sp [.ref a] H qTrue fun _ _ _ => False) :
    codeAny (model P w) callerA (.call (.ref fa) ⟨[.ref a], []⟩)
      (fun r s' => r = .ok (.ret (.bool true)) ∧ OldK s.heap s'.heap ∧ s'.os = s.os ∧ AllBare s'.gens) s := by
  have rv := vals_ints hin
  have nv : vs.length = ns.length := hin.length
  -- whatever the abstract heap says of the script, it says nothing else
  have main : ∀ H : Hp, (∀ b, H b ≠ none → b = a) → Only H → SqL K H a (ns.map V.int) → HOk P w H s.heap → (H a ≠ none → K.lookup a = none) →
      codeAny (model P w) callerA (.call (.ref fa) ⟨[.ref a], []⟩)
        (fun r s' => r = .ok (.ret (.bool true)) ∧ OldK s.heap s'.heap ∧ s'.os = s.os ∧ AllBare s'.gens) s := by
    intro H onlyA only sq hok notK
    have dictNone : ∀ {b : Addr} {o : Obj} {es : Array DictEntry} {n : Nat}, s.heap.get? b = some o → o.data = .dict es n → H b = none := by
      intro b o es n ho hd
      match hb : H b with
      | none => rfl
      | some u =>
        obtain rfl := onlyA b (by rw [hb]; exact fun z => nomatch z)
        rw [at_] at ho
        cases ho
        cases hd
    have ns0 : ∀ {b : Addr} {m : Str → Option Value}, s.heap.Ns b m → (hidT s.heap H).Ns b m := by
      rintro b m ⟨o, es, n, ho, hd, r⟩
      exact ⟨o, es, n, hidT_get ho (dictNone ho hd), hd, r⟩
    have k0 : K.In (hidT s.heap H) := by
      intro b o hb
      refine hidT_get (kk b o hb) ?_
      match hH : H b with
      | none => rfl
      | some u =>
        obtain rfl := onlyA b (by rw [hH]; exact fun z => nomatch z)
        rw [notK (by rw [hH]; exact fun z => nomatch z)] at hb
        cases hb
    have md : Mod K mg (hidT s.heap H) :=
      { kin := k0, glob := ns0 gm, blt := ⟨mb, ns0 gb, gbb⟩, nolimit := by obtain ⟨mc, n1, n2⟩ := nolim; exact ⟨mc, ns0 n1, n2⟩ }
    have e0 : Env0 P w K mg (hidT s.heap H) callerA [] s H :=
      { frames := rfl, mod := md, bs := fun b o e => of_hidT e, bsz := Nat.le_of_eq (hidT_size _ _), funs := trivial,
        frf := fun b hb => absurd (show b ∈ ([] : List Addr) from hb) (by simp), hok := hok, bare := .of_eq nog }
    have cc := (F _ k0 (ns0 gm)).run callerA [] s H ⟨[.ref a], []⟩ [.ref a] [.ref a] qTrue (fun _ _ _ => False) quiet_caller room e0
      (bd s (.ref a)) (.cons rfl .nil) (sp0 H only sq)
    refine codeAny_mono cc ?_
    intro r s' z
    match r, z with
    | .error e, z => exact z.elim
    | .ok .next, z => exact z.elim
    | .ok .brk, z => exact z.elim
    | .ok .cont, z => exact z.elim
    | .ok (.ret u), ⟨v, H', os, bare, un, hok', rr, q⟩ =>
      have q' : v = V.bl true := q
      subst q'
      obtain rfl : u = Value.bool true := rr
      refine ⟨rfl, OldK.of_keep ?_, os, bare⟩
      intro b o ho
      have nf : b ∉ frs ([] : List Env) := fun z => absurd (show b ∈ ([] : List Addr) from z) (by simp)
      match hb : H b with
      | none => exact un.keep b o ho hb nf (by simp)
      | some u =>
        rcases only b with z | ⟨ob, xs, z⟩
        · rw [hb] at z
          cases z
        · have z2 := un.frzs b ob _ z
          have p1 := (hok b _ z).1
          have p2 := (hok' b _ z2).1
          rw [ho] at p1
          cases p1
          exact p2
  match hk : K.lookup a with
  | some o =>
    have e := kk a o hk
    rw [at_] at e
    cases e
    refine main (fun _ => none) (fun b z => absurd rfl z) (fun b => .inl rfl) ?_ (fun b u z => ?_) fun z => absurd rfl z
    · refine .inr ⟨_, vs.toArray, _, hk, rfl, rfl, rfl, ?_, by simpa using rv⟩
      rw [List.size_toArray, nv]
      exact small
    · have z' : (none : Option HO) = some u := z
      cases z'
  | none =>
    let o1 : HO := .frz { cls := .type "list", data := .seq vs.toArray } (.lst (ns.map V.int))
    have ya : (fun b => if b = a then some o1 else none : Hp) a = some o1 := if_pos rfl
    refine main (fun b => if b = a then some o1 else none) (fun b z => ?_) (fun b => ?_) (.inl (.inr ⟨_, ya⟩)) (fun b u z => ?_) fun _ => hk
    · by_cases hb : b = a
      · exact hb
      · exact absurd (if_neg hb) z
    · by_cases hb : b = a
      · exact .inr ⟨_, _, if_pos hb⟩
      · exact .inl (if_neg hb)
    · by_cases hb : b = a
      · have z' := (if_pos hb).symm.trans z
        cases z'
        subst hb
        refine ⟨at_, ?_, vs, _, rv, at_⟩
        rw [List.length_map]
        exact small
      · have z' := (if_neg hb).symm.trans z
        cases z'

theorem walkG {l : PySem.W.OpenLaw} {n k : Nat} {q : Program} {loose : List Str} {XP : (Str → Option Value) → Heap → Prop}
    {YP : World → Heap → Prop} {d : DefRec} {K : Params → PySem.W.Frag} {sp : World → Sp} {x : Str}
    (hn : l.most = some n) (hn2 : n ≤ sizeLine) (hdf : d.params.defaults = []) (room : Room k callerA)
    (hY : ∀ (w : World) (h : Heap), YP w h → (K w.params).In h)
    (F : ∀ (w : World) (mg : Str → Option Value) (fa : Addr) (h : Heap), (K w.params).In h → h.Ns mainGlobals mg → mg d.name = some (.ref fa) →
      ∃ fd : FuncData, (∀ (s : Shared) (u : Value), BindsTo s fd ⟨[u], []⟩ [(x, u)]) ∧
        ∀ g0 : Heap, (K w.params).In g0 → g0.Ns mainGlobals mg → GOk l.prog w (K w.params) mg g0 CX0 k fa fd [x] (sp w))
    (sp0 : ∀ (w : World) (H : Hp) (a : Addr) (ns : List Int), ns.length ≤ n → Only H → SqL (K w.params) H a (ns.map V.int) →
      sp w [.ref a] H qTrue fun _ _ _ => False) :
    PySem.W.WalkO q loose XP YP l.row.toRowW d [] (fun f vs => PySem.call f vs) := by
  refine Att.attach_call hn hdf ?_
  intro w s0 s mg mb fa o pm cd doc a vs ns G Y ho hd hcd hmg hobj hin hlen hg
  have kk := hY w _ Y
  obtain ⟨fd, bd, FF⟩ := F w mg fa _ kk G.T.g hmg
  exact lawG kk G.T.g G.T.b G.T.builtins G.T.nolimit hg hobj hin (Nat.le_trans hlen hn2) room FF bd fun H hO hS => sp0 w H a ns hlen hO hS
end Own

set_option Elab.async false
set_option maxRecDepth 100000
/-! calls by name, readings step by step, heaps that grow -/
namespace Own
open PySem PySem.Spec PyProof.Rows L2

/-! ### a def that stands at a name -/
structure Cal (P : Program) (w : World) (K : PySem.W.Frag) (mg : Str → Option Value) (g0 : Heap) (x : Str) (k : Nat) (ps : List Str) (sp : Sp) : Prop where
  ex : ∃ (f : Addr) (fd : FuncData), GOk P w K mg g0 CX0 k f fd ps sp ∧ Binds K fd ps [] ∧ mg x = some (.ref f) ∧ PySem.W.keepIn K (.ref f) = true
/-- .. by keywords: n values, then those of the names ks -/
structure CalK (P : Program) (w : World) (K : PySem.W.Frag) (mg : Str → Option Value) (g0 : Heap) (x : Str) (k : Nat) (ps : List Str) (n : Nat) (ks : List Str) (gV : List V → List V → List V) (sp : Sp) : Prop where
  ex : ∃ (f : Addr) (fd : FuncData) (g : List Value → List Value → List Value), GOk P w K mg g0 CX0 k f fd ps sp ∧ KBn K fd ps n ks g gV ∧ mg x = some (.ref f) ∧ PySem.W.keepIn K (.ref f) = true
section
variable {X : Cx} {k n : Nat} {ps ks : List Str} {sp : Sp} {x : Str} {p pos : Pos} {e : Expr} {es : List Expr} {kws : List Keyword} {t tk : TA} {gV : List V → List V → List V}
theorem pe_c (C : Cal X.prog X.w X.K X.mg X.base x k ps sp) (qt : Quiet X.A) (room : Room k X.A) (pa : PA X (e :: es) t) (gl : Gl X x := by rfl)
    (nodbg : (x == ("__debug__" : Str)) = false := by decide)
    (st : starEach (e :: es) X.env = (false, eval e X.env) :: starEach es X.env := by rfl)
    (pl : (backTo pos (starEach es X.env)).any (·.1) = false := by rfl) :
    PE X (.Call (.Name x p) (e :: es) [] pos) (tCall sp [] E0 t) := by
  obtain ⟨f, fd, G, bd, at_, kp⟩ := C.ex
  exact pe_callG qt G room gl at_ kp bd .nil pass0 pa nodbg st pl
theorem goRunK {pins : List (Addr × Obj)} {σ : L2.St} {H : Hp} {s : Shared} {Q : VK} {us ws : List Value} {vs zs : List V}
    (C : CalK X.prog X.w X.K X.mg X.base x k ps n ks gV sp) (qt : Quiet X.A) (room : Room k X.A) (I : Inv X pins σ H s) (rv : Vals vs us) (rz : Vals zs ws)
    (l1 : vs.length = n) (l2 : zs.length = ks.length) (q : sp (gV vs zs) H Q E0) (f : Addr) (at_ : X.mg x = some (.ref f)) :
    wpAny (model X.prog X.w) X.A (call (.ref f) us (ks.zip ws)) (EP X pins σ Q) X.xe s := by
  obtain ⟨f', fd, g, G, bd, at', kp⟩ := C.ex
  rw [at_] at at'
  cases at'
  have rr := bd.rel rv rz
  have cc := G.run X.A X.stack s H ⟨us, ks.zip ws⟩ (g us ws) (gV vs zs) Q E0 qt room I.env0
    (bd.to s us ws I.kIn (rv.length.symm.trans l1) (rz.length.symm.trans l2)) rr q
  refine wpAny_call (codeAny_mono cc ?_)
  intro r s' z
  match r, z with
  | .error e, z => exact z.elim
  | .ok (.ret u), z => exact I.after z
  | .ok .next, z => exact z.elim
  | .ok .brk, z => exact z.elim
  | .ok .cont, z => exact z.elim
def tCK (n m : Nat) (sp : Sp) (gV : List V → List V → List V) (t tk : TA) : TE := fun σ H Q =>
  t σ H fun vs H1 => tk σ H1 fun zs H2 => vs.length = n ∧ zs.length = m ∧ sp (gV vs zs) H2 Q E0
/-- f(k = v, ..) -/
theorem pe_ck0 (C : CalK X.prog X.w X.K X.mg X.base x k ps 0 ks gV sp) (qt : Quiet X.A) (room : Room k X.A) (pk : PK X kws tk) (gl : Gl X x := by rfl)
    (all : (backToKw pos (keywordEach kws X.env)).all (·.1.isSome) = true := by rfl) (nm : (backToKw pos (keywordEach kws X.env)).filterMap (·.1) = ks := by rfl)
    (nodbg : (x == ("__debug__" : Str)) = false := by decide)
    (pl : ((backTo pos (starEach [] X.env)).any (·.1) || (backToKw pos (keywordEach kws X.env)).any (·.1.isNone)) = false := by rfl) :
    PE X (.Call (.Name x p) [] kws pos) (tCK 0 ks.length sp gV tNil tk) := by
  obtain ⟨f, fd, g, G, bd, at_, kp⟩ := C.ex
  constructor
  intro pins s σ H Q I q
  refine wpAny_Call_Name_kw (ld_glob I gl at_ ?_ nodbg)
  refine PySem.W.callWith_KW0 (h₀ := X.base) I.ok.mod.kin kp all ?_ pl
  refine thn (pk.run pos pins s σ H _ I q) fun ws s2 ⟨zs, H2, I2, rz, l1, l2, q2⟩ => ⟨I2.kIn, ?_⟩
  rw [nm]
  exact goRunK C qt room I2 .nil rz rfl l2 q2 f at_
/-- f(e, .., k = v, ..) -/
theorem pe_ck (C : CalK X.prog X.w X.K X.mg X.base x k ps n ks gV sp) (qt : Quiet X.A) (room : Room k X.A) (pa : PA X (e :: es) t) (pk : PK X kws tk) (gl : Gl X x := by rfl)
    (all : (backToKw pos (keywordEach kws X.env)).all (·.1.isSome) = true := by rfl) (nm : (backToKw pos (keywordEach kws X.env)).filterMap (·.1) = ks := by rfl)
    (nodbg : (x == ("__debug__" : Str)) = false := by decide) (st : starEach (e :: es) X.env = (false, eval e X.env) :: starEach es X.env := by rfl)
    (pl : ((backTo pos (starEach (e :: es) X.env)).any (·.1) || (backToKw pos (keywordEach kws X.env)).any (·.1.isNone)) = false := by rfl) :
    PE X (.Call (.Name x p) (e :: es) kws pos) (tCK n ks.length sp gV t tk) := by
  obtain ⟨f, fd, g, G, bd, at_, kp⟩ := C.ex
  constructor
  intro pins s σ H Q I q
  refine wpAny_Call_Name_kw (ld_glob I gl at_ ?_ nodbg)
  refine PySem.W.callWith_KW (h₀ := X.base) I.ok.mod.kin kp all (thn (pa.run pos pins s σ H _ I q) fun us s1 ⟨vs, H1, I1, rv, q1⟩ => ?_) pl st
  refine thn (pk.run pos pins s1 σ H1 _ I1 q1) fun ws s2 ⟨zs, H2, I2, rz, l1, l2, q2⟩ => ⟨I2.kIn, ?_⟩
  rw [nm]
  exact goRunK C qt room I2 rv rz l1 l2 q2 f at_
end

/-! ### heaps that grow; objects at M may change -/
def Ext (M : Addr → Prop) (H H' : Hp) : Prop := (∀ a xs, H a = some (.tup xs) → H' a = some (.tup xs)) ∧ ∀ a o, ¬ M a → H a = some o → H' a = some o
theorem Same.ext {M : Addr → Prop} {H H' : Hp} (s : Same H H') : Ext M H H' := ⟨fun a _ h => s a _ h, fun a o _ h => s a o h⟩
theorem Ext.refl {M : Addr → Prop} (H : Hp) : Ext M H H := ⟨fun _ _ h => h, fun _ _ _ h => h⟩
theorem Ext.trans {M : Addr → Prop} {H H1 H2 : Hp} (a : Ext M H H1) (b : Ext M H1 H2) : Ext M H H2 :=
  ⟨fun x xs h => b.1 x xs (a.1 x xs h), fun x o n h => b.2 x o n (a.2 x o n h)⟩
theorem Ext.mono {M N : Addr → Prop} {H H' : Hp} (e : Ext M H H') (h : ∀ a, M a → N a) : Ext N H H' := ⟨e.1, fun a o n => e.2 a o fun z => n (h a z)⟩
theorem Ext.same {H H' : Hp} (e : Ext (fun _ => False) H H') : Same H H' := fun a o h => e.2 a o (fun z => z) h
theorem Ext.tup {M : Addr → Prop} {H H' : Hp} (e : Ext M H H') {a : Addr} {xs : List V} (h : H a = some (.tup xs)) : H' a = some (.tup xs) := e.1 a xs h
theorem Same.upd {H : Hp} {p : Addr} {o : HO} (h : H p = none) : Same H (upd H p o) := fun a u e => by
  rw [upd_ne (ne_of_none e h)]
  exact e
theorem ext_new {M : Addr → Prop} {H : Hp} {p : Addr} {o : HO} (h : H p = none) : Ext M H (L2.upd H p o) := Same.ext (Same.upd h)
theorem Ext.upd {M : Addr → Prop} {H : Hp} {p : Addr} {o u : HO} (h : H p = some u) (m : M p) (nt : ∀ xs, u ≠ .tup xs) : Ext M H (upd H p o) := by
  refine ⟨fun a xs e => ?_, fun a v n e => ?_⟩
  · rw [upd_ne fun z => ?_]
    · exact e
    · subst z
      rw [h] at e
      cases e
      exact nt _ rfl
  · rw [upd_ne fun z => ?_]
    · exact e
    · subst z
      exact n m
theorem SqT.ext {M : Addr → Prop} {K : PySem.W.Frag} {H H' : Hp} (e : Ext M H H') {a : Addr} {xs : List V} (h : SqT K H a xs) (m : ¬ M a) : SqT K H' a xs := by
  rcases h with (h | ⟨o, h⟩) | h
  · exact .inl (.inl (e.1 _ _ h))
  · exact .inl (.inr ⟨o, e.2 _ _ m h⟩)
  · exact .inr h
theorem SqL.ext {M : Addr → Prop} {K : PySem.W.Frag} {H H' : Hp} (e : Ext M H H') {a : Addr} {xs : List V} (h : SqL K H a xs) (m : ¬ M a) : SqL K H' a xs := by
  rcases h with (h | ⟨o, h⟩) | h
  · exact .inl (.inl (e.2 _ _ m h))
  · exact .inl (.inr ⟨o, e.2 _ _ m h⟩)
  · exact .inr h

/-! ### the readings, one step at a time -/
section
variable {t u : TS} {D : Ends} {σ : L2.St} {H : Hp} {te ta tb : TE} {i : Nat} {Q : VK} {v : V} {tt tu : TT} {QB : Bool → Hp → Prop} {r : R2} {tl tr : TA} {QA : List V → Hp → Prop}
theorem k_seq (h : t { D with nx := u D } σ H) : tSeq t u D σ H := h
theorem k_asg {g : TG} (h : te σ H fun x H1 => g x σ H1 D.nx) : tAsg te g D σ H := h
theorem k_gN {QS : L2.St → Hp → Prop} (h : QS (σ.set i (some v)) H) : gName i v σ H QS := h
theorem k_gS {QS : L2.St → Hp → Prop} {ts : TSet} (h : ta σ H fun o H1 => tb σ H1 fun x H2 => ts o x v H2 fun H3 => QS σ H3) : gSub ta tb ts v σ H QS := h
theorem k_gNil {QS : L2.St → Hp → Prop} (h : QS σ H) : gNil [] σ H QS := ⟨rfl, h⟩
theorem k_gCons {QS : L2.St → Hp → Prop} {g : TG} {gs : TGs} {vs : List V} (h : g v σ H fun σ' H' => gs vs σ' H' QS) : gCons g gs (v :: vs) σ H QS := ⟨v, vs, rfl, h⟩
theorem k_gTup {QS : L2.St → Hp → Prop} {K : PySem.W.Frag} {n : Nat} {gs : TGs} {a : Addr} {xs : List V} (e : SqT K H a xs) (l : xs.length = n) (h : gs xs σ H QS) : gTup K n gs (.ref a) σ H QS := ⟨a, xs, rfl, e, l, h⟩
theorem k_ret (h : te σ H D.rt) : tRet te D σ H := h
theorem k_drop (h : te σ H fun _ H' => D.nx σ H') : tDrop te D σ H := h
theorem k_next (h : D.nx σ H) : tNext D σ H := h
theorem k_ifS (h : tt σ H fun b H' => if b = true then t D σ H' else u D σ H') : tIfS tt t u D σ H := h
theorem k_var (e : σ[i]? = some (some v)) (h : Q v H) : tVar i σ H Q := ⟨v, e, h⟩
theorem k_c (h : Q v H) : tC v σ H Q := h
theorem k_op (h : ta σ H fun x H1 => tb σ H1 fun y H2 => r x y H2 Q) : tOp r ta tb σ H Q := h
theorem k_un {ru : V → Hp → VK → Prop} (h : ta σ H fun x H1 => ru x H1 Q) : tUn ru ta σ H Q := h
theorem k_test (h : te σ H fun x H' => ∃ k, x = .bl k ∧ QB k H') : tTest te σ H QB := h
theorem k_B (h : te σ H fun x H' => ∃ k, x = .bl k ∧ QB k H') : tB te σ H QB := h
theorem k_and (h : tt σ H fun c H1 => if c = true then tu σ H1 QB else QB false H1) : tAnd tt tu σ H QB := h
theorem k_or (h : tt σ H fun c H1 => if c = true then QB true H1 else tu σ H1 QB) : tOr tt tu σ H QB := h
theorem k_not (h : tt σ H fun c H1 => QB (!c) H1) : tNot tt σ H QB := h
theorem k_andV (h : ta σ H fun x H1 => ∃ c, x = .bl c ∧ if c = true then tb σ H1 Q else Q (.bl false) H1) : tAndV ta tb σ H Q := h
theorem k_orV (h : ta σ H fun x H1 => ∃ c, x = .bl c ∧ if c = true then Q (.bl true) H1 else tb σ H1 Q) : tOrV ta tb σ H Q := h
theorem k_notV (h : ta σ H fun x H1 => ∃ c, x = .bl c ∧ Q (.bl (!c)) H1) : tNotV ta σ H Q := h
theorem k_if (h : tt σ H fun c H1 => if c = true then ta σ H1 Q else tb σ H1 Q) : tIf tt ta tb σ H Q := h
theorem k_nil (h : QA [] H) : tNil σ H QA := h
theorem k_cons (h : te σ H fun x H1 => tl σ H1 fun xs H2 => QA (x :: xs) H2) : tCons te tl σ H QA := h
theorem k_tup (h : tl σ H fun xs H1 => xs.length ≤ sizeLine ∧ ∀ p, H1 p = none → Q (.ref p) (upd H1 p (.tup xs))) : tTup tl σ H Q := h
theorem k_lst (h : tl σ H fun xs H1 => xs.length ≤ sizeLine ∧ ∀ p, H1 p = none → Q (.ref p) (upd H1 p (.lst xs))) : tLst tl σ H Q := h
theorem k_call {sp : Sp} {dvs : List V} {E : XK} (h : tl σ H fun vs H1 => sp (vs ++ dvs) H1 Q E) : tCall sp dvs E tl σ H Q := h
theorem k_cb {rc : List V → Hp → VK → Prop} (h : tl σ H fun vs H1 => rc vs H1 Q) : tCB rc tl σ H Q := h
theorem k_ck {n m : Nat} {sp : Sp} {gV : List V → List V → List V} {tk : TA} (h : tl σ H fun vs H1 => tk σ H1 fun zs H2 => vs.length = n ∧ zs.length = m ∧ sp (gV vs zs) H2 Q E0) : tCK n m sp gV tl tk σ H Q := h
theorem k_par {j : Nat} (h : tl σ H fun vs H1 => ∃ v w, vs = [v, w] ∧ D.nx ((σ.set i (some v)).set j (some w)) H1) : tPar i j tl D σ H := h
theorem k_par1 {j : Nat} {v w : V} (h : D.nx ((σ.set i (some v)).set j (some w)) H) : ∃ v' w', [v, w] = [v', w'] ∧ D.nx ((σ.set i (some v')).set j (some w')) H := ⟨v, w, rfl, h⟩
theorem k_tr {b : Bool} {R : Bool → Prop} (h : R b) : ∃ k, V.bl b = .bl k ∧ R k := ⟨b, rfl, h⟩
theorem k_ite {b : Bool} {A B : Prop} (h1 : b = true → A) (h2 : b = false → B) : if b = true then A else B := by
  cases b with
  | true => exact iteT (h1 rfl)
  | false => exact iteF (h2 rfl)
theorem k_iteD {c : Prop} [Decidable c] {A B : Prop} (h1 : c → A) (h2 : ¬ c → B) : if decide c = true then A else B :=
  k_ite (fun z => h1 (of_decide_eq_true z)) fun z => h2 (of_decide_eq_false z)
theorem k_for {wi : TI} {g : TG} {tb : TS} (h : wi σ H fun J H1 => ∃ W : Nat → Nat → L2.St → Hp → Prop, (∃ m, W 0 m σ H1) ∧ ∀ i m σ H, W i m σ H →
    (J.stop i H ∧ D.nx σ H) ∨ (J.go i H ∧ ∃ N : L2.St → Hp → Prop, (∀ σ' H', N σ' H' → ∃ m', m' < m ∧ W (i + 1) m' σ' H') ∧ ∀ x H', J.yld i H x H' → g x σ H' fun σ2 H2 => tb { D with nx := N, ct := N, bk := D.nx } σ2 H2)) : tFor wi g tb D σ H := h
theorem k_iL {K : PySem.W.Frag} {R : It → Hp → Prop} (h : te σ H fun x H1 => ∃ a, x = .ref a ∧ (∃ xs, SqL K H1 a xs) ∧ R (Itl K a) H1) : iList K te σ H R := h
theorem k_iT {K : PySem.W.Frag} {R : It → Hp → Prop} (h : te σ H fun x H1 => ∃ a, x = .ref a ∧ (∃ xs, SqT K H1 a xs) ∧ R (Itt K a) H1) : iTup K te σ H R := h
theorem k_iR1 {R : It → Hp → Prop} (h : tl σ H fun vs H1 => ∃ j, vs = [.int j] ∧ -(2 ^ 62) ≤ j ∧ j < 2 ^ 62 ∧ R (Itr 0 j.toNat) H1) : iRng1 tl σ H R := h
theorem k_iR1i {R : It → Hp → Prop} {j : Int} (l : -(2 ^ 62) ≤ j ∧ j < 2 ^ 62) (h : R (Itr 0 j.toNat) H) : ∃ i, [V.int j] = [.int i] ∧ -(2 ^ 62) ≤ i ∧ i < 2 ^ 62 ∧ R (Itr 0 i.toNat) H := ⟨j, rfl, l.1, l.2, h⟩
theorem k_ble {n m : Nat} (h : Nat.ble n m = true) : n ≤ m := Nat.le_of_ble_eq_true h
theorem k_sz {n : Nat} (h : Nat.ble n 100000 = true) : n ≤ sizeLine := Nat.le_trans (Nat.le_of_ble_eq_true h) (by decide)
theorem k_rI0 {g : Int → Int → V} {i j : Int} (h : Q (g i j) H) : rI0 g (.int i) (.int j) H Q := ⟨i, j, rfl, rfl, h⟩
theorem k_rI {C : Int → Int → Prop} {g : Int → Int → V} {i j : Int} (c : C i j) (h : Q (g i j) H) : rI C g (.int i) (.int j) H Q := ⟨i, j, rfl, rfl, c, h⟩
theorem k_rU {g : Int → V} {i : Int} (h : Q (g i) H) : rU g (.int i) H Q := ⟨i, rfl, h⟩
theorem k_eq {x y : V} (s : scal x y = true) (h : Q (.bl (decide (x = y))) H) : rEq x y H Q := ⟨s, h⟩
theorem k_ne {x y : V} (s : scal x y = true) (h : Q (.bl (!decide (x = y))) H) : rNe x y H Q := ⟨s, h⟩
variable {K : PySem.W.Frag} {a : Addr} {xs : List V}
theorem k_setL {QH : Hp → Prop} {n : Int} {j : Nat} (e : H a = some (.lst xs)) (f : ixN xs.length n = some j) (h : QH (upd H a (.lst (xs.set j v)))) : rSetL (.ref a) (.int n) v H QH := ⟨a, xs, n, j, rfl, rfl, e, f, h⟩
theorem k_bm0 {T : String} {rm : V → List V → Hp → VK → Prop} (h : te σ H fun x H1 => tyV K T x H1 ∧ rm x [] H1 Q) : tBM0 K T rm te σ H Q := h
theorem k_bm {T : String} {rm : V → List V → Hp → VK → Prop} (h : te σ H fun x H1 => tyV K T x H1 ∧ tl σ H1 fun xs H2 => rm x xs H2 Q) : tBM K T rm te tl σ H Q := h
theorem k_tyL (e : H a = some (.lst xs)) : tyV K "list" (.ref a) H := .inl ⟨rfl, _, SqL.of e⟩
theorem k_pop (e : H a = some (.lst xs)) (l : xs[xs.length - 1]? = some v) (h : Q v (upd H a (.lst xs.dropLast))) : rPop (.ref a) [] H Q := ⟨a, xs, v, rfl, rfl, e, l, h⟩
theorem k_app (e : H a = some (.lst xs)) (l : xs.length < sizeLine) (h : Q .non (upd H a (.lst (xs ++ [v])))) : rAppend (.ref a) [v] H Q := ⟨a, xs, v, rfl, rfl, e, l, h⟩
theorem k_ixL {n : Int} (e : SqL K H a xs) (f : atI xs n = some v) (h : Q v H) : rIxL K (.ref a) (.int n) H Q := ⟨a, xs, n, v, rfl, rfl, e, f, h⟩
theorem k_ixT {n : Int} (e : SqT K H a xs) (f : atI xs n = some v) (h : Q v H) : rIxT K (.ref a) (.int n) H Q := ⟨a, xs, n, v, rfl, rfl, e, f, h⟩
end
section
variable {X : Cx} {K : PySem.W.Frag} {H : Hp} {Q : VK} {a : Addr} {xs : List V} {v : V}
def rLen (K : PySem.W.Frag) : List V → Hp → VK → Prop := fun xs H Q => ∃ p ys, xs = [.ref p] ∧ (SqL K H p ys ∨ SqT K H p ys) ∧ Q (.int ys.length) H
theorem c_len : CallR X (.builtin "len") (rLen X.K) := call_len_seq
theorem k_lenL (e : SqL K H a xs) (h : Q (.int xs.length) H) : rLen K [.ref a] H Q := ⟨a, xs, rfl, .inl e, h⟩
theorem k_lenT (e : SqT K H a xs) (h : Q (.int xs.length) H) : rLen K [.ref a] H Q := ⟨a, xs, rfl, .inr e, h⟩
def rList (K : PySem.W.Frag) : List V → Hp → VK → Prop := fun xs H Q => ∃ p ys, xs = [.ref p] ∧ (SqL K H p ys ∨ SqT K H p ys) ∧ ∀ l, H l = none → Q (.ref l) (upd H l (.lst ys))
theorem c_list : CallR X (.type "list") (rList X.K) := call_list_of
theorem k_listL (e : SqL K H a xs) (h : ∀ l, H l = none → Q (.ref l) (upd H l (.lst xs))) : rList K [.ref a] H Q := ⟨a, xs, rfl, .inl e, h⟩
theorem k_listT (e : SqT K H a xs) (h : ∀ l, H l = none → Q (.ref l) (upd H l (.lst xs))) : rList K [.ref a] H Q := ⟨a, xs, rfl, .inr e, h⟩
def rMax : List V → Hp → VK → Prop := fun xs H Q => ∃ i j, xs = [.int i, .int j] ∧ Q (.int (if j > i then j else i)) H
theorem c_max (hc : X.calm = true) : CallR X (.builtin "max") rMax := call_max2 hc
theorem k_max {i j : Int} (h : Q (.int (if j > i then j else i)) H) : rMax [.int i, .int j] H Q := ⟨i, j, rfl, h⟩
theorem k_ixqL {n : Int} (e : SqL K H a xs) (f : atI xs n = some v) (h : Q v H) : rIx K (.ref a) (.int n) H Q := .inl ⟨a, xs, n, v, rfl, rfl, e, f, h⟩
theorem k_ixqT {n : Int} (e : SqT K H a xs) (f : atI xs n = some v) (h : Q v H) : rIx K (.ref a) (.int n) H Q := .inr (.inl ⟨a, xs, n, v, rfl, rfl, e, f, h⟩)
theorem k_slL {lo hi : Option Int} (e : SqL K H a xs) (h : ∀ p, H p = none → Q (.ref p) (upd H p (.lst (cutV xs lo hi)))) : rSlL K (.ref a) lo hi H Q := ⟨a, xs, rfl, e, h⟩
theorem k_ltT {b : Addr} {ns ms : List Int} (e : SqT K H a (ns.map V.int)) (f : SqT K H b (ms.map V.int)) (h : Q (.bl (HT.lexLt ns ms)) H) : rLtT K (.ref a) (.ref b) H Q := ⟨a, b, ns, ms, rfl, rfl, e, f, h⟩
def rIsBb : R2 := rIsB
theorem k_isB {x y : Bool} (h : Q (.bl (decide (x = y))) H) : rIsB (.bl x) (.bl y) H Q := ⟨x, y, rfl, rfl, h⟩
theorem k_isN {x : V} {r : V → V → Hp → VK → Prop} (h : r x .non H Q) : r x .non H Q := h
variable {σ : L2.St} {te : TE} {tl th : TO} {tl' : TO} {QO : Option Int → Hp → Prop}
theorem k_sl {r : V → Option Int → Option Int → Hp → VK → Prop} (h : te σ H fun x H1 => tl σ H1 fun l H2 => th σ H2 fun u H3 => r x l u H3 Q) : tSl r te tl th σ H Q := h
theorem k_noP (h : QO none H) : tNoPart σ H QO := h
theorem k_part (h : te σ H fun x H1 => ∃ i, x = .int i ∧ QO (some i) H1) : tPart te σ H QO := h
theorem k_partI {R : Int → Prop} {i : Int} (h : R i) : ∃ j, V.int i = .int j ∧ R j := ⟨i, rfl, h⟩
theorem k_revL (h : te σ H fun x H1 => ∃ a xs, x = .ref a ∧ SqL K H1 a xs ∧ ∀ p, H1 p = none → Q (.ref p) (upd H1 p (.lst xs.reverse))) : tRevL K te σ H Q := h
/-- a > b, tuples of ints -/
def rGtT (K : PySem.W.Frag) : R2 := fun x y H Q => ∃ a b ns ms, x = .ref a ∧ y = .ref b ∧ SqT K H a (ns.map V.int) ∧ SqT K H b (ms.map V.int) ∧ Q (.bl (HT.lexLt ms ns)) H
theorem k_gtT {b : Addr} {ns ms : List Int} (e : SqT K H a (ns.map V.int)) (f : SqT K H b (ms.map V.int)) (h : Q (.bl (HT.lexLt ms ns)) H) : rGtT K (.ref a) (.ref b) H Q := ⟨a, b, ns, ms, rfl, rfl, e, f, h⟩
theorem dpAll_ints {K : PySem.W.Frag} {H : Hp} : ∀ xs : List Int, DpAll K H (xs.map V.int) (xs.map PyData.int)
  | [] => .nil
  | x :: xs => .cons (.int x) (dpAll_ints xs)
theorem alike_ints : ∀ xs ys : List Int, PySem.W.alikeAll (xs.map PyData.int) (ys.map PyData.int) = true
  | [], ys => by cases ys <;> rfl
  | _ :: _, [] => rfl
  | x :: xs, y :: ys => by
    show (true && _) = true
    rw [alike_ints xs ys]
    rfl
theorem depth_ints : ∀ xs : List Int, PyData.depthAll (xs.map PyData.int) = 0
  | [] => rfl
  | x :: xs => by
    show max 0 (PyData.depthAll (xs.map PyData.int)) = 0
    rw [depth_ints xs]
    rfl
theorem lt_ints : ∀ xs ys : List Int, PySem.W.dataLt (.tuple (xs.map PyData.int)) (.tuple (ys.map PyData.int)) = HT.lexLt xs ys
  | [], [] => by decide
  | [], y :: ys => by
    show PyProof.Rows.lexLt itemOrd (PySem.W.keyToksAll []) (PySem.W.keyToksAll (PyData.int y :: _)) = true
    rw [PySem.W.toks_all_cons]
    exact (lex_diff (O := itemOrd) (by decide)).trans (by decide)
  | x :: xs, [] => by
    show PyProof.Rows.lexLt itemOrd (PySem.W.keyToksAll (PyData.int x :: _)) (PySem.W.keyToksAll []) = false
    rw [PySem.W.toks_all_cons]
    exact (lex_diff (O := itemOrd) (by decide)).trans (by decide)
  | x :: xs, y :: ys => by
    show PyProof.Rows.lexLt itemOrd (PySem.W.keyToksAll (PyData.int x :: _)) (PySem.W.keyToksAll (PyData.int y :: _)) = (if x = y then HT.lexLt xs ys else decide (x < y))
    by_cases e : x = y
    · subst e
      rw [if_pos rfl, PySem.W.dataLt_all_yes rfl (by simp [PyData.eqv])]
      exact lt_ints xs ys
    · rw [if_neg e, PySem.W.dataLt_all_no rfl (by simpa [PyData.eqv] using e)]
      exact PySem.W.dataLt_int x y
theorem op_gtT {X : Cx} (hu : X.A.units + 64 < cLine) : OpR X (compareOp .Gt) (rGtT X.K) := by
  intro pins s σ H x y v u Q I rx ry h
  obtain ⟨a, b, ns, ms, rfl, rfl, ha, hb, q⟩ := h
  obtain ⟨as, r1⟩ := Dp.reads I (.tuple (ns.map PyData.int)) (.ref a) v (.tup ha (dpAll_ints ns)) rx
  obtain ⟨bs, r2⟩ := Dp.reads I (.tuple (ms.map PyData.int)) (.ref b) u (.tup hb (dpAll_ints ms)) ry
  refine PySem.W.gt_data r1 r2 (alike_ints ns ms) (fun z => by cases z) ?_ ⟨.bl _, H, I, rfl, ?_⟩
  · show X.A.units + min (PyData.depthAll (ns.map PyData.int) + 1) _ < cLine
    rw [depth_ints]
    omega
  · rw [lt_ints]
    exact q
end
theorem atI_head {α : Type} {x : α} {xs : List α} : atI (x :: xs) 0 = some x := atI_nat (j := 0) (xs := x :: xs) rfl
/-! what is known is known behind a step -/
theorem lk_new {H : Hp} {a p : Addr} {o u : HO} (h : H a = some u) (n : H p = none) : upd H p o a = some u := (upd_ne (ne_of_none h n)).trans h
theorem lk_ext {M : Addr → Prop} {H H' : Hp} {a : Addr} {xs : List V} (e : Ext M H H') (h : H a = some (.tup xs)) : H' a = some (.tup xs) := e.1 a xs h
theorem lk_same {H H' : Hp} {a : Addr} {o : HO} (e : Same H H') (h : H a = some o) : H' a = some o := e a o h
end Own

set_option Elab.async false
set_option maxRecDepth 100000
/-! instances of own classes: in, len, methods by keywords, errors with fields -/
namespace Own
open PySem PySem.Spec PyProof.Rows L2

theorem k_yes {σ : L2.St} {H : Hp} {A B : Hp → Prop} (h : A H) : tYes σ H (fun b H' => if b = true then A H' else B H') := by
  show (if true = true then A H else B H)
  rw [if_pos rfl]
  exact h
theorem k_szL {n : Nat} (h : n < 100000) : n < sizeLine := by
  rw [sizeLine_eq]
  omega
section
variable {X : Cx} {Z : CXT} {k : Nat} {C f : Addr} {sp : Sp} {E : XK}
/-- x in o, o an instance whose class has its own __contains__ -/
theorem own_in {pins : List (Addr × Obj)} {σ : L2.St} {H : Hp} {s : Shared} {a dx : Addr} {fs : List (Str × V)} {x : V} {u : Value} {Q : Bool → Hp → Prop}
    (hs : PySem.W.findIn X.K (.ref C) "__contains__" = some (some (.ref f))) (hf : PySem.W.typeIn X.K (.ref f) = some (.type "function"))
    (F : FnR X.prog X.w X.K X.mg X.base Z k f sp) (room : Room k X.A) (px : Passes Z X E) (I : Inv X pins σ H s) (ea : H a = some (.ins C dx fs)) (rx : RelV x u)
    (h : sp [.ref a, x] H (fun v H' => ∃ b, v = .bl b ∧ Q b H') E) :
    wpAny (model X.prog X.w) X.A (contains (.ref a) u) (TP X pins σ Q) X.xe s := by
  obtain ⟨mA, O, _, _, _, _⟩ := ins_get I.hok ea
  obtain ⟨od, J, _⟩ := O.look
  unfold contains
  refine wpAny_holding ?_
  rw [stdlibNamesSay?_ref]
  dsimp only
  refine wpAny_bind (m := specialOf (.ref a) "__contains__") ?_
  unfold specialOf
  refine wpAny_bind (J.type.here ((PySem.W.looks_findIn I.kIn hs).here ?_))
  rw [show ((some (Value.ref f) : Option Value) == some Value.none) = false from rfl]
  rw [if_neg Bool.false_ne_true]
  refine wpAny_bind ?_
  unfold callSpecialUnlessNone? specialOf
  refine wpAny_bind (wpAny_bind (J.type.here ((PySem.W.looks_findIn I.kIn hs).here ?_)))
  dsimp only
  refine wpAny_holding (wpAny_bind ((PySem.W.bind_fn I.kIn _ hf).here ?_))
  rw [show ((Value.ref f) == Value.none) = false from rfl]
  rw [if_neg Bool.false_ne_true]
  refine wpAny_bind (wpAny_mono (wpAny_call (run_fnR (us := [.ref a, u]) (vs := [.ref a, x]) F room px I (.cons rfl (.cons rx .nil)) h)) (fun r s' z => ?_) fun _ _ z => z)
  obtain ⟨v, H', I', rv, b, rfl, q⟩ := z
  cases rv
  exact wpAny_pure (wpAny_truthy_bool ⟨H', I', q⟩)
def rInO (C : Addr) (sp : Sp) (E : XK) (g : Bool → Bool) : R2 := fun x y H Q => ∃ a dx fs, y = .ref a ∧ H a = some (.ins C dx fs) ∧ sp [.ref a, x] H (fun v H' => ∃ b, v = .bl b ∧ Q (.bl (g b)) H') E
theorem op_inO (hs : PySem.W.findIn X.K (.ref C) "__contains__" = some (some (.ref f))) (hf : PySem.W.typeIn X.K (.ref f) = some (.type "function"))
    (F : FnR X.prog X.w X.K X.mg X.base Z k f sp) (room : Room k X.A) (px : Passes Z X E) : OpR X (compareOp .In) (rInO C sp E fun b => b) := by
  intro pins s σ H x y v u Q I rx ry h
  obtain ⟨a, dx, fs, rfl, ea, q⟩ := h
  obtain rfl : u = Value.ref a := ry
  refine wpAny_bind (wpAny_mono (own_in (Q := fun b H' => Q (.bl b) H') hs hf F room px I ea rx q) (fun b s' z => ?_) fun _ _ z => z)
  obtain ⟨H', I', q'⟩ := z
  exact wpAny_pure ⟨.bl b, H', I', rfl, q'⟩
theorem op_notInO (hs : PySem.W.findIn X.K (.ref C) "__contains__" = some (some (.ref f))) (hf : PySem.W.typeIn X.K (.ref f) = some (.type "function"))
    (F : FnR X.prog X.w X.K X.mg X.base Z k f sp) (room : Room k X.A) (px : Passes Z X E) : OpR X (compareOp .NotIn) (rInO C sp E fun b => !b) := by
  intro pins s σ H x y v u Q I rx ry h
  obtain ⟨a, dx, fs, rfl, ea, q⟩ := h
  obtain rfl : u = Value.ref a := ry
  refine wpAny_bind (wpAny_mono (own_in (Q := fun b H' => Q (.bl (!b)) H') hs hf F room px I ea rx q) (fun b s' z => ?_) fun _ _ z => z)
  obtain ⟨H', I', q'⟩ := z
  exact wpAny_pure ⟨.bl (!b), H', I', rfl, q'⟩

/-- a callee, run below the running body -/
theorem atRun {pins : List (Addr × Obj)} {σ : L2.St} {H : Hp} {s : Shared} {B : Around} {Q : VK} {us : List Value} {vs : List V} (F : FnR X.prog X.w X.K X.mg X.base Z k f sp) (room : Room k B)
    (e0 : Env0 X.prog X.w X.K X.mg X.base B X.stack s H) (px : Passes Z X E) (I : Inv X pins σ H s) (rv : Vals vs us) (q : sp vs H Q E) :
    wpAny (model X.prog X.w) B (call (.ref f) us) (EP X pins σ Q) X.xe s := by
  refine wpAny_call (codeAny_mono (F B X.stack s H us vs Q E room e0 rv q) ?_)
  intro r s' z
  match r, z with
  | .error e, z => exact px pins σ H s e s' I z
  | .ok (.ret u), z => exact I.after z
  | .ok .next, z => exact z.elim
  | .ok .brk, z => exact z.elim
  | .ok .cont, z => exact z.elim
/-- len(o), o an instance whose class has its own __len__ -/
def rLenO (C : Addr) (sp : Sp) (E : XK) : List V → Hp → VK → Prop := fun xs H Q => ∃ a dx fs, xs = [.ref a] ∧ H a = some (.ins C dx fs) ∧
  sp [.ref a] H (fun v H' => ∃ n : Nat, v = .int n ∧ n ≤ sizeLine ∧ Q (.int n) H') E
theorem call_lenO (hs : PySem.W.findIn X.K (.ref C) "__len__" = some (some (.ref f))) (hf : PySem.W.typeIn X.K (.ref f) = some (.type "function"))
    (F : FnR X.prog X.w X.K X.mg X.base Z k f sp) (room : Room (k + 1) X.A) (px : Passes Z X E) : CallR X (.builtin "len") (rLenO C sp E) := by
  intro pins s σ H xs us Q I r h
  obtain ⟨a, dx, fs, rfl, ea, q⟩ := h
  obtain ⟨u, rfl, ru⟩ := r.one
  obtain rfl : u = Value.ref a := ru
  obtain ⟨mA, O, _, _, _, _⟩ := ins_get I.hok ea
  obtain ⟨od, J, _⟩ := O.look
  refine Calls.call_function_entry kind_len plain_len entry_len (args_len1 _) ?_
  unfold Builtin.«len»
  refine wpAny_bind (m := oneArg "len" _) (wpAny_pure ?_)
  refine wpAny_bind (m := callSpecial? (.ref a) (Str.ofString "__len__")) (PySem.W.special_fn (args := []) I.kIn J hs hf (wpAny_mono (atRun (us := [.ref a]) (vs := [.ref a]) F room.in1 I.env0.in1 px I (.cons rfl .nil) q) (fun r s' z => ?_) fun _ _ z => z))
  obtain ⟨v, H', I', rv, n, rfl, hn, qn⟩ := z
  obtain ⟨t, rfl⟩ := rv
  rw [sizeLine_eq] at hn
  refine wpAny_bind (wpAny_holding (wpAny_pure ?_))
  refine wpAny_bind (wpAny_letGo ?_)
  show wpAny _ _ (if (n : Int) < 0 then _ else _) _ _ _
  rw [if_neg (by omega)]
  show wpAny _ _ (if (n : Int) ≥ 2 ^ 63 then _ else _) _ _ _
  rw [if_neg (by omega)]
  exact wpAny_bind (wpAny_mkInt (wpAny_pure ⟨_, rfl, .int n, H', I'.tok _, ⟨_, rfl⟩, qn⟩))
end

/-! ### methods by keywords, and such as may raise -/
section
variable {X : Cx} {Z : CXT} {k n : Nat} {C f : Addr} {fd : FuncData} {ps ks : List Str} {sp : Sp} {m : Str} {pos apos : Pos} {o e : Expr} {es : List Expr} {kws : List Keyword} {to : TE} {t tk : TA}
  {g : List Value → List Value → List Value} {gV : List V → List V → List V} {E : L2.St → XK} {pl : Sem Bool}
/-- o.m(e, .., k = v, ..): n positional values with self, mm keywords -/
def tMK (C : Addr) (m : Str) (n mm : Nat) (sp : Sp) (gV : List V → List V → List V) (E : L2.St → XK) (to : TE) (t tk : TA) : TE := fun σ H Q =>
  to σ H fun x H1 => ∃ a dx fs, x = .ref a ∧ H1 a = some (.ins C dx fs) ∧ fs.lookup m = none ∧ t σ H1 fun vs H2 => tk σ H2 fun zs H3 => (V.ref a :: vs).length = n ∧ zs.length = mm ∧ sp (gV (.ref a :: vs) zs) H3 Q (E σ)
theorem runK {pins : List (Addr × Obj)} {σ : L2.St} {H : Hp} {s : Shared} {Q : VK} {us ws : List Value} {vs zs : List V} (F : FnOk X.prog X.w X.K X.mg X.base Z k f fd ps sp) (room : Room k X.A) (kb : KBn X.K fd ps n ks g gV)
    (px : PassesAt Z X σ (E σ)) (I : Inv X pins σ H s) (rv : Vals vs us) (rz : Vals zs ws) (l1 : vs.length = n) (l2 : zs.length = ks.length) (q : sp (gV vs zs) H Q (E σ)) :
    wpAny (model X.prog X.w) X.A (call (.ref f) us (ks.zip ws)) (EP X pins σ Q) X.xe s := by
  have rr := kb.rel rv rz
  have cc := F.run X.A X.stack s H ⟨us, ks.zip ws⟩ (g us ws) (gV vs zs) Q (E σ) room I.env0 (kb.to s us ws I.kIn (rv.length.symm.trans l1) (rz.length.symm.trans l2)) rr q
  refine wpAny_call (codeAny_mono cc ?_)
  intro r s' z
  match r, z with
  | .error e, z => exact px pins H s e s' I z
  | .ok (.ret u), z => exact I.after z
  | .ok .next, z => exact z.elim
  | .ok .brk, z => exact z.elim
  | .ok .cont, z => exact z.elim
/-- with some positional arguments -/
theorem pe_mk1 (he : PE X o to) (c : Cls X.K C) (hm : Meth X.K C m f) (F : FnOk X.prog X.w X.K X.mg X.base Z k f fd ps sp) (room : Room k X.A) (kb : KBn X.K fd ps n ks g gV) (px : ∀ σ, PassesAt Z X σ (E σ))
    (pa : PA X (e :: es) t) (pk : PK X kws tk) (all : (backToKw pos (keywordEach kws X.env)).all (·.1.isSome) = true := by rfl) (nm : (backToKw pos (keywordEach kws X.env)).filterMap (·.1) = ks := by rfl)
    (st : starEach (e :: es) X.env = (false, eval e X.env) :: starEach es X.env := by rfl)
    (pn : ((backTo pos (starEach (e :: es) X.env)).any (·.1) || (backToKw pos (keywordEach kws X.env)).any (·.1.isNone)) = false := by rfl)
    (form : eval (.Call (.Attribute o m apos) (e :: es) kws pos) X.env = (do
      let ov ← eval o X.env
      standAt apos.atName
      let (f, first) ← holding [ov] (getMethod ov m pl)
      callWith pos f first (backTo pos (starEach (e :: es) X.env)) (backToKw pos (keywordEach kws X.env))) := by rfl) :
    PE X (.Call (.Attribute o m apos) (e :: es) kws pos) (tMK C m n ks.length sp gV E to t tk) := by
  constructor
  intro pins s σ H Q I h
  refine PySem.W.methodCall_KW (pl := pl) (thn (he.run pins s σ H _ I h) fun u s1 ⟨x, H1, I1, rx, a, dx, fs, ex, ea, l, q⟩ => ?_) form
  subst ex
  obtain rfl : u = Value.ref a := rx
  refine getmeth_ok I1 ea c hm l (PySem.W.callWith_KW (first := [.ref a]) (h₀ := X.base) I.ok.mod.kin hm.kp all (thn (pa.run pos pins s1 σ H1 _ I1 q) fun us s2 ⟨vs, H2, I2, rv, q2⟩ => ?_) pn st)
  refine thn (pk.run pos pins s2 σ H2 _ I2 q2) fun ws s3 ⟨zs, H3, I3, rz, l1, l2, q3⟩ => ⟨I3.kIn, ?_⟩
  rw [nm]
  exact runK (us := .ref a :: us) (vs := .ref a :: vs) F room kb (px σ) I3 (.cons rfl rv) rz l1 l2 q3
/-- keywords alone -/
theorem pe_mk0 (he : PE X o to) (c : Cls X.K C) (hm : Meth X.K C m f) (F : FnOk X.prog X.w X.K X.mg X.base Z k f fd ps sp) (room : Room k X.A) (kb : KBn X.K fd ps n ks g gV) (px : ∀ σ, PassesAt Z X σ (E σ))
    (pk : PK X kws tk) (all : (backToKw pos (keywordEach kws X.env)).all (·.1.isSome) = true := by rfl) (nm : (backToKw pos (keywordEach kws X.env)).filterMap (·.1) = ks := by rfl)
    (pn : ((backTo pos (starEach [] X.env)).any (·.1) || (backToKw pos (keywordEach kws X.env)).any (·.1.isNone)) = false := by rfl)
    (form : eval (.Call (.Attribute o m apos) [] kws pos) X.env = (do
      let ov ← eval o X.env
      standAt apos.atName
      let (f, first) ← holding [ov] (getMethod ov m pl)
      callWith pos f first (backTo pos (starEach [] X.env)) (backToKw pos (keywordEach kws X.env))) := by rfl) :
    PE X (.Call (.Attribute o m apos) [] kws pos) (tMK C m n ks.length sp gV E to tNil tk) := by
  constructor
  intro pins s σ H Q I h
  refine PySem.W.methodCall_KW (pl := pl) (thn (he.run pins s σ H _ I h) fun u s1 ⟨x, H1, I1, rx, a, dx, fs, ex, ea, l, q⟩ => ?_) form
  subst ex
  obtain rfl : u = Value.ref a := rx
  refine getmeth_ok I1 ea c hm l (PySem.W.callWith_KW0 (first := [.ref a]) (h₀ := X.base) I.ok.mod.kin hm.kp all ?_ pn)
  refine thn (pk.run pos pins s1 σ H1 _ I1 q) fun ws s3 ⟨zs, H3, I3, rz, l1, l2, q3⟩ => ⟨I3.kIn, ?_⟩
  rw [nm]
  exact runK (us := [.ref a]) (vs := [.ref a]) F room kb (px σ) I3 (.cons rfl .nil) rz l1 l2 q3
/-- o.m(e, ..), which may raise -/
def tMS (C : Addr) (m : Str) (sp : Sp) (E : L2.St → XK) (to : TE) (t : TA) : TE := fun σ H Q =>
  to σ H fun x H1 => ∃ a dx fs, x = .ref a ∧ H1 a = some (.ins C dx fs) ∧ fs.lookup m = none ∧ t σ H1 fun vs H2 => sp (.ref a :: vs) H2 Q (E σ)
theorem pe_ms (he : PE X o to) (c : Cls X.K C) (hm : Meth X.K C m f) (F : FnOk X.prog X.w X.K X.mg X.base Z k f fd ps sp) (room : Room k X.A) (b : Binds X.K fd ps []) (px : ∀ σ, PassesAt Z X σ (E σ)) (pa : PA X (e :: es) t)
    (st : starEach (e :: es) X.env = (false, eval e X.env) :: starEach es X.env := by rfl) (pn : (backTo pos (starEach es X.env)).any (·.1) = false := by rfl)
    (form : eval (.Call (.Attribute o m apos) (e :: es) [] pos) X.env = (do
      let ov ← eval o X.env
      standAt apos.atName
      let (f, first) ← holding [ov] (getMethod ov m pl)
      callWith pos f first (backTo pos (starEach (e :: es) X.env)) (backToKw pos (keywordEach [] X.env))) := by rfl) :
    PE X (.Call (.Attribute o m apos) (e :: es) [] pos) (tMS C m sp E to t) := by
  constructor
  intro pins s σ H Q I h
  refine PySem.W.methodCall_KW (pl := pl) (thn (he.run pins s σ H _ I h) fun u s1 ⟨x, H1, I1, rx, a, dx, fs, ex, ea, l, q⟩ => ?_) form
  subst ex
  obtain rfl : u = Value.ref a := rx
  refine getmeth_ok I1 ea c hm l (PySem.W.callWith_K (first := [.ref a]) (h₀ := X.base) I.ok.mod.kin hm.kp (thn (pa.run pos pins s1 σ H1 _ I1 q) fun us s2 ⟨vs, H2, I2, rv, q2⟩ => ⟨I2.kIn, ?_⟩) st pn)
  exact run_fnS (us := .ref a :: us) (vs := .ref a :: vs) F room b (px σ) I2 (.cons rfl rv) q2
end

/-! ### isinstance of an error that has fields -/
section
open PySem.W
variable {prog : Program} {w : World} {A : Around} {E : Value → Shared → Prop} {s : Shared} {K : Frag} {x D : Addr} {ox : Obj} {od : Option Obj}
theorem err_class {Q : Option Value → Shared → Prop} (T : ExcC K D) (hf : findObj K D od "__class__" = some (.bind (.builtin "getset_descriptor.__get__") (.builtin "object.__class__"))) (kin : K.In s.heap)
    (J : InstAt s.heap x ox D od) (h : Q (some (.ref D)) { s with toks := s.toks + 1 }) : wpAny (model prog w) A (getAttr? (.ref x) "__class__") Q E s := by
  obtain ⟨hp, g, d, t, os⟩ := s
  have ty := J.type (M := model prog w)
  have own := looks_findIn (M := model prog w) kin T.hg
  have no := looks_findIn (M := model prog w) kin T.hk
  have fnd := looks_find (M := model prog w) kin J hf
  have base : Looks (model prog w) hp (isInstance (.ref x) (.type "BaseException")) true := ty.andThen (looks_subIn kin T.hs)
  have b1 : (Value.builtin "BaseException.__getattribute__" == Value.builtin "object.__getattribute__") = false := by decide +kernel
  have b2 : (onTheHeap (Value.ref D) && Value.builtin "BaseException.__getattribute__" == Value.builtin "object.__getattribute__") = false := by
    rw [b1]
    rfl
  unfold getAttr? getAttrBy? getAttrBy
  refine wpAny_bind (wpAny_mkText (wpAny_bind (wpAny_attempt (wpAny_holding (wpAny_bind (ty.at (wpAny_bind (own.at ?_))))))))
  show wpAny _ _ (if (onTheHeap (Value.ref D) && Value.builtin "BaseException.__getattribute__" == Value.builtin "object.__getattribute__") = true then _ else _) _ _ _
  rw [if_neg (by rw [b2]; exact Bool.false_ne_true)]
  unfold getAttrByItsOwn hookBefore
  refine wpAny_bind ?_
  rw [if_pos (show onTheHeap (Value.ref D) = true from rfl)]
  refine no.at (wpAny_bind (wpAny_attempt (wpAny_holding ?_)))
  unfold callGetattribute
  rw [if_neg (show ¬ (false && onTheHeap (Value.builtin "BaseException.__getattribute__")) = true from Bool.false_ne_true)]
  unfold boundAndCalled
  rw [PySem.F.excAttr_ValueError.ga.bind (.ref x)]
  refine wpAny_bind (wpAny_pure ?_)
  show wpAny _ _ (call (.builtin "BaseException.__getattribute__") [.ref x, .str "__class__" t]) _ _ _
  refine wpAny_call (codeAny_call_builtin PySem.F.excAttr_ValueError.ga.plain PySem.F.entry_bexc_ga (@check_slot (model prog w) _ _ ⟨hp, g, d, t + 1, os⟩ "BaseException.__getattribute__" "BaseException" "__getattribute__" (.ref x) [.str "__class__" t] [] _ (by decide +kernel) (by decide +kernel) base (PySem.F.args_bexc_ga (.ref x) (.str "__class__" t)) ?_))
  unfold Builtin.«object.__getattribute__»
  refine wpAny_bind (wpAny_of_eq (a := ((Value.ref x : Value), [Value.str "__class__" t])) (by first | rfl | (simp only [slotArgs]; rfl)) ?_)
  refine wpAny_bind (wpAny_pure (wpAny_bind (ty.at (wpAny_bind (fnd.at ?_)))))
  show wpAny _ _ (holding [Value.builtin "object.__class__"] (call (.builtin "getset_descriptor.__get__") [.builtin "object.__class__", .ref x, .ref D]) >>= ret) _ _ _
  refine wpAny_bind (wpAny_holding (wpAny_call (class_get (s := ⟨hp, g, d, t + 1, os⟩) (ox := ox) (od := od) kin J T.hm (wpAny_pure ?_))))
  show wpAny _ _ (handedOut (.ref D)) _ _ _
  rw [handedOut_of (v := .ref D) rfl]
  first
    | exact wpAny_pure (wpAny_pure h)
    | exact wpAny_pure h
    | exact wpAny_pure (wpAny_bind (wpAny_pure (wpAny_pure h)))
end
section
theorem err_kit {K : PySem.W.Frag} {a D : Addr} {oe : Obj} {od : Option Obj} (T : ExcC K D) (hf : PySem.W.findObj K D od "__class__" = some (.bind (.builtin "getset_descriptor.__get__") (.builtin "object.__class__"))) :
    PySem.W.KitX K (.ref a) (.ref D) (fun h => PySem.W.InstAt h a oe D od) where
  ty := fun _ _ _ J => J.type
  ca := fun kin J k => err_class T hf kin J k
  it := fun _ h kin _ => by
    obtain ⟨cd, hc, _⟩ := PySem.W.any_some T.hd
    unfold PySem.W.clsIn at hc
    split at hc
    · rename_i c' d' cd' sl' ho
      intro A' Q' E' s' keep q
      unfold isType loadHead
      exact wpAny_bind (wpAny_loadPart (keep _ _ (kin _ _ ho)) (wpAny_pure q))
    · cases hc
  ne := fun h tp dd its n sl kin htp => by
    obtain ⟨cd, hc, _⟩ := PySem.W.any_some T.hd
    rw [beq_eq_false_iff_ne]
    intro e
    obtain rfl := Value.ref.inj e
    unfold PySem.W.clsIn at hc
    split at hc
    · rename_i c' d' cd' sl' ho
      have z := (kin _ _ ho).symm.trans htp
      cases z
    · cases hc
/-- isinstance(e, c), e the error that the suite holds, with its fields -/
def rIsEF (K : PySem.W.Frag) (D a : Addr) (cls : Value) (d : Option Addr) : List V → Hp → VK → Prop := fun xs H Q => ∃ (dd : Addr) (fs : List (Str × V)) (c : V) (cv : Value) (b : Bool),
  cls = .ref D ∧ d = some dd ∧ H dd = some (.xd fs) ∧ xs = [.ref a, c] ∧ (∀ u, RelV c u → u = cv) ∧ PySem.W.kitOne K (.ref D) cv = some b ∧ Q (.bl b) H
theorem call_isEF {X : Cx} {a D : Addr} {oe : Obj} {cls : Value} {d : Option Addr} {pn : List (Addr × Obj)} (T : ExcC X.K D) (hz : Zc cls d oe) (hf : ∃ vs, oe.data = .fields vs) :
    CallR (X.suite a ((a, oe) :: pn)) (.builtin "isinstance") (rIsEF X.K D a cls d) := by
  intro pins s σ H xs us Q I r h
  obtain ⟨dd, fs, c, cv, b, rfl, rfl, hd, rfl, hcv, e, q⟩ := h
  match r with
  | .cons rx (.cons rt .nil) =>
    cases rx
    obtain rfl := hcv _ rt
    obtain ⟨hget, _⟩ := I.pin (a, oe) (List.mem_append_left _ List.mem_cons_self)
    obtain ⟨vs, hv⟩ := hf
    have hx : ObjOk X.prog X.w H s.heap dd (.xd fs) := I.hok dd _ hd
    obtain ⟨mA, hns, _⟩ := hx
    obtain ⟨od, ho, _⟩ := lookIn_ns hns
    have J : PySem.W.InstAt s.heap a oe D (some od) := ⟨hget, hz.1, by unfold PySem.W.notCls; rw [hv] <;> rfl, by rw [hz.2]; exact ho⟩
    have hc : (PySem.W.clsIn X.K D).isSome = true := by
      obtain ⟨cd, hc, _⟩ := PySem.W.any_some T.hd
      rw [hc]
      rfl
    exact PySem.W.kia_one (err_kit T (PySem.W.findObj_data hc T.ha T.hn T.ht)) I.kIn J e (fun z => nomatch z) fun tk => ⟨.bl b, H, I.kept (t' := tk) fun _ _ z => z, rfl, q⟩
end
end Own

set_option Elab.async false
set_option maxRecDepth 100000
/-! set(d), d a dict whose keys are ints -/
namespace Own
open PySem PySem.Spec PyProof.Rows L2

/-- the entries of a dict of ints -/
def IntEntries (es : Array DictEntry) (ns : List Int) : Prop := es.size = ns.length ∧ ∀ (i : Nat) (e : DictEntry), es[i]? = some e → ∃ k t, ns[i]? = some k ∧ e.key = Value.int k t ∧ e.hash = hashInt k

theorem laid_nil (mask f mv : Nat) (l p : Bool) : SetTable.laid mask f mv l p #[] = some ({ mask, place := #[], dummies := #[], finger := f, led := l, moves := mv, plain := p }, #[]) := by
  have e : ∀ j : Nat, j < mask + 1 → ((Array.replicate (mask + 1) (none : Option Nat))[j]?).getD none = none := by
    intro j hj
    simp [hj]
  unfold SetTable.laid SetTable.layClean
  simpa using e
theorem fits_nil (mask f mv : Nat) (l p : Bool) : SetTable.fits { mask, place := #[], dummies := #[], finger := f, led := l, moves := mv, plain := p } 0 = true := by
  unfold SetTable.fits
  simp [SetTable.fill]
theorem relay_sizes : ∀ m : Nat, m < 128 → ¬ SetTable.sizeAbove (m * 2) > sizeLine := by
  have z : ∀ m : Nat, m < 128 → SetTable.sizeAbove (m * 2) ≤ 512 := by decide +kernel
  intro m hm h
  rw [sizeLine_eq] at h
  have := z m hm
  omega

section
variable {P : Program} {w : World} {A : Around} {E : Value → Shared → Prop} {s : Shared}
abbrev setO0 (w : World) : Obj := { cls := .type "set", dict := none, data := .set #[] 0 (.fresh 0 0 (!w.params.followText "set-order")) }
theorem room_for {S : Addr} {m : Nat} {Q : Unit → Shared → Prop} (hm : m < 128) (hS : s.heap.get? S = some (setO0 w))
    (h : ∀ h', Heap.SameBut S s.heap h' → SetR w h' S (fun _ => false) 0 → Q () { s with heap := h' }) :
    wpAny (model P w) A (match (SetTable.fresh 0 0 (!w.params.followText "set-order")).roomFor m with | some wanted => setRelay S wanted | _ => pure ()) Q E s := by
  have fit : (SetTable.fresh 0 0 (!w.params.followText "set-order")).fits (#[] : Array (Int × Value)).size = true := fits_nil _ _ _ _ _
  have R0 := setR_new_at (w := w) (ns := []) hS
  have led : w.params.followText "set-order" = true ∨ (!w.params.followText "set-order") = true := by
    cases w.params.followText "set-order" <;> simp
  unfold SetTable.roomFor
  split
  · rename_i wanted hw
    split at hw
    · have hw2 : wanted = m * 2 := by
        have z := Option.some.inj hw
        rw [← z]
        show (0 + m) * 2 = m * 2
        omega
      subst hw2
      unfold setRelay
      refine wpAny_bind (wpAny_setState_of hS rfl fit ?_)
      dsimp only
      rw [if_neg (relay_sizes m hm)]
      unfold SetTable.relaid
      rw [show (Array.map (fun x => x.fst) (#[] : Array (Int × Value))) = #[] from by simp, laid_nil]
      refine wpAny_bind (wpAny_pure ?_)
      show wpAny _ _ (storeSet S #[] { mask := SetTable.sizeAbove (m * 2) - 1, place := #[], dummies := #[], finger := 0, led := !w.params.followText "set-order", moves := (SetTable.fresh 0 0 (!w.params.followText "set-order")).movedTo (SetTable.sizeAbove (m * 2) - 1), plain := true }) _ _ _
      refine wpAny_storeSet_of hS rfl ?_ (fits_of_scanBound (by decide))
      refine h _ (Heap.SameBut.update s.heap S _) ?_
      have ho := store_at (es' := #[]) (t' := { mask := SetTable.sizeAbove (m * 2) - 1, place := #[], dummies := #[], finger := 0, led := !w.params.followText "set-order", moves := (SetTable.fresh 0 0 (!w.params.followText "set-order")).movedTo (SetTable.sizeAbove (m * 2) - 1), plain := true }) hS rfl
      exact ⟨_, #[], _, _, ho, ⟨rfl, rfl, rfl⟩, rfl, fun e he => by simp at he, by simp, fun k => by simp, by decide, fits_nil _ _ _ _ _, rfl, .nil, led⟩
    · cases hw
  · refine wpAny_pure ?_
    have z := h s.heap (Heap.SameBut.refl S s.heap) (R0.congr fun k => by simp)
    exact z
theorem upd_dict {S d : Addr} {o : Obj} {es : Array DictEntry} {ep : Nat} {ns : List Int} {Q : Unit → Shared → Prop} (ho : s.heap.get? d = some o) (hex : o.ExactDict) (hd : o.data = .dict es ep) (hne : d ≠ S)
    (hsys : (d == sysModules) = false) (ie : IntEntries es ns) (hl : ns.length < 128) (hS : s.heap.get? S = some (setO0 w))
    (h : ∀ h' tk c, SetR w h' S (fun j => decide (j ∈ ns)) c → c ≤ ns.length → Heap.SameBut S s.heap h' → Q () { s with heap := h', toks := tk }) :
    wpAny (model P w) A (Builtin.Frozenset.updateFrom "set.__init__" S (.ref d)) Q E s := by
  have f1 := F.sub_dict_set
  have f2 := F.sub_dict_frozenset
  obtain ⟨ocls, odict, odata, oslots⟩ := o
  obtain ⟨e1, e2, e3⟩ := hex
  simp only at e1 e2 e3 hd
  subst e1 e2 e3 hd
  have hb : ns.length < scanBound := by
    have : scanBound = 4096 := rfl
    omega
  unfold Builtin.Frozenset.updateFrom
  wp_walk
  refine room_for (by rw [ie.1]; exact hl) hS fun h1 sb1 R1 => ?_
  have hg : ∀ {h2 : Heap}, Heap.SameBut S s.heap h2 → h2.get? d = some { cls := .type "dict", dict := none, data := .dict es ep, slots := #[] } := fun sb => (sb.2 d hne).trans ho
  refine wpAny_bind (wpAny_dictEntries (hg sb1) rfl (wpAny_bind ?_))
  refine PySem.SeqAt.wpAny_forIn_span 0 es.size _ (fun i _ s' => ∃ h' tk c, s' = { s with heap := h', toks := tk } ∧ c ≤ i ∧ i ≤ es.size ∧ Heap.SameBut S s.heap h' ∧ SetR w h' S (fun j => decide (j ∈ ns.take i)) c) _ ?_ ?_ _
    ⟨h1, _, 0, rfl, Nat.le_refl _, Nat.zero_le _, sb1, R1.congr fun k => by simp⟩
  · rintro i _ s' _ hi ⟨h', tk, c, rfl, hc, _, sb, R⟩
    refine wpAny_bind (wpAny_dictEntries (hg sb) rfl ?_)
    have he : es[i]? = some es[i] := Array.getElem?_eq_getElem hi
    obtain ⟨k, t, hk, ek, eh⟩ := ie.2 i _ he
    rw [he]
    dsimp only
    refine wpAny_bind (wpAny_holding ?_)
    rw [ek, eh]
    have hlt : c + 1 < scanBound := by
      have : scanBound = 4096 := rfl
      have := ie.1
      omega
    refine setR_add_hashed (s := { s with heap := h', toks := tk }) R hlt fun h2 sb2 R2 => ?_
    refine wpAny_bind (wpAny_dictEpoch (hg (sb.trans sb2)) rfl ?_)
    rw [if_neg (by simp)]
    refine wpAny_pure ?_
    have hc3 : (if decide (k ∈ ns.take i) = true then c else c + 1) ≤ i + 1 := by
      split <;> omega
    refine ⟨h2, tk, _, rfl, hc3, hi, sb.trans sb2, R2.congr fun j => ?_⟩
    rw [List.take_add_one, hk]
    simp [List.mem_append]
  · rintro _ s' ⟨h', tk, c, rfl, hc, _, sb, R⟩
    rw [Nat.zero_max] at hc R
    refine wpAny_pure (h h' tk c (R.congr fun j => ?_) (by rw [← ie.1]; exact hc) sb)
    rw [List.take_of_length_le (by rw [ie.1]; exact Nat.le_refl _)]

set_option maxHeartbeats 3200000 in
theorem call_set_dict {d : Addr} {o : Obj} {es : Array DictEntry} {ep : Nat} {ns : List Int} {Q : Value → Shared → Prop} (ho : s.heap.get? d = some o) (hex : o.ExactDict) (hd : o.data = .dict es ep)
    (hsys : (d == sysModules) = false) (ie : IntEntries es ns) (hl : ns.length < 128)
    (h : ∀ h' tk c, SetR w h' s.heap.objs.size (fun j => decide (j ∈ ns)) c → c ≤ ns.length → (∀ b o, s.heap.get? b = some o → h'.get? b = some o) → Q (.ref s.heap.objs.size) { s with heap := h', toks := tk }) :
    wpAny (model P w) A (call (.type "set") [.ref d]) Q E s := by
  let n0 := s.heap.objs.size
  let hp0 := s.heap.push (setO0 w)
  have hnew : hp0.get? n0 = some (setO0 w) := Heap.get?_push_size _ rfl
  have hold : ∀ b o, s.heap.get? b = some o → hp0.get? b = some o := fun b o e => Heap.get?_push_of_some _ e
  have hne : d ≠ n0 := Nat.ne_of_lt (Heap.lt_size ho)
  have ty0 : Shared.TypeIs { s with heap := hp0 } (.ref n0) "set" := ⟨_, hnew, rfl⟩
  obtain ⟨c, tl, hmro⟩ := F.called_set.mro
  have m1 := F.called_set.made
  have m2 := F.called_set.sub
  have m3 := F.called_set.notType
  have m4 := F.called_set.canCreate
  have m5 := F.typeCall_set_1 (.ref d)
  have m6 := F.called_set.init.lookup
  have m7 := F.called_set.init.bind (.ref n0)
  refine wpAny_call (codeAny_of_tree ?_)
  show wpAny _ _ (callAny (.type "set") _) _ _ _
  refine wpAny_pure ⟨Code.quiet_builtin _ (by decide +kernel), codeAny_builtin F.entry_type_call ?_⟩
  rw [Around.under_plain (weight_type_call_type "set" [.ref d] []) rfl]
  repeat (any_goals (first | assumption | wp_step))
  refine codeAny_mono (code_set_led1 (.ref d) (E := E) (Q₁ := fun r s1 => r = .ref n0 ∧ s1 = { s with heap := hp0 }) ⟨rfl, rfl⟩) fun r s1 hr => ?_
  match r, hr with
  | .error e, hr => exact hr
  | .ok .next, hr => exact hr.elim
  | .ok .brk, hr => exact hr.elim
  | .ok .cont, hr => exact hr.elim
  | .ok (.ret u), hr =>
    obtain ⟨rfl, rfl⟩ := hr
    repeat (any_goals (first | assumption | wp_step))
    refine codeAny_mono (codeAny_call_builtin (R := wants (fun r s2 => r = .none ∧ ∃ h' tk c, s2 = { s with heap := h', toks := tk } ∧ SetR w h' n0 (fun j => decide (j ∈ ns)) c ∧ c ≤ ns.length ∧ Heap.SameBut n0 hp0 h') E)
      F.called_set.init.plain F.entry_set_init (check_set_init_1 ty0 ?_)) fun r2 s2 hr2 => ?_
    · unfold Builtin.«set.__init__» noKeywords
      generalize hU : Builtin.Frozenset.updateFrom = U
      wp_walk
      subst hU
      refine upd_dict (s := { s with heap := hp0 }) (hold _ _ ho) hex hd hne hsys ie hl hnew fun h' tk c R hc sb => ?_
      exact wpAny_pure ⟨rfl, h', tk, c, rfl, R, hc, sb⟩
    · match r2, hr2 with
      | .error e, hr2 => exact hr2
      | .ok .next, hr2 => exact hr2.elim
      | .ok .brk, hr2 => exact hr2.elim
      | .ok .cont, hr2 => exact hr2.elim
      | .ok (.ret u), hr2 =>
        obtain ⟨rfl, h', tk, c, rfl, hR, hc, sb⟩ := hr2
        repeat (any_goals (first | assumption | wp_step))
        exact h _ _ _ hR hc fun b o e => (sb.2 b (Nat.ne_of_lt (Heap.lt_size e))).trans (hold b o e)
end
section
variable {X : Cx}
theorem intEntries_of {P : Program} {w : World} : ∀ {es : List DictEntry} {vs : List (Key × Value)} {ns : List Int}, Pairs (mixKind P w) es vs → (∀ e ∈ es, ∃ k, (mixKind P w).is k e.key = true ∧ e.hash = (mixKind P w).hash k) →
    vs.map (·.1) = ns.map Sum.inl → IntEntries es.toArray ns
  | [], [], [], _, _, _ => ⟨rfl, fun i e h => by simp at h⟩
  | [], [], _ :: _, _, _, h => by simp at h
  | e :: es, kv :: vs, [], _, _, h => by simp at h
  | e :: es, kv :: vs, n :: ns, .cons hk _ r, hh, h => by
    rw [List.map_cons, List.map_cons] at h
    obtain ⟨h1, h2⟩ := List.cons.inj h
    obtain ⟨z1, z2⟩ := intEntries_of r (fun e he => hh e (List.mem_cons_of_mem _ he)) h2
    refine ⟨by simp only [List.size_toArray, List.length_cons] at z1 ⊢; omega, fun i x hx => ?_⟩
    cases i with
    | zero =>
      have ex : e = x := by simpa using hx
      subst ex
      obtain ⟨k, hk2, hh2⟩ := hh e (List.mem_cons_self ..)
      have ek : k = kv.1 := (mixKind P w).inj _ _ _ hk2 hk
      rw [ek, h1] at hh2
      rw [h1] at hk
      have hk' : keyIs (Sum.inl n) e.key = true := hk
      rcases keyIs_shape hk' with ⟨i, t, e1, e2⟩ | ⟨x, t, e1, _⟩
      · obtain rfl := Sum.inl.inj e1
        exact ⟨n, t, rfl, e2, hh2⟩
      · cases e1
    | succ i =>
      have hx' : es.toArray[i]? = some x := by simpa using hx
      obtain ⟨k, t, a, b, c⟩ := z2 i x hx'
      exact ⟨k, t, by simpa using a, b, c⟩
theorem kv_keys : ∀ {kvs : List (Key × V)} {vs : List (Key × Value)}, KV kvs vs → kvs.map (·.1) = vs.map (·.1)
  | _, _, .nil => rfl
  | _, _, .cons a r => by
    rw [List.map_cons, List.map_cons, a.1, kv_keys r]
/-- set(d) -/
def rSetD (w : World) : List V → Hp → VK → Prop := fun xs H Q => ∃ (d : Addr) (kvs : List (Key × V)) (ns : List Int), xs = [.ref d] ∧ H d = some (.dK kvs) ∧ kvs.map (·.1) = ns.map Sum.inl ∧ ns.length < 128 ∧
  ∀ p c, H p = none → c ≤ ns.length → Q (.ref p) (upd H p (SetO w p (fun j => decide (j ∈ ns)) c))
theorem call_setD : CallR X (.type "set") (rSetD X.w) := by
  intro pins s σ H xs us Q I r h
  obtain ⟨d, kvs, ns, rfl, hd, hk, hl, q⟩ := h
  obtain ⟨u, rfl, ru⟩ := r.one
  obtain rfl : u = Value.ref d := ru
  obtain ⟨_, hsys, vs, kv, o, es, ep, ho, hex, hdat, hks, hps, _⟩ := I.hok d _ hd
  have e1 : vs.map (·.1) = ns.map Sum.inl := by
    rw [← hk]
    exact (kv_keys kv).symm
  have ie : IntEntries es ns := by
    have z := intEntries_of (es := es.toList) (by exact hps) (fun e he => hks e (by simpa using he)) e1
    simpa using z
  refine call_set_dict ho hex hdat hsys ie hl fun h' tk c R hc keep => ?_
  exact ⟨.ref _, _, I.laid (t' := tk) keep (Nat.le_refl _) (setO_new R), rfl, q _ c (I.hok.fresh (Nat.le_refl _)) hc⟩
end
end Own

set_option Elab.async false
set_option maxRecDepth 100000
set_option maxHeartbeats 4000000
namespace K21
open PySem PySem.Spec PyProof.Rows L2 Own
def top (i : Nat) : Stmt := PySem.Challenge.pw_ownwake_k21_live_tables.main.body.getD i (.Pass ⟨0, 0, 0, 0⟩)
-- steps
local macro_rules | `(tactic| walk_at "lk") => `(tactic| first
  | assumption | exact upd_same
  | ((with_reducible refine' lk_new ?e (by assumption)); (case e => walk_at "lk"))
  | ((with_reducible refine' lk_ext (by assumption) ?e); (case e => walk_at "lk"))
  | ((with_reducible refine' lk_same (by assumption) ?e); (case e => walk_at "lk")))
local macro_rules | `(tactic| walk_at "sq") => `(tactic| first | assumption | exact SqL.of (by walk_at "lk") | exact SqT.of (by walk_at "lk"))
local macro_rules | `(tactic| walk_at "r1") => `(tactic| first
  | with_reducible refine k_seq ?_ | with_reducible refine k_asg ?_ | with_reducible refine k_ret ?_ | with_reducible refine k_drop ?_ | with_reducible refine k_next ?_ | with_reducible refine k_ifS ?_
  | ((with_reducible refine' k_var ?e ?_); (case e => exact rfl)) | with_reducible refine k_c ?_ | with_reducible refine k_op ?_ | with_reducible refine k_un ?_ | with_reducible refine k_test ?_ | with_reducible refine k_B ?_
  | with_reducible refine k_and ?_ | with_reducible refine k_or ?_ | with_reducible refine k_not ?_ | with_reducible refine k_andV ?_ | with_reducible refine k_orV ?_ | with_reducible refine k_notV ?_ | with_reducible refine k_if ?_
  | with_reducible refine k_nil ?_ | with_reducible refine k_cons ?_ | with_reducible refine k_tup ?_ | with_reducible refine k_lst ?_ | with_reducible refine k_call ?_ | with_reducible refine k_cb ?_ | with_reducible refine k_ck ?_
  | with_reducible refine k_par ?_ | with_reducible refine k_par1 ?_ | with_reducible refine k_tr ?_ | with_reducible refine k_rI0 ?_ | with_reducible refine k_rU ?_
  | with_reducible refine k_gN ?_ | with_reducible refine k_gS ?_ | with_reducible refine k_gNil ?_ | with_reducible refine k_gCons ?_ | with_reducible refine k_bm0 ?_ | with_reducible refine k_bm ?_
  | with_reducible refine k_for ?_ | with_reducible refine k_iL ?_ | with_reducible refine k_iT ?_ | with_reducible refine k_iR1 ?_ | ((with_reducible refine k_iR1i ?e ?_); (case e => first | decide | exact ⟨by omega, by omega⟩))
  | with_reducible refine k_max ?_ | with_reducible refine k_isB ?_ | with_reducible refine k_sl ?_ | with_reducible refine k_noP ?_ | with_reducible refine k_part ?_ | with_reducible refine k_partI ?_ | with_reducible refine k_revL ?_
  | ((with_reducible refine' k_ixqT ?e ?f ?_); (case e => walk_at "sq"); (case f => first | exact rfl | exact atI_head))
  | ((with_reducible refine' k_ixqL ?e ?f ?_); (case e => walk_at "sq"); (case f => first | exact rfl | exact atI_head))
  | ((with_reducible refine' k_lenL ?e ?_); (case e => walk_at "sq"))
  | ((with_reducible refine' k_lenT ?e ?_); (case e => walk_at "sq"))
  | ((with_reducible refine' k_ixL ?e ?f ?_); (case e => walk_at "sq"); (case f => first | exact rfl | exact atI_head))
  | ((with_reducible refine' k_ixT ?e ?f ?_); (case e => walk_at "sq"); (case f => first | exact rfl | exact atI_head))
  | ((with_reducible refine k_eq ?e ?_); (case e => exact rfl)) | ((with_reducible refine k_ne ?e ?_); (case e => exact rfl))
  | ((with_reducible refine k_rI ?e ?_); (case e => first | assumption | omega | decide | exact ⟨by omega, by omega⟩ | exact .inl ⟨by omega, by omega⟩ | exact .inr ⟨by omega, by omega⟩)))
local macro_rules | `(tactic| walk_at "rd") => `(tactic| repeat walk_at "r1")
-- steps end
abbrev s_deck : Stmt := top 8
theorem sc_deck : FnScope ["_law_script", "_law_cell", "_law_cells", "_law_mixed"] ["_law_script"] (defScope s_deck) :=
  ⟨rfl, rfl, rfl, by decide +kernel, rfl, by decide +kernel, by decide +kernel⟩
abbrev s_draw : Stmt := top 9
theorem sc_draw : FnScope ["_law_deck_here", "_law_many", "_law_cell", "_law_mixed"] ["_law_deck_here", "_law_many"] (defScope s_draw) :=
  ⟨rfl, rfl, rfl, by decide +kernel, rfl, by decide +kernel, by decide +kernel⟩
abbrev s_pick : Stmt := top 10
theorem sc_pick : FnScope ["_law_deck_here", "_law_some"] ["_law_deck_here", "_law_some"] (defScope s_pick) :=
  ⟨rfl, rfl, rfl, by decide +kernel, rfl, by decide +kernel, by decide +kernel⟩
/-! ### the deck: the cells' list, a number, how often it was drawn -/
def Dk (d c : Addr) (a : Addr) : Prop := a = d ∨ a = c
def Deck (d c : Addr) (b : Int) (H : Hp) : Prop := ∃ (xs : List Int) (m n : Int), d ≠ c ∧ H d = some (.lst [.ref c, .int m, .int n]) ∧ H c = some (.lst (xs.map V.int)) ∧
  0 ≤ m ∧ m < 4294967296 ∧ 0 ≤ n ∧ n ≤ b ∧ xs.length ≤ 63
theorem Deck.mono {d c : Addr} {b b' : Int} {H : Hp} (D : Deck d c b H) (h : b ≤ b') : Deck d c b' H := by
  obtain ⟨xs, m, n, ne, h1, h2, m0, m1, n0, n1, l⟩ := D
  exact ⟨xs, m, n, ne, h1, h2, m0, m1, n0, Int.le_trans n1 h, l⟩
theorem Deck.same {d c : Addr} {b : Int} {H H' : Hp} (D : Deck d c b H) (s : Same H H') : Deck d c b H' := by
  obtain ⟨xs, m, n, ne, h1, h2, r⟩ := D
  exact ⟨xs, m, n, ne, s _ _ h1, s _ _ h2, r⟩
theorem Deck.new {d c : Addr} {b : Int} {H : Hp} (D : Deck d c b H) {p : Addr} {o : HO} (n : H p = none) : Deck d c b (upd H p o) := D.same (Same.upd n)
/-- what is new is not of the deck -/
theorem Deck.off {d c : Addr} {b : Int} {H : Hp} (D : Deck d c b H) {p : Addr} (n : H p = none) : ¬ Dk d c p := by
  obtain ⟨xs, m, k, _, h1, h2, _⟩ := D
  rintro (rfl | rfl)
  · rw [h1] at n; cases n
  · rw [h2] at n; cases n
theorem Deck.tup {d c : Addr} {b : Int} {H : Hp} (D : Deck d c b H) {p : Addr} {xs : List V} (n : H p = some (.tup xs)) : ¬ Dk d c p := by
  obtain ⟨xs, m, k, _, h1, h2, _⟩ := D
  rintro (rfl | rfl)
  · rw [h1] at n; cases n
  · rw [h2] at n; cases n

theorem dp_ints {K : PySem.W.Frag} {H : Hp} : ∀ xs : List Int, DpAll K H (xs.map V.int) (xs.map PyData.int)
  | [] => .nil
  | x :: xs => .cons (.int x) (dp_ints xs)
theorem lay_ints : ∀ xs : List Int, SeqAt.shaped (.list (xs.map PyData.int)) = true := by
  intro xs
  have h1 : ∀ ys : List Int, PyData.canLayAll0 (ys.map PyData.int) = true := by
    intro ys
    induction ys with
    | nil => rfl
    | cons y ys ih => simpa [PyData.canLayAll0, PyData.canLay0] using ih
  have h2 : ∀ ys : List Int, PyData.depthAll (ys.map PyData.int) = 0 := by
    intro ys
    induction ys with
    | nil => rfl
    | cons y ys ih => simp [PyData.depthAll, PyData.depth, ih]
  unfold SeqAt.shaped
  simp [PyData.canLay0, PyData.depth, h1, h2]
theorem ne_nil (x : PyData) (xs : List PyData) : PyData.eqv (.list (x :: xs)) (.list []) = false := by
  simp [PyData.eqv, PyData.eqvAll]
theorem eq_nil : PyData.eqv (.list []) (.list []) = true := by simp [PyData.eqv, PyData.eqvAll]

section
variable {P : Program} {w : World} {K : PySem.W.Frag} {mg : Str → Option Value} {g0 : Heap}

def spDraw : Sp := fun vs H Q _ => ∃ (d c : Addr) (b many : Int), vs = [.ref d, .int many] ∧ Deck d c b H ∧ b ≤ 1000000000 ∧ 0 < many ∧ many ≤ 1000000000000 ∧
  ∀ (r : Int) (H' : Hp), 0 ≤ r → r < many → Deck d c (b + 1) H' → Ext (Dk d c) H H' → Q (.int r) H'
theorem ok_draw {f : Addr} {fd : FuncData} (F : Fun K "_law_draw" "_law_draw" s_draw f fd) : GOk P w K mg g0 CX0 1 f fd ["_law_deck_here", "_law_many"] spDraw := by
  refine okG F sc_draw (fun vs H Q E h => ?_) (fun cdv A up s H vs Q E qt hr h => ?_)
  · obtain ⟨d, c, b, many, rfl, _⟩ := h
    rfl
  · obtain ⟨d, c, b, many, rfl, D, hb, h0, h1, k⟩ := h
    refine ⟨_, pss_cons (ps_asg (pe_op op_add (pe_ix ix_list (pv 0) pe_int (fun _ _ => rfl)) pe_int) (pg_sub (pv 0) pe_int set_list))
      (pss_cons (ps_set (i := 2) sc_draw.nd rfl (.inl rfl) (pe_ix ix_list (pv 0) pe_int (fun _ _ => rfl)))
      (Evl.pss_cut (ps_if (pt_cmpR (op_neD hr.units) (pe_ix ix_list (pv 0) pe_int (fun _ _ => rfl)) (pe_lst pa_nil) (nomark _))
        (pss_cons (ps_set (i := 2) sc_draw.nd rfl (.inl rfl) (pe_bm0 PySem.F.plainAttrs_list PySem.F.slot_list_pop PySem.F.type_list_pop mt_pop (pe_ix ix_list (pv 0) pe_int (fun _ _ => rfl))))
          (pss_cons (ps_if (pt_cmpR op_ge (pv 2) (pe_op op_pow pe_int pe_int) (nomark _))
            (pss_cons (ps_expr (pe_bm PySem.F.plainAttrs_list PySem.F.slot_list_append PySem.F.type_list_append mt_append (pe_ix ix_list (pv 0) pe_int (fun _ _ => rfl)) (pa_cons (pe_op op_fdivW (pv 2) (pv 1)) pa_nil)))
              (pss_one (ps_ret (pe_op op_mod (pv 2) (pv 1))))) pss_nil)
          (pss_one (ps_set (i := 2) sc_draw.nd rfl (.inl rfl) (pe_op op_add (pv 2) (pe_ix ix_list (pv 0) pe_int (fun _ _ => rfl))))))) pss_nil)
      (pss_cons (ps_set (i := 3) sc_draw.nd rfl (.inl rfl) (pe_op op_mod (pe_op op_mul (pe_op op_add (pe_op op_add (pe_op op_mod (pv 2) pe_int) (pe_op op_mul (pe_op op_mul pe_int (pe_ix ix_list (pv 0) pe_int (fun _ _ => rfl))) (pe_ix ix_list (pv 0) pe_int (fun _ _ => rfl)))) pe_int) pe_int) pe_int))
      (pss_cons (ps_set (i := 3) sc_draw.nd rfl (.inl rfl) (pe_op op_mod (pe_op op_add (pe_op op_add (pe_op op_mul (pv 3) (pv 3)) (pe_op op_mul pe_int (pe_ix ix_list (pv 0) pe_int (fun _ _ => rfl)))) pe_int) pe_int))
      (pss_one (ps_ret (pe_op op_mod (pe_op op_fdiv (pe_op op_mod (pe_op op_mul (pv 3) pe_int) pe_int) pe_int) (pv 1)))))))), ?_⟩
    obtain ⟨xs, m, n, ne, hd, hc, m0, m1, n0, n1, hl⟩ := D
    walk_at "rd"
    refine' k_setL hd rfl ?_
    rw [show [V.ref c, V.int m, V.int n].set (Int.toNat 2) (V.int (n + 1)) = [V.ref c, V.int m, V.int (n + 1)] from rfl]
    have x1 : Ext (Dk d c) H (upd H d (.lst [V.ref c, V.int m, V.int (n + 1)])) := Ext.upd hd (.inl rfl) (fun _ z => by cases z)
    have hd1 : upd H d (.lst [V.ref c, V.int m, V.int (n + 1)]) d = some (.lst [V.ref c, V.int m, V.int (n + 1)]) := upd_same
    have hc1 : upd H d (.lst [V.ref c, V.int m, V.int (n + 1)]) c = some (.lst (xs.map V.int)) := (upd_ne ne.symm).trans hc
    generalize upd H d (.lst [V.ref c, V.int m, V.int (n + 1)]) = H1 at x1 hd1 hc1 ⊢
    walk_at "rd"
    let Mid : L2.St → Hp → Prop := fun σ' H' => ∃ (cell : Int) (ys : List Int), σ' = [some (.ref d), some (.int many), some (.int cell), none] ∧ Ext (Dk d c) H H' ∧
      H' d = some (.lst [V.ref c, V.int m, V.int (n + 1)]) ∧ H' c = some (.lst (ys.map V.int)) ∧ ys.length ≤ 63
    refine ⟨Mid, ?_, ?_⟩
    · walk_at "rd"
      refine ⟨k_sz rfl, fun p hp => ?_⟩
      have x2 : Ext (Dk d c) H (upd H1 p (.lst [])) := x1.trans (ext_new hp)
      have hd2 := lk_new (o := .lst []) hd1 hp
      have hc2 := lk_new (o := .lst []) hc1 hp
      have hp2 : upd H1 p (.lst []) p = some (.lst []) := upd_same
      generalize upd H1 p (.lst []) = H2 at x2 hd2 hc2 hp2 ⊢
      refine ⟨.list (xs.map .int), .list [], .lst (SqL.of hc2) (dp_ints xs), .lst (SqL.of hp2) .nil, lay_ints xs, lay_ints [], ?_⟩
      rcases List.eq_nil_or_concat xs with rfl | ⟨zs, z, rfl⟩
      · refine ⟨_, rfl, ?_⟩
        rw [show PyData.eqv (.list (List.map PyData.int [])) (.list []) = true from eq_nil]
        refine iteF ?_
        exact ⟨m, [], rfl, x2, hd2, hc2, Nat.zero_le _⟩
      · have hz : (zs.concat z).map V.int = zs.map V.int ++ [V.int z] := by simp
        have hz2 : zs.length ≤ 62 := by simp at hl; omega
        refine ⟨_, rfl, ?_⟩
        rw [show PyData.eqv (.list (List.map PyData.int (zs.concat z))) (.list []) = false by
          cases zs <;> simp [PyData.eqv, PyData.eqvAll]]
        refine iteT ?_
        walk_at "rd"
        refine ⟨k_tyL hc2, ?_⟩
        rw [hz] at hc2
        refine k_pop (v := .int z) hc2 (by simp) ?_
        rw [List.dropLast_concat]
        have x3 : Ext (Dk d c) H (upd H2 c (.lst (zs.map V.int))) := x2.trans (Ext.upd hc2 (.inr rfl) (fun _ z => by cases z))
        have hd3 : upd H2 c (.lst (zs.map V.int)) d = some (.lst [V.ref c, V.int m, V.int (n + 1)]) := (upd_ne ne).trans hd2
        have hc3 : upd H2 c (.lst (zs.map V.int)) c = some (.lst (zs.map V.int)) := upd_same
        generalize upd H2 c (.lst (zs.map V.int)) = H3 at x3 hd3 hc3 ⊢
        walk_at "rd"
        refine k_ite (fun _ => ?_) (fun _ => ?_)
        · walk_at "rd"
          refine ⟨k_tyL hc3, ?_⟩
          walk_at "rd"
          refine k_rI (wide_div (b := 40) h0 (by omega) (by decide) (by decide)) ?_
          walk_at "rd"
          refine k_app hc3 (by simp; exact Nat.lt_of_le_of_lt hz2 (by decide)) ?_
          walk_at "rd"
          refine k _ _ (Int.emod_nonneg _ (by omega)) (Int.emod_lt_of_pos _ h0) ⟨zs ++ [z / many], m, n + 1, ne, (upd_ne ne).trans hd3, ?_, m0, m1, by omega, by omega, by simp; omega⟩ ?_
          · rw [upd_same]
            simp
          · exact x3.trans (Ext.upd hc3 (.inr rfl) (fun _ z => by cases z))
        · walk_at "rd"
          exact ⟨z + m, zs, rfl, x3, hd3, hc3, by omega⟩
    · rintro σ' H' ⟨cell, ys, rfl, x2, hd2, hc2, hy⟩
      walk_at "rd"
      exact k _ _ (Int.emod_nonneg _ (by omega)) (Int.emod_lt_of_pos _ h0) ⟨ys, m, n + 1, ne, hd2, hc2, m0, m1, by omega, by omega, hy⟩ x2

theorem atI_in {xs : List V} {r : Int} (h0 : 0 ≤ r) (h1 : r < (xs.length : Int)) : ∃ x, x ∈ xs ∧ atI xs r = some x := by
  have h2 : r.toNat < xs.length := by omega
  refine ⟨xs[r.toNat], List.getElem_mem h2, ?_⟩
  have e : ((r.toNat : Nat) : Int) = r := by omega
  have q : atI xs ((r.toNat : Nat) : Int) = some xs[r.toNat] := atI_nat (List.getElem?_eq_getElem h2)
  rw [e] at q
  exact q
def spPick : Sp := fun vs H Q _ => ∃ (d c l : Addr) (b : Int) (xs : List V), vs = [.ref d, .ref l] ∧ Deck d c b H ∧ b ≤ 1000000000 ∧ ¬ Dk d c l ∧ H l = some (.lst xs) ∧ 0 < xs.length ∧ xs.length ≤ 1000 ∧
  ∀ (x : V) (H' : Hp), x ∈ xs → Deck d c (b + 1) H' → Ext (Dk d c) H H' → Q x H'
theorem ok_pick {f : Addr} {fd : FuncData} (F : Fun K "_law_pick" "_law_pick" s_pick f fd) (z_len : mg "len" = none)
    (C_draw : Cal P w K mg g0 "_law_draw" 1 ["_law_deck_here", "_law_many"] spDraw) : GOk P w K mg g0 CX0 2 f fd ["_law_deck_here", "_law_some"] spPick := by
  have nd := sc_pick.nd
  refine okG F sc_pick (fun vs H Q E h => ?_) (fun cdv A up s H vs Q E qt hr h => ?_)
  · obtain ⟨d, c, l, b, xs, rfl, _⟩ := h
    rfl
  · obtain ⟨d, c, l, b, xs, rfl, D, hb, ml, hl, l0, l1, k⟩ := h
    refine ⟨_, (pss_one (ps_ret (pe_ix ix_seq (pv 1) (pe_c C_draw qt (hr.mono (by decide)) (pa_cons (pv 0) (pa_cons (pe_callB c_len (by rfl) z_len (by decide +kernel) (pa_cons (pv 1) pa_nil)) pa_nil))) (fun _ _ => rfl)))), ?_⟩
    walk_at "rd"
    refine ⟨d, c, b, _, rfl, D, hb, by omega, by omega, fun r H' r0 r1 D' x' => ?_⟩
    obtain ⟨x, hx, he⟩ := atI_in r0 r1
    refine k_ixqL (SqL.of (x'.2 _ _ ml hl)) he ?_
    exact k x H' hx D' x'
theorem cut_ints (ns : List Int) (lo hi : Option Int) : ∃ ms : List Int, cutV (ns.map V.int) lo hi = ms.map V.int ∧ ms.length ≤ ns.length := by
  refine ⟨(ns.drop (HT.sIx ns.length 0 lo)).take (HT.sIx ns.length ns.length hi - HT.sIx ns.length 0 lo), ?_, ?_⟩
  · unfold cutV
    rw [List.length_map, List.map_take, List.map_drop]
  · rw [List.length_take, List.length_drop]
    omega
def spDeck (K : PySem.W.Frag) : Sp := fun vs H Q _ => ∃ (a : Addr) (ns : List Int), vs = [.ref a] ∧ SqL K H a (ns.map V.int) ∧ ns.length ≤ 63 ∧
  ∀ (d c : Addr) (H' : Hp), H d = none → H c = none → Deck d c 0 H' → Same H H' → Q (.ref d) H'
theorem same_free {H H' : Hp} (s : Same H H') {p : Addr} (h : H' p = none) : H p = none := L2.Same.free s h
theorem ok_deck {f : Addr} {fd : FuncData} (F : Fun K "_law_deck" "_law_deck" s_deck f fd) (z_list : mg "list" = none) : GOk P w K mg g0 CX0 1 f fd ["_law_script"] (spDeck K) := by
  have nd := sc_deck.nd
  refine okG F sc_deck (fun vs H Q E h => ?_) (fun cdv A up s H vs Q E qt hr h => ?_)
  · obtain ⟨a, ns, rfl, _⟩ := h
    rfl
  · obtain ⟨a, ns, rfl, hS, hl, k⟩ := h
    refine ⟨_, (pss_cons (ps_par (i := 2) (j := 3) (by rfl) nd rfl rfl (by decide) rfl rfl (pa_cons (pe_callTy c_list (by rfl) z_list (by decide +kernel) (pa_cons (pe_slice sl_list (pv 0) po_none (po_some pe_int)) pa_nil)) (pa_cons pe_int pa_nil)) (by rfl))
        (pss_cons (ps_for PassesOwn.never rfl (pi_list (pv 2)) (pg_name (i := 1) nd rfl (Or.inl rfl)) (pss_one (ps_set (i := 3) nd rfl (Or.inl rfl) (pe_op op_mod (pe_op op_add (pe_op op_add (pe_op op_mul (pv 3) pe_int) (pe_op op_mod (pv 1) pe_int)) pe_int) pe_int))))
        (pss_one (ps_ret (pe_lst (pa_cons (pe_revL (pv 2)) (pa_cons (pv 3) (pa_cons pe_int pa_nil)))))))), ?_⟩
    walk_at "rd"
    refine k_slL hS (fun p hp => ?_)
    obtain ⟨ms, em, lm⟩ := cut_ints ns none (some 63)
    rw [em]
    have s1 : Same H (upd H p (.lst (ms.map V.int))) := Same.upd hp
    have hp1 : upd H p (.lst (ms.map V.int)) p = some (.lst (ms.map V.int)) := upd_same
    generalize upd H p (.lst (ms.map V.int)) = H1 at s1 hp1 ⊢
    walk_at "rd"
    refine k_listL (SqL.of hp1) (fun q hq => ?_)
    have s2 : Same H (upd H1 q (.lst (ms.map V.int))) := s1.trans (Same.upd hq)
    have hq2 : upd H1 q (.lst (ms.map V.int)) q = some (.lst (ms.map V.int)) := upd_same
    generalize upd H1 q (.lst (ms.map V.int)) = H2 at s2 hq2 ⊢
    walk_at "rd"
    let Pv : Nat → L2.St → Hp → Prop := fun i σ H' => ∃ (m : Int) (v : Option V), σ = [some (.ref a), v, some (.ref q), some (.int m)] ∧ H2 = H' ∧ 0 ≤ m ∧ m < 4294967296
    refine ⟨q, rfl, ⟨_, SqL.of hq2⟩, for_list (xs := ms.map V.int) Pv ⟨_, _, rfl, rfl, by decide, by decide⟩ (fun i σ H' _ h => ?_) (fun i x σ H' hx h => ?_) (fun σ H' h => ?_)⟩
    · obtain ⟨m, v, rfl, rfl, _⟩ := h
      exact SqL.of hq2
    · obtain ⟨m, v, rfl, rfl, m0, m1⟩ := h
      rw [List.getElem?_map] at hx
      obtain ⟨z, hz, rfl⟩ := Option.map_eq_some_iff.mp hx
      walk_at "rd"
      exact ⟨_, _, rfl, rfl, by omega, by omega⟩
    · obtain ⟨m, v, rfl, rfl, m0, m1⟩ := h
      walk_at "rd"
      refine ⟨q, _, rfl, SqL.of hq2, fun c hc => ?_⟩
      have s3 : Same H (upd H2 c (.lst (ms.map V.int).reverse)) := s2.trans (Same.upd hc)
      have hc3 : upd H2 c (.lst (ms.map V.int).reverse) c = some (.lst (ms.map V.int).reverse) := upd_same
      generalize upd H2 c (.lst (ms.map V.int).reverse) = H3 at s3 hc3 ⊢
      walk_at "rd"
      refine ⟨k_sz rfl, fun d hd => ?_⟩
      refine k d c _ (same_free s3 hd) (same_free s2 hc) ⟨ms.reverse, m, 0, (ne_of_none hc3 hd).symm, upd_same, ?_, m0, m1, Int.le_refl _, Int.le_refl _, ?_⟩ (s3.trans (Same.upd hd))
      · rw [upd_ne (ne_of_none hc3 hd), hc3, List.map_reverse]
      · rw [List.length_reverse]
        omega
end
abbrev s_NoRow___init__ : Stmt := inClass (top 4) 0
theorem sc_NoRow___init__ : FnScope ["self", "name", "number"] ["self", "name", "number"] (defScope s_NoRow___init__) :=
  ⟨rfl, rfl, rfl, by decide +kernel, rfl, by decide +kernel, by decide +kernel⟩
abbrev s_LiveTable___init__ : Stmt := inClass (top 6) 0
theorem sc_LiveTable___init__ : FnScope ["self", "rows", "following", "number", "values"] ["self", "rows", "following"] (defScope s_LiveTable___init__) :=
  ⟨rfl, rfl, rfl, by decide +kernel, rfl, by decide +kernel, by decide +kernel⟩
abbrev s_LiveTable_rows : Stmt := inClass (top 6) 1
theorem sc_LiveTable_rows : FnScope ["self", "number"] ["self"] (defScope s_LiveTable_rows) :=
  ⟨rfl, rfl, rfl, by decide +kernel, rfl, by decide +kernel, by decide +kernel⟩
abbrev s_LiveTable_put : Stmt := inClass (top 6) 3
theorem sc_LiveTable_put : FnScope ["self", "values", "number"] ["self", "values"] (defScope s_LiveTable_put) :=
  ⟨rfl, rfl, rfl, by decide +kernel, rfl, by decide +kernel, by decide +kernel⟩
abbrev s_LiveTable_change : Stmt := inClass (top 6) 4
theorem sc_LiveTable_change : FnScope ["self", "number", "values"] ["self", "number", "values"] (defScope s_LiveTable_change) :=
  ⟨rfl, rfl, rfl, by decide +kernel, rfl, by decide +kernel, by decide +kernel⟩
abbrev s_LiveTable_drop : Stmt := inClass (top 6) 5
theorem sc_LiveTable_drop : FnScope ["self", "number"] ["self", "number"] (defScope s_LiveTable_drop) :=
  ⟨rfl, rfl, rfl, by decide +kernel, rfl, by decide +kernel, by decide +kernel⟩
abbrev s_LiveTable___contains__ : Stmt := inClass (top 6) 9
theorem sc_LiveTable___contains__ : FnScope ["self", "x"] ["self", "x"] (defScope s_LiveTable___contains__) :=
  ⟨rfl, rfl, rfl, by decide +kernel, rfl, by decide +kernel, by decide +kernel⟩
abbrev s_LiveTable___len__ : Stmt := inClass (top 6) 10
theorem sc_LiveTable___len__ : FnScope ["self"] ["self"] (defScope s_LiveTable___len__) :=
  ⟨rfl, rfl, rfl, by decide +kernel, rfl, by decide +kernel, by decide +kernel⟩
abbrev s_values : Stmt := top 11
theorem sc_values : FnScope ["_law_deck_here", "_law_many", "_law_great", "_law_k"] ["_law_deck_here", "_law_many"] (defScope s_values) :=
  ⟨rfl, rfl, rfl, by decide +kernel, rfl, by decide +kernel, by decide +kernel⟩
abbrev s_rows : Stmt := top 12
theorem sc_rows : FnScope ["_law_deck_here", "_law_many", "_law_k", "_law_found", "_law_place"] ["_law_deck_here", "_law_many"] (defScope s_rows) :=
  ⟨rfl, rfl, rfl, by decide +kernel, rfl, by decide +kernel, by decide +kernel⟩
abbrev s_refused : Stmt := top 13
theorem sc_refused : FnScope ["_law_table", "_law_place", "_law_fresh", "_law_found", "e", "_law_told", "_law_is_right"] ["_law_table", "_law_place", "_law_fresh"] (defScope s_refused) :=
  ⟨rfl, rfl, rfl, by decide +kernel, rfl, by decide +kernel, by decide +kernel⟩
abbrev s_alike : Stmt := top 14
theorem sc_alike : FnScope ["_law_table", "_law_model", "_law_known", "_law_due", "_law_place"] ["_law_table", "_law_model"] (defScope s_alike) :=
  ⟨rfl, rfl, rfl, by decide +kernel, rfl, by decide +kernel, by decide +kernel⟩
abbrev s_put : Stmt := top 15
theorem sc_put : FnScope ["_law_deck_here", "_law_table", "_law_model", "_law_fresh", "_law_due", "_law_place"] ["_law_deck_here", "_law_table", "_law_model"] (defScope s_put) :=
  ⟨rfl, rfl, rfl, by decide +kernel, rfl, by decide +kernel, by decide +kernel⟩
abbrev s_deed : Stmt := top 16
theorem sc_deed : FnScope ["_law_deck_here", "_law_table", "_law_model", "_law_place", "_law_told", "_law_way", "_law_known", "_law_fresh", "_law_due"] ["_law_deck_here", "_law_table", "_law_model"] (defScope s_deed) :=
  ⟨rfl, rfl, rfl, by decide +kernel, rfl, by decide +kernel, by decide +kernel⟩
abbrev s_law : Stmt := top 17
theorem sc_law : FnScope ["_law_script", "_law_deck_here", "_law_tables", "_law_turn", "_law_empty", "_law_many", "_law_kept", "_law_table", "_law_model", "_law_k", "_law_begun", "_law_after", "_law_one", "_law_kept_model"] ["_law_script"] (defScope s_law) :=
  ⟨rfl, rfl, rfl, by decide +kernel, rfl, by decide +kernel, by decide +kernel⟩

/-! ### rows: numbers with their values -/
abbrev Rows := List (Int × List Int)
def hasR (m : Rows) (n : Int) : Bool := m.any fun r => decide (r.1 = n)
def getR (m : Rows) (n : Int) : List Int := ((m.find? fun r => decide (r.1 = n)).map (·.2)).getD []
def putR (m : Rows) (n : Int) (vs : List Int) : Rows := if hasR m n = true then m.map (fun r => if r.1 = n then (r.1, vs) else r) else m ++ [(n, vs)]
def dropR (m : Rows) (n : Int) : Rows := m.filter fun r => decide (r.1 ≠ n)
def keysR (m : Rows) : List Int := m.map (·.1)
theorem hasR_iff {m : Rows} {n : Int} : hasR m n = true ↔ n ∈ keysR m := by
  unfold hasR keysR
  rw [List.any_eq_true, List.mem_map]
  constructor
  · rintro ⟨r, hr, e⟩
    exact ⟨r, hr, of_decide_eq_true e⟩
  · rintro ⟨r, hr, e⟩
    exact ⟨r, hr, decide_eq_true e⟩
theorem keys_put {m : Rows} {n : Int} {vs : List Int} : keysR (putR m n vs) = if hasR m n = true then keysR m else keysR m ++ [n] := by
  unfold putR keysR
  split
  · rw [List.map_map]
    refine List.map_congr_left fun r _ => ?_
    show (if r.1 = n then (r.1, vs) else r).1 = r.1
    split <;> rfl
  · rw [List.map_append]
    rfl
theorem keys_drop {m : Rows} {n : Int} : keysR (dropR m n) = (keysR m).filter fun k => decide (k ≠ n) := by
  unfold dropR keysR
  rw [List.filter_map]
  rfl

/-- a dict of rows, as its pairs tell -/
def Ent (H : Hp) (kvs : List (Key × V)) (m : Rows) : Prop := Paired (fun (q : Key × V) (r : Int × List Int) => q.1 = Sum.inl r.1 ∧ ∃ t, q.2 = V.ref t ∧ H t = some (.tup (r.2.map V.int))) kvs m
def Tups (H H' : Hp) : Prop := ∀ a xs, H a = some (.tup xs) → H' a = some (.tup xs)
theorem Ent.ext {H H' : Hp} {kvs : List (Key × V)} {m : Rows} (e : Ent H kvs m) (x : Tups H H') : Ent H' kvs m := by
  refine Paired.mapP e fun q r h => ?_
  obtain ⟨h1, t, h2, h3⟩ := h
  exact ⟨h1, t, h2, x _ _ h3⟩
theorem Ent.keys {H : Hp} : ∀ {kvs : List (Key × V)} {m : Rows}, Ent H kvs m → kvs.map (·.1) = (keysR m).map Sum.inl
  | _, _, .nil => rfl
  | _, _, .cons a r => by
    rw [List.map_cons, a.1, Ent.keys r]
    rfl
theorem key_dec (q : Key) (k n : Int) (e : q = Sum.inl k) : decide (q = (Sum.inl n : Key)) = decide (k = n) := by
  subst e
  by_cases h : k = n
  · subst h
    simp
  · rw [decide_eq_false h, decide_eq_false fun z => h (Sum.inl.inj z)]
theorem Ent.any {H : Hp} {n : Int} : ∀ {kvs : List (Key × V)} {m : Rows}, Ent H kvs m → (kvs.any fun kv => decide (kv.1 = (Sum.inl n : Key))) = hasR m n
  | _, _, .nil => rfl
  | _, _, .cons a r => by
    rw [List.any_cons, key_dec _ _ n a.1, Ent.any r]
    rfl
theorem Ent.snoc {H : Hp} {kvs : List (Key × V)} {m : Rows} {n : Int} {t : Addr} {vs : List Int} (e : Ent H kvs m) (h : H t = some (.tup (vs.map V.int))) : Ent H (kvs ++ [(Sum.inl n, V.ref t)]) (m ++ [(n, vs)]) :=
  Paired.snoc e ⟨rfl, t, rfl, h⟩
theorem Ent.map {H : Hp} {n : Int} {t : Addr} {vs : List Int} (h : H t = some (.tup (vs.map V.int))) : ∀ {kvs : List (Key × V)} {m : Rows}, Ent H kvs m →
    Ent H (kvs.map fun kv => if kv.1 = (Sum.inl n : Key) then (kv.1, V.ref t) else kv) (m.map fun r => if r.1 = n then (r.1, vs) else r)
  | _, _, .nil => .nil
  | kv :: kvs, r :: m, .cons a x => by
    refine .cons ?_ (Ent.map h x)
    dsimp only
    by_cases e : r.1 = n
    · rw [if_pos (by rw [a.1, e]), if_pos e]
      exact ⟨a.1, t, rfl, h⟩
    · rw [if_neg (fun z => e (Sum.inl.inj (a.1.symm.trans z))), if_neg e]
      exact a
theorem Ent.put {H : Hp} {kvs : List (Key × V)} {m : Rows} {n : Int} {t : Addr} {vs : List Int} (e : Ent H kvs m) (h : H t = some (.tup (vs.map V.int))) : Ent H (putK kvs (Sum.inl n) (V.ref t)) (putR m n vs) := by
  unfold putK putR
  rw [e.any]
  split
  · exact Ent.map h e
  · exact e.snoc h
theorem Ent.drop {H : Hp} {n : Int} : ∀ {kvs : List (Key × V)} {m : Rows}, Ent H kvs m → Ent H (dropK kvs (Sum.inl n)) (dropR m n)
  | _, _, .nil => .nil
  | kv :: kvs, r :: m, .cons a x => by
    have ih := Ent.drop (n := n) x
    unfold dropK dropR at ih ⊢
    by_cases e : r.1 = n
    · rw [List.filter_cons_of_neg (by simp [a.1, e]), List.filter_cons_of_neg (by simp [e])]
      exact ih
    · rw [List.filter_cons_of_pos (by simp [a.1, e]), List.filter_cons_of_pos (by simp [e])]
      exact .cons a ih
theorem Ent.get {H : Hp} {n : Int} : ∀ {kvs : List (Key × V)} {m : Rows}, Ent H kvs m → hasR m n = true → ∃ t, valV kvs (Sum.inl n : Key) = some (V.ref t) ∧ H t = some (.tup ((getR m n).map V.int))
  | _, _, .nil, h => by cases h
  | kv :: kvs, r :: m, .cons a x, h => by
    obtain ⟨a1, t, a2, a3⟩ := a
    by_cases e : r.1 = n
    · refine ⟨t, ?_, ?_⟩
      · rw [valV_pos (by rw [a1, e]), a2]
      · unfold getR
        rw [List.find?_cons_of_pos (by simp [e])]
        exact a3
    · have h' : hasR m n = true := by
        unfold hasR at h ⊢
        rw [List.any_cons, decide_eq_false e, Bool.false_or] at h
        exact h
      obtain ⟨t', b1, b2⟩ := Ent.get x h'
      refine ⟨t', ?_, ?_⟩
      · rw [valV_neg (fun z => e (Sum.inl.inj (a1.symm.trans z)))]
        exact b1
      · unfold getR at b2 ⊢
        rw [List.find?_cons_of_neg (by simp [e])]
        exact b2
theorem Ent.none {H : Hp} {kvs : List (Key × V)} {m : Rows} {n : Int} (e : Ent H kvs m) (h : hasR m n = false) : valV kvs (Sum.inl n : Key) = none := by
  have z := valV_any (Sum.inl n : Key) kvs
  rw [e.any, h] at z
  cases hv : valV kvs (Sum.inl n : Key) with
  | none => rfl
  | some v =>
    rw [hv] at z
    cases z
theorem Ent.some {H : Hp} {kvs : List (Key × V)} {m : Rows} {n : Int} (e : Ent H kvs m) : (valV kvs (Sum.inl n : Key)).isSome = hasR m n := by
  rw [← valV_any, e.any]
theorem Ent.length {H : Hp} {kvs : List (Key × V)} {m : Rows} (e : Ent H kvs m) : kvs.length = m.length := Paired.length e

/-- ascending lists with the same members are one -/
theorem asc_same : ∀ {xs ys : List Int}, xs.Pairwise (· < ·) → ys.Pairwise (· < ·) → (∀ k, k ∈ xs ↔ k ∈ ys) → xs = ys
  | [], [], _, _, _ => rfl
  | [], y :: ys, _, _, h => absurd ((h y).mpr (List.mem_cons_self ..)) (by simp)
  | x :: xs, [], _, _, h => absurd ((h x).mp (List.mem_cons_self ..)) (by simp)
  | x :: xs, y :: ys, hx, hy, h => by
    obtain ⟨x1, x2⟩ := List.pairwise_cons.mp hx
    obtain ⟨y1, y2⟩ := List.pairwise_cons.mp hy
    have e : x = y := by
      rcases List.mem_cons.mp ((h x).mp (List.mem_cons_self ..)) with e | e
      · exact e
      · rcases List.mem_cons.mp ((h y).mpr (List.mem_cons_self ..)) with e2 | e2
        · exact e2.symm
        · have := y1 x e
          have := x1 y e2
          omega
    subst e
    refine congrArg (x :: ·) (asc_same x2 y2 fun k => ?_)
    constructor
    · intro hk
      rcases List.mem_cons.mp ((h k).mp (List.mem_cons_of_mem _ hk)) with e | e
      · have := x1 k hk
        omega
      · exact e
    · intro hk
      rcases List.mem_cons.mp ((h k).mpr (List.mem_cons_of_mem _ hk)) with e | e
      · have := y1 k hk
        omega
      · exact e
theorem asc_of {xs ks : List Int} (p : xs.Perm ks) (s : xs.Pairwise (· ≤ ·)) (nd : ks.Nodup) : xs.Pairwise (· < ·) := by
  have nx : xs.Nodup := p.nodup_iff.mpr nd
  refine (s.and nx).imp fun h => ?_
  obtain ⟨h1, h2⟩ := h
  omega
/-- a row, and rows, as data -/
def rowD (n : Int) (vs : List Int) : PyData := .tuple [.int n, .tuple (vs.map .int)]
def rowsD (m : Rows) (ns : List Int) : PyData := .tuple (ns.map fun n => rowD n (getR m n))
/-- what is told of rows -/
structure Good (m : Rows) (next many : Int) : Prop where
  nd : (keysR m).Nodup
  lt : ∀ k ∈ keysR m, 0 ≤ k ∧ k < next
  ok : ∀ r ∈ m, (r.2.length : Int) = many ∧ ∀ v ∈ r.2, -1000000000 ≤ v ∧ v ≤ 1000000000
end K21

set_option Elab.async false
set_option maxRecDepth 100000
set_option maxHeartbeats 4000000
namespace K21
open PySem PySem.Spec PyProof.Rows L2 Own
-- steps
local macro_rules | `(tactic| walk_at "lk") => `(tactic| first
  | assumption | exact upd_same
  | ((with_reducible refine' lk_new ?e (by assumption)); (case e => walk_at "lk"))
  | ((with_reducible refine' lk_ext (by assumption) ?e); (case e => walk_at "lk"))
  | ((with_reducible refine' lk_same (by assumption) ?e); (case e => walk_at "lk")))
local macro_rules | `(tactic| walk_at "sq") => `(tactic| first | assumption | exact SqL.of (by walk_at "lk") | exact SqT.of (by walk_at "lk"))
local macro_rules | `(tactic| walk_at "r1") => `(tactic| first
  | with_reducible refine k_seq ?_ | with_reducible refine k_asg ?_ | with_reducible refine k_ret ?_ | with_reducible refine k_drop ?_ | with_reducible refine k_next ?_ | with_reducible refine k_ifS ?_
  | ((with_reducible refine' k_var ?e ?_); (case e => exact rfl)) | with_reducible refine k_c ?_ | with_reducible refine k_op ?_ | with_reducible refine k_un ?_ | with_reducible refine k_test ?_ | with_reducible refine k_B ?_
  | with_reducible refine k_and ?_ | with_reducible refine k_or ?_ | with_reducible refine k_not ?_ | with_reducible refine k_andV ?_ | with_reducible refine k_orV ?_ | with_reducible refine k_notV ?_ | with_reducible refine k_if ?_
  | with_reducible refine k_nil ?_ | with_reducible refine k_cons ?_ | with_reducible refine k_tup ?_ | with_reducible refine k_lst ?_ | with_reducible refine k_call ?_ | with_reducible refine k_cb ?_ | with_reducible refine k_ck ?_
  | with_reducible refine k_par ?_ | with_reducible refine k_par1 ?_ | with_reducible refine k_tr ?_ | with_reducible refine k_rI0 ?_ | with_reducible refine k_rU ?_
  | with_reducible refine k_gN ?_ | with_reducible refine k_gS ?_ | with_reducible refine k_gNil ?_ | with_reducible refine k_gCons ?_ | with_reducible refine k_bm0 ?_ | with_reducible refine k_bm ?_
  | with_reducible refine k_for ?_ | with_reducible refine k_iL ?_ | with_reducible refine k_iT ?_ | with_reducible refine k_iR1 ?_ | ((with_reducible refine k_iR1i ?e ?_); (case e => first | decide | exact ⟨by omega, by omega⟩))
  | with_reducible refine k_max ?_ | with_reducible refine k_isB ?_ | with_reducible refine k_sl ?_ | with_reducible refine k_noP ?_ | with_reducible refine k_part ?_ | with_reducible refine k_partI ?_ | with_reducible refine k_revL ?_
  | ((with_reducible refine' k_ixqT ?e ?f ?_); (case e => walk_at "sq"); (case f => first | exact rfl | exact atI_head))
  | ((with_reducible refine' k_ixqL ?e ?f ?_); (case e => walk_at "sq"); (case f => first | exact rfl | exact atI_head))
  | ((with_reducible refine' k_lenL ?e ?_); (case e => walk_at "sq"))
  | ((with_reducible refine' k_lenT ?e ?_); (case e => walk_at "sq"))
  | ((with_reducible refine' k_ixL ?e ?f ?_); (case e => walk_at "sq"); (case f => first | exact rfl | exact atI_head))
  | ((with_reducible refine' k_ixT ?e ?f ?_); (case e => walk_at "sq"); (case f => first | exact rfl | exact atI_head))
  | ((with_reducible refine k_eq ?e ?_); (case e => exact rfl)) | ((with_reducible refine k_ne ?e ?_); (case e => exact rfl))
  | ((with_reducible refine k_rI ?e ?_); (case e => first | assumption | omega | decide | exact ⟨by omega, by omega⟩ | exact .inl ⟨by omega, by omega⟩ | exact .inr ⟨by omega, by omega⟩)))
local macro_rules | `(tactic| walk_at "rd") => `(tactic| repeat walk_at "r1")
-- steps end
/-! ### a live table -/
theorem rf : ¬ (("_rows" : Str) = "_following") := by decide +kernel
def flds (d : Addr) (z : Int) : List (Str × V) := putF "_following" (.int z) (putF "_rows" (.ref d) [])
theorem flds_eq (d : Addr) (z : Int) : flds d z = [(("_rows" : Str), V.ref d), (("_following" : Str), V.int z)] := by
  show (if ("_rows" : Str) = "_following" then [(("_rows" : Str), V.int z)] else (("_rows" : Str), V.ref d) :: putF "_following" (V.int z) []) = _
  rw [if_neg rf]
  rfl
theorem flds_rows (d : Addr) (z : Int) : (flds d z).lookup ("_rows" : Str) = some (.ref d) := by
  unfold flds
  rw [lookup_putF, if_neg rf, lookup_putF, if_pos rfl]
theorem flds_foll (d : Addr) (z : Int) : (flds d z).lookup ("_following" : Str) = some (.int z) := by
  unfold flds
  rw [lookup_putF, if_pos rfl]
theorem flds_no (d : Addr) (z : Int) {m : Str} (h1 : ¬ m = "_following") (h2 : ¬ m = "_rows") : (flds d z).lookup m = none := by
  unfold flds
  rw [lookup_putF, if_neg h1, lookup_putF, if_neg h2]
  rfl
theorem flds_put (d : Addr) (z y : Int) : putF "_following" (.int y) (flds d z) = flds d y := by
  rw [flds_eq, flds_eq]
  show (if ("_rows" : Str) = "_following" then _ else (("_rows" : Str), V.ref d) :: (if ("_following" : Str) = "_following" then [(("_following" : Str), V.int y)] else _)) = _
  rw [if_neg rf, if_pos rfl]
theorem flds_len (d : Addr) (z : Int) : (flds d z).length < 1000 := by
  rw [flds_eq]
  show 2 < 1000
  decide
/-- what of the text the class must have -/
structure Txt (K : PySem.W.Frag) (C : Addr) : Prop where
  cl : Cls K C
  nR : NoAttr K C "_rows"
  nF : NoAttr K C "_following"
def DictAt (H : Hp) (d : Addr) (m : Rows) : Prop := ∃ kvs, H d = some (.dK kvs) ∧ Ent H kvs m
def TableAt (C : Addr) (H : Hp) (p dx d : Addr) (m : Rows) (z : Int) : Prop := H p = some (.ins C dx (flds d z)) ∧ DictAt H d m
/-- rows as they are handed in -/
def RowAt (H : Hp) (t : Addr) (r : Int × List Int) : Prop := ∃ u, H t = some (.tup [.int r.1, .ref u]) ∧ H u = some (.tup (r.2.map V.int))
def BegunAt (K : PySem.W.Frag) (H : Hp) (b : Addr) (m : Rows) : Prop := ∃ ts : List Addr, SqT K H b (ts.map V.ref) ∧ Paired (RowAt H) ts m
theorem DictAt.keep {H H' : Hp} {d : Addr} {m : Rows} (D : DictAt H d m) (x : Tups H H') (k : ∀ o, H d = some o → H' d = some o) : DictAt H' d m := by
  obtain ⟨kvs, h1, h2⟩ := D
  exact ⟨kvs, k _ h1, h2.ext x⟩
theorem TableAt.keep {C : Addr} {H H' : Hp} {p dx d : Addr} {m : Rows} {z : Int} (T : TableAt C H p dx d m z) (x : Tups H H') (k : ∀ o, H d = some o → H' d = some o) (k2 : ∀ o, H p = some o → H' p = some o) : TableAt C H' p dx d m z :=
  ⟨k2 _ T.1, T.2.keep x k⟩
theorem RowAt.keep {H H' : Hp} {t : Addr} {r : Int × List Int} (h : RowAt H t r) (x : Tups H H') : RowAt H' t r := let ⟨u, a, b⟩ := h; ⟨u, x _ _ a, x _ _ b⟩
theorem tups_upd {H : Hp} {p : Addr} {o u : HO} (h : H p = some u) (n : ∀ xs, u ≠ .tup xs) : Tups H (upd H p o) := fun a xs e => by
  rw [upd_ne fun z => ?_]
  · exact e
  · subst z
    rw [h] at e
    cases e
    exact n _ rfl
theorem tups_new {H : Hp} {p : Addr} {o : HO} (h : H p = none) : Tups H (upd H p o) := fun a xs e => lk_new e h
theorem Tups.trans {H H1 H2 : Hp} (a : Tups H H1) (b : Tups H1 H2) : Tups H H2 := fun x xs h => b x xs (a x xs h)
theorem Tups.refl (H : Hp) : Tups H H := fun _ _ h => h
theorem Tups.same {H H' : Hp} (s : Same H H') : Tups H H' := fun a xs h => s a _ h
theorem pget {α β : Type} {F : α → β → Prop} : ∀ {xs : List α} {ys : List β}, Paired F xs ys → ∀ {i : Nat} {x : α}, xs[i]? = some x → ∃ y, ys[i]? = some y ∧ F x y
  | _, _, .nil, i, x, h => by simp at h
  | _, _, .cons a r, 0, x, h => by
    simp at h
    subst h
    exact ⟨_, rfl, a⟩
  | _, _, .cons a r, i + 1, x, h => by
    simp at h
    obtain ⟨y, h1, h2⟩ := pget r h
    exact ⟨y, by simpa using h1, h2⟩
theorem put_take {m : Rows} {i : Nat} {r : Int × List Int} (nd : (keysR m).Nodup) (h : m[i]? = some r) : putR (m.take i) r.1 r.2 = m.take (i + 1) := by
  have hn : hasR (m.take i) r.1 = false := by
    rw [Bool.eq_false_iff]
    intro z
    have z' := hasR_iff.mp z
    have e : keysR m = keysR (m.take i) ++ keysR (m.drop i) := by
      unfold keysR
      rw [← List.map_append, List.take_append_drop]
    rw [e] at nd
    have i2 : r.1 ∈ keysR (m.drop i) := by
      unfold keysR
      refine List.mem_map_of_mem (List.mem_of_getElem? (i := 0) ?_)
      rw [List.getElem?_drop]
      exact h
    exact (List.nodup_append.mp nd).2.2 _ z' _ i2 rfl
  unfold putR
  rw [if_neg (by rw [hn]; exact Bool.false_ne_true), List.take_add_one, h]
  rfl
/-- the value of the i-th statement, an assignment -/
def defVal (st : Stmt) (i : Nat) : Expr := match (defBody st)[i]? with | some (.Assign _ v _) => v | _ => .Constant .none 0 ⟨0, 0, 0, 0⟩
section
variable {P : Program} {w : World} {K : PySem.W.Frag} {mg : Str → Option Value} {base : Heap} {C : Addr}
def spInit (K : PySem.W.Frag) (C : Addr) : Sp := fun vs H Q _ => ∃ (p dx b : Addr) (m : Rows) (z : Int), vs = [.ref p, .ref b, .int z] ∧ H p = some (.ins C dx []) ∧ BegunAt K H b m ∧ (keysR m).Nodup ∧ m.length ≤ 1000 ∧
  ∀ (d : Addr) (H' : Hp), H d = none → TableAt C H' p dx d m z → (∀ a o, a ≠ p → H a = some o → H' a = some o) → Q .non H'
theorem ok_init {f : Addr} {fd : FuncData} {dvs : List V} {kws : List (Str × V)} (F : FunD K "__init__" "LiveTable.__init__" (defArgs s_LiveTable___init__) (defBody s_LiveTable___init__) (defScope s_LiveTable___init__) dvs kws f fd) (T : Txt K C) :
    FnOk P w K mg base CX0 1 f fd ["self", "rows", "following"] (spInit K C) := by
  have nd := sc_LiveTable___init__.nd
  refine F.ok sc_LiveTable___init__ (fun vs H Q E h => ?_) (fun cdv A up s H vs Q E hr h => ?_)
  · obtain ⟨p, dx, b, m, z, rfl, _⟩ := h
    rfl
  · obtain ⟨p, dx, b, m, z, rfl, hp, ⟨ts, hb, hts⟩, hnd, hl, k⟩ := h
    refine ⟨_, pss_cons (ps_fld (pv 0) (pe_dc (own := [("number", 3), ("values", 4)]) (g := gTup K 2 (gCons (gName 3) (gCons (gName 4) gNil))) (tt := tYes) (tk := tVar 3) (tv := tVar 4) (by rfl) nd (pi_tup (pv 1)) (blkOk_by (own := [("number", 3), ("values", 4)]) (N := ["self", "rows", "following", "number", "values"]) (sc := defScope s_LiveTable___init__) (by decide +kernel))
        (fun _ _ _ _ _ => by exact (pg_tup rfl (pgs_cons (pg_name (i := 3) nd rfl (.inl rfl)) (pgs_cons (pg_name (i := 4) nd rfl (.inl rfl)) pgs_nil)))) (fun _ _ _ _ _ => pts_nil) (fun _ _ _ _ _ => pv 3) (fun _ _ _ _ _ => pv 4)) rfl) (pss_one (ps_fld (pv 0) (pv 2) rfl)), ?_⟩
    have len : ts.length = m.length := Paired.length hts
    refine ⟨_, rfl, b, rfl, ⟨_, hb⟩, fun d hd => ?_⟩
    have x0 : Same H (upd H d (.dK [])) := Same.upd hd
    refine dc_tup (xs := ts.map V.ref) (fun i H' => Tups H H' ∧ (∀ a o, a ≠ d → H a = some o → H' a = some o) ∧ ∃ kvs, H' d = some (.dK kvs) ∧ Ent H' kvs (m.take i)) ⟨Tups.same x0, fun a o _ e => x0 a o e, [], upd_same, .nil⟩ (fun i H' _ h => ?_) (fun i x H' hx h => ?_) (fun H' h => ?_)
    · rcases hb with (hb | ⟨o, hb⟩) | hb
      · exact .inl (.inl (h.1 _ _ hb))
      · exact .inl (.inr ⟨o, h.2.1 _ _ (ne_of_none hb hd) hb⟩)
      · exact .inr hb
    · obtain ⟨x1, x2, kvs, hk, he⟩ := h
      rw [List.getElem?_map] at hx
      obtain ⟨t, ht, rfl⟩ := Option.map_eq_some_iff.mp hx
      obtain ⟨r, hr1, u, h1, h2⟩ := pget hts ht
      refine k_gTup (SqT.of (x1 _ _ h1)) rfl ?_
      walk_at "rd"
      refine ⟨rfl, ?_⟩
      refine k_yes ?_
      walk_at "rd"
      have hi : i < m.length := (List.getElem?_eq_some_iff.mp hr1).1
      have lk : kvs.length ≤ i := by
        rw [he.length, List.length_take]
        exact Nat.min_le_left _ _
      have e2 := he.put (n := r.1) (x1 _ _ h2)
      rw [put_take hnd hr1] at e2
      have x3 : Tups H' (upd H' d (.dK (putK kvs (Sum.inl r.1) (V.ref u)))) := tups_upd hk fun xs z => by cases z
      refine ⟨kvs, Sum.inl r.1, rfl, hk, k_szL (by omega), x1.trans x3, fun a o na e => ?_, _, upd_same, e2.ext x3⟩
      rw [upd_ne na]
      exact x2 a o na e
    · obtain ⟨x1, x2, kvs, hk, he⟩ := h
      rw [List.length_map, len, List.take_length] at he
      have npd : p ≠ d := ne_of_none hp hd
      have hp' := x2 p _ npd hp
      refine ⟨_, rfl, p, C, dx, [], rfl, hp', T.cl, T.nR, by decide, ?_⟩
      refine ⟨_, rfl, _, rfl, p, C, dx, _, rfl, upd_same, T.cl, T.nF, (by show 1 < 1000; decide), ?_⟩
      rw [upd_upd]
      have x3 : Tups H' (upd H' p (.ins C dx (flds d z))) := tups_upd hp' fun xs z => by cases z
      refine k d _ hd ⟨upd_same, kvs, by rw [upd_ne npd.symm]; exact hk, he.ext x3⟩ fun a o na e => ?_
      show upd H' p _ a = _
      rw [upd_ne na]
      exact x2 a o (ne_of_none e hd) e
end
end K21

set_option Elab.async false
set_option maxRecDepth 100000
set_option maxHeartbeats 4000000
namespace K21
open PySem PySem.Spec PyProof.Rows L2 Own
-- steps
local macro_rules | `(tactic| walk_at "lk") => `(tactic| first
  | assumption | exact upd_same
  | ((with_reducible refine' lk_new ?e (by assumption)); (case e => walk_at "lk"))
  | ((with_reducible refine' lk_ext (by assumption) ?e); (case e => walk_at "lk"))
  | ((with_reducible refine' lk_same (by assumption) ?e); (case e => walk_at "lk")))
local macro_rules | `(tactic| walk_at "sq") => `(tactic| first | assumption | exact SqL.of (by walk_at "lk") | exact SqT.of (by walk_at "lk"))
local macro_rules | `(tactic| walk_at "r1") => `(tactic| first
  | with_reducible refine k_seq ?_ | with_reducible refine k_asg ?_ | with_reducible refine k_ret ?_ | with_reducible refine k_drop ?_ | with_reducible refine k_next ?_ | with_reducible refine k_ifS ?_
  | ((with_reducible refine' k_var ?e ?_); (case e => exact rfl)) | with_reducible refine k_c ?_ | with_reducible refine k_op ?_ | with_reducible refine k_un ?_ | with_reducible refine k_test ?_ | with_reducible refine k_B ?_
  | with_reducible refine k_and ?_ | with_reducible refine k_or ?_ | with_reducible refine k_not ?_ | with_reducible refine k_andV ?_ | with_reducible refine k_orV ?_ | with_reducible refine k_notV ?_ | with_reducible refine k_if ?_
  | with_reducible refine k_nil ?_ | with_reducible refine k_cons ?_ | with_reducible refine k_tup ?_ | with_reducible refine k_lst ?_ | with_reducible refine k_call ?_ | with_reducible refine k_cb ?_ | with_reducible refine k_ck ?_
  | with_reducible refine k_par ?_ | with_reducible refine k_par1 ?_ | with_reducible refine k_tr ?_ | with_reducible refine k_rI0 ?_ | with_reducible refine k_rU ?_
  | with_reducible refine k_gN ?_ | with_reducible refine k_gS ?_ | with_reducible refine k_gNil ?_ | with_reducible refine k_gCons ?_ | with_reducible refine k_bm0 ?_ | with_reducible refine k_bm ?_
  | with_reducible refine k_for ?_ | with_reducible refine k_iL ?_ | with_reducible refine k_iT ?_ | with_reducible refine k_iR1 ?_ | ((with_reducible refine k_iR1i ?e ?_); (case e => first | decide | exact ⟨by omega, by omega⟩))
  | with_reducible refine k_max ?_ | with_reducible refine k_isB ?_ | with_reducible refine k_sl ?_ | with_reducible refine k_noP ?_ | with_reducible refine k_part ?_ | with_reducible refine k_partI ?_ | with_reducible refine k_revL ?_
  | ((with_reducible refine' k_ixqT ?e ?f ?_); (case e => walk_at "sq"); (case f => first | exact rfl | exact atI_head))
  | ((with_reducible refine' k_ixqL ?e ?f ?_); (case e => walk_at "sq"); (case f => first | exact rfl | exact atI_head))
  | ((with_reducible refine' k_lenL ?e ?_); (case e => walk_at "sq"))
  | ((with_reducible refine' k_lenT ?e ?_); (case e => walk_at "sq"))
  | ((with_reducible refine' k_ixL ?e ?f ?_); (case e => walk_at "sq"); (case f => first | exact rfl | exact atI_head))
  | ((with_reducible refine' k_ixT ?e ?f ?_); (case e => walk_at "sq"); (case f => first | exact rfl | exact atI_head))
  | ((with_reducible refine k_eq ?e ?_); (case e => exact rfl)) | ((with_reducible refine k_ne ?e ?_); (case e => exact rfl))
  | ((with_reducible refine k_rI ?e ?_); (case e => first | assumption | omega | decide | exact ⟨by omega, by omega⟩ | exact .inl ⟨by omega, by omega⟩ | exact .inr ⟨by omega, by omega⟩)))
local macro_rules | `(tactic| walk_at "rd") => `(tactic| repeat walk_at "r1")
-- steps end
theorem same_off {H H' : Hp} {p : Addr} {o : HO} (s : Same H H') (n : H p = none) : Same H (upd H' p o) := fun a u e => by
  rw [upd_ne (ne_of_none e n)]
  exact s a u e
/-- the rows that are told: those of these numbers -/
def OutAt (H : Hp) (q : Addr) (m : Rows) (ns : List Int) : Prop := ∃ ts : List Addr, H q = some (.tup (ts.map V.ref)) ∧ Paired (RowAt H) ts (ns.map fun n => (n, getR m n))
def Asc (ns : List Int) (m : Rows) : Prop := ns.Pairwise (· < ·) ∧ ∀ k, k ∈ ns ↔ k ∈ keysR m
section
variable {P : Program} {w : World} {K : PySem.W.Frag} {mg : Str → Option Value} {base : Heap} {C : Addr}
def spIn (C : Addr) : Sp := fun vs H Q _ => ∃ (p dx d : Addr) (m : Rows) (z n : Int), vs = [.ref p, .int n] ∧ TableAt C H p dx d m z ∧ Q (.bl (hasR m n)) H
theorem ok_in {f : Addr} {fd : FuncData} (F : Fun K "__contains__" "LiveTable.__contains__" s_LiveTable___contains__ f fd) (T : Txt K C) (z_isi : mg "isinstance" = none) (z_int : mg "int" = none) (z_bool : mg "bool" = none) :
    FnOk P w K mg base CX0 1 f fd ["self", "x"] (spIn C) := by
  refine F.ok sc_LiveTable___contains__ (fun vs H Q E h => ?_) (fun cdv A up s H vs Q E hr h => ?_)
  · obtain ⟨p, dx, d, m, z, n, rfl, _⟩ := h
    rfl
  · obtain ⟨p, dx, d, m, z, n, rfl, ⟨hp, kvs, hd, he⟩, k⟩ := h
    have hu := hu_of hr
    refine ⟨_, pss_one (ps_ret (pe_and (pe_callB call_isi (by rfl) z_isi (by decide +kernel) (pa_cons (pv 1) (pa_cons (pe_bltn (v := .ty "int") (by rfl) z_int PyProof.Rows.boot_int rfl) pa_nil)))
      (pe_and (pe_not (pe_callB call_isi (by rfl) z_isi (by decide +kernel) (pa_cons (pv 1) (pa_cons (pe_bltn (v := .ty "bool") (by rfl) z_bool PyProof.Rows.boot_bool rfl) pa_nil))))
      (pe_one (pe_cmp (pc_din hu (pv 1) (pe_fld (pv 0) rfl))))))), ?_⟩
    walk_at "rd"
    refine ⟨_, _, _, _, true, rfl, .ty _, .base (.int n), kit_ty (by decide +kernel), ?_⟩
    walk_at "rd"
    refine iteT ?_
    walk_at "rd"
    refine ⟨_, _, _, _, false, rfl, .ty _, .base (.int n), kit_ty (by decide +kernel), ?_⟩
    walk_at "rd"
    refine iteT ?_
    refine ⟨_, rfl, _, rfl, p, C, dx, _, _, rfl, hp, T.cl, T.nR, flds_rows _ _, d, _, rfl, DGet.k (k := Sum.inl n) hd, ?_⟩
    rw [he.some]
    exact k
def spLen (C : Addr) : Sp := fun vs H Q _ => ∃ (p dx d : Addr) (m : Rows) (z : Int), vs = [.ref p] ∧ TableAt C H p dx d m z ∧ Q (.int m.length) H
theorem ok_len {f : Addr} {fd : FuncData} (F : Fun K "__len__" "LiveTable.__len__" s_LiveTable___len__ f fd) (T : Txt K C) (z_len : mg "len" = none) :
    FnOk P w K mg base CX0 1 f fd ["self"] (spLen C) := by
  refine F.ok sc_LiveTable___len__ (fun vs H Q E h => ?_) (fun cdv A up s H vs Q E hr h => ?_)
  · obtain ⟨p, dx, d, m, z, rfl, _⟩ := h
    rfl
  · obtain ⟨p, dx, d, m, z, rfl, ⟨hp, kvs, hd, he⟩, k⟩ := h
    refine ⟨_, pss_one (ps_ret (pe_callB call_lenD (by rfl) z_len (by decide +kernel) (pa_cons (pe_fld (pv 0) rfl) pa_nil))), ?_⟩
    refine ⟨_, rfl, p, C, dx, _, _, rfl, hp, T.cl, T.nR, flds_rows _ _, d, kvs, rfl, hd, ?_⟩
    rw [he.length]
    exact k
def spPut (C : Addr) : Sp := fun vs H Q _ => ∃ (p dx d t : Addr) (m : Rows) (z : Int) (ws : List Int), vs = [.ref p, .ref t] ∧ TableAt C H p dx d m z ∧ H t = some (.tup (ws.map V.int)) ∧ m.length ≤ 1000 ∧
  ∀ H', TableAt C H' p dx d (putR m z ws) (z + 1) → Tups H H' → (∀ a o, a ≠ p → a ≠ d → H a = some o → H' a = some o) → Q (.int z) H'
theorem ok_put {f : Addr} {fd : FuncData} (F : Fun K "put" "LiveTable.put" s_LiveTable_put f fd) (T : Txt K C)
    (hb : ∀ (kV doc pm : Value) (an : Option Addr) (cdv ct : Value) (us rest : List Value), us.length = 1 →
      bindArgs (PySem.W.fnOf "put" "LiveTable.put" (defArgs s_LiveTable_put) (defBody s_LiveTable_put) (defScope s_LiveTable_put) .none kV doc pm an cdv ct) ⟨us ++ rest, []⟩ = (newTuple rest >>= fun t => pure ((["self"] : List Str).zip us ++ [(("values" : Str), t)]))) :
    FnR P w K mg base CX0 1 f (fun vs H Q E => ∃ ws rest, vs = ws ++ rest ∧ ws.length = 1 ∧ rest.length ≤ sizeLine ∧ ∀ p, H p = Option.none → spPut C (ws ++ [V.ref p]) (upd H p (.tup rest)) Q E) := by
  obtain ⟨oc, od, kV, doc, pm, an, cdv, ct, osl, rfl, lk, hcd⟩ := F.ex
  refine StX.fn_star (ps := ["self"]) (pv := "values") lk hcd sc_LiveTable_put StX.cxUp_none (fun us rest hl => hb kV doc pm an cdv ct us rest hl) (fun A up s H vs Q E hr h => ?_)
  obtain ⟨p, dx, d, t, m, z, ws, rfl, ⟨hp, kvs, hd, he⟩, ht, hl, k⟩ := h
  have nd := sc_LiveTable_put.nd
  have hu := hu_of hr
  refine ⟨_, pss_cons (ps_set (i := 2) nd rfl (.inl rfl) (pe_fld (pv 0) rfl)) (pss_cons (ps_dput hu (pe_fld (pv 0) rfl) (pv 2) (pv 1) rfl)
    (pss_cons (ps_fld (pv 0) (pe_op op_add (pv 2) pe_int) rfl) (pss_one (ps_ret (pv 2))))), ?_⟩
  have npd : p ≠ d := ne_of hp hd (by intro z; cases z)
  refine ⟨_, rfl, p, C, dx, _, _, rfl, hp, T.cl, T.nF, flds_foll _ _, ?_⟩
  refine ⟨_, rfl, _, rfl, p, C, dx, _, _, rfl, hp, T.cl, T.nR, flds_rows _ _, _, rfl, d, _, rfl, DPut.k (k := Sum.inl z) hd (k_szL (by rw [he.length]; omega)), ?_⟩
  have hp1 : (upd H d (.dK (putK kvs (Sum.inl z) (V.ref t)))) p = some (.ins C dx (flds d z)) := by rw [upd_ne npd]; exact hp
  refine ⟨_, rfl, _, _, rfl, rfl, _, rfl, p, C, dx, _, rfl, hp1, T.cl, T.nF, flds_len _ _, ?_⟩
  rw [flds_put]
  refine ⟨_, rfl, ?_⟩
  have x1 : Tups H (upd H d (.dK (putK kvs (Sum.inl z) (V.ref t)))) := tups_upd hd fun xs z => by cases z
  have x2 := x1.trans (tups_upd (o := .ins C dx (flds d (z + 1))) hp1 fun xs z => by cases z)
  refine k _ ⟨upd_same, _, by rw [upd_ne npd.symm, upd_same], (he.put ht).ext x2⟩ x2 fun a o n1 n2 e => ?_
  rw [upd_ne n1, upd_ne n2]
  exact e
end
end K21

set_option Elab.async false
set_option maxRecDepth 100000
set_option maxHeartbeats 4000000
namespace K21
open PySem PySem.Spec PyProof.Rows L2 Own
-- steps
local macro_rules | `(tactic| walk_at "lk") => `(tactic| first
  | assumption | exact upd_same
  | ((with_reducible refine' lk_new ?e (by assumption)); (case e => walk_at "lk"))
  | ((with_reducible refine' lk_ext (by assumption) ?e); (case e => walk_at "lk"))
  | ((with_reducible refine' lk_same (by assumption) ?e); (case e => walk_at "lk")))
local macro_rules | `(tactic| walk_at "sq") => `(tactic| first | assumption | exact SqL.of (by walk_at "lk") | exact SqT.of (by walk_at "lk"))
local macro_rules | `(tactic| walk_at "r1") => `(tactic| first
  | with_reducible refine k_seq ?_ | with_reducible refine k_asg ?_ | with_reducible refine k_ret ?_ | with_reducible refine k_drop ?_ | with_reducible refine k_next ?_ | with_reducible refine k_ifS ?_
  | ((with_reducible refine' k_var ?e ?_); (case e => exact rfl)) | with_reducible refine k_c ?_ | with_reducible refine k_op ?_ | with_reducible refine k_un ?_ | with_reducible refine k_test ?_ | with_reducible refine k_B ?_
  | with_reducible refine k_and ?_ | with_reducible refine k_or ?_ | with_reducible refine k_not ?_ | with_reducible refine k_andV ?_ | with_reducible refine k_orV ?_ | with_reducible refine k_notV ?_ | with_reducible refine k_if ?_
  | with_reducible refine k_nil ?_ | with_reducible refine k_cons ?_ | with_reducible refine k_tup ?_ | with_reducible refine k_lst ?_ | with_reducible refine k_call ?_ | with_reducible refine k_cb ?_ | with_reducible refine k_ck ?_
  | with_reducible refine k_par ?_ | with_reducible refine k_par1 ?_ | with_reducible refine k_tr ?_ | with_reducible refine k_rI0 ?_ | with_reducible refine k_rU ?_
  | with_reducible refine k_gN ?_ | with_reducible refine k_gS ?_ | with_reducible refine k_gNil ?_ | with_reducible refine k_gCons ?_ | with_reducible refine k_bm0 ?_ | with_reducible refine k_bm ?_
  | with_reducible refine k_for ?_ | with_reducible refine k_iL ?_ | with_reducible refine k_iT ?_ | with_reducible refine k_iR1 ?_ | ((with_reducible refine k_iR1i ?e ?_); (case e => first | decide | exact ⟨by omega, by omega⟩))
  | with_reducible refine k_max ?_ | with_reducible refine k_isB ?_ | with_reducible refine k_sl ?_ | with_reducible refine k_noP ?_ | with_reducible refine k_part ?_ | with_reducible refine k_partI ?_ | with_reducible refine k_revL ?_
  | ((with_reducible refine' k_ixqT ?e ?f ?_); (case e => walk_at "sq"); (case f => first | exact rfl | exact atI_head))
  | ((with_reducible refine' k_ixqL ?e ?f ?_); (case e => walk_at "sq"); (case f => first | exact rfl | exact atI_head))
  | ((with_reducible refine' k_lenL ?e ?_); (case e => walk_at "sq"))
  | ((with_reducible refine' k_lenT ?e ?_); (case e => walk_at "sq"))
  | ((with_reducible refine' k_ixL ?e ?f ?_); (case e => walk_at "sq"); (case f => first | exact rfl | exact atI_head))
  | ((with_reducible refine' k_ixT ?e ?f ?_); (case e => walk_at "sq"); (case f => first | exact rfl | exact atI_head))
  | ((with_reducible refine k_eq ?e ?_); (case e => exact rfl)) | ((with_reducible refine k_ne ?e ?_); (case e => exact rfl))
  | ((with_reducible refine k_rI ?e ?_); (case e => first | assumption | omega | decide | exact ⟨by omega, by omega⟩ | exact .inl ⟨by omega, by omega⟩ | exact .inr ⟨by omega, by omega⟩)))
local macro_rules | `(tactic| walk_at "rd") => `(tactic| repeat walk_at "r1")
-- steps end
section
variable {P : Program} {w : World} {K : PySem.W.Frag} {mg : Str → Option Value} {base : Heap} {C N fN fI : Addr} {fdN fdI : FuncData}
/-! ### NoRow -/
def spNo (N : Addr) : Sp := fun vs H Q _ => ∃ (a : Addr) (x y : V), vs = [.ref a, x, y] ∧ H a = some (exo a N none) ∧
  ∀ d, H d = none → d ≠ a → Q .non (upd (upd (upd H d (exd d [(("name" : Str), x)])) a (exo a N (some d))) d (exd d [(("number" : Str), y), (("name" : Str), x)]))
structure NoTxt (K : PySem.W.Frag) (N : Addr) : Prop where
  ox : OexC K N
  n1 : PySem.W.findIn K (.ref N) "name" = some none
  n2 : PySem.W.findIn K (.ref N) "number" = some none
theorem ok_no (F : Fun K "__init__" "NoRow.__init__" s_NoRow___init__ fN fdN) (T : NoTxt K N) : FnOk P w K mg base CX0 1 fN fdN ["self", "name", "number"] (spNo N) := by
  refine F.ok sc_NoRow___init__ (fun vs H Q E h => ?_) (fun cdv A up s H vs Q E hr h => ?_)
  · obtain ⟨a, x, y, rfl, _⟩ := h
    rfl
  · obtain ⟨a, x, y, rfl, ha, k⟩ := h
    refine ⟨_, pss_cons (ps_ost (pv 0) (pv 1)) (pss_one (ps_ost (pv 0) (pv 2))), ?_⟩
    refine ⟨_, rfl, _, rfl, a, N, rfl, T.ox, T.n1, .inl ⟨ha, fun d hd ne => ?_⟩⟩
    refine ⟨_, rfl, _, rfl, a, N, rfl, T.ox, T.n2, .inr ⟨d, _, upd_same, by rw [upd_ne ne, upd_same], (by show 1 ≤ 900; decide), ?_⟩⟩
    exact k d hd ne
/-- what change and drop let out -/
def outNo (N : Addr) (H : Hp) (n : Int) (E : XK) : Prop := ∀ (d : Addr) (H' : Hp), Same H H' → H d = none → H' d = some (.xd [(("number" : Str), V.int n), (("name" : Str), V.str "")]) → E (.ref N) (some d) H'
structure Ins (P : Program) (w : World) (K : PySem.W.Frag) (mg : Str → Option Value) (base : Heap) (C N : Addr) : Prop where
  tx : Txt K C
  nt : NoTxt K N
  gN : mg "NoRow" = some (.ref N)
  ci : ∃ f, PySem.W.findIn K (.ref C) "__contains__" = some (some (.ref f)) ∧ PySem.W.typeIn K (.ref f) = some (.type "function") ∧ FnR P w K mg base CX0 1 f (spIn C)
  ni : ∃ f fd, PySem.W.findIn K (.ref N) "__init__" = some (some (.ref f)) ∧ PySem.W.typeIn K (.ref f) = some (.type "function") ∧ FnOk P w K mg base CX0 1 f fd ["self", "name", "number"] (spNo N) ∧ Binds K fd ["self", "name", "number"] []
theorem no_made {H : Hp} {a d : Addr} {x y : V} (ha : H a = none) (hd : H d = none) (ne : d ≠ a) :
    Same H (upd (del (upd (upd (upd (upd H a (exo a N none)) d (exd d [(("name" : Str), x)])) a (exo a N (some d))) d (exd d [(("number" : Str), y), (("name" : Str), x)])) a) d (.xd [(("number" : Str), y), (("name" : Str), x)])) := fun b o e => by
  have na := ne_of_none e ha
  have nd := ne_of_none e hd
  rw [upd_ne nd, del_ne na, upd_ne nd, upd_ne na, upd_ne nd, upd_ne na]
  exact e
def spChange (C N : Addr) : Sp := fun vs H Q E => ∃ (p dx d t : Addr) (m : Rows) (z n : Int) (ws : List Int), vs = [.ref p, .int n, .ref t] ∧ TableAt C H p dx d m z ∧ H t = some (.tup (ws.map V.int)) ∧ m.length ≤ 1000 ∧
  (hasR m n = true → ∀ H', TableAt C H' p dx d (putR m n ws) z → Tups H H' → (∀ a o, a ≠ d → H a = some o → H' a = some o) → Q .non H') ∧ (hasR m n = false → outNo N H n E)
theorem ok_change {f : Addr} {fd : FuncData} (F : Fun K "change" "LiveTable.change" s_LiveTable_change f fd) (T : Ins P w K mg base C N) (z_tuple : mg "tuple" = none) :
    FnOk P w K mg base (L2.CX P w) 3 f fd ["self", "number", "values"] (spChange C N) := by
  obtain ⟨fc, i1, i2, FC⟩ := T.ci
  obtain ⟨fn, fdn, j1, j2, FN, bN⟩ := T.ni
  refine F.okX sc_LiveTable_change (fun vs H Q E h => ?_) (fun cdv A up s H vs Q E hr h => ?_)
  · obtain ⟨p, dx, d, t, m, z, n, ws, rfl, _⟩ := h
    rfl
  · obtain ⟨p, dx, d, t, m, z, n, ws, rfl, T0, ht, hl, k1, k2⟩ := h
    obtain ⟨hp, kvs, hd, he⟩ := id T0
    have hu := hu_of hr
    refine ⟨_, pss_cons (ps_if (pt_cmpR (op_notInO i1 i2 FC (hr.mono (by decide)) pass0) (pv 1) (pv 0) (by rfl))
        (pss_one (ps_raise rfl (takes_of rfl rfl rfl rfl) (pmk_oex T.nt.ox j1 j2 FN hr bN .nil pass0 (by rfl) T.gN (pa_cons pe_str (pa_cons (pv 1) pa_nil))))) pss_nil)
      (PSs.nox (pss_one (ps_dput hu (pe_fld (pv 0) rfl) (pv 1) (pe_callTy call_tuple_of (by rfl) z_tuple (by decide +kernel) (pa_cons (pv 2) pa_nil)) rfl))), ?_⟩
    walk_at "rd"
    refine ⟨p, dx, _, rfl, hp, p, dx, d, m, z, n, rfl, T0, _, rfl, ?_⟩
    refine ⟨_, rfl, ?_⟩
    cases hh : hasR m n with
    | true =>
      refine iteF ?_
      refine ⟨_, rfl, ?_⟩
      refine ⟨t, _, rfl, .inr ⟨SqT.of ht, ?_⟩⟩
      refine ⟨_, rfl, p, C, dx, _, _, rfl, hp, T.tx.cl, T.tx.nR, flds_rows _ _, _, rfl, d, _, rfl, DPut.k (k := Sum.inl n) hd (k_szL (by rw [he.length]; omega)), ?_⟩
      have npd : p ≠ d := ne_of hp hd (by intro z; cases z)
      have x1 : Tups H (upd H d (.dK (putK kvs (Sum.inl n) (V.ref t)))) := tups_upd hd fun xs z => by cases z
      exact k1 hh _ ⟨by rw [upd_ne npd]; exact hp, _, upd_same, (he.put ht).ext x1⟩ x1 fun a o na e => by rw [upd_ne na]; exact e
    | false =>
      refine iteT ?_
      refine ⟨_, rfl, (by show 2 ≤ 1000; decide), fun a ha => ?_⟩
      refine ⟨a, _, _, rfl, upd_same, fun b hb nb => ?_⟩
      have hb' : H b = none := by rw [upd_ne nb] at hb; exact hb
      refine ⟨rfl, b, _, ?_, upd_same, hb', ?_⟩
      · rw [upd_ne nb.symm, upd_same]
      · exact k2 hh b _ (no_made ha hb' nb) hb' upd_same
def spDrop (C N : Addr) : Sp := fun vs H Q E => ∃ (p dx d : Addr) (m : Rows) (z n : Int), vs = [.ref p, .int n] ∧ TableAt C H p dx d m z ∧ m.length ≤ 1000 ∧
  (hasR m n = true → ∀ H', TableAt C H' p dx d (dropR m n) z → Tups H H' → (∀ a o, a ≠ d → H a = some o → H' a = some o) → Q .non H') ∧ (hasR m n = false → outNo N H n E)
theorem ok_drop {f : Addr} {fd : FuncData} (F : Fun K "drop" "LiveTable.drop" s_LiveTable_drop f fd) (T : Ins P w K mg base C N) :
    FnOk P w K mg base (L2.CX P w) 3 f fd ["self", "number"] (spDrop C N) := by
  obtain ⟨fc, i1, i2, FC⟩ := T.ci
  obtain ⟨fn, fdn, j1, j2, FN, bN⟩ := T.ni
  refine F.okX sc_LiveTable_drop (fun vs H Q E h => ?_) (fun cdv A up s H vs Q E hr h => ?_)
  · obtain ⟨p, dx, d, m, z, n, rfl, _⟩ := h
    rfl
  · obtain ⟨p, dx, d, m, z, n, rfl, T0, hl, k1, k2⟩ := h
    obtain ⟨hp, kvs, hd, he⟩ := id T0
    refine ⟨_, pss_cons (ps_if (pt_cmpR (op_notInO i1 i2 FC (hr.mono (by decide)) pass0) (pv 1) (pv 0) (by rfl))
        (pss_one (ps_raise rfl (takes_of rfl rfl rfl rfl) (pmk_oex T.nt.ox j1 j2 FN hr bN .nil pass0 (by rfl) T.gN (pa_cons pe_str (pa_cons (pv 1) pa_nil))))) pss_nil)
      (PSs.nox (pss_one (ps_ddel (pe_fld (pv 0) rfl) (pv 1)))), ?_⟩
    walk_at "rd"
    refine ⟨p, dx, _, rfl, hp, p, dx, d, m, z, n, rfl, T0, _, rfl, ?_⟩
    refine ⟨_, rfl, ?_⟩
    cases hh : hasR m n with
    | true =>
      refine iteF ?_
      obtain ⟨t, ht, _⟩ := he.get hh
      refine ⟨_, rfl, p, C, dx, _, _, rfl, hp, T.tx.cl, T.tx.nR, flds_rows _ _, _, rfl, d, kvs, Sum.inl n, rfl, hd, rfl, by rw [ht]; rfl, ?_⟩
      have npd : p ≠ d := ne_of hp hd (by intro z; cases z)
      have x1 : Tups H (upd H d (.dK (dropK kvs (Sum.inl n)))) := tups_upd hd fun xs z => by cases z
      exact k1 hh _ ⟨by rw [upd_ne npd]; exact hp, _, upd_same, he.drop.ext x1⟩ x1 fun a o na e => by rw [upd_ne na]; exact e
    | false =>
      refine iteT ?_
      refine ⟨_, rfl, (by show 2 ≤ 1000; decide), fun a ha => ?_⟩
      refine ⟨a, _, _, rfl, upd_same, fun b hb nb => ?_⟩
      have hb' : H b = none := by rw [upd_ne nb] at hb; exact hb
      refine ⟨rfl, b, _, ?_, upd_same, hb', ?_⟩
      · rw [upd_ne nb.symm, upd_same]
      · exact k2 hh b _ (no_made ha hb' nb) hb' upd_same
/-! ### rows -/
def spRows (C : Addr) : Sp := fun vs H Q _ => ∃ (p dx d : Addr) (m : Rows) (z : Int), vs = [.ref p] ∧ TableAt C H p dx d m z ∧ (keysR m).Nodup ∧ m.length < 64 ∧
  ∀ (ns : List Int) (q : Addr) (H' : Hp), Asc ns m → Same H H' → OutAt H' q m ns → Q (.ref q) H'
theorem ok_rows {f : Addr} {fd : FuncData} (F : Fun K "rows" "LiveTable.rows" s_LiveTable_rows f fd) (T : Txt K C) (z_tuple : mg "tuple" = none) (z_sorted : mg "sorted" = none) :
    FnOk P w K mg base CX0 1 f fd ["self"] (spRows C) := by
  have nd := sc_LiveTable_rows.nd
  refine F.ok sc_LiveTable_rows (fun vs H Q E h => ?_) (fun cdv A up s H vs Q E hr h => ?_)
  · obtain ⟨p, dx, d, m, z, rfl, _⟩ := h
    rfl
  · obtain ⟨p, dx, d, m, z, rfl, T0, hnd, hl, k⟩ := h
    obtain ⟨hp, kvs, hd, he⟩ := id T0
    have hu := hu_of hr
    refine ⟨_, pss_one (ps_ret (pe_callTy call_tuple_of (by rfl) z_tuple (by decide +kernel) (pa_cons (pe_lc (own := [("number", 1)]) (te := tTup (tCons (tVar 1) (tCons (tDGet (tFld K (tVar 0) "_rows") (tVar 1)) tNil))) (by rfl) nd
      (pi_list (pe_callB (call_sortedDI rfl) (by rfl) z_sorted (by decide +kernel) (pa_cons (pe_fld (pv 0) rfl) pa_nil)))
      (blkOk_by (own := [("number", 1)]) (N := ["self", "number"]) (sc := defScope s_LiveTable_rows) (by decide +kernel))
      (fun _ _ _ _ _ => pg_name (i := 1) nd rfl (.inl rfl)) (fun _ _ _ _ _ => pts_nil)
      (fun _ _ _ _ _ => by exact (pe_tup (pa_cons (pv 1) (pa_cons (pe_dget hu (pe_fld (pv 0) rfl) (pv 1) (fun _ _ => rfl)) pa_nil))))) pa_nil))), ?_⟩
    refine ⟨_, rfl, p, C, dx, _, _, rfl, hp, T.cl, T.nR, flds_rows _ _, d, kvs, keysR m, rfl, .inl hd, he.keys, by unfold keysR; rw [List.length_map]; exact hl, fun ns l pm srt hlf => ?_⟩
    have asc : Asc ns m := ⟨asc_of pm srt hnd, fun k => pm.mem_iff⟩
    have lns : ns.length = m.length := by
      have := pm.length_eq
      unfold keysR at this
      rw [List.length_map] at this
      exact this
    have s1 : Same H (upd H l (.lst (ns.map V.int))) := Same.upd hlf
    have hl1 : upd H l (.lst (ns.map V.int)) l = some (.lst (ns.map V.int)) := upd_same
    generalize upd H l (.lst (ns.map V.int)) = H1 at s1 hl1 ⊢
    refine ⟨l, rfl, ⟨_, SqL.of hl1⟩, fun D hD => ?_⟩
    have hD0 : H D = none := same_free s1 hD
    refine lc_list (xs := ns.map V.int) (fun i H' => Same H1 H' ∧ ∃ ts : List Addr, ts.length = i ∧ H' D = some (.lst (ts.map V.ref)) ∧ Paired (RowAt H') ts ((ns.take i).map fun n => (n, getR m n)))
      ⟨Same.upd hD, [], rfl, upd_same, .nil⟩ (fun i H' _ h => SqL.of (h.1 _ _ hl1)) (fun i x H' hx h => ?_) (fun H' h => ?_)
    · obtain ⟨s2, ts, hts, hDl, hpr⟩ := h
      rw [List.getElem?_map] at hx
      obtain ⟨n, hn, rfl⟩ := Option.map_eq_some_iff.mp hx
      have s3 := s1.trans s2
      have hh : hasR m n = true := hasR_iff.mpr ((asc.2 n).mp (List.mem_of_getElem? hn))
      obtain ⟨t, hv, ht⟩ := he.get hh
      refine ⟨rfl, k_yes ?_⟩
      have hg : DGet H' d (V.int n) (some (V.ref t)) := by
        have z := DGet.k (k := Sum.inl n) (s3 _ _ hd)
        rw [hv] at z
        exact z
      refine ⟨_, rfl, _, rfl, p, C, dx, _, _, rfl, s3 _ _ hp, T.cl, T.nR, flds_rows _ _, _, rfl, d, V.ref t, rfl, hg, ?_⟩
      refine ⟨k_sz rfl, fun q hq => ?_⟩
      have x4 : Tups H' (upd H' q (.tup [V.int n, V.ref t])) := tups_new hq
      have lD : (upd H' q (.tup [V.int n, V.ref t])) D = some (.lst (ts.map V.ref)) := lk_new hDl hq
      have hi : i < ns.length := (List.getElem?_eq_some_iff.mp hn).1
      have x5 : Tups (upd H' q (.tup [V.int n, V.ref t])) (upd (upd H' q (.tup [V.int n, V.ref t])) D (.lst ((ts ++ [q]).map V.ref))) := tups_upd lD fun xs z => by cases z
      refine ⟨ts.map V.ref, lD, k_szL (by rw [List.length_map, hts]; omega), ?_⟩
      have e1 : ts.map V.ref ++ [V.ref q] = (ts ++ [q]).map V.ref := by simp
      rw [e1]
      refine ⟨same_off (s2.trans (Same.upd hq)) hD, ts ++ [q], by simp [hts], upd_same, ?_⟩
      rw [List.take_add_one, hn]
      rw [show some n = ([n] : List Int)[0]? from rfl, show (([n] : List Int)[0]?).toList = [n] from rfl, show (List.take i ns ++ [n]).map (fun n => (n, getR m n)) = (List.take i ns).map (fun n => (n, getR m n)) ++ [(n, getR m n)] from by simp]
      refine Paired.snoc (Paired.mapP hpr fun a b h => h.keep (x4.trans x5)) ⟨t, ?_, ?_⟩
      · exact x5 _ _ upd_same
      · exact x5 _ _ (x4 _ _ ((s3 _ _ ht)))
    · obtain ⟨s2, ts, hts, hDl, hpr⟩ := h
      rw [List.length_map, List.take_length] at hpr
      refine ⟨D, _, rfl, .inl ⟨SqL.of hDl, fun q hq => ?_⟩⟩
      have x6 : Tups H' (upd H' q (.tup (ts.map V.ref))) := tups_new hq
      exact k ns q _ asc ((s1.trans s2).trans (Same.upd hq)) ⟨ts, upd_same, Paired.mapP hpr fun a b h => h.keep x6⟩
end
end K21

set_option Elab.async false
set_option maxRecDepth 100000
set_option maxHeartbeats 4000000
namespace K21
open PySem PySem.Spec PyProof.Rows L2 Own
-- steps
local macro_rules | `(tactic| walk_at "lk") => `(tactic| first
  | assumption | exact upd_same
  | ((with_reducible refine' lk_new ?e (by assumption)); (case e => walk_at "lk"))
  | ((with_reducible refine' lk_ext (by assumption) ?e); (case e => walk_at "lk"))
  | ((with_reducible refine' lk_same (by assumption) ?e); (case e => walk_at "lk")))
local macro_rules | `(tactic| walk_at "sq") => `(tactic| first | assumption | exact SqL.of (by walk_at "lk") | exact SqT.of (by walk_at "lk"))
local macro_rules | `(tactic| walk_at "r1") => `(tactic| first
  | with_reducible refine k_seq ?_ | with_reducible refine k_asg ?_ | with_reducible refine k_ret ?_ | with_reducible refine k_drop ?_ | with_reducible refine k_next ?_ | with_reducible refine k_ifS ?_
  | ((with_reducible refine' k_var ?e ?_); (case e => exact rfl)) | with_reducible refine k_c ?_ | with_reducible refine k_op ?_ | with_reducible refine k_un ?_ | with_reducible refine k_test ?_ | with_reducible refine k_B ?_
  | with_reducible refine k_and ?_ | with_reducible refine k_or ?_ | with_reducible refine k_not ?_ | with_reducible refine k_andV ?_ | with_reducible refine k_orV ?_ | with_reducible refine k_notV ?_ | with_reducible refine k_if ?_
  | with_reducible refine k_nil ?_ | with_reducible refine k_cons ?_ | with_reducible refine k_tup ?_ | with_reducible refine k_lst ?_ | with_reducible refine k_call ?_ | with_reducible refine k_cb ?_ | with_reducible refine k_ck ?_
  | with_reducible refine k_par ?_ | with_reducible refine k_par1 ?_ | with_reducible refine k_tr ?_ | with_reducible refine k_rI0 ?_ | with_reducible refine k_rU ?_
  | with_reducible refine k_gN ?_ | with_reducible refine k_gS ?_ | with_reducible refine k_gNil ?_ | with_reducible refine k_gCons ?_ | with_reducible refine k_bm0 ?_ | with_reducible refine k_bm ?_
  | with_reducible refine k_for ?_ | with_reducible refine k_iL ?_ | with_reducible refine k_iT ?_ | with_reducible refine k_iR1 ?_ | ((with_reducible refine k_iR1i ?e ?_); (case e => first | decide | exact ⟨by omega, by omega⟩))
  | with_reducible refine k_max ?_ | with_reducible refine k_isB ?_ | with_reducible refine k_sl ?_ | with_reducible refine k_noP ?_ | with_reducible refine k_part ?_ | with_reducible refine k_partI ?_ | with_reducible refine k_revL ?_
  | ((with_reducible refine' k_ixqT ?e ?f ?_); (case e => walk_at "sq"); (case f => first | exact rfl | exact atI_head))
  | ((with_reducible refine' k_ixqL ?e ?f ?_); (case e => walk_at "sq"); (case f => first | exact rfl | exact atI_head))
  | ((with_reducible refine' k_lenL ?e ?_); (case e => walk_at "sq"))
  | ((with_reducible refine' k_lenT ?e ?_); (case e => walk_at "sq"))
  | ((with_reducible refine' k_ixL ?e ?f ?_); (case e => walk_at "sq"); (case f => first | exact rfl | exact atI_head))
  | ((with_reducible refine' k_ixT ?e ?f ?_); (case e => walk_at "sq"); (case f => first | exact rfl | exact atI_head))
  | ((with_reducible refine k_eq ?e ?_); (case e => exact rfl)) | ((with_reducible refine k_ne ?e ?_); (case e => exact rfl))
  | ((with_reducible refine k_rI ?e ?_); (case e => first | assumption | omega | decide | exact ⟨by omega, by omega⟩ | exact .inl ⟨by omega, by omega⟩ | exact .inr ⟨by omega, by omega⟩)))
local macro_rules | `(tactic| walk_at "rd") => `(tactic| repeat walk_at "r1")
-- steps end
theorem PE_imp {X : Cx} {e : Expr} {t t' : TE} (p : PE X e t) (h : ∀ σ H Q, t' σ H Q → t σ H Q) : PE X e t' := ⟨fun pins s σ H Q I q => p.run pins s σ H Q I (h σ H Q q)⟩
theorem PSs_imp {X : Cx} {ss : List Stmt} {t t' : TS} (p : PSs X ss t) (h : ∀ D σ H, t' D σ H → t D σ H) : PSs X ss t' := ⟨fun pins s σ H D I q => p.run pins s σ H D I (h D σ H q)⟩
theorem ext_off {M : Addr → Prop} {H H' : Hp} {p : Addr} {o : HO} (x : Ext M H H') (n : H p = none) : Ext M H (upd H' p o) := by
  refine ⟨fun a xs e => ?_, fun a u na e => ?_⟩
  · rw [upd_ne (ne_of_none e n)]
    exact x.1 a xs e
  · rw [upd_ne (ne_of_none e n)]
    exact x.2 a u na e
theorem Deck.offL {d c : Addr} {b : Int} {H H' : Hp} {p : Addr} {o : HO} (D : Deck d c b H') (n : ¬ Dk d c p) : Deck d c b (upd H' p o) := by
  obtain ⟨xs, m, k, ne, h1, h2, r⟩ := D
  have n1 : d ≠ p := fun z => n (.inl z.symm)
  have n2 : c ≠ p := fun z => n (.inr z.symm)
  exact ⟨xs, m, k, ne, by rw [upd_ne n1]; exact h1, by rw [upd_ne n2]; exact h2, r⟩
section
variable {P : Program} {w : World} {K : PySem.W.Frag} {mg : Str → Option Value} {g0 : Heap}
abbrev Small (v : Int) : Prop := -1000000000 ≤ v ∧ v ≤ 1000000000
def spValues : Sp := fun vs H Q _ => ∃ (d c : Addr) (b many : Int), vs = [.ref d, .int many] ∧ Deck d c b H ∧ b ≤ 100000000 ∧ 0 ≤ many ∧ many ≤ 3 ∧
  ∀ (t : Addr) (ws : List Int) (H' : Hp), (ws.length : Int) = many → (∀ v ∈ ws, Small v) → H' t = some (.tup (ws.map V.int)) → Deck d c (b + 10) H' → Ext (Dk d c) H H' → Q (.ref t) H'
/-- one value -/
def tOne : TE := fun σ H Q => ∃ (d c : Addr) (b many : Int) (k : Option V), σ = [some (.ref d), some (.int many), some (.int 1000000000), k] ∧ Deck d c b H ∧ b ≤ 200000000 ∧
  ∀ (v : Int) (H' : Hp), Small v → Deck d c (b + 2) H' → Ext (Dk d c) H H' → Q (.int v) H'
theorem ok_values {f : Addr} {fd : FuncData} (F : Fun K "_law_values" "_law_values" s_values f fd) (z_tuple : mg "tuple" = none) (z_range : mg "range" = none)
    (C_draw : Cal P w K mg g0 "_law_draw" 1 ["_law_deck_here", "_law_many"] spDraw)
    (C_pick : Cal P w K mg g0 "_law_pick" 2 ["_law_deck_here", "_law_some"] spPick) : GOk P w K mg g0 CX0 3 f fd ["_law_deck_here", "_law_many"] spValues := by
  have nd := sc_values.nd
  refine okG F sc_values (fun vs H Q E h => ?_) (fun cdv A up s H vs Q E qt hr h => ?_)
  · obtain ⟨d, c, b, many, rfl, _⟩ := h
    rfl
  · obtain ⟨d, c, b, many, rfl, D, hb, m0, m1, k⟩ := h
    refine ⟨_, pss_cons (ps_set (i := 2) nd rfl (.inr rfl) (pe_op op_pow pe_int pe_int)) (pss_one (ps_ret (pe_callTy call_tuple_of (by rfl) z_tuple (by decide +kernel) (pa_cons
      (pe_lc (own := [("_law_k", 3)]) (te := tOne) (by rfl) nd (pi_range1 (by rfl) z_range (pa_cons (pv 1) pa_nil))
        (blkOk_by (own := [("_law_k", 3)]) (N := ["_law_deck_here", "_law_many", "_law_great", "_law_k"]) (sc := defScope s_values) (by decide +kernel))
        (fun _ _ _ _ _ => pg_name (i := 3) nd rfl (.inl rfl)) (fun _ _ _ _ _ => pts_nil)
        (fun _ _ _ _ _ => by exact (PE_imp (pe_c C_pick qt (hr.mono (by decide)) (pa_cons (pv 0) (pa_cons (pe_lst (pa_cons pe_int (pa_cons pe_int (pa_cons (pe_un un_neg pe_int) (pa_cons pe_int
          (pa_cons (pe_c C_draw qt (hr.mono (by decide)) (pa_cons (pv 0) (pa_cons pe_int pa_nil))) (pa_cons (pv 2) (pa_cons (pe_un un_neg (pv 2)) pa_nil)))))))) pa_nil))) (fun σ H Q h => by
            obtain ⟨d, c, b, many, kk, rfl, D, hb, k⟩ := h
            walk_at "rd"
            refine ⟨d, c, b, _, rfl, D, by omega, by decide, by decide, fun r H1 r0 r1 D1 x1 => ?_⟩
            walk_at "rd"
            refine ⟨k_sz rfl, fun l hl => ?_⟩
            walk_at "rd"
            refine ⟨d, c, l, b + 1, _, rfl, D1.new hl, by omega, D1.off hl, upd_same, by simp, by simp, fun x H2 hx D2 x2 => ?_⟩
            have x3 : Ext (Dk d c) H H2 := (x1.trans (ext_new hl)).trans x2
            have D3 : Deck d c (b + 2) H2 := by
              have e : b + 1 + 1 = b + 2 := by omega
              rw [← e]
              exact D2
            simp only [List.mem_cons, List.not_mem_nil, or_false] at hx
            rcases hx with rfl | rfl | rfl | rfl | rfl | rfl | rfl
            · exact k 0 H2 (by decide) D3 x3
            · exact k 1 H2 (by decide) D3 x3
            · exact k (-1) H2 (by decide) D3 x3
            · exact k 2 H2 (by decide) D3 x3
            · exact k r H2 ⟨by omega, by omega⟩ D3 x3
            · exact k _ H2 (by decide) D3 x3
            · exact k _ H2 (by decide) D3 x3)))) pa_nil)))), ?_⟩
    walk_at "rd"
    refine ⟨_, rfl, _, rfl, by omega, by omega, fun L hL => ?_⟩
    refine lc_range (lo := 0) (n := many.toNat) (fun i H' => Ext (Dk d c) H H' ∧ Deck d c (b + 2 * i) H' ∧ ∃ ws : List Int, ws.length = i ∧ (∀ v ∈ ws, Small v) ∧ H' L = some (.lst (ws.map V.int)))
      ⟨ext_new hL, by simpa using D.new hL, [], rfl, by simp, upd_same⟩ (fun i H' hi h => ?_) (fun H' h => ?_)
    · obtain ⟨x1, D1, ws, l1, l2, l3⟩ := h
      refine ⟨rfl, k_yes ?_⟩
      refine ⟨d, c, _, many, some (.int (0 + i)), rfl, D1, by omega, fun v H2 sv D2 x2 => ?_⟩
      have nL : ¬ Dk d c L := D.off hL
      have l4 := x2.2 _ _ nL l3
      refine ⟨_, l4, k_szL (by rw [List.length_map]; omega), ext_off (x1.trans x2) hL, ?_, ws ++ [v], by simp [l1], ?_, ?_⟩
      · have e : b + 2 * (i : Int) + 2 = b + 2 * ((i + 1 : Nat) : Int) := by omega
        rw [e] at D2
        exact D2.offL (H := H) nL
      · intro u hu
        rcases List.mem_append.mp hu with z | z
        · exact l2 u z
        · rw [List.mem_singleton.mp z]
          exact sv
      · rw [upd_same]
        simp
    · obtain ⟨x1, D1, ws, l1, l2, l3⟩ := h
      refine ⟨L, _, rfl, .inl ⟨SqL.of l3, fun t ht => ?_⟩⟩
      refine k t ws _ (by omega) l2 upd_same ?_ (x1.trans (ext_new ht))
      exact (D1.mono (by omega)).new ht
end
end K21

set_option Elab.async false
set_option maxRecDepth 100000
set_option maxHeartbeats 4000000
namespace K21
open PySem PySem.Spec PyProof.Rows L2 Own
-- steps
local macro_rules | `(tactic| walk_at "lk") => `(tactic| first
  | assumption | exact upd_same
  | ((with_reducible refine' lk_new ?e (by assumption)); (case e => walk_at "lk"))
  | ((with_reducible refine' lk_ext (by assumption) ?e); (case e => walk_at "lk"))
  | ((with_reducible refine' lk_same (by assumption) ?e); (case e => walk_at "lk")))
local macro_rules | `(tactic| walk_at "sq") => `(tactic| first | assumption | exact SqL.of (by walk_at "lk") | exact SqT.of (by walk_at "lk"))
local macro_rules | `(tactic| walk_at "r1") => `(tactic| first
  | with_reducible refine k_seq ?_ | with_reducible refine k_asg ?_ | with_reducible refine k_ret ?_ | with_reducible refine k_drop ?_ | with_reducible refine k_next ?_ | with_reducible refine k_ifS ?_
  | ((with_reducible refine' k_var ?e ?_); (case e => exact rfl)) | with_reducible refine k_c ?_ | with_reducible refine k_op ?_ | with_reducible refine k_un ?_ | with_reducible refine k_test ?_ | with_reducible refine k_B ?_
  | with_reducible refine k_and ?_ | with_reducible refine k_or ?_ | with_reducible refine k_not ?_ | with_reducible refine k_andV ?_ | with_reducible refine k_orV ?_ | with_reducible refine k_notV ?_ | with_reducible refine k_if ?_
  | with_reducible refine k_nil ?_ | with_reducible refine k_cons ?_ | with_reducible refine k_tup ?_ | with_reducible refine k_lst ?_ | with_reducible refine k_call ?_ | with_reducible refine k_cb ?_ | with_reducible refine k_ck ?_
  | with_reducible refine k_par ?_ | with_reducible refine k_par1 ?_ | with_reducible refine k_tr ?_ | with_reducible refine k_rI0 ?_ | with_reducible refine k_rU ?_
  | with_reducible refine k_gN ?_ | with_reducible refine k_gS ?_ | with_reducible refine k_gNil ?_ | with_reducible refine k_gCons ?_ | with_reducible refine k_bm0 ?_ | with_reducible refine k_bm ?_
  | with_reducible refine k_for ?_ | with_reducible refine k_iL ?_ | with_reducible refine k_iT ?_ | with_reducible refine k_iR1 ?_ | ((with_reducible refine k_iR1i ?e ?_); (case e => first | decide | exact ⟨by omega, by omega⟩))
  | with_reducible refine k_max ?_ | with_reducible refine k_isB ?_ | with_reducible refine k_sl ?_ | with_reducible refine k_noP ?_ | with_reducible refine k_part ?_ | with_reducible refine k_partI ?_ | with_reducible refine k_revL ?_
  | ((with_reducible refine' k_ixqT ?e ?f ?_); (case e => walk_at "sq"); (case f => first | exact rfl | exact atI_head))
  | ((with_reducible refine' k_ixqL ?e ?f ?_); (case e => walk_at "sq"); (case f => first | exact rfl | exact atI_head))
  | ((with_reducible refine' k_lenL ?e ?_); (case e => walk_at "sq"))
  | ((with_reducible refine' k_lenT ?e ?_); (case e => walk_at "sq"))
  | ((with_reducible refine' k_ixL ?e ?f ?_); (case e => walk_at "sq"); (case f => first | exact rfl | exact atI_head))
  | ((with_reducible refine' k_ixT ?e ?f ?_); (case e => walk_at "sq"); (case f => first | exact rfl | exact atI_head))
  | ((with_reducible refine k_eq ?e ?_); (case e => exact rfl)) | ((with_reducible refine k_ne ?e ?_); (case e => exact rfl))
  | ((with_reducible refine k_rI ?e ?_); (case e => first | assumption | omega | decide | exact ⟨by omega, by omega⟩ | exact .inl ⟨by omega, by omega⟩ | exact .inr ⟨by omega, by omega⟩)))
local macro_rules | `(tactic| walk_at "rd") => `(tactic| repeat walk_at "r1")
-- steps end
theorem Good.nil {z many : Int} : Good [] z many := ⟨List.nodup_nil, fun k h => by simp [keysR] at h, fun r h => by simp at h⟩
theorem Good.up {m : Rows} {z y many : Int} (g : Good m z many) (h : z ≤ y) : Good m y many := ⟨g.nd, fun k hk => ⟨(g.lt k hk).1, Int.lt_of_lt_of_le (g.lt k hk).2 h⟩, g.ok⟩
theorem Good.fresh {m : Rows} {z many : Int} (g : Good m z many) : hasR m z = false := by
  rw [Bool.eq_false_iff]
  intro h
  have := (g.lt z (hasR_iff.mp h)).2
  omega
theorem Good.put {m : Rows} {z n many : Int} {ws : List Int} (g : Good m z many) (h0 : 0 ≤ n) (hn : n < z) (l : (ws.length : Int) = many) (s : ∀ v ∈ ws, Small v) : Good (putR m n ws) z many := by
  refine ⟨?_, fun k hk => ?_, fun r hr => ?_⟩
  · rw [keys_put]
    split
    · exact g.nd
    · rename_i h
      refine List.nodup_append.mpr ⟨g.nd, by simp, fun a ha b hb e => ?_⟩
      rw [List.mem_singleton.mp hb] at e
      subst e
      exact h (hasR_iff.mpr ha)
  · rw [keys_put] at hk
    split at hk
    · exact g.lt k hk
    · rcases List.mem_append.mp hk with e | e
      · exact g.lt k e
      · rw [List.mem_singleton.mp e]
        exact ⟨h0, hn⟩
  · unfold putR at hr
    split at hr
    · obtain ⟨r0, hr0, rfl⟩ := List.mem_map.mp hr
      split
      · exact ⟨l, s⟩
      · exact g.ok r0 hr0
    · rcases List.mem_append.mp hr with e | e
      · exact g.ok r e
      · rw [List.mem_singleton.mp e]
        exact ⟨l, s⟩
theorem Good.drop {m : Rows} {z n many : Int} (g : Good m z many) : Good (dropR m n) z many := by
  refine ⟨?_, fun k hk => ?_, fun r hr => g.ok r (List.mem_filter.mp hr).1⟩
  · rw [keys_drop]
    exact g.nd.filter _
  · rw [keys_drop] at hk
    exact g.lt k (List.mem_filter.mp hk).1
theorem put_new {m : Rows} {n : Int} {ws : List Int} (h : hasR m n = false) : putR m n ws = m ++ [(n, ws)] := by
  unfold putR
  rw [if_neg (by rw [h]; exact Bool.false_ne_true)]
theorem put_len {m : Rows} {n : Int} {ws : List Int} : (putR m n ws).length ≤ m.length + 1 := by
  unfold putR
  split
  · rw [List.length_map]
    omega
  · rw [List.length_append]
    simp
theorem drop_len {m : Rows} {n : Int} : (dropR m n).length ≤ m.length := List.length_filter_le _ _
theorem Ext.tups {M : Addr → Prop} {H H' : Hp} (x : Ext M H H') : Tups H H' := x.1
def RowsT (H : Hp) (b : Addr) (m : Rows) : Prop := ∃ ts : List Addr, H b = some (.tup (ts.map V.ref)) ∧ Paired (RowAt H) ts m
theorem RowsT.keep {H H' : Hp} {b : Addr} {m : Rows} (r : RowsT H b m) (x : Tups H H') : RowsT H' b m := by
  obtain ⟨ts, h1, h2⟩ := r
  exact ⟨ts, x _ _ h1, Paired.mapP h2 fun a b h => h.keep x⟩
section
variable {P : Program} {w : World} {K : PySem.W.Frag} {mg : Str → Option Value} {g0 : Heap}
def spRowsL : Sp := fun vs H Q _ => ∃ (d c : Addr) (b many : Int), vs = [.ref d, .int many] ∧ Deck d c b H ∧ b ≤ 50000000 ∧ 1 ≤ many ∧ many ≤ 3 ∧
  ∀ (r bt : Addr) (after : Int) (m : Rows) (H' : Hp), H' r = some (.tup [.ref bt, .int after]) → RowsT H' bt m → Good m after many → 0 ≤ after → after ≤ 100 → m.length ≤ 5 → Deck d c (b + 100) H' → Ext (Dk d c) H H' → Q (.ref r) H'
theorem ok_rowsL {f : Addr} {fd : FuncData} (F : Fun K "_law_rows" "_law_rows" s_rows f fd) (z_tuple : mg "tuple" = none) (z_range : mg "range" = none)
    (C_draw : Cal P w K mg g0 "_law_draw" 1 ["_law_deck_here", "_law_many"] spDraw)
    (C_values : Cal P w K mg g0 "_law_values" 3 ["_law_deck_here", "_law_many"] spValues) : GOk P w K mg g0 CX0 4 f fd ["_law_deck_here", "_law_many"] spRowsL := by
  have nd := sc_rows.nd
  refine okG F sc_rows (fun vs H Q E h => ?_) (fun cdv A up s H vs Q E qt hr h => ?_)
  · obtain ⟨d, c, b, many, rfl, _⟩ := h
    rfl
  · obtain ⟨d, c, b, many, rfl, D, hb, m0, m1, k⟩ := h
    refine ⟨_, (pss_cons (ps_par (i := 3) (j := 4) (by rfl) nd rfl rfl (by decide) rfl rfl (pa_cons (pe_lst pa_nil) (pa_cons (pe_c C_draw qt (hr.mono (by decide)) (pa_cons (pv 0) (pa_cons pe_int pa_nil))) pa_nil)) (by rfl))
        (pss_cons (ps_for PassesOwn.never rfl (pi_range1 (by rfl) z_range (pa_cons (pe_c C_draw qt (hr.mono (by decide)) (pa_cons (pv 0) (pa_cons pe_int pa_nil))) pa_nil)) (pg_name (i := 2) nd rfl (Or.inl rfl)) (pss_cons (ps_expr (pe_bm PySem.F.plainAttrs_list PySem.F.slot_list_append PySem.F.type_list_append mt_append (pv 3) (pa_cons (pe_tup (pa_cons (pv 4) (pa_cons (pe_c C_values qt (hr.mono (by decide)) (pa_cons (pv 0) (pa_cons (pv 1) pa_nil))) pa_nil))) pa_nil)))
        (pss_one (ps_set (i := 4) nd rfl (Or.inl rfl) (pe_op op_add (pe_op op_add (pv 4) pe_int) (pe_c C_draw qt (hr.mono (by decide)) (pa_cons (pv 0) (pa_cons pe_int pa_nil))))))))
        (pss_one (ps_ret (pe_tup (pa_cons (pe_callTy call_tuple_of (by rfl) z_tuple (by decide +kernel) (pa_cons (pv 3) pa_nil)) (pa_cons (pe_op op_add (pv 4) (pe_c C_draw qt (hr.mono (by decide)) (pa_cons (pv 0) (pa_cons pe_int pa_nil)))) pa_nil))))))), ?_⟩
    walk_at "rd"
    refine ⟨k_sz rfl, fun L hL => ?_⟩
    walk_at "rd"
    refine ⟨d, c, b, _, rfl, D.new hL, by omega, by decide, by decide, fun r0 H1 ra rb D1 x1 => ?_⟩
    have nL : ¬ Dk d c L := D.off hL
    have hL1 : H1 L = some (.lst []) := x1.2 _ _ nL upd_same
    have y1 : Ext (Dk d c) H H1 := (ext_new hL).trans x1
    walk_at "rd"
    refine ⟨d, c, _, _, rfl, D1, by omega, by decide, by decide, fun q H2 qa qb D2 x2 => ?_⟩
    have hL2 : H2 L = some (.lst []) := x2.2 _ _ nL hL1
    have y2 := y1.trans x2
    walk_at "rd"
    let Pv : Nat → L2.St → Hp → Prop := fun i σ H' => ∃ (ko : Option V) (place : Int) (ts : List Addr) (m : Rows), σ = [some (.ref d), some (.int many), ko, some (.ref L), some (.int place)] ∧ Ext (Dk d c) H H' ∧ Deck d c (b + 2 + 12 * i) H' ∧
      H' L = some (.lst (ts.map V.ref)) ∧ Paired (RowAt H') ts m ∧ m.length = i ∧ 0 ≤ place ∧ place ≤ 3 + 4 * i ∧ Good m place many
    have D2' : Deck d c (b + 2 + 12 * ((0 : Nat) : Int)) H2 := by
      have e : b + 1 + 1 = b + 2 + 12 * ((0 : Nat) : Int) := by omega
      rw [← e]
      exact D2
    refine ⟨q, rfl, by omega, by omega, for_range (lo := 0) (n := q.toNat) Pv ⟨_, r0, [], [], rfl, y2, D2', hL2, .nil, rfl, ra, by omega, Good.nil⟩ (fun i σ H3 hi h => ?_) (fun σ H3 h => ?_)⟩
    · obtain ⟨ko, place, ts, m, rfl, y3, D3, hL3, hp3, lm, p0, p1, g⟩ := h
      walk_at "rd"
      refine ⟨k_tyL hL3, ?_⟩
      walk_at "rd"
      refine ⟨d, c, _, many, rfl, D3, by omega, by omega, by omega, fun t ws H4 lw sw ht D4 x4 => ?_⟩
      have hL4 := x4.2 _ _ nL hL3
      walk_at "rd"
      refine ⟨k_sz rfl, fun u hu => ?_⟩
      have hL5 := lk_new (o := .tup [V.int place, V.ref t]) hL4 hu
      walk_at "rd"
      refine k_app hL5 (k_szL (by rw [List.length_map, Paired.length hp3, lm]; omega)) ?_
      have e1 : ts.map V.ref ++ [V.ref u] = (ts ++ [u]).map V.ref := by simp
      rw [e1]
      have z5 : Tups H4 (upd H4 u (.tup [V.int place, V.ref t])) := tups_new hu
      have z6 : Tups (upd H4 u (.tup [V.int place, V.ref t])) (upd (upd H4 u (.tup [V.int place, V.ref t])) L (.lst ((ts ++ [u]).map V.ref))) := tups_upd hL5 fun xs z => by cases z
      have hrow : RowAt (upd (upd H4 u (.tup [V.int place, V.ref t])) L (.lst ((ts ++ [u]).map V.ref))) u (place, ws) := ⟨t, z6 _ _ upd_same, z6 _ _ (z5 _ _ ht)⟩
      have hp6 := Paired.snoc (Paired.mapP hp3 fun a b h => RowAt.keep h ((Ext.tups x4).trans (z5.trans z6))) hrow
      have hL6 : upd (upd H4 u (.tup [V.int place, V.ref t])) L (.lst ((ts ++ [u]).map V.ref)) L = some (.lst ((ts ++ [u]).map V.ref)) := upd_same
      have y6 : Ext (Dk d c) H (upd (upd H4 u (.tup [V.int place, V.ref t])) L (.lst ((ts ++ [u]).map V.ref))) := ext_off ((y3.trans x4).trans (ext_new hu)) hL
      have D6 := (D4.new hu (o := .tup [V.int place, V.ref t])).offL (H := H) (p := L) (o := .lst ((ts ++ [u]).map V.ref)) nL
      generalize upd (upd H4 u (.tup [V.int place, V.ref t])) L (.lst ((ts ++ [u]).map V.ref)) = H6 at hp6 hL6 y6 D6 ⊢
      walk_at "rd"
      refine ⟨d, c, _, _, rfl, D6, by omega, by decide, by decide, fun r1 H7 ra1 rb1 D7 x7 => ?_⟩
      walk_at "rd"
      have g2 : Good (m ++ [(place, ws)]) (place + 1 + r1) many := by
        rw [← put_new g.fresh]
        exact (g.up (by omega)).put p0 (by omega) lw sw
      refine ⟨_, _, ts ++ [u], m ++ [(place, ws)], rfl, y6.trans x7, ?_, x7.2 _ _ nL hL6, Paired.mapP hp6 fun a b h => RowAt.keep h (Ext.tups x7), by simp [lm], by omega, by omega, g2⟩
      have e : b + 2 + 12 * (i : Int) + 10 + 1 ≤ b + 2 + 12 * ((i + 1 : Nat) : Int) := by omega
      exact D7.mono e
    · obtain ⟨ko, place, ts, m, rfl, y3, D3, hL3, hp3, lm, p0, p1, g⟩ := h
      walk_at "rd"
      refine ⟨L, _, rfl, .inl ⟨SqL.of hL3, fun bt hbt => ?_⟩⟩
      have x4 : Ext (Dk d c) H3 (upd H3 bt (.tup (ts.map V.ref))) := ext_new hbt
      have hb4 : upd H3 bt (.tup (ts.map V.ref)) bt = some (.tup (ts.map V.ref)) := upd_same
      have D4 := D3.new hbt (o := .tup (ts.map V.ref))
      generalize upd H3 bt (.tup (ts.map V.ref)) = H4 at x4 hb4 D4 ⊢
      walk_at "rd"
      refine ⟨d, c, _, _, rfl, D4, by omega, by decide, by decide, fun r1 H5 ra1 rb1 D5 x5 => ?_⟩
      walk_at "rd"
      refine ⟨k_sz rfl, fun r hr5 => ?_⟩
      have z6 : Tups H5 (upd H5 r (.tup [V.ref bt, V.int (place + r1)])) := tups_new hr5
      have z7 := ((Ext.tups x4).trans (Ext.tups x5)).trans z6
      refine k r bt (place + r1) m _ upd_same ⟨ts, z6 _ _ (x5.1 _ _ hb4), Paired.mapP hp3 fun a b h => RowAt.keep h z7⟩ (g.up (by omega)) (by omega) (by omega) (by omega) ?_ (((y3.trans x4).trans x5).trans (ext_new hr5))
      exact (D5.mono (by omega)).new hr5
end
end K21

set_option Elab.async false
set_option maxRecDepth 100000
set_option maxHeartbeats 4000000
namespace K21
open PySem PySem.Spec PyProof.Rows L2 Own
-- steps
local macro_rules | `(tactic| walk_at "lk") => `(tactic| first
  | assumption | exact upd_same
  | ((with_reducible refine' lk_new ?e (by assumption)); (case e => walk_at "lk"))
  | ((with_reducible refine' lk_ext (by assumption) ?e); (case e => walk_at "lk"))
  | ((with_reducible refine' lk_same (by assumption) ?e); (case e => walk_at "lk")))
local macro_rules | `(tactic| walk_at "sq") => `(tactic| first | assumption | exact SqL.of (by walk_at "lk") | exact SqT.of (by walk_at "lk"))
local macro_rules | `(tactic| walk_at "r1") => `(tactic| first
  | with_reducible refine k_seq ?_ | with_reducible refine k_asg ?_ | with_reducible refine k_ret ?_ | with_reducible refine k_drop ?_ | with_reducible refine k_next ?_ | with_reducible refine k_ifS ?_
  | ((with_reducible refine' k_var ?e ?_); (case e => exact rfl)) | with_reducible refine k_c ?_ | with_reducible refine k_op ?_ | with_reducible refine k_un ?_ | with_reducible refine k_test ?_ | with_reducible refine k_B ?_
  | with_reducible refine k_and ?_ | with_reducible refine k_or ?_ | with_reducible refine k_not ?_ | with_reducible refine k_andV ?_ | with_reducible refine k_orV ?_ | with_reducible refine k_notV ?_ | with_reducible refine k_if ?_
  | with_reducible refine k_nil ?_ | with_reducible refine k_cons ?_ | with_reducible refine k_tup ?_ | with_reducible refine k_lst ?_ | with_reducible refine k_call ?_ | with_reducible refine k_cb ?_ | with_reducible refine k_ck ?_
  | with_reducible refine k_par ?_ | with_reducible refine k_par1 ?_ | with_reducible refine k_tr ?_ | with_reducible refine k_rI0 ?_ | with_reducible refine k_rU ?_
  | with_reducible refine k_gN ?_ | with_reducible refine k_gS ?_ | with_reducible refine k_gNil ?_ | with_reducible refine k_gCons ?_ | with_reducible refine k_bm0 ?_ | with_reducible refine k_bm ?_
  | with_reducible refine k_for ?_ | with_reducible refine k_iL ?_ | with_reducible refine k_iT ?_ | with_reducible refine k_iR1 ?_ | ((with_reducible refine k_iR1i ?e ?_); (case e => first | decide | exact ⟨by omega, by omega⟩))
  | with_reducible refine k_max ?_ | with_reducible refine k_isB ?_ | with_reducible refine k_sl ?_ | with_reducible refine k_noP ?_ | with_reducible refine k_part ?_ | with_reducible refine k_partI ?_ | with_reducible refine k_revL ?_
  | ((with_reducible refine' k_ixqT ?e ?f ?_); (case e => walk_at "sq"); (case f => first | exact rfl | exact atI_head))
  | ((with_reducible refine' k_ixqL ?e ?f ?_); (case e => walk_at "sq"); (case f => first | exact rfl | exact atI_head))
  | ((with_reducible refine' k_lenL ?e ?_); (case e => walk_at "sq"))
  | ((with_reducible refine' k_lenT ?e ?_); (case e => walk_at "sq"))
  | ((with_reducible refine' k_ixL ?e ?f ?_); (case e => walk_at "sq"); (case f => first | exact rfl | exact atI_head))
  | ((with_reducible refine' k_ixT ?e ?f ?_); (case e => walk_at "sq"); (case f => first | exact rfl | exact atI_head))
  | ((with_reducible refine k_eq ?e ?_); (case e => exact rfl)) | ((with_reducible refine k_ne ?e ?_); (case e => exact rfl))
  | ((with_reducible refine k_rI ?e ?_); (case e => first | assumption | omega | decide | exact ⟨by omega, by omega⟩ | exact .inl ⟨by omega, by omega⟩ | exact .inr ⟨by omega, by omega⟩)))
local macro_rules | `(tactic| walk_at "rd") => `(tactic| repeat walk_at "r1")
-- steps end
/-! ### what repr tells of rows -/
structure Fit (W D : Nat) (d : PyData) : Prop where
  sh : d.showable = true
  la : d.canLay0 = true
  is : d.intsShort 13 = true
  de : d.depth ≤ D
  we : d.weight ≤ W
structure FitA (W D : Nat) (ds : List PyData) : Prop where
  sh : PyData.showableAll ds = true
  la : PyData.canLayAll0 ds = true
  is : PyData.intsShortAll 13 ds = true
  de : PyData.depthAll ds ≤ D
  we : PyData.weightAll ds ≤ W
abbrev Num (v : Int) : Prop := -1000000000000 < v ∧ v < 1000000000000
theorem num_log {v : Int} (h : Num v) : v.natAbs.log2 < 41 := by
  by_cases e : v.natAbs = 0
  · rw [e]
    decide
  · rw [Nat.log2_lt e]
    have z : (2 : Nat) ^ 41 = 2199023255552 := by decide +kernel
    omega
theorem fit_int {v : Int} (h : Num v) : Fit 42 0 (.int v) := by
  have l := num_log h
  refine ⟨?_, rfl, ?_, Nat.le_refl _, ?_⟩
  · show decide _ = true
    exact decide_eq_true (by omega)
  · show decide _ = true
    refine decide_eq_true ?_
    rw [PyData.shown_int, PySem.ofString_length]
    exact int_text_length_le10 (k := 12) (by decide) (by have z : (10 : Nat) ^ 12 = 1000000000000 := by decide +kernel
                                                         omega)
  · show (if (v == 0) = true then 0 else v.natAbs.log2 + 1) ≤ 42
    split <;> omega
theorem fit_nil {D : Nat} : FitA 0 D [] := ⟨rfl, rfl, rfl, Nat.zero_le _, Nat.le_refl _⟩
theorem fit_cons {W W' D : Nat} {d : PyData} {ds : List PyData} (a : Fit W D d) (b : FitA W' D ds) : FitA (W + 1 + W') D (d :: ds) := by
  refine ⟨?_, ?_, ?_, ?_, ?_⟩
  · show (_ && _) = true
    rw [a.sh, b.sh]
    rfl
  · show (_ && _) = true
    rw [a.la, b.la]
    rfl
  · show (_ && _) = true
    rw [a.is, b.is]
    rfl
  · show max _ _ ≤ D
    exact Nat.max_le.mpr ⟨a.de, b.de⟩
  · show _ + 1 + _ ≤ _
    have := a.we
    have := b.we
    omega
theorem fit_tup {W D : Nat} {ds : List PyData} (a : FitA W D ds) : Fit W (D + 1) (.tuple ds) := ⟨a.sh, a.la, a.is, Nat.succ_le_succ a.de, a.we⟩
theorem Fit.mono {W W' D D' : Nat} {d : PyData} (a : Fit W D d) (h : W ≤ W') (h2 : D ≤ D') : Fit W' D' d := ⟨a.sh, a.la, a.is, Nat.le_trans a.de h2, Nat.le_trans a.we h⟩
theorem FitA.mono {W W' D D' : Nat} {d : List PyData} (a : FitA W D d) (h : W ≤ W') (h2 : D ≤ D') : FitA W' D' d := ⟨a.sh, a.la, a.is, Nat.le_trans a.de h2, Nat.le_trans a.we h⟩
theorem fit_ints : ∀ {vs : List Int}, (∀ v ∈ vs, Num v) → FitA (43 * vs.length) 0 (vs.map .int)
  | [], _ => fit_nil
  | v :: vs, h => (fit_cons (fit_int (h v List.mem_cons_self)) (fit_ints fun w k => h w (List.mem_cons_of_mem _ k))).mono (by simp only [List.length_cons]; omega) (Nat.le_refl _)
theorem fit_row {n : Int} {vs : List Int} (h : Num n) (l : vs.length ≤ 3) (hv : ∀ v ∈ vs, Num v) : Fit 180 2 (rowD n vs) :=
  (fit_tup (fit_cons ((fit_int h).mono (Nat.le_refl _) (Nat.zero_le 1)) (fit_cons (fit_tup (fit_ints hv)) fit_nil))).mono (by omega) (Nat.le_refl _)
def pairsD (ps : List (Int × List Int)) : List PyData := ps.map fun r => rowD r.1 r.2
theorem fit_pairs : ∀ {ps : List (Int × List Int)}, (∀ r ∈ ps, Num r.1 ∧ r.2.length ≤ 3 ∧ ∀ v ∈ r.2, Num v) → FitA (181 * ps.length) 2 (pairsD ps)
  | [], _ => fit_nil
  | r :: ps, h => by
    obtain ⟨a, b, c⟩ := h r List.mem_cons_self
    exact (fit_cons (fit_row a b c) (fit_pairs fun w k => h w (List.mem_cons_of_mem _ k))).mono (by simp only [List.length_cons]; omega) (Nat.le_refl _)
theorem Fit.repr {W D : Nat} {d : PyData} (f : Fit W D d) (h : W ≤ 1000000) (h2 : D ≤ 60) : d.showable = true ∧ d.depth ≤ 60 ∧ d.shown.length ≤ sizeLine := by
  refine ⟨f.sh, Nat.le_trans f.de h2, ?_⟩
  have hl : d.layable0 = true := by
    show (_ && decide _ && decide _) = true
    have e : (2 : Nat) ^ 20 = 1048576 := by decide
    have := f.de
    have := f.we
    rw [f.la, decide_eq_true (show d.depth ≤ 64 by omega), decide_eq_true (show d.weight ≤ 2 ^ 20 by rw [e]; omega)]
    rfl
  have := PyProof.Rows.shown_le13 hl f.is
  rw [sizeLine_eq]
  omega
theorem dp_row {K : PySem.W.Frag} {H : Hp} {t : Addr} {r : Int × List Int} (h : RowAt H t r) : Dp K H (.ref t) (rowD r.1 r.2) := by
  obtain ⟨u, h1, h2⟩ := h
  exact .tup (SqT.of h1) (.cons (.int _) (.cons (.tup (SqT.of h2) (dp_ints _)) .nil))
theorem dp_rows {K : PySem.W.Frag} {H : Hp} : ∀ {ts : List Addr} {ps : List (Int × List Int)}, Paired (RowAt H) ts ps → DpAll K H (ts.map V.ref) (pairsD ps)
  | _, _, .nil => .nil
  | _, _, .cons a b => .cons (dp_row a) (dp_rows b)
theorem dp_rowsT {K : PySem.W.Frag} {H : Hp} {b : Addr} {m : Rows} (h : RowsT H b m) : Dp K H (.ref b) (.tuple (pairsD m)) := by
  obtain ⟨ts, h1, h2⟩ := h
  exact .tup (SqT.of h1) (dp_rows h2)
theorem rr_int {K : PySem.W.Frag} {H : Hp} {Q : VK} {n : Int} (h : Num n) (q : Q (.str (PyData.int n).shown) H) : rRepr K [.int n] H Q := by
  obtain ⟨a, b, c⟩ := (fit_int h).repr (by decide) (by decide)
  exact ⟨_, _, rfl, .int n, a, b, c, q⟩
theorem rr_rows {K : PySem.W.Frag} {H : Hp} {Q : VK} {b : Addr} {m : Rows} (h : RowsT H b m) (l : m.length ≤ 1000) (f : ∀ r ∈ m, Num r.1 ∧ r.2.length ≤ 3 ∧ ∀ v ∈ r.2, Num v) (q : Q (.str (PyData.tuple (pairsD m)).shown) H) : rRepr K [.ref b] H Q := by
  obtain ⟨a, b, c⟩ := (fit_tup (fit_pairs f)).repr (by omega) (by decide)
  exact ⟨_, _, rfl, dp_rowsT h, a, b, c, q⟩
theorem good_num {m : Rows} {next many : Int} (g : Good m next many) (hn : next ≤ 1000000) (hm : many ≤ 3) : ∀ r ∈ m, Num r.1 ∧ r.2.length ≤ 3 ∧ ∀ v ∈ r.2, Num v := by
  intro r hr
  have h1 := g.lt r.1 (List.mem_map.mpr ⟨r, hr, rfl⟩)
  obtain ⟨h2, h3⟩ := g.ok r hr
  refine ⟨⟨by omega, by omega⟩, by omega, fun v hv => ?_⟩
  have := h3 v hv
  exact ⟨by omega, by omega⟩
theorem k_reprR {K : PySem.W.Frag} {H : Hp} {Q : VK} {xs : List V} (h : rRepr K xs H Q) : rRepr K xs H Q := h
end K21

set_option Elab.async false
set_option maxRecDepth 100000
set_option maxHeartbeats 4000000
namespace K21
open PySem PySem.Spec PyProof.Rows L2 Own
-- steps
local macro_rules | `(tactic| walk_at "lk") => `(tactic| first
  | assumption | exact upd_same
  | ((with_reducible refine' lk_new ?e (by assumption)); (case e => walk_at "lk"))
  | ((with_reducible refine' lk_ext (by assumption) ?e); (case e => walk_at "lk"))
  | ((with_reducible refine' lk_same (by assumption) ?e); (case e => walk_at "lk")))
local macro_rules | `(tactic| walk_at "sq") => `(tactic| first | assumption | exact SqL.of (by walk_at "lk") | exact SqT.of (by walk_at "lk"))
local macro_rules | `(tactic| walk_at "r1") => `(tactic| first
  | with_reducible refine k_seq ?_ | with_reducible refine k_asg ?_ | with_reducible refine k_ret ?_ | with_reducible refine k_drop ?_ | with_reducible refine k_next ?_ | with_reducible refine k_ifS ?_
  | ((with_reducible refine' k_var ?e ?_); (case e => exact rfl)) | with_reducible refine k_c ?_ | with_reducible refine k_op ?_ | with_reducible refine k_un ?_ | with_reducible refine k_test ?_ | with_reducible refine k_B ?_
  | with_reducible refine k_and ?_ | with_reducible refine k_or ?_ | with_reducible refine k_not ?_ | with_reducible refine k_andV ?_ | with_reducible refine k_orV ?_ | with_reducible refine k_notV ?_ | with_reducible refine k_if ?_
  | with_reducible refine k_nil ?_ | with_reducible refine k_cons ?_ | with_reducible refine k_tup ?_ | with_reducible refine k_lst ?_ | with_reducible refine k_call ?_ | with_reducible refine k_cb ?_ | with_reducible refine k_ck ?_
  | with_reducible refine k_par ?_ | with_reducible refine k_par1 ?_ | with_reducible refine k_tr ?_ | with_reducible refine k_rI0 ?_ | with_reducible refine k_rU ?_
  | with_reducible refine k_gN ?_ | with_reducible refine k_gS ?_ | with_reducible refine k_gNil ?_ | with_reducible refine k_gCons ?_ | with_reducible refine k_bm0 ?_ | with_reducible refine k_bm ?_
  | with_reducible refine k_for ?_ | with_reducible refine k_iL ?_ | with_reducible refine k_iT ?_ | with_reducible refine k_iR1 ?_ | ((with_reducible refine k_iR1i ?e ?_); (case e => first | decide | exact ⟨by omega, by omega⟩))
  | with_reducible refine k_max ?_ | with_reducible refine k_isB ?_ | with_reducible refine k_sl ?_ | with_reducible refine k_noP ?_ | with_reducible refine k_part ?_ | with_reducible refine k_partI ?_ | with_reducible refine k_revL ?_
  | ((with_reducible refine' k_ixqT ?e ?f ?_); (case e => walk_at "sq"); (case f => first | exact rfl | exact atI_head))
  | ((with_reducible refine' k_ixqL ?e ?f ?_); (case e => walk_at "sq"); (case f => first | exact rfl | exact atI_head))
  | ((with_reducible refine' k_lenL ?e ?_); (case e => walk_at "sq"))
  | ((with_reducible refine' k_lenT ?e ?_); (case e => walk_at "sq"))
  | ((with_reducible refine' k_ixL ?e ?f ?_); (case e => walk_at "sq"); (case f => first | exact rfl | exact atI_head))
  | ((with_reducible refine' k_ixT ?e ?f ?_); (case e => walk_at "sq"); (case f => first | exact rfl | exact atI_head))
  | ((with_reducible refine k_eq ?e ?_); (case e => exact rfl)) | ((with_reducible refine k_ne ?e ?_); (case e => exact rfl))
  | ((with_reducible refine k_rI ?e ?_); (case e => first | assumption | omega | decide | exact ⟨by omega, by omega⟩ | exact .inl ⟨by omega, by omega⟩ | exact .inr ⟨by omega, by omega⟩)))
local macro_rules | `(tactic| walk_at "rd") => `(tactic| repeat walk_at "r1")
-- steps end
/-! ### the law's own model -/
def MK (dk : Addr) (next many : Int) : List (Key × V) := [(Sum.inr "known", .ref dk), (Sum.inr "next", .int next), (Sum.inr "many", .int many)]
theorem kn : ¬ (("known" : Str) = "next") := by decide +kernel
theorem km : ¬ (("known" : Str) = "many") := by decide +kernel
theorem nm : ¬ (("next" : Str) = "many") := by decide +kernel
theorem sne {a b : Str} (h : ¬ a = b) : ¬ (Sum.inr a : Key) = Sum.inr b := fun z => h (Sum.inr.inj z)
theorem mk_known (dk : Addr) (n y : Int) : valV (MK dk n y) (Sum.inr "known" : Key) = some (.ref dk) := valV_pos rfl
theorem mk_next (dk : Addr) (n y : Int) : valV (MK dk n y) (Sum.inr "next" : Key) = some (.int n) := (valV_neg (sne kn)).trans (valV_pos rfl)
theorem mk_many (dk : Addr) (n y : Int) : valV (MK dk n y) (Sum.inr "many" : Key) = some (.int y) := (valV_neg (sne km)).trans ((valV_neg (sne nm)).trans (valV_pos rfl))
theorem mk_put (dk : Addr) (n y z : Int) : putK (MK dk n y) (Sum.inr "next" : Key) (.int z) = MK dk z y := by
  unfold putK
  have h : ((MK dk n y).any fun kv => decide (kv.1 = (Sum.inr "next" : Key))) = true := by
    rw [valV_any, mk_next]
    rfl
  rw [if_pos h]
  unfold MK
  simp only [List.map_cons, List.map_nil, if_neg (sne kn), if_pos, if_neg (sne (fun z => nm z.symm))]
theorem mk_merge (dk : Addr) (n y : Int) : mergeK [] [((Sum.inr "known" : Key), V.ref dk), (Sum.inr "next", .int n), (Sum.inr "many", .int y)] = MK dk n y := by
  unfold mergeK
  simp only [List.foldl_cons, List.foldl_nil]
  rw [putK_new (kvs := []) _ valV_nil, putK_new, putK_new]
  · rfl
  · exact (valV_neg (sne kn)).trans valV_nil
  · exact (valV_neg (sne km)).trans ((valV_neg (sne nm)).trans valV_nil)
theorem k_dget {td ty : TE} {σ : L2.St} {H : Hp} {Q : VK} (h : td σ H fun x H1 => ty σ H1 fun y H2 => ∃ a v, x = .ref a ∧ DGet H2 a y (some v) ∧ Q v H2) : tDGet td ty σ H Q := h
theorem k_dput {td ty tv : TE} {D : Ends} {σ : L2.St} {H : Hp} (h : tv σ H fun v H1 => td σ H1 fun x H2 => ty σ H2 fun y H3 => ∃ a H4, x = .ref a ∧ DPut H3 a y v H4 ∧ D.nx σ H4) : sDPut td ty tv D σ H := h
structure PairAt (C : Addr) (H : Hp) (p dx dT q dk : Addr) (m : Rows) (next many : Int) : Prop where
  tb : TableAt C H p dx dT m next
  md : H q = some (.dK (MK dk next many))
  kn : DictAt H dk m
  n1 : dT ≠ q
  n2 : dT ≠ dk
  n3 : q ≠ dk
def Of (p dT q dk a : Addr) : Prop := a = p ∨ a = dT ∨ a = q ∨ a = dk
theorem PairAt.np {C : Addr} {H : Hp} {p dx dT q dk : Addr} {m : Rows} {next many : Int} (A : PairAt C H p dx dT q dk m next many) : p ≠ dT ∧ p ≠ q ∧ p ≠ dk := by
  obtain ⟨⟨h1, k1, h2, _⟩, h3, ⟨k2, h4, _⟩, _⟩ := A
  exact ⟨ne_of h1 h2 (by intro z; cases z), ne_of h1 h3 (by intro z; cases z), ne_of h1 h4 (by intro z; cases z)⟩
theorem PairAt.keep {C : Addr} {H H' : Hp} {p dx dT q dk : Addr} {m : Rows} {next many : Int} {M : Addr → Prop} (A : PairAt C H p dx dT q dk m next many) (x : Ext M H H') (n : ∀ a, Of p dT q dk a → ¬ M a) : PairAt C H' p dx dT q dk m next many :=
  ⟨A.tb.keep x.1 (fun o e => x.2 _ _ (n _ (.inr (.inl rfl))) e) (fun o e => x.2 _ _ (n _ (.inl rfl)) e), x.2 _ _ (n _ (.inr (.inr (.inl rfl)))) A.md, A.kn.keep x.1 fun o e => x.2 _ _ (n _ (.inr (.inr (.inr rfl)))) e, A.n1, A.n2, A.n3⟩
theorem PairAt.same {C : Addr} {H H' : Hp} {p dx dT q dk : Addr} {m : Rows} {next many : Int} (A : PairAt C H p dx dT q dk m next many) (x : Same H H') : PairAt C H' p dx dT q dk m next many :=
  A.keep (M := fun _ => False) (Same.ext x) fun _ _ z => z
theorem Deck.kinds {d c : Addr} {b : Int} {H : Hp} (D : Deck d c b H) {a : Addr} {o : HO} (h : H a = some o) (n : ∀ xs, o ≠ .lst xs) : ¬ Dk d c a := by
  obtain ⟨xs, m, k, _, h1, h2, _⟩ := D
  rintro (rfl | rfl)
  · rw [h1] at h
    cases h
    exact n _ rfl
  · rw [h2] at h
    cases h
    exact n _ rfl
theorem PairAt.deck {C : Addr} {H : Hp} {p dx dT q dk d c : Addr} {m : Rows} {next many b : Int} (A : PairAt C H p dx dT q dk m next many) (D : Deck d c b H) : ∀ a, Of p dT q dk a → ¬ Dk d c a := by
  obtain ⟨⟨h1, k1, h2, _⟩, h3, ⟨k2, h4, _⟩, _⟩ := A
  rintro a (rfl | rfl | rfl | rfl)
  · exact D.kinds h1 fun xs z => by cases z
  · exact D.kinds h2 fun xs z => by cases z
  · exact D.kinds h3 fun xs z => by cases z
  · exact D.kinds h4 fun xs z => by cases z
abbrev Both (d c p dT q dk : Addr) (a : Addr) : Prop := Dk d c a ∨ Of p dT q dk a
theorem Deck.keep {d c : Addr} {b : Int} {H H' : Hp} {M : Addr → Prop} (D : Deck d c b H) (x : Ext M H H') (n1 : ¬ M d) (n2 : ¬ M c) : Deck d c b H' := by
  obtain ⟨xs, m, k, ne, h1, h2, r⟩ := D
  exact ⟨xs, m, k, ne, x.2 _ _ n1 h1, x.2 _ _ n2 h2, r⟩
/-- what the class gives to the law -/
structure Cl (P : Program) (w : World) (K : PySem.W.Frag) (mg : Str → Option Value) (g0 : Heap) (C N : Addr) : Prop where
  tx : Txt K C
  gC : mg "LiveTable" = some (.ref C)
  put : ∃ f, Meth K C "put" f ∧ FnR P w K mg g0 CX0 1 f (fun vs H Q E => ∃ ws rest, vs = ws ++ rest ∧ ws.length = 1 ∧ rest.length ≤ sizeLine ∧ ∀ p, H p = Option.none → spPut C (ws ++ [V.ref p]) (upd H p (.tup rest)) Q E)
  cin : ∃ f, PySem.W.findIn K (.ref C) "__contains__" = some (some (.ref f)) ∧ PySem.W.typeIn K (.ref f) = some (.type "function") ∧ FnR P w K mg g0 CX0 1 f (spIn C)
  len : ∃ f, PySem.W.findIn K (.ref C) "__len__" = some (some (.ref f)) ∧ PySem.W.typeIn K (.ref f) = some (.type "function") ∧ FnR P w K mg g0 CX0 1 f (spLen C)
  rows : ∃ pr f fd, PropOf K C "rows" pr f ∧ FnOk P w K mg g0 CX0 1 f fd ["self"] (spRows C) ∧ Binds K fd ["self"] []
section
variable {P : Program} {w : World} {K : PySem.W.Frag} {mg : Str → Option Value} {g0 : Heap} {C N : Addr}
theorem spPut_mono {vs : List V} {H : Hp} {Q Q' : VK} {E E' : XK} (h : spPut C vs H Q E) (k : ∀ v H', Q v H' → Q' v H') : spPut C vs H Q' E' := by
  obtain ⟨p, dx, d, t, m, z, ws, a, b, c, l, q⟩ := h
  exact ⟨p, dx, d, t, m, z, ws, a, b, c, l, fun H' x y w => k _ _ (q H' x y w)⟩
def spPutL (C : Addr) : Sp := fun vs H Q _ => ∃ (d c p dx dT q dk : Addr) (m : Rows) (b next many : Int), vs = [.ref d, .ref p, .ref q] ∧ Deck d c b H ∧ b ≤ 50000000 ∧ PairAt C H p dx dT q dk m next many ∧ 1 ≤ many ∧ many ≤ 3 ∧
  Good m next many ∧ 0 ≤ next ∧ next ≤ 1000000 ∧ m.length ≤ 900 ∧
  ∀ (m' : Rows) (H' : Hp), PairAt C H' p dx dT q dk m' (next + 1) many → Good m' (next + 1) many → m'.length ≤ m.length + 1 → Deck d c (b + 10) H' → Ext (Both d c p dT q dk) H H' → Q (.bl true) H'
theorem ok_putL {f : Addr} {fd : FuncData} (F : Fun K "_law_put" "_law_put" s_put f fd) (T : Cl P w K mg g0 C N) (z_len : mg "len" = none) (z_repr : mg "repr" = none)
    (C_values : Cal P w K mg g0 "_law_values" 3 ["_law_deck_here", "_law_many"] spValues) : GOk P w K mg g0 CX0 4 f fd ["_law_deck_here", "_law_table", "_law_model"] (spPutL C) := by
  have nd := sc_put.nd
  obtain ⟨fp, mp, FP⟩ := T.put
  refine okG F sc_put (fun vs H Q E h => ?_) (fun cdv A up s H vs Q E qt hr h => ?_)
  · obtain ⟨d, c, p, dx, dT, q, dk, m, b, next, many, rfl, _⟩ := h
    rfl
  · obtain ⟨d, c, p, dx, dT, q, dk, m, b, next, many, rfl, D, hb, A0, m0, m1, g, n0, n1, ml, k⟩ := h
    have hu := hu_of hr
    refine ⟨_, pss_cons (ps_par (i := 3) (j := 4) (by rfl) nd rfl rfl (by decide) rfl rfl (pa_cons (pe_c C_values qt (hr.mono (by decide)) (pa_cons (pv 0) (pa_cons (pe_dget hu (pv 2) pe_str (fun _ _ => rfl)) pa_nil))) (pa_cons (pe_dget hu (pv 2) pe_str (fun _ _ => rfl)) pa_nil)) (by rfl))
      (Evl.pss_cut (ps_if (pt_cmpR op_eq (pe_callB c_len (by rfl) z_len (by decide +kernel) (pa_cons (pv 3) pa_nil)) pe_int (nomark _))
        (pss_one (ps_set (i := 5) nd rfl (.inl rfl) (pe_methR (pv 1) T.tx.cl mp FP (hr.mono (by decide)) pass0 (pa_cons (pe_ix ix_tup (pv 3) pe_int (fun _ _ => rfl)) pa_nil))))
        (pss_one (ps_if (pt_cmpR op_eq (pe_callB c_len (by rfl) z_len (by decide +kernel) (pa_cons (pv 3) pa_nil)) pe_int (nomark _))
          (pss_one (ps_set (i := 5) nd rfl (.inl rfl) (pe_methR (pv 1) T.tx.cl mp FP (hr.mono (by decide)) pass0 (pa_cons (pe_ix ix_tup (pv 3) pe_int (fun _ _ => rfl)) (pa_cons (pe_ix ix_tup (pv 3) pe_int (fun _ _ => rfl)) pa_nil)))))
          (pss_one (ps_set (i := 5) nd rfl (.inl rfl) (pe_methR (pv 1) T.tx.cl mp FP (hr.mono (by decide)) pass0 (pa_cons (pe_ix ix_tup (pv 3) pe_int (fun _ _ => rfl)) (pa_cons (pe_ix ix_tup (pv 3) pe_int (fun _ _ => rfl)) (pa_cons (pe_ix ix_tup (pv 3) pe_int (fun _ _ => rfl)) pa_nil)))))))))
      (pss_cons (ps_dput hu (pv 2) pe_str (pe_op op_add (pv 4) pe_int) rfl)
      (pss_cons (ps_dput hu (pe_dget hu (pv 2) pe_str (fun _ _ => rfl)) (pv 4) (pv 3) rfl)
      (pss_one (ps_ret (pe_cmpR op_eq (pe_callB (call_repr qt hr.units) (by rfl) z_repr (by decide +kernel) (pa_cons (pv 5) pa_nil)) (pe_callB (call_repr qt hr.units) (by rfl) z_repr (by decide +kernel) (pa_cons (pv 4) pa_nil)) (nomark _))))))), ?_⟩
    have gm : DGet H q (.str "many") (some (.int many)) := by
      have z := DGet.k (k := Sum.inr "many") A0.md
      rw [mk_many] at z
      exact z
    walk_at "rd"
    refine k_dget ?_
    walk_at "rd"
    refine ⟨q, .int many, rfl, gm, ?_⟩
    walk_at "rd"
    refine ⟨d, c, b, many, rfl, D, by omega, by omega, m1, fun t ws H1 lw sw ht D1 x1 => ?_⟩
    have A1 := A0.keep x1 (A0.deck D)
    have gn : DGet H1 q (.str "next") (some (.int next)) := by
      have z := DGet.k (k := Sum.inr "next") A1.md
      rw [mk_next] at z
      exact z
    walk_at "rd"
    refine k_dget ?_
    walk_at "rd"
    refine ⟨q, .int next, rfl, gn, ?_⟩
    walk_at "rd"
    have after : ∀ (y : Addr) (H2 : Hp), H1 y = none → H2 = upd H1 y (.tup (ws.map V.int)) → ∀ H3, TableAt C H3 p dx dT (putR m next ws) (next + 1) → Tups H2 H3 → (∀ a o, a ≠ p → a ≠ dT → H2 a = some o → H3 a = some o) →
        H3 q = some (.dK (MK dk next many)) ∧ DictAt H3 dk m ∧ H3 t = some (.tup (ws.map V.int)) ∧ Ext (Both d c p dT q dk) H H3 ∧ Deck d c (b + 10) H3 := by
      intro y H2 hy e H3 T3 tu fr
      subst e
      obtain ⟨p1, p2, p3⟩ := A1.np
      have x2 : Ext (Of p dT q dk) (upd H1 y (.tup (ws.map V.int))) H3 := ⟨tu, fun a o na e => fr a o (fun z => na (.inl z)) (fun z => na (.inr (.inl z))) e⟩
      have q3 := fr q _ p2.symm A1.n1.symm (lk_new A1.md hy)
      have k3 : DictAt H3 dk m := (A1.kn.keep (tups_new hy) fun o e => lk_new e hy).keep tu fun o e => fr dk o p3.symm A1.n2.symm e
      have dd := A1.deck D1
      refine ⟨q3, k3, tu _ _ (lk_new ht hy), ((x1.mono fun a z => .inl z).trans (ext_new hy)).trans (x2.mono fun a z => .inr z), ?_⟩
      exact (D1.new hy).keep x2 (fun z => dd _ z (.inl rfl)) fun z => dd _ z (.inr rfl)
    refine ⟨fun σ' H' => ∃ ky : Option V, σ' = [some (.ref d), some (.ref p), some (.ref q), some (.ref t), some (.int next), some (.int next)] ∧ TableAt C H' p dx dT (putR m next ws) (next + 1) ∧
      H' q = some (.dK (MK dk next many)) ∧ DictAt H' dk m ∧ H' t = some (.tup (ws.map V.int)) ∧ Ext (Both d c p dT q dk) H H' ∧ Deck d c (b + 10) H', ?_, ?_⟩
    · have hc : ws.length = 1 ∨ ws.length = 2 ∨ ws.length = 3 := by omega
      have one : ∀ (H2 : Hp) (y : Addr), H1 y = none → H2 = upd H1 y (.tup (ws.map V.int)) → spPut C [V.ref p, V.ref y] H2 (fun v H' => v = .int next ∧ TableAt C H' p dx dT (putR m next ws) (next + 1) ∧
          H' q = some (.dK (MK dk next many)) ∧ DictAt H' dk m ∧ H' t = some (.tup (ws.map V.int)) ∧ Ext (Both d c p dT q dk) H H' ∧ Deck d c (b + 10) H') E0 := by
        intro H2 y hy e
        refine ⟨p, dx, dT, y, m, next, ws, rfl, ?_, ?_, by omega, fun H3 T3 tu fr => ⟨rfl, T3, after y H2 hy e H3 T3 tu fr⟩⟩
        · rw [e]
          exact (A1.same (Same.upd hy)).tb
        · rw [e]
          exact upd_same
      walk_at "rd"
      rcases hc with e | e | e
      · obtain ⟨x, rfl⟩ := List.length_eq_one_iff.mp e
        have ht1 : H1 t = some (.tup [.int x]) := ht
        clear ht
        refine k_iteD (fun _ => ?_) fun z => absurd rfl z
        walk_at "rd"
        refine ⟨_, rfl, p, dx, _, rfl, A1.tb.1, flds_no _ _ (by decide +kernel) (by decide +kernel), ?_⟩
        walk_at "rd"
        refine ⟨[.ref p], [.int x], rfl, rfl, k_sz rfl, fun y hy => spPut_mono (one _ y hy rfl) fun v H' z => ?_⟩
        obtain ⟨rfl, z⟩ := z
        exact k_gN ⟨none, rfl, z⟩
      · obtain ⟨x1, x2, rfl⟩ : ∃ x1 x2, ws = [x1, x2] := by
          match ws, e with
          | [a, b], _ => exact ⟨a, b, rfl⟩
        have ht1 : H1 t = some (.tup [.int x1, .int x2]) := ht
        clear ht
        refine k_iteD (fun z => by simp at z) fun _ => ?_
        walk_at "rd"
        refine k_iteD (fun _ => ?_) fun z => absurd rfl z
        walk_at "rd"
        refine ⟨_, rfl, p, dx, _, rfl, A1.tb.1, flds_no _ _ (by decide +kernel) (by decide +kernel), ?_⟩
        walk_at "rd"
        refine ⟨[.ref p], [.int x1, .int x2], rfl, rfl, k_sz rfl, fun y hy => spPut_mono (one _ y hy rfl) fun v H' z => ?_⟩
        obtain ⟨rfl, z⟩ := z
        exact k_gN ⟨none, rfl, z⟩
      · obtain ⟨x1, x2, x3, rfl⟩ : ∃ x1 x2 x3, ws = [x1, x2, x3] := by
          match ws, e with
          | [a, b, c], _ => exact ⟨a, b, c, rfl⟩
        have ht1 : H1 t = some (.tup [.int x1, .int x2, .int x3]) := ht
        clear ht
        refine k_iteD (fun z => by simp at z) fun _ => ?_
        walk_at "rd"
        refine k_iteD (fun z => by simp at z) fun _ => ?_
        walk_at "rd"
        refine ⟨_, rfl, p, dx, _, rfl, A1.tb.1, flds_no _ _ (by decide +kernel) (by decide +kernel), ?_⟩
        walk_at "rd"
        refine ⟨[.ref p], [.int x1, .int x2, .int x3], rfl, rfl, k_sz rfl, fun y hy => spPut_mono (one _ y hy rfl) fun v H' z => ?_⟩
        obtain ⟨rfl, z⟩ := z
        exact k_gN ⟨none, rfl, z⟩
    · rintro σ' H3 ⟨_, rfl, T3, q3, k3, t3, x3, D3⟩
      obtain ⟨kvs, hk, he⟩ := k3
      refine k_dput ?_
      walk_at "rd"
      refine ⟨q, _, rfl, DPut.k (k := Sum.inr "next") q3 (k_szL (show 3 < 100000 by decide)), ?_⟩
      rw [mk_put]
      have u1 : Tups H3 (upd H3 q (.dK (MK dk (next + 1) many))) := tups_upd q3 fun xs z => by cases z
      have hk4 : upd H3 q (.dK (MK dk (next + 1) many)) dk = some (.dK kvs) := by rw [upd_ne A1.n3.symm]; exact hk
      have gk : DGet (upd H3 q (.dK (MK dk (next + 1) many))) q (.str "known") (some (.ref dk)) := by
        have z := DGet.k (k := Sum.inr "known") (show upd H3 q (.dK (MK dk (next + 1) many)) q = some (.dK (MK dk (next + 1) many)) from upd_same)
        rw [mk_known] at z
        exact z
      walk_at "rd"
      refine k_dput ?_
      walk_at "rd"
      refine k_dget ?_
      walk_at "rd"
      refine ⟨q, .ref dk, rfl, gk, ?_⟩
      walk_at "rd"
      refine ⟨dk, _, rfl, DPut.k (k := Sum.inl next) hk4 (k_szL (by rw [he.length]; omega)), ?_⟩
      have u2 := u1.trans (tups_upd (o := .dK (putK kvs (Sum.inl next) (V.ref t))) hk4 fun xs z => by cases z)
      have np := A1.np
      have dd := A1.deck D1
      have x4 : Ext (Both d c p dT q dk) H3 (upd (upd H3 q (.dK (MK dk (next + 1) many))) dk (.dK (putK kvs (Sum.inl next) (V.ref t)))) :=
        (Ext.upd q3 (.inr (.inr (.inr (.inl rfl)))) fun xs z => by cases z).trans (Ext.upd hk4 (.inr (.inr (.inr (.inr rfl)))) fun xs z => by cases z)
      have D5 : Deck d c (b + 10) (upd (upd H3 q (.dK (MK dk (next + 1) many))) dk (.dK (putK kvs (Sum.inl next) (V.ref t)))) :=
        (D3.offL (H := H) (dd q (.inr (.inr (.inl rfl))))).offL (H := H) (dd dk (.inr (.inr (.inr rfl))))
      have A5 : PairAt C (upd (upd H3 q (.dK (MK dk (next + 1) many))) dk (.dK (putK kvs (Sum.inl next) (V.ref t)))) p dx dT q dk (putR m next ws) (next + 1) many := by
        refine ⟨T3.keep u2 (fun o e => ?_) (fun o e => ?_), ?_, ⟨_, upd_same, (he.put t3).ext u2⟩, A1.n1, A1.n2, A1.n3⟩
        · rw [upd_ne A1.n2, upd_ne A1.n1]
          exact e
        · rw [upd_ne np.2.2, upd_ne np.2.1]
          exact e
        · rw [upd_ne A1.n3]
          exact upd_same
      have nn : Num next := ⟨by omega, by omega⟩
      walk_at "rd"
      refine rr_int nn ?_
      walk_at "rd"
      refine rr_int nn ?_
      refine k_eq rfl ?_
      rw [decide_eq_true rfl]
      refine k (putR m next ws) _ A5 ((g.up (by omega)).put n0 (by omega) lw sw) put_len D5 (x3.trans x4)
end
end K21

set_option Elab.async false
set_option maxRecDepth 100000
set_option maxHeartbeats 4000000
set_option linter.unusedVariables false
namespace K21
open PySem PySem.Spec PyProof.Rows L2 Own
-- steps
local macro_rules | `(tactic| walk_at "lk") => `(tactic| first
  | assumption | exact upd_same
  | ((with_reducible refine' lk_new ?e (by assumption)); (case e => walk_at "lk"))
  | ((with_reducible refine' lk_ext (by assumption) ?e); (case e => walk_at "lk"))
  | ((with_reducible refine' lk_same (by assumption) ?e); (case e => walk_at "lk")))
local macro_rules | `(tactic| walk_at "sq") => `(tactic| first | assumption | exact SqL.of (by walk_at "lk") | exact SqT.of (by walk_at "lk"))
local macro_rules | `(tactic| walk_at "r1") => `(tactic| first
  | with_reducible refine k_seq ?_ | with_reducible refine k_asg ?_ | with_reducible refine k_ret ?_ | with_reducible refine k_drop ?_ | with_reducible refine k_next ?_ | with_reducible refine k_ifS ?_
  | ((with_reducible refine' k_var ?e ?_); (case e => exact rfl)) | with_reducible refine k_c ?_ | with_reducible refine k_op ?_ | with_reducible refine k_un ?_ | with_reducible refine k_test ?_ | with_reducible refine k_B ?_
  | with_reducible refine k_and ?_ | with_reducible refine k_or ?_ | with_reducible refine k_not ?_ | with_reducible refine k_andV ?_ | with_reducible refine k_orV ?_ | with_reducible refine k_notV ?_ | with_reducible refine k_if ?_
  | with_reducible refine k_nil ?_ | with_reducible refine k_cons ?_ | with_reducible refine k_tup ?_ | with_reducible refine k_lst ?_ | with_reducible refine k_call ?_ | with_reducible refine k_cb ?_ | with_reducible refine k_ck ?_
  | with_reducible refine k_par ?_ | with_reducible refine k_par1 ?_ | with_reducible refine k_tr ?_ | with_reducible refine k_rI0 ?_ | with_reducible refine k_rU ?_
  | with_reducible refine k_gN ?_ | with_reducible refine k_gS ?_ | with_reducible refine k_gNil ?_ | with_reducible refine k_gCons ?_ | with_reducible refine k_bm0 ?_ | with_reducible refine k_bm ?_
  | with_reducible refine k_for ?_ | with_reducible refine k_iL ?_ | with_reducible refine k_iT ?_ | with_reducible refine k_iR1 ?_ | ((with_reducible refine k_iR1i ?e ?_); (case e => first | decide | exact ⟨by omega, by omega⟩))
  | with_reducible refine k_max ?_ | with_reducible refine k_isB ?_ | with_reducible refine k_sl ?_ | with_reducible refine k_noP ?_ | with_reducible refine k_part ?_ | with_reducible refine k_partI ?_ | with_reducible refine k_revL ?_
  | ((with_reducible refine' k_ixqT ?e ?f ?_); (case e => walk_at "sq"); (case f => first | exact rfl | exact atI_head))
  | ((with_reducible refine' k_ixqL ?e ?f ?_); (case e => walk_at "sq"); (case f => first | exact rfl | exact atI_head))
  | ((with_reducible refine' k_lenL ?e ?_); (case e => walk_at "sq"))
  | ((with_reducible refine' k_lenT ?e ?_); (case e => walk_at "sq"))
  | ((with_reducible refine' k_ixL ?e ?f ?_); (case e => walk_at "sq"); (case f => first | exact rfl | exact atI_head))
  | ((with_reducible refine' k_ixT ?e ?f ?_); (case e => walk_at "sq"); (case f => first | exact rfl | exact atI_head))
  | ((with_reducible refine k_eq ?e ?_); (case e => exact rfl)) | ((with_reducible refine k_ne ?e ?_); (case e => exact rfl))
  | ((with_reducible refine k_rI ?e ?_); (case e => first | assumption | omega | decide | exact ⟨by omega, by omega⟩ | exact .inl ⟨by omega, by omega⟩ | exact .inr ⟨by omega, by omega⟩)))
local macro_rules | `(tactic| walk_at "rd") => `(tactic| repeat walk_at "r1")
-- steps end
theorem k_din {ty td : TE} {σ : L2.St} {H : Hp} {Q : VK} (h : ty σ H fun y H1 => td σ H1 fun x H2 => ∃ a o, x = .ref a ∧ DGet H2 a y o ∧ Q (.bl o.isSome) H2) : tDIn ty td σ H Q := h
theorem PairAt.gk {C : Addr} {H : Hp} {p dx dT q dk : Addr} {m : Rows} {next many : Int} (A : PairAt C H p dx dT q dk m next many) : DGet H q (.str "known") (some (.ref dk)) := by
  have z := DGet.k (k := Sum.inr "known") A.md
  rw [mk_known] at z
  exact z
theorem PairAt.gn {C : Addr} {H : Hp} {p dx dT q dk : Addr} {m : Rows} {next many : Int} (A : PairAt C H p dx dT q dk m next many) : DGet H q (.str "next") (some (.int next)) := by
  have z := DGet.k (k := Sum.inr "next") A.md
  rw [mk_next] at z
  exact z
theorem PairAt.gm {C : Addr} {H : Hp} {p dx dT q dk : Addr} {m : Rows} {next many : Int} (A : PairAt C H p dx dT q dk m next many) : DGet H q (.str "many") (some (.int many)) := by
  have z := DGet.k (k := Sum.inr "many") A.md
  rw [mk_many] at z
  exact z
/-- in of the model's dict -/
theorem DictAt.in_ {H : Hp} {d : Addr} {m : Rows} (D : DictAt H d m) (n : Int) : ∃ o : Option V, DGet H d (.int n) o ∧ o.isSome = hasR m n := by
  obtain ⟨kvs, hk, he⟩ := D
  exact ⟨_, DGet.k (k := Sum.inl n) hk, he.some⟩
theorem DictAt.get {H : Hp} {d : Addr} {m : Rows} (D : DictAt H d m) {n : Int} (h : hasR m n = true) : ∃ t, DGet H d (.int n) (some (.ref t)) ∧ H t = some (.tup ((getR m n).map V.int)) := by
  obtain ⟨kvs, hk, he⟩ := D
  obtain ⟨t, hv, ht⟩ := he.get h
  have z := DGet.k (k := Sum.inl n) hk
  rw [hv] at z
  exact ⟨t, z, ht⟩
theorem get_mem {m : Rows} (nd : (keysR m).Nodup) {k : Int} (h : k ∈ keysR m) : (k, getR m k) ∈ m := by
  unfold getR
  cases e : m.find? (fun r => decide (r.1 = k)) with
  | none =>
    obtain ⟨r, hr, er⟩ := List.mem_map.mp h
    have := List.find?_eq_none.mp e r hr
    simp [er] at this
  | some r =>
    have h1 := List.mem_of_find?_eq_some e
    have h2 : r.1 = k := by simpa using List.find?_some e
    rw [← h2]
    exact h1
section
variable {P : Program} {w : World} {K : PySem.W.Frag} {mg : Str → Option Value} {g0 : Heap} {C N : Addr}
def spAlike (C : Addr) : Sp := fun vs H Q _ => ∃ (p dx dT q dk : Addr) (m : Rows) (next many : Int), vs = [.ref p, .ref q] ∧ PairAt C H p dx dT q dk m next many ∧ many ≤ 3 ∧
  Good m next many ∧ 0 ≤ next ∧ next ≤ 1000000 ∧ m.length < 64 ∧ ∀ (H' : Hp), Same H H' → Q (.bl true) H'
theorem ok_alike {f : Addr} {fd : FuncData} (F : Fun K "_law_alike" "_law_alike" s_alike f fd) (T : Cl P w K mg g0 C N) (z_tuple : mg "tuple" = none) (z_sorted : mg "sorted" = none) (z_set : mg "set" = none) (z_len : mg "len" = none) (z_repr : mg "repr" = none) (z_range : mg "range" = none) :
    GOk P w K mg g0 CX0 3 f fd ["_law_table", "_law_model"] (spAlike C) := by
  have nd := sc_alike.nd
  obtain ⟨fi, i1, i2, FI⟩ := T.cin
  obtain ⟨fl, j1, j2, FL⟩ := T.len
  obtain ⟨pr, fr, fdr, pR, FR, bR⟩ := T.rows
  refine okG F sc_alike (fun vs H Q E h => ?_) (fun cdv A up s H vs Q E qt hr h => ?_)
  · obtain ⟨p, dx, dT, q, dk, m, next, many, rfl, _⟩ := h
    rfl
  · obtain ⟨p, dx, dT, q, dk, m, next, many, rfl, A0, hm, g, n0, n1, ml, k⟩ := h
    have hu := hu_of hr
    refine ⟨_, pss_cons (ps_set (i := 2) nd rfl (.inr rfl) (pe_dget hu (pv 1) pe_str (fun _ _ => rfl)))
      (pss_cons (ps_set (i := 3) nd rfl (.inl rfl) (pe_callTy call_tuple_of (by rfl) z_tuple (by decide +kernel) (pa_cons
        (pe_lc (own := [("_law_place", 4)]) (te := tTup (tCons (tVar 4) (tCons (tDGet (tVar 2) (tVar 4)) tNil))) (by rfl) nd
          (pi_list (pe_callB (cr_sortedSet rfl) (by rfl) z_sorted (by decide +kernel) (pa_cons (pe_callTy call_setD (by rfl) z_set (by decide +kernel) (pa_cons (pv 2) pa_nil)) pa_nil)))
          (blkOk_by (own := [("_law_place", 4)]) (N := ["_law_table", "_law_model", "_law_known", "_law_due", "_law_place"]) (sc := defScope s_alike) (by decide +kernel))
          (fun _ _ _ _ _ => pg_name (i := 4) nd rfl (.inl rfl)) (fun _ _ _ _ _ => pts_nil)
          (fun _ _ _ _ _ => by exact (pe_tup (pa_cons (pv 4) (pa_cons (pe_dget hu (pv 2) (pv 4) (fun _ _ => rfl)) pa_nil))))) pa_nil)))
      (Evl.pss_cut (ps_if (PW.pt (pw_or (pt_cmpR op_ne (pe_callB (call_repr qt hr.units) (by rfl) z_repr (by decide +kernel) (pa_cons (pe_prop (pv 0) T.tx.cl pR FR (hr.mono (by decide)) bR .nil pass0 rfl) pa_nil))
          (pe_callB (call_repr qt hr.units) (by rfl) z_repr (by decide +kernel) (pa_cons (pv 3) pa_nil)) (nomark _))
        (pw_or1 (pt_cmpR op_ne (pe_callB (call_lenO j1 j2 FL (hr.mono (by decide)) pass0) (by rfl) z_len (by decide +kernel) (pa_cons (pv 0) pa_nil)) (pe_callB call_lenD (by rfl) z_len (by decide +kernel) (pa_cons (pv 2) pa_nil)) (nomark _))))) (pss_one (ps_ret pe_bl)) pss_nil)
      (pss_cons (ps_for PassesOwn.never rfl (pi_range1 (by rfl) z_range (pa_cons (pe_op op_add (pe_dget hu (pv 1) pe_str (fun _ _ => rfl)) pe_int) pa_nil)) (pg_name (i := 4) nd rfl (.inl rfl))
        (pss_one (ps_if (pt_cmpR op_ne (pe_cmpR (op_inO i1 i2 FI (hr.mono (by decide)) pass0) (pv 4) (pv 0) (by rfl)) (pe_cmp (pc_din hu (pv 4) (pv 2))) (nomark _)) (pss_one (ps_ret pe_bl)) pss_nil)))
      (pss_one (ps_ret pe_bl))))), ?_⟩
    walk_at "rd"
    refine k_dget ?_
    walk_at "rd"
    refine ⟨q, .ref dk, rfl, A0.gk, ?_⟩
    walk_at "rd"
    have hkn := A0.kn
    obtain ⟨kvs, hk, he⟩ := id hkn
    unfold tLc
    walk_at "rd"
    have lk : (keysR m).length = m.length := by unfold keysR; rw [List.length_map]
    refine ⟨dk, kvs, keysR m, rfl, hk, he.keys, by omega, fun S c hS hc => ?_⟩
    walk_at "rd"
    refine ⟨S, _, c, rfl, upd_same, by omega, fun ns l srt mem hlen hl => ?_⟩
    have asc : Asc ns m := ⟨srt, fun k => (mem k).trans decide_eq_true_iff⟩
    have s1 := (Same.upd (o := SetO w S (fun j => decide (j ∈ keysR m)) c) hS).trans (Same.upd (o := .lst (ns.map V.int)) hl)
    have hl1 : upd (upd H S (SetO w S (fun j => decide (j ∈ keysR m)) c)) l (.lst (ns.map V.int)) l = some (.lst (ns.map V.int)) := upd_same
    have lns : ns.length < 64 := by omega
    generalize hG : upd (upd H S (SetO w S (fun j => decide (j ∈ keysR m)) c)) l (.lst (ns.map V.int)) = H1 at s1 hl1
    have hG' : upd (upd H S (SetO (cxOf CX0 P w K mg g0 ["_law_table", "_law_model", "_law_known", "_law_due", "_law_place"] "_law_alike" (defScope s_alike) f cdv A up s H E).nox.w S (fun j => decide (j ∈ keysR m)) c)) l (.lst (ns.map V.int)) = H1 := hG
    rw [hG']
    clear hG hG'
    refine ⟨l, rfl, ⟨_, SqL.of hl1⟩, fun D hD => ?_⟩
    refine lc_list (xs := ns.map V.int) (fun i H' => Same H1 H' ∧ ∃ ts : List Addr, ts.length = i ∧ H' D = some (.lst (ts.map V.ref)) ∧ Paired (RowAt H') ts ((ns.take i).map fun n => (n, getR m n)))
      ⟨Same.upd hD, [], rfl, upd_same, .nil⟩ (fun i H' _ h => SqL.of (h.1 _ _ hl1)) (fun i x H' hx h => ?_) (fun H' h => ?_)
    · obtain ⟨s2, ts, hts, hDl, hpr⟩ := h
      rw [List.getElem?_map] at hx
      obtain ⟨n, hn, rfl⟩ := Option.map_eq_some_iff.mp hx
      have s3 := s1.trans s2
      have hh : hasR m n = true := hasR_iff.mpr ((asc.2 n).mp (List.mem_of_getElem? hn))
      obtain ⟨t, hg, ht⟩ := (A0.same s3).kn.get hh
      refine ⟨rfl, k_yes ?_⟩
      walk_at "rd"
      refine k_dget ?_
      walk_at "rd"
      refine ⟨dk, V.ref t, rfl, hg, ?_⟩
      walk_at "rd"
      refine ⟨k_sz rfl, fun y hy => ?_⟩
      have x4 : Tups H' (upd H' y (.tup [V.int n, V.ref t])) := tups_new hy
      have lD : (upd H' y (.tup [V.int n, V.ref t])) D = some (.lst (ts.map V.ref)) := lk_new hDl hy
      have hi : i < ns.length := (List.getElem?_eq_some_iff.mp hn).1
      have x5 : Tups (upd H' y (.tup [V.int n, V.ref t])) (upd (upd H' y (.tup [V.int n, V.ref t])) D (.lst ((ts ++ [y]).map V.ref))) := tups_upd lD fun xs z => by cases z
      refine ⟨ts.map V.ref, lD, k_szL (by rw [List.length_map, hts]; omega), ?_⟩
      have e1 : ts.map V.ref ++ [V.ref y] = (ts ++ [y]).map V.ref := by simp
      rw [e1]
      refine ⟨same_off (s2.trans (Same.upd hy)) hD, ts ++ [y], by simp [hts], upd_same, ?_⟩
      rw [List.take_add_one, hn]
      rw [show some n = ([n] : List Int)[0]? from rfl, show (([n] : List Int)[0]?).toList = [n] from rfl, show (List.take i ns ++ [n]).map (fun n => (n, getR m n)) = (List.take i ns).map (fun n => (n, getR m n)) ++ [(n, getR m n)] from by simp]
      refine Paired.snoc (Paired.mapP hpr fun a b h => h.keep (x4.trans x5)) ⟨t, ?_, ?_⟩
      · exact x5 _ _ upd_same
      · exact x5 _ _ (x4 _ _ ht)
    · obtain ⟨s2, ts, hts, hDl, hpr⟩ := h
      rw [List.length_map, List.take_length] at hpr
      walk_at "rd"
      refine ⟨D, _, rfl, .inl ⟨SqL.of hDl, fun u hu' => ?_⟩⟩
      have x6 : Tups H' (upd H' u (.tup (ts.map V.ref))) := tups_new hu'
      have s4 := (s1.trans s2).trans (Same.upd (o := .tup (ts.map V.ref)) hu')
      have rT : RowsT (upd H' u (.tup (ts.map V.ref))) u (ns.map fun n => (n, getR m n)) := ⟨ts, upd_same, Paired.mapP hpr fun a b h => h.keep x6⟩
      generalize upd H' u (.tup (ts.map V.ref)) = H2 at s4 rT
      have A2 := A0.same s4
      walk_at "rd"
      have fp : ∀ r ∈ ns.map fun n => (n, getR m n), Num r.1 ∧ r.2.length ≤ 3 ∧ ∀ v ∈ r.2, Num v := by
        intro r hr
        obtain ⟨n, hn, rfl⟩ := List.mem_map.mp hr
        exact good_num g n1 hm _ (get_mem g.nd ((asc.2 n).mp hn))
      have lp : (ns.map fun n => (n, getR m n)).length ≤ 1000 := by rw [List.length_map]; omega
      refine ⟨fun σ' H' => σ' = [some (.ref p), some (.ref q), some (.ref dk), some (.ref u), none] ∧ Same H H', ?_, ?_⟩
      · walk_at "rd"
        refine ⟨_, rfl, p, dx, _, rfl, A2.tb.1, p, dx, dT, m, next, rfl, A2.tb, g.nd, ml, fun ns' u' H3 asc' s5 out => ?_⟩
        obtain rfl : ns' = ns := asc_same asc'.1 asc.1 fun k => (asc'.2 k).trans (asc.2 k).symm
        walk_at "rd"
        refine rr_rows out lp fp ?_
        walk_at "rd"
        refine rr_rows (rT.keep (Tups.same s5)) lp fp ?_
        walk_at "rd"
        refine k_ite (fun z => by simp at z) fun _ => ?_
        have A3 := A2.same s5
        obtain ⟨kvs3, hk3, he3⟩ := id A3.kn
        walk_at "rd"
        refine ⟨p, dx, _, rfl, A3.tb.1, p, dx, dT, m, next, rfl, A3.tb, _, rfl, Nat.le_of_lt (k_szL (n := m.length) (by omega)), ?_⟩
        walk_at "rd"
        refine ⟨dk, kvs3, rfl, hk3, ?_⟩
        rw [he3.length]
        walk_at "rd"
        refine k_ite (fun z => by simp at z) fun _ => ?_
        walk_at "rd"
        exact ⟨rfl, s4.trans s5⟩
      · rintro σ' H3 ⟨rfl, s5⟩
        have A3 := A0.same s5
        walk_at "rd"
        refine k_dget ?_
        walk_at "rd"
        refine ⟨q, .int next, rfl, A3.gn, ?_⟩
        walk_at "rd"
        let Pv : Nat → L2.St → Hp → Prop := fun i σ H' => Same H H' ∧ ∃ o : Option V, σ = [some (.ref p), some (.ref q), some (.ref dk), some (.ref u), o]
        refine ⟨_, rfl, by omega, by omega, for_range (lo := 0) (n := (next + 2).toNat) Pv ⟨s5, _, rfl⟩ (fun i σ H4 hi h => ?_) (fun σ H4 h => ?_)⟩
        · obtain ⟨s6, o, rfl⟩ := h
          have A4 := A0.same s6
          obtain ⟨ov, hov, eov⟩ := A4.kn.in_ (0 + i)
          walk_at "rd"
          refine ⟨p, dx, _, rfl, A4.tb.1, p, dx, dT, m, next, _, rfl, A4.tb, _, rfl, ?_⟩
          walk_at "rd"
          refine k_din ?_
          walk_at "rd"
          refine ⟨dk, ov, rfl, hov, ?_⟩
          rw [eov]
          walk_at "rd"
          refine k_ite (fun z => by simp at z) fun _ => ?_
          walk_at "rd"
          exact ⟨s6, _, rfl⟩
        · obtain ⟨s6, o, rfl⟩ := h
          walk_at "rd"
          exact k _ s6
end
end K21

set_option Elab.async false
set_option maxRecDepth 100000
set_option maxHeartbeats 4000000
set_option linter.unusedVariables false
namespace K21
open PySem PySem.Spec PyProof.Rows L2 Own
-- steps
local macro_rules | `(tactic| walk_at "lk") => `(tactic| first
  | assumption | exact upd_same
  | ((with_reducible refine' lk_new ?e (by assumption)); (case e => walk_at "lk"))
  | ((with_reducible refine' lk_ext (by assumption) ?e); (case e => walk_at "lk"))
  | ((with_reducible refine' lk_same (by assumption) ?e); (case e => walk_at "lk")))
local macro_rules | `(tactic| walk_at "sq") => `(tactic| first | assumption | exact SqL.of (by walk_at "lk") | exact SqT.of (by walk_at "lk"))
local macro_rules | `(tactic| walk_at "r1") => `(tactic| first
  | with_reducible refine k_seq ?_ | with_reducible refine k_asg ?_ | with_reducible refine k_ret ?_ | with_reducible refine k_drop ?_ | with_reducible refine k_next ?_ | with_reducible refine k_ifS ?_
  | ((with_reducible refine' k_var ?e ?_); (case e => exact rfl)) | with_reducible refine k_c ?_ | with_reducible refine k_op ?_ | with_reducible refine k_un ?_ | with_reducible refine k_test ?_ | with_reducible refine k_B ?_
  | with_reducible refine k_and ?_ | with_reducible refine k_or ?_ | with_reducible refine k_not ?_ | with_reducible refine k_andV ?_ | with_reducible refine k_orV ?_ | with_reducible refine k_notV ?_ | with_reducible refine k_if ?_
  | with_reducible refine k_nil ?_ | with_reducible refine k_cons ?_ | with_reducible refine k_tup ?_ | with_reducible refine k_lst ?_ | with_reducible refine k_call ?_ | with_reducible refine k_cb ?_ | with_reducible refine k_ck ?_
  | with_reducible refine k_par ?_ | with_reducible refine k_par1 ?_ | with_reducible refine k_tr ?_ | with_reducible refine k_rI0 ?_ | with_reducible refine k_rU ?_
  | with_reducible refine k_gN ?_ | with_reducible refine k_gS ?_ | with_reducible refine k_gNil ?_ | with_reducible refine k_gCons ?_ | with_reducible refine k_bm0 ?_ | with_reducible refine k_bm ?_
  | with_reducible refine k_for ?_ | with_reducible refine k_iL ?_ | with_reducible refine k_iT ?_ | with_reducible refine k_iR1 ?_ | ((with_reducible refine k_iR1i ?e ?_); (case e => first | decide | exact ⟨by omega, by omega⟩))
  | with_reducible refine k_max ?_ | with_reducible refine k_isB ?_ | with_reducible refine k_sl ?_ | with_reducible refine k_noP ?_ | with_reducible refine k_part ?_ | with_reducible refine k_partI ?_ | with_reducible refine k_revL ?_
  | ((with_reducible refine' k_ixqT ?e ?f ?_); (case e => walk_at "sq"); (case f => first | exact rfl | exact atI_head))
  | ((with_reducible refine' k_ixqL ?e ?f ?_); (case e => walk_at "sq"); (case f => first | exact rfl | exact atI_head))
  | ((with_reducible refine' k_lenL ?e ?_); (case e => walk_at "sq"))
  | ((with_reducible refine' k_lenT ?e ?_); (case e => walk_at "sq"))
  | ((with_reducible refine' k_ixL ?e ?f ?_); (case e => walk_at "sq"); (case f => first | exact rfl | exact atI_head))
  | ((with_reducible refine' k_ixT ?e ?f ?_); (case e => walk_at "sq"); (case f => first | exact rfl | exact atI_head))
  | ((with_reducible refine k_eq ?e ?_); (case e => exact rfl)) | ((with_reducible refine k_ne ?e ?_); (case e => exact rfl))
  | ((with_reducible refine k_rI ?e ?_); (case e => first | assumption | omega | decide | exact ⟨by omega, by omega⟩ | exact .inl ⟨by omega, by omega⟩ | exact .inr ⟨by omega, by omega⟩)))
local macro_rules | `(tactic| walk_at "rd") => `(tactic| repeat walk_at "r1")
-- steps end
theorem k_isN {ta : TE} {σ : L2.St} {H : Hp} {Q : VK} (h : ta σ H fun x H1 => Q (.bl (decide (x = .non))) H1) : tIsN ta σ H Q := h
def gD : List Value → List Value → List Value := fun us ws => us ++ ws
def gDV : List V → List V → List V := fun us ws => us ++ ws
def gC : List Value → List Value → List Value := fun us ws => us ++ ws.reverse
def gCV : List V → List V → List V := fun us ws => us ++ ws.reverse
/-- what the law needs of the table's methods that may raise -/
structure Ref (P : Program) (w : World) (K : PySem.W.Frag) (mg : Str → Option Value) (g0 : Heap) (C N Wk Tb : Addr) : Prop where
  cl : Cl P w K mg g0 C N
  gN : mg "NoRow" = some (.ref N)
  gW : mg "WakeError" = some (.ref Wk)
  gT : mg "NoTable" = some (.ref Tb)
  self : PySem.W.exmOne K (.ref N) (.ref N) = some true
  is1 : PySem.W.kitOne K (.ref N) (.ref Wk) = some true
  is2 : PySem.W.kitOne K (.ref N) (.type "ValueError") = some true
  is3 : PySem.W.kitOne K (.ref N) (.ref Tb) = some false
  ec : ExcC K N
  xf : XfC K N
  n1 : PySem.W.findIn K (.ref N) "name" = some none
  n2 : PySem.W.findIn K (.ref N) "number" = some none
  chg : ∃ f fd, Meth K C "change" f ∧ FnOk P w K mg g0 (L2.CX P w) 3 f fd ["self", "number", "values"] (spChange C N) ∧ Binds K fd ["self", "number", "values"] [] ∧ KBn K fd ["self", "number", "values"] 1 ["values", "number"] gC gCV
  drp : ∃ f fd, Meth K C "drop" f ∧ FnOk P w K mg g0 (L2.CX P w) 3 f fd ["self", "number"] (spDrop C N) ∧ Binds K fd ["self", "number"] [] ∧ KBn K fd ["self", "number"] 1 ["number"] gD gDV
abbrev NoF (n : Int) : List (Str × V) := [(("number" : Str), V.int n), (("name" : Str), V.str "")]
theorem nof_name (n : Int) : (NoF n).lookup (Str.ofString "name") = some (V.str "") := by
  have h : ((Str.ofString "name") == Str.ofString "number") = false := by decide +kernel
  have h2 : ((Str.ofString "name") == Str.ofString "name") = true := by decide +kernel
  simp only [List.lookup, h, h2]
theorem nof_number (n : Int) : (NoF n).lookup (Str.ofString "number") = some (V.int n) := by
  have h2 : ((Str.ofString "number") == Str.ofString "number") = true := by decide +kernel
  simp only [List.lookup, h2]
def After (H : Hp) (fr : V) (m : Rows) (n : Int) (m' : Rows) : Prop := (fr = .non ∧ m' = dropR m n) ∨ ∃ t ws, fr = .ref t ∧ H t = some (.tup (ws.map V.int)) ∧ m' = putR m n ws
section
variable {P : Program} {w : World} {K : PySem.W.Frag} {mg : Str → Option Value} {g0 : Heap} {C N Wk Tb : Addr}
def tTryB (C N : Addr) : WX → TS := fun W D σ H => ∃ (p dx dT r0 : Addr) (m m' : Rows) (next n : Int) (fr : V), σ = [some (.ref p), some (.int n), some fr, some (.ref r0), none, none, none] ∧ TableAt C H p dx dT m next ∧ m.length ≤ 1000 ∧ After H fr m n m' ∧
  (hasR m n = true → ∀ r H', TableAt C H' p dx dT m' next → Ext (fun a => a = dT) H H' → H' r = some (.tup [.str "none"]) → D.nx [some (.ref p), some (.int n), some fr, some (.ref r), none, some .non, none] H') ∧
  (hasR m n = false → ∀ d H', Same H H' → H d = none → H' d = some (.xd (NoF n)) → W (.ref N) (some d) σ H')
def tTryS (N : Addr) : Addr → Value → Option Addr → TS := fun a cls d D σ H => ∃ (p r0 dd : Addr) (n : Int) (fr : V), σ = [some (.ref p), some (.int n), some fr, some (.ref r0), some (.ref a), none, none] ∧ cls = .ref N ∧ d = some dd ∧ H dd = some (.xd (NoF n)) ∧
  ∀ r, H r = none → D.nx [some (.ref p), some (.int n), some fr, some (.ref r), some (.ref a), none, some (.bl true)] (upd H r (.tup [.str "", .int n]))
def spRefused (C : Addr) : Sp := fun vs H Q _ => ∃ (p dx dT : Addr) (m m' : Rows) (next n : Int) (fr : V), vs = [.ref p, .int n, fr] ∧ TableAt C H p dx dT m next ∧ m.length ≤ 1000 ∧ After H fr m n m' ∧
  (hasR m n = true → ∀ r H', TableAt C H' p dx dT m' next → Ext (fun a => a = dT) H H' → H' r = some (.tup [.str "none"]) → Q (.ref r) H') ∧
  (hasR m n = false → ∀ r H', Same H H' → H' r = some (.tup [.str "", .int n]) → Q (.ref r) H')
theorem ok_refused {f : Addr} {fd : FuncData} (F : Fun K "_law_refused" "_law_refused" s_refused f fd) (T : Ref P w K mg g0 C N Wk Tb) (z_isi : mg "isinstance" = none) (z_ve : mg "ValueError" = none) :
    GOk P w K mg g0 CX0 4 f fd ["_law_table", "_law_place", "_law_fresh"] (spRefused C) := by
  have nd := sc_refused.nd
  obtain ⟨fc, fdc, mC, FC, bC, kbC⟩ := T.chg
  obtain ⟨fe, fde, mD, FD, bD, kbD⟩ := T.drp
  refine okG F sc_refused (fun vs H Q E h => ?_) (fun cdv A up s H vs Q E qt hr h => ?_)
  · obtain ⟨p, dx, dT, m, m', next, n, fr, rfl, _⟩ := h
    rfl
  · obtain ⟨p, dx, dT, m, m', next, n, fr, rfl, T0, hl, af, k1, k2⟩ := h
    have hu := hu_of hr
    refine ⟨_, pss_cons (ps_set (i := 3) nd rfl (.inl rfl) (pe_tup (pa_cons pe_str pa_nil)))
      (pss_cons (ps_try_as (i := 4) (tb := tTryB C N) (ts := tTryS N) (Wout := fun _ _ _ _ => False) rfl rfl nd rfl rfl ⟨rfl, by decide, Or.inl T.gN⟩ takes0
        (fun W pn xe tk _ => PSs_imp (Evl.pss_cut (ps_if (pt_cmp (pc_isN (pv 2)))
            (pss_one (ps_set (i := 5) nd rfl (.inl rfl) (pe_ifExp (pt_cmpR op_eq (pe_op op_mod (pv 1) pe_int) pe_int (nomark _))
              (pe_ms (E := fun σ => WE W σ) (pv 0) T.cl.tx.cl mD FD (hr.mono (by decide)) bD (fun σ => passAt tk σ) (pa_cons (pv 1) pa_nil))
              (pe_mk0 (E := fun σ => WE W σ) (pv 0) T.cl.tx.cl mD FD (hr.mono (by decide)) kbD (fun σ => passAt tk σ) (pk_cons (pv 1) pk_nil)))))
            (pss_one (ps_set (i := 5) nd rfl (.inl rfl) (pe_ifExp (pt_cmpR op_eq (pe_op op_mod (pv 1) pe_int) pe_int (nomark _))
              (pe_ms (E := fun σ => WE W σ) (pv 0) T.cl.tx.cl mC FC (hr.mono (by decide)) bC (fun σ => passAt tk σ) (pa_cons (pv 1) (pa_cons (pv 2) pa_nil)))
              (pe_mk0 (E := fun σ => WE W σ) (pv 0) T.cl.tx.cl mC FC (hr.mono (by decide)) kbC (fun σ => passAt tk σ) (pk_cons (pv 2) (pk_cons (pv 1) pk_nil)))))))
          (pss_one (ps_set (i := 3) nd rfl (.inl rfl) (pe_ifExp (pt_cmp (pc_isN (pv 5))) (pe_tup (pa_cons pe_str pa_nil)) (pv 3))))) (fun D σ H h => by
            obtain ⟨p, dx, dT, r0, m, m', next, n, fr, rfl, T0, hl, af, k1, k2⟩ := h
            refine ⟨fun σ' H' => σ' = [some (.ref p), some (.int n), some fr, some (.ref r0), none, some .non, none] ∧ hasR m n = true ∧ TableAt C H' p dx dT m' next ∧ Ext (fun a => a = dT) H H', ?_, ?_⟩
            · rcases af with ⟨rfl, rfl⟩ | ⟨t, ws, rfl, ht, rfl⟩
              · walk_at "rd"
                refine k_isN ?_
                walk_at "rd"
                refine k_iteD (fun _ => ?_) fun z => absurd rfl z
                walk_at "rd"
                refine k_iteD (fun _ => ?_) fun _ => ?_
                · walk_at "rd"
                  refine ⟨_, rfl, p, dx, _, rfl, T0.1, flds_no _ _ (by decide +kernel) (by decide +kernel), ?_⟩
                  walk_at "rd"
                  refine ⟨p, dx, dT, m, next, n, rfl, T0, hl, fun hh H' T1 tu ke => k_gN ⟨rfl, hh, T1, tu, fun b o nb e => ke b o nb e⟩, fun hh d H' s1 h0 hd => k2 hh d H' s1 h0 hd⟩
                · walk_at "rd"
                  refine ⟨_, rfl, p, dx, _, rfl, T0.1, flds_no _ _ (by decide +kernel) (by decide +kernel), ?_⟩
                  walk_at "rd"
                  refine ⟨rfl, rfl, ?_⟩
                  refine ⟨p, dx, dT, m, next, n, rfl, T0, hl, fun hh H' T1 tu ke => k_gN ⟨rfl, hh, T1, tu, fun b o nb e => ke b o nb e⟩, fun hh d H' s1 h0 hd => k2 hh d H' s1 h0 hd⟩
              · walk_at "rd"
                refine k_isN ?_
                walk_at "rd"
                refine k_iteD (fun z => by cases z) fun _ => ?_
                walk_at "rd"
                refine k_iteD (fun _ => ?_) fun _ => ?_
                · walk_at "rd"
                  refine ⟨_, rfl, p, dx, _, rfl, T0.1, flds_no _ _ (by decide +kernel) (by decide +kernel), ?_⟩
                  walk_at "rd"
                  refine ⟨p, dx, dT, t, m, next, n, ws, rfl, T0, ht, hl, fun hh H' T1 tu ke => k_gN ⟨rfl, hh, T1, tu, fun b o nb e => ke b o nb e⟩, fun hh d H' s1 h0 hd => k2 hh d H' s1 h0 hd⟩
                · walk_at "rd"
                  refine ⟨_, rfl, p, dx, _, rfl, T0.1, flds_no _ _ (by decide +kernel) (by decide +kernel), ?_⟩
                  walk_at "rd"
                  refine ⟨rfl, rfl, ?_⟩
                  refine ⟨p, dx, dT, t, m, next, n, ws, rfl, T0, ht, hl, fun hh H' T1 tu ke => k_gN ⟨rfl, hh, T1, tu, fun b o nb e => ke b o nb e⟩, fun hh d H' s1 h0 hd => k2 hh d H' s1 h0 hd⟩
            · rintro σ' H1 ⟨rfl, hh, T1, x1⟩
              walk_at "rd"
              refine k_isN ?_
              walk_at "rd"
              refine k_iteD (fun _ => ?_) fun z => absurd rfl z
              walk_at "rd"
              refine ⟨k_sz rfl, fun r hr => ?_⟩
              walk_at "rd"
              exact k1 hh r _ (T1.keep (tups_new hr) (fun o e => lk_new e hr) fun o e => lk_new e hr) (x1.trans (ext_new hr)) upd_same))
        (fun a oe cls d pn hz hf => PSs_imp (pss_cons (ps_set (i := 6) nd rfl (.inl rfl)
            (pe_and (pe_callB (call_isEF T.ec hz hf) (by rfl) z_isi (by decide +kernel) (pa_cons (pv 4) (pa_cons (pe_glob (v := .ref Wk) (by rfl) T.gW rfl) pa_nil)))
            (pe_and (pe_callB (call_isEF T.ec hz hf) (by rfl) z_isi (by decide +kernel) (pa_cons (pv 4) (pa_cons (pe_bltn (v := .ty "ValueError") (by rfl) z_ve (by decide +kernel) rfl) pa_nil)))
            (pe_one (pe_not (pe_callB (call_isEF T.ec hz hf) (by rfl) z_isi (by decide +kernel) (pa_cons (pv 4) (pa_cons (pe_glob (v := .ref Tb) (by rfl) T.gT rfl) pa_nil))))))))
          (pss_one (ps_set (i := 3) nd rfl (.inl rfl) (pe_ifExp (pt_val (pv 6)) (pe_tup (pa_cons (pe_xf T.xf T.n1 hz hf (pv 4)) (pa_cons (pe_xf T.xf T.n2 hz hf (pv 4)) pa_nil))) (pe_tup (pa_cons pe_str pa_nil)))))) (fun D σ H h => by
            obtain ⟨p, r0, dd, n, fr, rfl, rfl, rfl, hd, k⟩ := h
            walk_at "rd"
            refine ⟨dd, _, .ref Wk, .ref Wk, true, rfl, rfl, hd, rfl, fun u h => h, T.is1, ?_⟩
            walk_at "rd"
            refine iteT ?_
            walk_at "rd"
            refine ⟨dd, _, .ty "ValueError", .type "ValueError", true, rfl, rfl, hd, rfl, fun u h => h, T.is2, ?_⟩
            walk_at "rd"
            refine iteT ?_
            walk_at "rd"
            refine ⟨dd, _, .ref Tb, .ref Tb, false, rfl, rfl, hd, rfl, fun u h => h, T.is3, ?_⟩
            walk_at "rd"
            refine iteT ?_
            walk_at "rd"
            refine ⟨_, rfl, rfl, rfl, dd, _, .str "", rfl, hd, nof_name n, ?_⟩
            walk_at "rd"
            refine ⟨_, rfl, rfl, rfl, dd, _, .int n, rfl, hd, nof_number n, ?_⟩
            walk_at "rd"
            refine ⟨k_sz rfl, fun r hr => ?_⟩
            walk_at "rd"
            exact k r hr)))
      (pss_one (ps_ret (pv 3)))), ?_⟩
    walk_at "rd"
    refine ⟨k_sz rfl, fun r0 h0 => ?_⟩
    walk_at "rd"
    have x0 : Ext (fun a => a = dT) H (upd H r0 (.tup [V.str "odd"])) := ext_new h0
    refine ⟨p, dx, dT, r0, m, m', next, n, fr, rfl, T0.keep (tups_new h0) (fun o e => lk_new e h0) fun o e => lk_new e h0, hl, ?_, fun hh r H' T1 x1 hr1 => ?_, fun hh d H' s1 hd0 hd => ?_⟩
    · rcases af with z | ⟨t, ws, e1, e2, e3⟩
      · exact .inl z
      · exact .inr ⟨t, ws, e1, lk_new e2 h0, e3⟩
    · walk_at "rd"
      exact k1 hh r H' T1 (x0.trans x1) hr1
    · refine ⟨true, T.self, fun _ a ha => ?_, fun z => by cases z⟩
      refine ⟨p, r0, d, n, fr, rfl, rfl, rfl, hd, fun r hr2 => ?_⟩
      walk_at "rd"
      exact k2 hh r _ ((Same.upd h0).trans (s1.trans (Same.upd hr2))) upd_same
end
end K21

set_option Elab.async false
set_option maxRecDepth 100000
set_option maxHeartbeats 4000000
set_option linter.unusedVariables false
namespace K21
open PySem PySem.Spec PyProof.Rows L2 Own
-- steps
local macro_rules | `(tactic| walk_at "lk") => `(tactic| first
  | assumption | exact upd_same
  | ((with_reducible refine' lk_new ?e (by assumption)); (case e => walk_at "lk"))
  | ((with_reducible refine' lk_ext (by assumption) ?e); (case e => walk_at "lk"))
  | ((with_reducible refine' lk_same (by assumption) ?e); (case e => walk_at "lk")))
local macro_rules | `(tactic| walk_at "sq") => `(tactic| first | assumption | exact SqL.of (by walk_at "lk") | exact SqT.of (by walk_at "lk"))
local macro_rules | `(tactic| walk_at "r1") => `(tactic| first
  | with_reducible refine k_seq ?_ | with_reducible refine k_asg ?_ | with_reducible refine k_ret ?_ | with_reducible refine k_drop ?_ | with_reducible refine k_next ?_ | with_reducible refine k_ifS ?_
  | ((with_reducible refine' k_var ?e ?_); (case e => exact rfl)) | with_reducible refine k_c ?_ | with_reducible refine k_op ?_ | with_reducible refine k_un ?_ | with_reducible refine k_test ?_ | with_reducible refine k_B ?_
  | with_reducible refine k_and ?_ | with_reducible refine k_or ?_ | with_reducible refine k_not ?_ | with_reducible refine k_andV ?_ | with_reducible refine k_orV ?_ | with_reducible refine k_notV ?_ | with_reducible refine k_if ?_
  | with_reducible refine k_nil ?_ | with_reducible refine k_cons ?_ | with_reducible refine k_tup ?_ | with_reducible refine k_lst ?_ | with_reducible refine k_call ?_ | with_reducible refine k_cb ?_ | with_reducible refine k_ck ?_
  | with_reducible refine k_par ?_ | with_reducible refine k_par1 ?_ | with_reducible refine k_tr ?_ | with_reducible refine k_rI0 ?_ | with_reducible refine k_rU ?_
  | with_reducible refine k_gN ?_ | with_reducible refine k_gS ?_ | with_reducible refine k_gNil ?_ | with_reducible refine k_gCons ?_ | with_reducible refine k_bm0 ?_ | with_reducible refine k_bm ?_
  | with_reducible refine k_for ?_ | with_reducible refine k_iL ?_ | with_reducible refine k_iT ?_ | with_reducible refine k_iR1 ?_ | ((with_reducible refine k_iR1i ?e ?_); (case e => first | decide | exact ⟨by omega, by omega⟩))
  | with_reducible refine k_max ?_ | with_reducible refine k_isB ?_ | with_reducible refine k_sl ?_ | with_reducible refine k_noP ?_ | with_reducible refine k_part ?_ | with_reducible refine k_partI ?_ | with_reducible refine k_revL ?_
  | ((with_reducible refine' k_ixqT ?e ?f ?_); (case e => walk_at "sq"); (case f => first | exact rfl | exact atI_head))
  | ((with_reducible refine' k_ixqL ?e ?f ?_); (case e => walk_at "sq"); (case f => first | exact rfl | exact atI_head))
  | ((with_reducible refine' k_lenL ?e ?_); (case e => walk_at "sq"))
  | ((with_reducible refine' k_lenT ?e ?_); (case e => walk_at "sq"))
  | ((with_reducible refine' k_ixL ?e ?f ?_); (case e => walk_at "sq"); (case f => first | exact rfl | exact atI_head))
  | ((with_reducible refine' k_ixT ?e ?f ?_); (case e => walk_at "sq"); (case f => first | exact rfl | exact atI_head))
  | ((with_reducible refine k_eq ?e ?_); (case e => exact rfl)) | ((with_reducible refine k_ne ?e ?_); (case e => exact rfl))
  | ((with_reducible refine k_rI ?e ?_); (case e => first | assumption | omega | decide | exact ⟨by omega, by omega⟩ | exact .inl ⟨by omega, by omega⟩ | exact .inr ⟨by omega, by omega⟩)))
local macro_rules | `(tactic| walk_at "rd") => `(tactic| repeat walk_at "r1")
-- steps end
def NoneD : PyData := .tuple [.str "none"]
def NoD (n : Int) : PyData := .tuple [.str "", .int n]
theorem none_eqv : PyData.eqv NoneD NoneD = true := by decide +kernel
theorem none_sh : SeqAt.shaped NoneD = true := by decide +kernel
theorem no_eqv (n : Int) : PyData.eqv (NoD n) (NoD n) = true := by simp [NoD, PyData.eqv, PyData.eqvAll]
theorem no_sh (n : Int) : SeqAt.shaped (NoD n) = true := by
  show (_ && decide _) = true
  have h1 : (NoD n).canLay0 = true := by
    show ((_ && _) : Bool) = true
    rw [show (PyData.str "").canLay0 = true by decide +kernel]
    rfl
  rw [h1]
  rfl
theorem eq_none {K : PySem.W.Frag} {H : Hp} {Q : VK} {a b : Addr} (ha : H a = some (.tup [.str "none"])) (hb : H b = some (.tup [.str "none"])) (q : Q (.bl true) H) : rEqD K (.ref a) (.ref b) H Q := by
  refine ⟨NoneD, NoneD, .tup (SqT.of ha) (.cons (.str _) .nil), .tup (SqT.of hb) (.cons (.str _) .nil), none_sh, none_sh, ?_⟩
  rw [none_eqv]
  exact q
theorem eq_no {K : PySem.W.Frag} {H : Hp} {Q : VK} {a b : Addr} {n : Int} (ha : H a = some (.tup [.str "", .int n])) (hb : H b = some (.tup [.str "", .int n])) (q : Q (.bl true) H) : rEqD K (.ref a) (.ref b) H Q := by
  refine ⟨NoD n, NoD n, .tup (SqT.of ha) (.cons (.str _) (.cons (.int _) .nil)), .tup (SqT.of hb) (.cons (.str _) (.cons (.int _) .nil)), no_sh n, no_sh n, ?_⟩
  rw [no_eqv]
  exact q
/-- the model's dict is brought to what the table has -/
theorem PairAt.setk {C : Addr} {H H' : Hp} {p dx dT q dk : Addr} {m m' : Rows} {next many : Int} {kvs kvs' : List (Key × V)} (A : PairAt C H p dx dT q dk m next many) (T : TableAt C H' p dx dT m' next)
    (x : Ext (fun a => a = dT) H H') (hk : H' dk = some (.dK kvs)) (e : Ent H' kvs' m') : PairAt C (upd H' dk (.dK kvs')) p dx dT q dk m' next many ∧ Ext (fun a => a = dT ∨ a = dk) H (upd H' dk (.dK kvs')) := by
  have np := A.np
  have u : Tups H' (upd H' dk (.dK kvs')) := tups_upd hk fun xs z => by cases z
  refine ⟨⟨T.keep u (fun o e => ?_) (fun o e => ?_), ?_, ⟨_, upd_same, e.ext u⟩, A.n1, A.n2, A.n3⟩, (x.mono fun a z => .inl z).trans (Ext.upd hk (.inr rfl) fun xs z => by cases z)⟩
  · rw [upd_ne A.n2]
    exact e
  · rw [upd_ne np.2.2]
    exact e
  · rw [upd_ne A.n3]
    exact x.2 _ _ A.n1.symm A.md
theorem PairAt.tab {C : Addr} {H H' : Hp} {p dx dT q dk : Addr} {m : Rows} {next many : Int} (A : PairAt C H p dx dT q dk m next many) (x : Ext (fun a => a = dT) H H') : DictAt H' dk m :=
  A.kn.keep x.1 fun o e => x.2 _ _ A.n2.symm e
theorem PairAt.deck6 {C : Addr} {H H' : Hp} {p dx dT q dk d c : Addr} {m : Rows} {next many b : Int} (A : PairAt C H p dx dT q dk m next many) (D : Deck d c b H) (x : Ext (fun a => a = dT ∨ a = dk) H H') : Deck d c b H' :=
  D.keep x (fun z => z.elim (fun e => A.deck D _ (.inr (.inl rfl)) (.inl e.symm)) fun e => A.deck D _ (.inr (.inr (.inr rfl))) (.inl e.symm))
    fun z => z.elim (fun e => A.deck D _ (.inr (.inl rfl)) (.inr e.symm)) fun e => A.deck D _ (.inr (.inr (.inr rfl))) (.inr e.symm)
theorem ext6 {d c p dT q dk : Addr} {H H' : Hp} (x : Ext (fun a => a = dT ∨ a = dk) H H') : Ext (Both d c p dT q dk) H H' :=
  x.mono fun a z => z.elim (fun e => .inr (.inr (.inl e))) fun e => .inr (.inr (.inr (.inr e)))
section
variable {P : Program} {w : World} {K : PySem.W.Frag} {mg : Str → Option Value} {g0 : Heap} {C N Wk Tb : Addr}
def spDeed (C : Addr) : Sp := fun vs H Q _ => ∃ (d c p dx dT q dk : Addr) (m : Rows) (b next many : Int), vs = [.ref d, .ref p, .ref q] ∧ Deck d c b H ∧ b ≤ 10000000 ∧ PairAt C H p dx dT q dk m next many ∧ 1 ≤ many ∧ many ≤ 3 ∧
  Good m next many ∧ 0 ≤ next ∧ next ≤ 900000 ∧ m.length ≤ 900 ∧
  ∀ (m' : Rows) (next' : Int) (H' : Hp), PairAt C H' p dx dT q dk m' next' many → Good m' next' many → next ≤ next' → next' ≤ next + 1 → m'.length ≤ m.length + 1 → Deck d c (b + 20) H' → Ext (Both d c p dT q dk) H H' → Q (.bl true) H'
theorem ok_deed {f : Addr} {fd : FuncData} (F : Fun K "_law_deed" "_law_deed" s_deed f fd)
    (C_draw : Cal P w K mg g0 "_law_draw" 1 ["_law_deck_here", "_law_many"] spDraw)
    (C_values : Cal P w K mg g0 "_law_values" 3 ["_law_deck_here", "_law_many"] spValues)
    (C_put : Cal P w K mg g0 "_law_put" 4 ["_law_deck_here", "_law_table", "_law_model"] (spPutL C))
    (C_refused : Cal P w K mg g0 "_law_refused" 4 ["_law_table", "_law_place", "_law_fresh"] (spRefused C)) : GOk P w K mg g0 CX0 5 f fd ["_law_deck_here", "_law_table", "_law_model"] (spDeed C) := by
  have nd := sc_deed.nd
  refine okG F sc_deed (fun vs H Q E h => ?_) (fun cdv A up s H vs Q E qt hr h => ?_)
  · obtain ⟨d, c, p, dx, dT, q, dk, m, b, next, many, rfl, _⟩ := h
    rfl
  · obtain ⟨d, c, p, dx, dT, q, dk, m, b, next, many, rfl, D, hb, A0, m0, m1, g, n0, n1, ml, k⟩ := h
    have hu := hu_of hr
    refine ⟨_, (pss_cons (ps_par (i := 5) (j := 6) (by rfl) nd rfl rfl (by decide) rfl rfl (pa_cons (pe_c C_draw qt (hr.mono (by decide)) (pa_cons (pv 0) (pa_cons pe_int pa_nil))) (pa_cons (pe_dget hu (pv 2) pe_str (fun _ _ => rfl)) pa_nil)) (by rfl))
        (pss_cons (ps_if (pt_cmpR op_lt (pv 5) pe_int (nomark _)) (pss_one (ps_ret (pe_c C_put qt (hr.mono (by decide)) (pa_cons (pv 0) (pa_cons (pv 1) (pa_cons (pv 2) pa_nil)))))) pss_nil)
        (pss_cons (ps_set (i := 3) nd rfl (Or.inl rfl) (pe_c C_draw qt (hr.mono (by decide)) (pa_cons (pv 0) (pa_cons (pe_op op_add (pe_dget hu (pv 2) pe_str (fun _ _ => rfl)) pe_int) pa_nil))))
        (pss_cons (ps_if (pt_cmpR op_lt (pv 5) pe_int (nomark _)) (pss_cons (ps_set (i := 7) nd rfl (Or.inl rfl) (pe_c C_values qt (hr.mono (by decide)) (pa_cons (pv 0) (pa_cons (pe_dget hu (pv 2) pe_str (fun _ _ => rfl)) pa_nil))))
        (pss_cons (ps_set (i := 4) nd rfl (Or.inl rfl) (pe_c C_refused qt (hr.mono (by decide)) (pa_cons (pv 1) (pa_cons (pv 3) (pa_cons (pv 7) pa_nil)))))
        (pss_cons (ps_set (i := 8) nd rfl (Or.inl rfl) (pe_ifExp (pt_cmp (pc_din hu (pv 3) (pv 6)) (by rfl)) (pe_tup (pa_cons pe_str pa_nil)) (pe_tup (pa_cons pe_str (pa_cons (pv 3) pa_nil)))))
        (pss_cons (ps_if (pt_cmp (pc_din hu (pv 3) (pv 6)) (by rfl)) (pss_one (ps_dput hu (pv 6) (pv 3) (pv 7) rfl)) pss_nil)
        (pss_one (ps_ret (pe_cmpR (op_eqD hr.units) (pv 4) (pv 8) (nomark _)))))))) pss_nil)
        (pss_cons (ps_set (i := 4) nd rfl (Or.inl rfl) (pe_c C_refused qt (hr.mono (by decide)) (pa_cons (pv 1) (pa_cons (pv 3) (pa_cons pe_non pa_nil)))))
        (pss_cons (ps_if (pt_cmp (pc_din hu (pv 3) (pv 6)) (by rfl)) (pss_cons (ps_expr (pe_dpop1 (pv 6) (pv 3) ⟨rfl, rfl, rfl, rfl⟩))
        (pss_one (ps_ret (pe_cmpR (op_eqD hr.units) (pv 4) (pe_tup (pa_cons pe_str pa_nil)) (nomark _))))) pss_nil)
        (pss_one (ps_ret (pe_cmpR (op_eqD hr.units) (pv 4) (pe_tup (pa_cons pe_str (pa_cons (pv 3) pa_nil))) (nomark _)))))))))), ?_⟩
    walk_at "rd"
    refine ⟨d, c, b, _, rfl, D, by omega, by decide, by decide, fun way H1 w0 w1 D1 x1 => ?_⟩
    have A1 := A0.keep x1 (A0.deck D)
    walk_at "rd"
    refine k_dget ?_
    walk_at "rd"
    refine ⟨q, .ref dk, rfl, A1.gk, ?_⟩
    walk_at "rd"
    have y1 : Ext (Both d c p dT q dk) H H1 := x1.mono fun a z => .inl z
    refine k_iteD (fun _ => ?_) fun _ => ?_
    · walk_at "rd"
      refine ⟨d, c, p, dx, dT, q, dk, m, b + 1, next, many, rfl, D1, by omega, A1, m0, m1, g, n0, by omega, by omega, fun m' H2 A2 g2 l2 D2 x2 => ?_⟩
      walk_at "rd"
      exact k m' (next + 1) H2 A2 g2 (by omega) (by omega) l2 (D2.mono (by omega)) (y1.trans x2)
    walk_at "rd"
    refine k_dget ?_
    walk_at "rd"
    refine ⟨q, .int next, rfl, A1.gn, ?_⟩
    walk_at "rd"
    refine ⟨d, c, b + 1, _, rfl, D1, by omega, by omega, by omega, fun place H2 p0 p1 D2 x2 => ?_⟩
    have A2 := A1.keep x2 (A1.deck D1)
    have y2 := y1.trans (x2.mono fun a z => .inl z)
    walk_at "rd"
    refine k_iteD (fun _ => ?_) fun _ => ?_
    · walk_at "rd"
      refine k_dget ?_
      walk_at "rd"
      refine ⟨q, .int many, rfl, A2.gm, ?_⟩
      walk_at "rd"
      refine ⟨d, c, b + 1 + 1, many, rfl, D2, by omega, by omega, m1, fun t ws H3 lw sw ht D3 x3 => ?_⟩
      have A3 := A2.keep x3 (A2.deck D2)
      have y3 := y2.trans (x3.mono fun a z => .inl z)
      walk_at "rd"
      refine ⟨p, dx, dT, m, putR m place ws, next, place, .ref t, rfl, A3.tb, by omega, .inr ⟨t, ws, rfl, ht, rfl⟩, fun hh r H4 T4 x4 hr4 => ?_, fun hh r H4 s4 hr4 => ?_⟩
      · obtain ⟨ov, hov, eov⟩ := (A3.tab x4).in_ place
        walk_at "rd"
        refine k_din ?_
        walk_at "rd"
        refine ⟨dk, ov, rfl, hov, ?_⟩
        rw [eov, hh]
        walk_at "rd"
        refine iteT ?_
        walk_at "rd"
        refine ⟨k_sz rfl, fun u hu4 => ?_⟩
        have x5 : Ext (fun a => a = dT) H3 (upd H4 u (.tup [V.str "none"])) := x4.trans (ext_new hu4)
        have T5 := T4.keep (tups_new (o := .tup [V.str "none"]) hu4) (fun o e => lk_new e hu4) fun o e => lk_new e hu4
        have hr5 := lk_new (o := .tup [V.str "none"]) hr4 hu4
        have hu5 : upd H4 u (.tup [V.str "none"]) u = some (.tup [V.str "none"]) := upd_same
        generalize upd H4 u (.tup [V.str "none"]) = H5 at x5 T5 hr5 hu5 ⊢
        obtain ⟨kvs, hk5, he5⟩ := A3.tab x5
        obtain ⟨A6, x6⟩ := A3.setk T5 x5 hk5 (he5.put (x5.1 _ _ ht))
        have u6 : Tups H5 (upd H5 dk (.dK (putK kvs (Sum.inl place) (.ref t)))) := tups_upd hk5 fun xs z => by cases z
        walk_at "rd"
        refine k_din ?_
        walk_at "rd"
        refine ⟨dk, _, rfl, DGet.k (k := Sum.inl place) hk5, ?_⟩
        rw [he5.some, hh]
        walk_at "rd"
        refine iteT ?_
        refine k_dput ?_
        walk_at "rd"
        refine ⟨dk, _, rfl, DPut.k (k := Sum.inl place) hk5 (k_szL (by rw [he5.length]; omega)), ?_⟩
        walk_at "rd"
        refine eq_none (u6 _ _ hr5) (u6 _ _ hu5) ?_
        exact k (putR m place ws) next _ A6 (g.put p0 (g.lt place (hasR_iff.mp hh)).2 lw sw) (by omega) (by omega) put_len ((A3.deck6 D3 x6).mono (by omega)) (y3.trans (ext6 x6))
      · obtain ⟨ov, hov, eov⟩ := (A3.same s4).kn.in_ place
        walk_at "rd"
        refine k_din ?_
        walk_at "rd"
        refine ⟨dk, ov, rfl, hov, ?_⟩
        rw [eov, hh]
        walk_at "rd"
        refine iteF ?_
        walk_at "rd"
        refine ⟨k_sz rfl, fun u hu4 => ?_⟩
        have s5 : Same H3 (upd H4 u (.tup [V.str "", V.int place])) := s4.trans (Same.upd hu4)
        have hr5 := lk_new (o := .tup [V.str "", V.int place]) hr4 hu4
        have hu5 : upd H4 u (.tup [V.str "", V.int place]) u = some (.tup [V.str "", V.int place]) := upd_same
        generalize upd H4 u (.tup [V.str "", V.int place]) = H5 at s5 hr5 hu5 ⊢
        obtain ⟨ow, how, eow⟩ := (A3.same s5).kn.in_ place
        walk_at "rd"
        refine k_din ?_
        walk_at "rd"
        refine ⟨dk, ow, rfl, how, ?_⟩
        rw [eow, hh]
        walk_at "rd"
        refine iteF ?_
        walk_at "rd"
        refine eq_no hr5 hu5 ?_
        exact k m next _ (A3.same s5) g (by omega) (by omega) (by omega) ((D3.same s5).mono (by omega)) (y3.trans (Same.ext s5))
    · walk_at "rd"
      refine ⟨p, dx, dT, m, dropR m place, next, place, .non, rfl, A2.tb, by omega, .inl ⟨rfl, rfl⟩, fun hh r H4 T4 x4 hr4 => ?_, fun hh r H4 s4 hr4 => ?_⟩
      · obtain ⟨kvs, hk4, he4⟩ := A2.tab x4
        walk_at "rd"
        refine k_din ?_
        walk_at "rd"
        refine ⟨dk, _, rfl, DGet.k (k := Sum.inl place) hk4, ?_⟩
        rw [he4.some, hh]
        walk_at "rd"
        refine iteT ?_
        walk_at "rd"
        obtain ⟨tv, hv, _⟩ := he4.get hh
        refine ⟨_, rfl, dk, rfl, ?isd, _, rfl, kvs, Sum.inl place, _, hk4, rfl, hv, ?_⟩
        case isd => exact .inl ⟨_, .inl hk4⟩
        obtain ⟨A6, x6⟩ := A2.setk T4 x4 hk4 (he4.drop (n := place))
        have u6 : Tups H4 (upd H4 dk (.dK (dropK kvs (Sum.inl place)))) := tups_upd hk4 fun xs z => by cases z
        have hr6 := u6 _ _ hr4
        generalize upd H4 dk (.dK (dropK kvs (Sum.inl place))) = H6 at A6 x6 hr6 ⊢
        walk_at "rd"
        refine ⟨k_sz rfl, fun u hu6 => ?_⟩
        refine eq_none (lk_new hr6 hu6) upd_same ?_
        exact k (dropR m place) next _ (A6.same (Same.upd hu6)) g.drop (by omega) (by omega) (Nat.le_succ_of_le drop_len) (((A2.deck6 D2 x6).new hu6).mono (by omega)) ((y2.trans (ext6 x6)).trans (ext_new hu6))
      · have A4 := A2.same s4
        obtain ⟨ov, hov, eov⟩ := A4.kn.in_ place
        walk_at "rd"
        refine k_din ?_
        walk_at "rd"
        refine ⟨dk, ov, rfl, hov, ?_⟩
        rw [eov, hh]
        walk_at "rd"
        refine iteF ?_
        walk_at "rd"
        refine ⟨k_sz rfl, fun u hu4 => ?_⟩
        refine eq_no (lk_new hr4 hu4) upd_same ?_
        exact k m next _ (A4.same (Same.upd hu4)) g (by omega) (by omega) (by omega) (((D2.same s4).new hu4).mono (by omega)) ((y2.trans (Same.ext s4)).trans (ext_new hu4))
end
end K21

set_option Elab.async false
set_option maxRecDepth 100000
set_option maxHeartbeats 8000000
set_option linter.unusedVariables false
namespace K21
open PySem PySem.Spec PyProof.Rows L2 Own
-- steps
local macro_rules | `(tactic| walk_at "lk") => `(tactic| first
  | assumption | exact upd_same
  | ((with_reducible refine' lk_new ?e (by assumption)); (case e => walk_at "lk"))
  | ((with_reducible refine' lk_ext (by assumption) ?e); (case e => walk_at "lk"))
  | ((with_reducible refine' lk_same (by assumption) ?e); (case e => walk_at "lk")))
local macro_rules | `(tactic| walk_at "sq") => `(tactic| first | assumption | exact SqL.of (by walk_at "lk") | exact SqT.of (by walk_at "lk"))
local macro_rules | `(tactic| walk_at "r1") => `(tactic| first
  | with_reducible refine k_seq ?_ | with_reducible refine k_asg ?_ | with_reducible refine k_ret ?_ | with_reducible refine k_drop ?_ | with_reducible refine k_next ?_ | with_reducible refine k_ifS ?_
  | ((with_reducible refine' k_var ?e ?_); (case e => exact rfl)) | with_reducible refine k_c ?_ | with_reducible refine k_op ?_ | with_reducible refine k_un ?_ | with_reducible refine k_test ?_ | with_reducible refine k_B ?_
  | with_reducible refine k_and ?_ | with_reducible refine k_or ?_ | with_reducible refine k_not ?_ | with_reducible refine k_andV ?_ | with_reducible refine k_orV ?_ | with_reducible refine k_notV ?_ | with_reducible refine k_if ?_
  | with_reducible refine k_nil ?_ | with_reducible refine k_cons ?_ | with_reducible refine k_tup ?_ | with_reducible refine k_lst ?_ | with_reducible refine k_call ?_ | with_reducible refine k_cb ?_ | with_reducible refine k_ck ?_
  | with_reducible refine k_par ?_ | with_reducible refine k_par1 ?_ | with_reducible refine k_tr ?_ | with_reducible refine k_rI0 ?_ | with_reducible refine k_rU ?_
  | with_reducible refine k_gN ?_ | with_reducible refine k_gS ?_ | with_reducible refine k_gNil ?_ | with_reducible refine k_gCons ?_ | with_reducible refine k_bm0 ?_ | with_reducible refine k_bm ?_
  | with_reducible refine k_for ?_ | with_reducible refine k_iL ?_ | with_reducible refine k_iT ?_ | with_reducible refine k_iR1 ?_ | ((with_reducible refine k_iR1i ?e ?_); (case e => first | decide | exact ⟨by omega, by omega⟩))
  | with_reducible refine k_max ?_ | with_reducible refine k_isB ?_ | with_reducible refine k_sl ?_ | with_reducible refine k_noP ?_ | with_reducible refine k_part ?_ | with_reducible refine k_partI ?_ | with_reducible refine k_revL ?_
  | ((with_reducible refine' k_ixqT ?e ?f ?_); (case e => walk_at "sq"); (case f => first | exact rfl | exact atI_head))
  | ((with_reducible refine' k_ixqL ?e ?f ?_); (case e => walk_at "sq"); (case f => first | exact rfl | exact atI_head))
  | ((with_reducible refine' k_lenL ?e ?_); (case e => walk_at "sq"))
  | ((with_reducible refine' k_lenT ?e ?_); (case e => walk_at "sq"))
  | ((with_reducible refine' k_ixL ?e ?f ?_); (case e => walk_at "sq"); (case f => first | exact rfl | exact atI_head))
  | ((with_reducible refine' k_ixT ?e ?f ?_); (case e => walk_at "sq"); (case f => first | exact rfl | exact atI_head))
  | ((with_reducible refine k_eq ?e ?_); (case e => exact rfl)) | ((with_reducible refine k_ne ?e ?_); (case e => exact rfl))
  | ((with_reducible refine k_rI ?e ?_); (case e => first | assumption | omega | decide | exact ⟨by omega, by omega⟩ | exact .inl ⟨by omega, by omega⟩ | exact .inr ⟨by omega, by omega⟩)))
local macro_rules | `(tactic| walk_at "rd") => `(tactic| repeat walk_at "r1")
-- steps end
structure Rec where
  p : Addr
  dx : Addr
  dT : Addr
  q : Addr
  dk : Addr
  m : Rows
  next : Int
  many : Int
/-- a pair of a table and its model, as the law keeps them -/
structure RecAt (C : Addr) (H : Hp) (t : Addr) (r : Rec) : Prop where
  t : H t = some (.tup [.ref r.p, .ref r.q])
  a : PairAt C H r.p r.dx r.dT r.q r.dk r.m r.next r.many
  g : Good r.m r.next r.many
  n0 : 0 ≤ r.next
  n1 : r.next ≤ 1000
  k : r.many ≤ 3
  l : r.m.length < 64
theorem RecAt.keep {C : Addr} {H H' : Hp} {t : Addr} {r : Rec} {M : Addr → Prop} (A : RecAt C H t r) (x : Ext M H H') (n : ∀ a, Of r.p r.dT r.q r.dk a → ¬ M a) : RecAt C H' t r :=
  ⟨x.1 _ _ A.t, A.a.keep x n, A.g, A.n0, A.n1, A.k, A.l⟩
theorem PairAt.old {C : Addr} {H : Hp} {p dx dT q dk : Addr} {m : Rows} {next many : Int} (A : PairAt C H p dx dT q dk m next many) : ∀ a, Of p dT q dk a → ∃ o, H a = some o := by
  obtain ⟨⟨h1, k1, h2, _⟩, h3, ⟨k2, h4, _⟩, _⟩ := A
  rintro a (rfl | rfl | rfl | rfl)
  · exact ⟨_, h1⟩
  · exact ⟨_, h2⟩
  · exact ⟨_, h3⟩
  · exact ⟨_, h4⟩
theorem PairAt.nolist {C : Addr} {H : Hp} {p dx dT q dk L : Addr} {m : Rows} {next many : Int} {xs : List V} (A : PairAt C H p dx dT q dk m next many) (h : H L = some (.lst xs)) : ∀ a, Of p dT q dk a → ¬ a = L := by
  obtain ⟨⟨h1, k1, h2, _⟩, h3, ⟨k2, h4, _⟩, _⟩ := A
  rintro a (rfl | rfl | rfl | rfl) rfl
  · rw [h] at h1; cases h1
  · rw [h] at h2; cases h2
  · rw [h] at h3; cases h3
  · rw [h] at h4; cases h4
theorem valV_app {kvs : List (Key × V)} {q : Key × V} {k : Key} (h : valV kvs k = none) (n : q.1 ≠ k) : valV (kvs ++ [q]) k = none := by
  unfold valV at h ⊢
  rw [List.find?_append]
  have h' : kvs.find? (fun kv => decide (kv.1 = k)) = none := by simpa using h
  rw [h']
  simp [n]
theorem merge_new : ∀ {more kvs : List (Key × V)}, (∀ x ∈ more, valV kvs x.1 = none) → (more.map (·.1)).Nodup → mergeK kvs more = kvs ++ more
  | [], kvs, _, _ => by simp [mergeK]
  | q :: r, kvs, h, nd => by
    have e : mergeK kvs (q :: r) = mergeK (putK kvs q.1 q.2) r := rfl
    rw [e, putK_new _ (h q List.mem_cons_self)]
    rw [List.map_cons, List.nodup_cons] at nd
    have ih := merge_new (more := r) (kvs := kvs ++ [(q.1, q.2)]) (fun x hx => valV_app (h x (List.mem_cons_of_mem _ hx)) fun z => nd.1 (List.mem_map.mpr ⟨x, hx, z.symm⟩)) nd.2
    rw [ih]
    simp
theorem begun_pairs {K : PySem.W.Frag} {H : Hp} : ∀ {ts : List Addr} {m : Rows}, Paired (RowAt H) ts m → ∃ kvs : List (Key × V), Paired (fun p kv => SqT K H p [kV kv.1, kv.2]) ts kvs ∧ Ent H kvs m
  | _, _, .nil => ⟨[], .nil, .nil⟩
  | _, _, .cons (a := t) (b := r) a b => by
    obtain ⟨kvs, h1, h2⟩ := begun_pairs (K := K) b
    obtain ⟨u, e1, e2⟩ := a
    exact ⟨(Sum.inl r.1, V.ref u) :: kvs, .cons (SqT.of e1) h1, .cons ⟨rfl, u, rfl, e2⟩ h2⟩
theorem Ent.merge {H : Hp} {kvs : List (Key × V)} {m : Rows} (e : Ent H kvs m) (nd : (keysR m).Nodup) : mergeK [] kvs = kvs := by
  refine (merge_new (fun x _ => valV_nil) ?_).trans (List.nil_append _)
  rw [e.keys]
  exact nd.map (f := (Sum.inl : Int → Key)) fun a b n z => n (Sum.inl.inj z)
/-- how tables are made -/
structure Ini (P : Program) (w : World) (K : PySem.W.Frag) (mg : Str → Option Value) (g0 : Heap) (C e0 : Addr) : Prop where
  make : ∃ f fd, Mk K C f ∧ FnOk P w K mg g0 CX0 1 f fd ["self", "rows", "following"] (spInit K C) ∧ Binds K fd ["self", "rows", "following"] [] ∧ KBn K fd ["self", "rows", "following"] 1 ["following", "rows"] gC gCV ∧
    ∃ ds, Vals [V.ref e0, V.int 0] ds ∧ Binds K fd ["self", "rows", "following"] ds
  e0 : ∀ H : Hp, SqT K H e0 []
theorem spInit_mono {K : PySem.W.Frag} {C : Addr} {vs : List V} {H : Hp} {Q Q' : VK} {E E' : XK} (h : spInit K C vs H Q E) (k : ∀ v H', Q v H' → Q' v H') : spInit K C vs H Q' E' := by
  obtain ⟨p, dx, b, m, z, a, b', c, d, e, q⟩ := h
  exact ⟨p, dx, b, m, z, a, b', c, d, e, fun x H' y w u => k _ _ (q x H' y w u)⟩
theorem k_disp3 {k1 v1 k2 v2 k3 v3 : TE} {σ : L2.St} {H : Hp} {Q : VK} (h : ∀ p, H p = none → k1 σ (upd H p (.dK [])) fun x1 H1 => v1 σ H1 fun y1 H2 => k2 σ H2 fun x2 H3 => v2 σ H3 fun y2 H4 => k3 σ H4 fun x3 H5 => v3 σ H5 fun y3 H6 =>
    H6 p = some (.dK []) ∧ ∃ kvs : List (Key × V), [(x1, y1), (x2, y2), (x3, y3)] = kvs.map (fun kv => (kV kv.1, kv.2)) ∧ kvs.length ≤ 15 ∧ Q (.ref p) (upd H6 p (.dK (mergeK [] kvs)))) : tDisp [(k1, v1), (k2, v2), (k3, v3)] σ H Q := h
/-- a new table stands beside what was there -/
theorem init_same {C : Addr} {H H' : Hp} {p dx : Addr} (hp : H p = none) (hdx : H dx = none) (ne : dx ≠ p) (fr : ∀ a o, a ≠ p → upd (upd H dx (.own p)) p (.ins C dx []) a = some o → H' a = some o) : Same H H' := fun a o e => by
  have n1 := ne_of_none e hp
  have n2 := ne_of_none e hdx
  refine fr a o n1 ?_
  rw [upd_ne n1, upd_ne n2]
  exact e
theorem init_up {C : Addr} {H : Hp} {p dx : Addr} (hp : H p = none) (hdx : H dx = none) (ne : dx ≠ p) : Same H (upd (upd H dx (.own p)) p (.ins C dx [])) :=
  (Same.upd hdx).trans (Same.upd (by rw [upd_ne ne.symm]; exact hp))
theorem init_of {K : PySem.W.Frag} {C : Addr} {H : Hp} {p dx b : Addr} {m : Rows} {z : Int} {Q : VK} {E : XK} (hp : H p = none) (hdx : H dx = none) (ne : dx ≠ p) (hb : BegunAt K (upd (upd H dx (.own p)) p (.ins C dx [])) b m) (nd : (keysR m).Nodup) (l : m.length ≤ 1000)
    (k : ∀ dT H', H dT = none → Same H H' → TableAt C H' p dx dT m z → Q .non H') : spInit K C [.ref p, .ref b, .int z] (upd (upd H dx (.own p)) p (.ins C dx [])) Q E :=
  ⟨p, dx, b, m, z, rfl, upd_same, hb, nd, l, fun dT H' hdT T fr => k dT H' (same_free (init_up hp hdx ne) hdT) (init_same hp hdx ne fr) T⟩
theorem rows0 {C : Addr} {H : Hp} {p dx dT : Addr} {z : Int} {Q : VK} {E : XK} (T : TableAt C H p dx dT [] z) (k : ∀ u H', Same H H' → H' u = some (.tup []) → Q (.ref u) H') : spRows C [.ref p] H Q E := by
  refine ⟨p, dx, dT, [], z, rfl, T, List.nodup_nil, by decide, fun ns u H' asc s out => ?_⟩
  have e : ns = [] := List.eq_nil_iff_forall_not_mem.mpr fun k hk => by simpa [keysR] using (asc.2 k).mp hk
  subst e
  obtain ⟨ts, h1, h2⟩ := out
  cases h2
  exact k u H' s h1
theorem rows1 {C : Addr} {H : Hp} {p dx dT : Addr} {z : Int} {Q : VK} {E : XK} (T : TableAt C H p dx dT [(0, [5])] z) (k : ∀ u H', Same H H' → RowsT H' u [(0, [5])] → Q (.ref u) H') : spRows C [.ref p] H Q E := by
  refine ⟨p, dx, dT, [(0, [5])], z, rfl, T, by decide, by decide, fun ns u H' asc s out => ?_⟩
  obtain rfl : ns = [0] := asc_same asc.1 (by simp) fun k => (asc.2 k).trans (by simp [keysR])
  exact k u H' s out
theorem put0 {C : Addr} {H : Hp} {p dx dT y : Addr} {v : Int} {Q : VK} {E : XK} (T : TableAt C H p dx dT [] 0) (hy : H y = none) (k : ∀ H', TableAt C H' p dx dT [(0, [v])] 1 → Q (.int 0) H') : spPut C ([V.ref p] ++ [V.ref y]) (upd H y (.tup [.int v])) Q E :=
  ⟨p, dx, dT, y, [], 0, [v], rfl, T.keep (tups_new hy) (fun o e => lk_new e hy) (fun o e => lk_new e hy), upd_same, by decide, fun H' T' _ _ => k H' T'⟩
theorem eq_tup0 {K : PySem.W.Frag} {H : Hp} {Q : VK} {a b : Addr} (ha : H a = some (.tup [])) (hb : H b = some (.tup [])) (q : Q (.bl true) H) : rEqD K (.ref a) (.ref b) H Q :=
  ⟨.tuple [], .tuple [], .tup (SqT.of ha) .nil, .tup (SqT.of hb) .nil, by decide +kernel, by decide +kernel, by exact q⟩
theorem ne_tup0 {K : PySem.W.Frag} {H : Hp} {Q : VK} {a b : Addr} (ha : H a = some (.tup [])) (hb : H b = some (.tup [])) (q : Q (.bl false) H) : rNeD K (.ref a) (.ref b) H Q :=
  ⟨.tuple [], .tuple [], .tup (SqT.of ha) .nil, .tup (SqT.of hb) .nil, by decide +kernel, by decide +kernel, by exact q⟩
theorem ne_lst0 {K : PySem.W.Frag} {H : Hp} {Q : VK} {a b : Addr} (ha : H a = some (.lst [])) (hb : H b = some (.lst [])) (q : Q (.bl false) H) : rNeD K (.ref a) (.ref b) H Q :=
  ⟨.list [], .list [], .lst (SqL.of ha) .nil, .lst (SqL.of hb) .nil, by decide +kernel, by decide +kernel, by exact q⟩
theorem ne_row1 {K : PySem.W.Frag} {H : Hp} {Q : VK} {u a b c : Addr} (hu : RowsT H u [(0, [5])]) (ha : H a = some (.tup [.ref b])) (hb : H b = some (.tup [.int 0, .ref c])) (hc : H c = some (.tup [.int 5])) (q : Q (.bl false) H) : rNeD K (.ref u) (.ref a) H Q :=
  ⟨.tuple (pairsD [(0, [5])]), .tuple (pairsD [(0, [5])]), dp_rowsT hu, .tup (SqT.of ha) (.cons (.tup (SqT.of hb) (.cons (.int _) (.cons (.tup (SqT.of hc) (.cons (.int _) .nil)) .nil))) .nil), by decide +kernel, by decide +kernel, by
    rw [show (!PyData.eqv (.tuple (pairsD [(0, [5])])) (.tuple (pairsD [(0, [5])]))) = false by decide +kernel]
    exact q⟩
theorem tMake_of {C : Addr} {sp : Sp} {dvs : List V} {E : XK} {t : TA} {σ : L2.St} {H : Hp} {Q : VK} (h : t σ H fun vs H1 => ∀ x dx, H1 x = none → H1 dx = none → dx ≠ x →
    sp (.ref x :: (vs ++ dvs)) (upd (upd H1 dx (.own x)) x (.ins C dx [])) (fun v H2 => v = .non ∧ Q (.ref x) H2) E) : tMake C sp dvs E t σ H Q := h
theorem tMakeK_of {C : Addr} {n m : Nat} {sp : Sp} {gV : List V → List V → List V} {E : XK} {t tk : TA} {σ : L2.St} {H : Hp} {Q : VK} (h : t σ H fun vs H1 => tk σ H1 fun zs H2 => vs.length = n ∧ zs.length = m ∧ ∀ x dx, H2 x = none → H2 dx = none → dx ≠ x →
    sp (gV (.ref x :: vs) zs) (upd (upd H2 dx (.own x)) x (.ins C dx [])) (fun v H3 => v = .non ∧ Q (.ref x) H3) E) : tMakeK C n m sp gV E t tk σ H Q := h
section
variable {P : Program} {w : World} {K : PySem.W.Frag} {mg : Str → Option Value} {g0 : Heap} {C N e0 : Addr}
theorem mk0 (J : Ini P w K mg g0 C e0) {σ : L2.St} {H : Hp} {Q : VK} (k : ∀ p dx dT H', Same H H' → TableAt C H' p dx dT [] 0 → Q (.ref p) H') : tMake C (spInit K C) [V.ref e0, V.int 0] E0 tNil σ H Q := by
  intro p dx hp hdx ne
  exact init_of (b := e0) (m := []) (z := 0) hp hdx ne ⟨[], J.e0 _, .nil⟩ List.nodup_nil (by decide) fun dT H' _ s T => ⟨rfl, k p dx dT H' s T⟩
def spLaw (K : PySem.W.Frag) : Sp := fun vs H Q _ => ∃ (a : Addr) (ns : List Int), vs = [.ref a] ∧ SqL K H a (ns.map V.int) ∧ ns.length ≤ 63 ∧ ∀ H', Q (.bl true) H'
theorem ok_law {f : Addr} {fd : FuncData} (F : Fun K "law" "law" s_law f fd) (T : Cl P w K mg g0 C N) (J : Ini P w K mg g0 C e0) (z_range : mg "range" = none) (z_repr : mg "repr" = none) (z_dict : mg "dict" = none) (z_list : mg "list" = none) (z_len : mg "len" = none)
    (C_deck : Cal P w K mg g0 "_law_deck" 1 ["_law_script"] (spDeck K))
    (C_draw : Cal P w K mg g0 "_law_draw" 1 ["_law_deck_here", "_law_many"] spDraw)
    (C_rows : Cal P w K mg g0 "_law_rows" 4 ["_law_deck_here", "_law_many"] spRowsL)
    (C_deed : Cal P w K mg g0 "_law_deed" 5 ["_law_deck_here", "_law_table", "_law_model"] (spDeed C))
    (C_alike : Cal P w K mg g0 "_law_alike" 3 ["_law_table", "_law_model"] (spAlike C)) :
    GOk P w K mg g0 CX0 6 f fd ["_law_script"] (spLaw K) := by
  have nd := sc_law.nd
  obtain ⟨fp, mp, FP⟩ := T.put
  obtain ⟨fi, i1, i2, FI⟩ := T.cin
  obtain ⟨fl, j1, j2, FL⟩ := T.len
  obtain ⟨pr, fr, fdr, pR, FR, bR⟩ := T.rows
  obtain ⟨fm, fdm, M, FM, bM, kbM, ds, hds, bM0⟩ := J.make
  refine okG F sc_law (fun vs H Q E h => ?_) (fun cdv A up s H vs Q E qt hr h => ?_)
  · obtain ⟨a, ns, rfl, _⟩ := h
    rfl
  · obtain ⟨a, ns, rfl, hS, hl, k⟩ := h
    have hu := hu_of hr
    refine ⟨_, pss_cons (ps_set (i := 1) nd rfl (.inl rfl) (pe_c C_deck qt (hr.mono (by decide)) (pa_cons (pv 0) pa_nil)))
      (pss_cons (ps_set (i := 2) nd rfl (.inl rfl) (pe_lst pa_nil))
      (Evl.pss_cut (ps_for PassesOwn.never rfl (pi_range1 (by rfl) z_range (pa_cons pe_int pa_nil)) (pg_name (i := 3) nd rfl (.inl rfl))
        (pss_cons (ps_set (i := 5) nd rfl (.inl rfl) (pe_op op_add pe_int (pe_c C_draw qt (hr.mono (by decide)) (pa_cons (pv 1) (pa_cons pe_int pa_nil)))))
        (pss_cons (ps_asg (pe_c C_rows qt (hr.mono (by decide)) (pa_cons (pv 1) (pa_cons (pv 5) pa_nil))) (pg_tup rfl (pgs_cons (pg_name (i := 10) nd rfl (.inl rfl)) (pgs_cons (pg_name (i := 11) nd rfl (.inl rfl)) pgs_nil))))
        (pss_cons (ps_set (i := 6) nd rfl (.inl rfl) (pe_callB (call_repr qt hr.units) (by rfl) z_repr (by decide +kernel) (pa_cons (pv 10) pa_nil)))
        (Evl.pss_cut (ps_set (i := 7) nd rfl (.inl rfl) (pe_ifExp (pt_cmpR op_eq (pe_op op_mod (pv 3) pe_int) pe_int (nomark _))
          (pe_make M FM (hr.mono (by decide)) (by rfl) T.gC bM .nil pass0 (pa_cons (pv 10) (pa_cons (pv 11) pa_nil)))
          (pe_makeK0 (E := E0) M FM (hr.mono (by decide)) (by rfl) T.gC kbM pass0 (pk_cons (pv 11) (pk_cons (pv 10) pk_nil)))))
        (pss_cons (ps_set (i := 8) nd rfl (.inl rfl) (pe_disp (pps_cons pe_str (pe_callTy (call_dictP rfl) (by rfl) z_dict (by decide +kernel) (pa_cons (pe_callTy c_list (by rfl) z_list (by decide +kernel) (pa_cons (pv 10) pa_nil)) pa_nil)) (pps_cons pe_str (pv 11) (pps_cons pe_str (pv 5) pps_nil))) rfl rfl (by simp) (by decide)))
        (pss_cons (ps_expr (pe_bm PySem.F.plainAttrs_list PySem.F.slot_list_append PySem.F.type_list_append mt_append (pv 2) (pa_cons (pe_tup (pa_cons (pv 7) (pa_cons (pv 8) pa_nil))) pa_nil)))
        (Evl.pss_cut (ps_for PassesOwn.never rfl (pi_range1 (by rfl) z_range (pa_cons (pe_c C_draw qt (hr.mono (by decide)) (pa_cons (pv 1) (pa_cons pe_int pa_nil))) pa_nil)) (pg_name (i := 9) nd rfl (.inl rfl))
          (pss_one (ps_if (PW.pt (pw_or (pt_not (pt_val (pe_c C_deed qt (hr.mono (by decide)) (pa_cons (pv 1) (pa_cons (pv 7) (pa_cons (pv 8) pa_nil)))))) (pw_or1 (pt_not (pt_val (pe_c C_alike qt (hr.mono (by decide)) (pa_cons (pv 7) (pa_cons (pv 8) pa_nil)))))))) (pss_one (ps_ret pe_bl)) pss_nil)))
        (pss_one (ps_if (PW.pt (pw_or (pt_cmpR op_ne (pe_callB (call_repr qt hr.units) (by rfl) z_repr (by decide +kernel) (pa_cons (pv 10) pa_nil)) (pv 6) (nomark _))
          (pw_or1 (pt_cmpR (op_neD hr.units) (pe_lc (own := [("_law_one", 12), ("_law_kept_model", 13)]) (g := gTup K 2 (gCons (gName 12) (gCons (gName 13) gNil))) (tt := tNot (tB (tCall (spAlike C) [] E0 (tCons (tVar 12) (tCons (tVar 13) tNil))))) (te := tC (.int 1)) (by rfl) nd (pi_list (pv 2))
              (blkOk_by (own := [("_law_one", 12), ("_law_kept_model", 13)]) (N := ["_law_script", "_law_deck_here", "_law_tables", "_law_turn", "_law_empty", "_law_many", "_law_kept", "_law_table", "_law_model", "_law_k", "_law_begun", "_law_after", "_law_one", "_law_kept_model"]) (sc := defScope s_law) (by decide +kernel))
              (fun _ _ _ _ _ => by exact (pg_tup rfl (pgs_cons (pg_name (i := 12) nd rfl (.inl rfl)) (pgs_cons (pg_name (i := 13) nd rfl (.inl rfl)) pgs_nil))))
              (fun _ _ _ _ _ => by exact (pts_one (pt_not (pt_val (pe_c C_alike qt (hr.mono (by decide)) (pa_cons (pv 12) (pa_cons (pv 13) pa_nil)))))))
              (fun _ _ _ _ _ => pe_int)) (pe_lst pa_nil) (nomark _))))) (pss_one (ps_ret pe_bl)) pss_nil))))))))))
      (pss_cons (ps_set (i := 4) nd rfl (.inl rfl) (pe_make0 (E := E0) M FM (hr.mono (by decide)) (by rfl) T.gC bM0 hds pass0))
      (pss_cons (ps_if (PW.pt (pw_or (pt_cmpR (op_neD hr.units) (pe_prop (pv 4) T.tx.cl pR FR (hr.mono (by decide)) bR .nil pass0 rfl) (pe_tup pa_nil) (nomark _))
          (pw_or (pt_cmpR op_ne (pe_callB (call_lenO j1 j2 FL (hr.mono (by decide)) pass0) (by rfl) z_len (by decide +kernel) (pa_cons (pv 4) pa_nil)) pe_int (nomark _))
          (pw_or (pt_cmpR (op_inO i1 i2 FI (hr.mono (by decide)) pass0) pe_int (pv 4) (by rfl))
          (pw_or (pt_cmpR op_ne (pe_methR (pv 4) T.tx.cl mp FP (hr.mono (by decide)) pass0 (pa_cons pe_int pa_nil)) pe_int (nomark _))
          (pw_or1 (pt_cmpR (op_neD hr.units) (pe_prop (pv 4) T.tx.cl pR FR (hr.mono (by decide)) bR .nil pass0 rfl) (pe_tup (pa_cons (pe_tup (pa_cons pe_int (pa_cons (pe_tup (pa_cons pe_int pa_nil)) pa_nil))) pa_nil)) (nomark _)))))))) (pss_one (ps_ret pe_bl)) pss_nil)
      (pss_one (ps_ret (pe_and (pe_cmpR (op_eqD hr.units) (pe_prop (pe_make0 (E := E0) M FM (hr.mono (by decide)) (by rfl) T.gC bM0 hds pass0) T.tx.cl pR FR (hr.mono (by decide)) bR .nil pass0 rfl) (pe_tup pa_nil) (nomark _))
        (pe_one (pe_cmpR op_eq (pe_methR (pe_make0 (E := E0) M FM (hr.mono (by decide)) (by rfl) T.gC bM0 hds pass0) T.tx.cl mp FP (hr.mono (by decide)) pass0 (pa_cons pe_int pa_nil)) pe_int (nomark _)))))))))), ?_⟩
    walk_at "rd"
    refine ⟨a, ns, rfl, hS, hl, fun d c H1 _ _ D1 s1 => ?_⟩
    walk_at "rd"
    refine ⟨k_sz rfl, fun L hL => ?_⟩
    have nL : ¬ Dk d c L := D1.off hL
    have hL2 : upd H1 L (.lst []) L = some (.lst []) := upd_same
    have D2 := D1.new hL (o := .lst [])
    generalize upd H1 L (.lst []) = H2 at hL2 D2 ⊢
    walk_at "rd"
    refine ⟨fun σ' H' => ∃ o3 o5 o6 o7 o8 o9 o10 o11 o12 o13 : Option V, σ' = [some (.ref a), some (.ref d), some (.ref L), o3, none, o5, o6, o7, o8, o9, o10, o11, o12, o13], ?_, ?_⟩
    · let Pv : Nat → L2.St → Hp → Prop := fun i σ H' => (∃ o3 o5 o6 o7 o8 o9 o10 o11 o12 o13 : Option V, σ = [some (.ref a), some (.ref d), some (.ref L), o3, none, o5, o6, o7, o8, o9, o10, o11, o12, o13]) ∧ Deck d c (1000 * i) H' ∧
        ∃ (ts : List Addr) (rs : List Rec), H' L = some (.lst (ts.map V.ref)) ∧ Paired (RecAt C H') ts rs ∧ ts.length = i
      walk_at "rd"
      refine ⟨6, rfl, by decide, by decide, for_range (lo := 0) (n := 6) Pv ⟨⟨_, _, _, _, _, _, _, _, _, _, rfl⟩, D2, [], [], hL2, .nil, rfl⟩ (fun i σ Hs hi h => ?_) (fun σ Hs h => ?_)⟩
      · obtain ⟨⟨o3, o5, o6, o7, o8, o9, o10, o11, o12, o13, rfl⟩, Ds, ts, rs, hLs, hps, lts⟩ := h
        walk_at "rd"
        refine ⟨d, c, _, _, rfl, Ds, by omega, by decide, by decide, fun r0 Hd r1 r2 Dd xd => ?_⟩
        walk_at "rd"
        refine ⟨d, c, _, _, rfl, Dd, by omega, by omega, by omega, fun r bt after m H3 hr3 rT g a0 a1 lm D3 x3 => ?_⟩
        have xs3 := xd.trans x3
        have hL3 := xs3.2 _ _ nL hLs
        walk_at "rd"
        refine k_gTup (SqT.of hr3) rfl ?_
        walk_at "rd"
        have gn := good_num g (by omega) (by omega)
        refine rr_rows rT (by omega) gn ?_
        walk_at "rd"
        generalize hkept : (PyData.tuple (pairsD m)).shown = kept
        refine ⟨fun σ' H' => ∃ p dx dT : Addr, σ' = [some (.ref a), some (.ref d), some (.ref L), some (.int (0 + i)), none, some (.int (1 + r0)), some (.str kept), some (.ref p), o8, o9, some (.ref bt), some (.int after), o12, o13] ∧ Same H3 H' ∧ H3 p = none ∧ H3 dT = none ∧ TableAt C H' p dx dT m after, ?_, ?_⟩
        · walk_at "rd"
          have bg : ∀ p dx, H3 p = none → H3 dx = none → dx ≠ p → BegunAt K (upd (upd H3 dx (.own p)) p (.ins C dx [])) bt m := fun p dx hp hdx ne => by
            obtain ⟨us, h1, h2⟩ := rT.keep (Tups.same (init_up hp hdx ne))
            exact ⟨us, SqT.of h1, h2⟩
          refine k_iteD (fun _ => ?_) fun _ => ?_
          · refine tMake_of ?_
            walk_at "rd"
            intro p dx hp hdx ne
            exact init_of hp hdx ne (bg p dx hp hdx ne) g.nd (by omega) fun dT H' hdT s T => ⟨rfl, k_gN ⟨p, dx, dT, rfl, s, hp, hdT, T⟩⟩
          · refine tMakeK_of ?_
            walk_at "rd"
            refine ⟨rfl, rfl, fun p dx hp hdx ne => ?_⟩
            exact init_of hp hdx ne (bg p dx hp hdx ne) g.nd (by omega) fun dT H' hdT s T => ⟨rfl, k_gN ⟨p, dx, dT, rfl, s, hp, hdT, T⟩⟩
        · rintro σ' H4 ⟨p, dx, dT, rfl, s4, hp, hdT, T4⟩
          walk_at "rd"
          obtain ⟨us, hb3, hrows3⟩ := id rT
          refine k_disp3 fun q hq => ?_
          have hq3 : H3 q = none := same_free s4 hq
          have z5 : Same H4 (upd H4 q (.dK [])) := Same.upd hq
          have hq5 : upd H4 q (.dK []) q = some (.dK []) := upd_same
          generalize upd H4 q (.dK []) = H5 at z5 hq5 ⊢
          walk_at "rd"
          refine k_listT (SqT.of (z5 _ _ (s4 _ _ hb3))) fun l hl => ?_
          have z6 : Same H4 (upd H5 l (.lst (us.map V.ref))) := z5.trans (Same.upd hl)
          have hl6 : upd H5 l (.lst (us.map V.ref)) l = some (.lst (us.map V.ref)) := upd_same
          have hq6 := lk_new (o := .lst (us.map V.ref)) hq5 hl
          generalize upd H5 l (.lst (us.map V.ref)) = H6 at z6 hl6 hq6 ⊢
          have w6 : Tups H3 H6 := Tups.same (s4.trans z6)
          obtain ⟨kvs, hpr, e6⟩ := begun_pairs (K := K) (Paired.mapP hrows3 fun a b h => RowAt.keep h w6)
          walk_at "rd"
          refine ⟨l, us, kvs, rfl, SqL.of hl6, hpr, fun dk hdk => ?_⟩
          rw [e6.merge g.nd]
          have nqk : q ≠ dk := ne_of_none hq6 hdk
          have z7 : Same H4 (upd H6 dk (.dK kvs)) := z6.trans (Same.upd hdk)
          have hk7 : upd H6 dk (.dK kvs) dk = some (.dK kvs) := upd_same
          have hq7 := lk_new (o := .dK kvs) hq6 hdk
          have e7 := e6.ext (tups_new (o := .dK kvs) hdk)
          generalize upd H6 dk (.dK kvs) = H7 at z7 hk7 hq7 e7 ⊢
          walk_at "rd"
          refine ⟨hq7, [(Sum.inr "known", .ref dk), (Sum.inr "next", .int after), (Sum.inr "many", .int (1 + r0))], rfl, by simp, ?_⟩
          rw [mk_merge]
          have z8 : Same H4 (upd H7 q (.dK (MK dk after (1 + r0)))) := same_off z7 hq
          have hq8 : upd H7 q (.dK (MK dk after (1 + r0))) q = some (.dK (MK dk after (1 + r0))) := upd_same
          have hk8 : upd H7 q (.dK (MK dk after (1 + r0))) dk = some (.dK kvs) := by rw [upd_ne nqk.symm]; exact hk7
          have e8 := e7.ext (tups_upd (o := .dK (MK dk after (1 + r0))) hq7 fun xs z => by cases z)
          generalize upd H7 q (.dK (MK dk after (1 + r0))) = H8 at z8 hq8 hk8 e8 ⊢
          walk_at "rd"
          refine ⟨k_tyL (z8 _ _ (s4 _ _ hL3)), ?_⟩
          walk_at "rd"
          refine ⟨k_sz rfl, fun t ht => ?_⟩
          walk_at "rd"
          have z9 : Same H4 (upd H8 t (.tup [V.ref p, V.ref q])) := z8.trans (Same.upd ht)
          have hq9 := lk_new (o := .tup [V.ref p, V.ref q]) hq8 ht
          have hk9 := lk_new (o := .tup [V.ref p, V.ref q]) hk8 ht
          have e9 := e8.ext (tups_new (o := .tup [V.ref p, V.ref q]) ht)
          have ht9 : upd H8 t (.tup [V.ref p, V.ref q]) t = some (.tup [V.ref p, V.ref q]) := upd_same
          generalize upd H8 t (.tup [V.ref p, V.ref q]) = H9 at z9 hq9 hk9 e9 ht9 ⊢
          have hL9 := z9 _ _ (s4 _ _ hL3)
          refine k_app hL9 (k_szL (by rw [List.length_map]; omega)) ?_
          have e1 : ts.map V.ref ++ [V.ref t] = (ts ++ [t]).map V.ref := by simp
          rw [e1]
          have nt : ∀ xs, (HO.lst (ts.map V.ref)) ≠ .tup xs := fun xs z => by cases z
          have w10 : Tups H9 (upd H9 L (.lst ((ts ++ [t]).map V.ref))) := tups_upd hL9 nt
          have x10 : Ext (fun a => a = L) H3 (upd H9 L (.lst ((ts ++ [t]).map V.ref))) := (Same.ext (s4.trans z9)).trans (Ext.upd hL9 rfl nt)
          have hL10 : upd H9 L (.lst ((ts ++ [t]).map V.ref)) L = some (.lst ((ts ++ [t]).map V.ref)) := upd_same
          have pL : p ≠ L := (ne_of_none hL3 hp).symm
          have dTL : dT ≠ L := (ne_of_none hL3 hdT).symm
          have qL : q ≠ L := (ne_of_none hL3 hq3).symm
          have dk3 : H3 dk = none := same_free (s4.trans z6) hdk
          have dkL : dk ≠ L := (ne_of_none hL3 dk3).symm
          obtain ⟨kv4, hd4, _⟩ := id T4.2
          have A10 : PairAt C (upd H9 L (.lst ((ts ++ [t]).map V.ref))) p dx dT q dk m after (1 + r0) := by
            refine ⟨T4.keep ((Tups.same z9).trans w10) (fun o e => ?_) (fun o e => ?_), ?_, ⟨kvs, ?_, e9.ext w10⟩, ne_of_none hd4 hq, ne_of_none (z6 _ _ hd4) hdk, nqk⟩
            · rw [upd_ne dTL]
              exact z9 _ _ e
            · rw [upd_ne pL]
              exact z9 _ _ e
            · rw [upd_ne qL]
              exact hq9
            · rw [upd_ne dkL]
              exact hk9
          have ht10 := w10 _ _ ht9
          generalize upd H9 L (.lst ((ts ++ [t]).map V.ref)) = H10 at w10 x10 hL10 A10 ht10 ⊢
          have D10 := D3.keep x10 (fun e => nL (.inl e.symm)) fun e => nL (.inr e.symm)
          have hps3 : Paired (RecAt C H3) ts rs := Paired.mapP hps fun t r h => RecAt.keep h xs3 (h.a.deck Ds)
          have hpsA : ∀ H', Ext (Both d c p dT q dk) H10 H' → Paired (RecAt C H') ts rs := fun H' xx => Paired.mapP hps3 fun t r h => by
            have h10 := RecAt.keep h x10 (h.a.nolist hL3)
            refine RecAt.keep h10 xx fun a ha z => ?_
            rcases z with z | z
            · exact h10.a.deck D10 a ha z
            · obtain ⟨o, ho⟩ := h.a.old a ha
              rcases z with z | z | z | z
              · exact ne_of_none ho hp z
              · exact ne_of_none ho hdT z
              · exact ne_of_none ho hq3 z
              · exact ne_of_none ho dk3 z
          have nLB : ¬ Both d c p dT q dk L := fun z => by
            rcases z with z | z | z | z | z
            · exact nL z
            · exact pL z.symm
            · exact dTL z.symm
            · exact qL z.symm
            · exact dkL z.symm
          walk_at "rd"
          refine ⟨fun σ' H' => ∃ (o9 : Option V) (m' : Rows) (next' : Int), σ' = [some (.ref a), some (.ref d), some (.ref L), some (.int (0 + i)), none, some (.int (1 + r0)), some (.str kept), some (.ref p), some (.ref q), o9, some (.ref bt), some (.int after), o12, o13] ∧ PairAt C H' p dx dT q dk m' next' (1 + r0) ∧ Good m' next' (1 + r0) ∧
            0 ≤ next' ∧ next' ≤ 140 ∧ m'.length ≤ 40 ∧ Deck d c (1000 * i + 900) H' ∧ Ext (Both d c p dT q dk) H10 H', ?_, ?_⟩
          · walk_at "rd"
            refine ⟨d, c, _, _, rfl, D10, by omega, by decide, by decide, fun n H11 n0 n1 D11 x11 => ?_⟩
            walk_at "rd"
            have A11 := A10.keep x11 (A10.deck D10)
            let Pw : Nat → L2.St → Hp → Prop := fun j σ' H' => ∃ (o9 : Option V) (m' : Rows) (next' : Int), σ' = [some (.ref a), some (.ref d), some (.ref L), some (.int (0 + i)), none, some (.int (1 + r0)), some (.str kept), some (.ref p), some (.ref q), o9, some (.ref bt), some (.int after), o12, o13] ∧ PairAt C H' p dx dT q dk m' next' (1 + r0) ∧ Good m' next' (1 + r0) ∧
              0 ≤ next' ∧ next' ≤ 100 + j ∧ m'.length ≤ 5 + j ∧ Deck d c (1000 * i + 110 + 20 * j) H' ∧ Ext (Both d c p dT q dk) H10 H'
            refine ⟨n, rfl, by omega, by omega, for_range (lo := 0) (n := n.toNat) Pw ⟨_, m, after, rfl, A11, g, a0, by omega, by omega, D11.mono (by omega), x11.mono fun a z => .inl z⟩ (fun j σ H12 hj h => ?_) (fun σ H12 h => ?_)⟩
            · obtain ⟨o9, m', next', rfl, A12, g12, b0, b1, b2, D12, x12⟩ := h
              walk_at "rd"
              refine ⟨d, c, p, dx, dT, q, dk, m', _, next', 1 + r0, rfl, D12, by omega, A12, by omega, by omega, g12, b0, by omega, by omega, fun m2 n2 H13 A13 g13 c0 c1 c2 D13 x13 => ?_⟩
              walk_at "rd"
              refine k_ite (fun z => by cases z) fun _ => ?_
              walk_at "rd"
              refine ⟨p, dx, dT, q, dk, m2, n2, 1 + r0, rfl, A13, by omega, g13, by omega, by omega, by omega, fun H14 s14 => ?_⟩
              walk_at "rd"
              refine k_ite (fun z => by cases z) fun _ => ?_
              walk_at "rd"
              exact ⟨_, m2, n2, rfl, A13.same s14, g13, by omega, by omega, by omega, (D13.same s14).mono (by omega), (x12.trans x13).trans (Same.ext s14)⟩
            · obtain ⟨o9, m', next', rfl, A12, g12, b0, b1, b2, D12, x12⟩ := h
              walk_at "rd"
              exact ⟨_, m', next', rfl, A12, g12, b0, by omega, by omega, D12.mono (by omega), x12⟩
          · rintro σ' H12 ⟨o9, m', next', rfl, A12, g12, b0, b1, b2, D12, x12⟩
            have rT12 := ((rT.keep x10.1).keep x12.1)
            have hL12 := x12.2 _ _ nLB hL10
            have hps12 := Paired.snoc (hpsA H12 x12) (⟨x12.1 _ _ ht10, A12, g12, b0, (by show next' ≤ 1000; omega), (by show 1 + r0 ≤ 3; omega), (by show m'.length < 64; omega)⟩ : RecAt C H12 t ⟨p, dx, dT, q, dk, m', next', 1 + r0⟩)
            walk_at "rd"
            refine rr_rows rT12 (by omega) gn ?_
            walk_at "rd"
            rw [hkept]
            refine k_ite (fun z => by simp at z) fun _ => ?_
            walk_at "rd"
            unfold tLc
            walk_at "rd"
            refine ⟨L, rfl, ⟨_, SqL.of hL12⟩, fun B hB => ?_⟩
            refine lc_list (xs := (ts ++ [t]).map V.ref) (fun j H' => Same H12 H' ∧ H' B = some (.lst [])) ⟨Same.upd hB, upd_same⟩ (fun j H' _ h => SqL.of (h.1 _ _ hL12)) (fun j x H13 hx h => ?_) (fun H13 h => ?_)
            · obtain ⟨s13, hB13⟩ := h
              rw [List.getElem?_map] at hx
              obtain ⟨t', ht', rfl⟩ := Option.map_eq_some_iff.mp hx
              obtain ⟨r', _, R⟩ := pget hps12 ht'
              refine k_gTup (SqT.of (s13 _ _ R.t)) rfl ?_
              walk_at "rd"
              refine ⟨rfl, ?_⟩
              walk_at "rd"
              refine ⟨r'.p, r'.dx, r'.dT, r'.q, r'.dk, r'.m, r'.next, r'.many, rfl, R.a.same s13, R.k, R.g, R.n0, Int.le_trans R.n1 (by decide), R.l, fun H14 s14 => ?_⟩
              walk_at "rd"
              refine k_ite (fun z => by cases z) fun _ => ?_
              exact ⟨s13.trans s14, s14 _ _ hB13⟩
            · obtain ⟨s13, hB13⟩ := h
              walk_at "rd"
              refine ⟨k_sz rfl, fun B2 hB2 => ?_⟩
              refine ne_lst0 (lk_new hB13 hB2) upd_same ?_
              have s14 := s13.trans (Same.upd (o := .lst []) hB2)
              walk_at "rd"
              refine k_ite (fun z => by cases z) fun _ => ?_
              walk_at "rd"
              refine ⟨⟨_, _, _, _, _, _, _, _, _, _, rfl⟩, (D12.same s14).mono (by omega), ts ++ [t], rs ++ [_], s14 _ _ hL12, Paired.mapP hps12 fun t r h => RecAt.keep h (M := fun _ => False) (Same.ext s14) fun _ _ z => z, by simp [lts]⟩
      · obtain ⟨⟨o3, o5, o6, o7, o8, o9, o10, o11, o12, o13, rfl⟩, _⟩ := h
        exact ⟨_, _, _, _, _, _, _, _, _, _, rfl⟩
    · rintro σ' Hr ⟨o3, o5, o6, o7, o8, o9, o10, o11, o12, o13, rfl⟩
      walk_at "rd"
      refine mk0 J fun p dx dT H1 _ T1 => ?_
      walk_at "rd"
      refine ⟨_, rfl, p, dx, _, rfl, T1.1, rows0 T1 fun u H2 s2 hu2 => ?_⟩
      walk_at "rd"
      refine ⟨k_sz rfl, fun y hy => ?_⟩
      refine ne_tup0 (lk_new hu2 hy) upd_same ?_
      have T3 : TableAt C (upd H2 y (.tup [])) p dx dT [] 0 := (T1.keep (Tups.same s2) (fun o e => s2 _ _ e) fun o e => s2 _ _ e).keep (tups_new hy) (fun o e => lk_new e hy) fun o e => lk_new e hy
      generalize upd H2 y (.tup []) = H3 at T3 ⊢
      walk_at "rd"
      refine k_ite (fun z => by cases z) fun _ => ?_
      walk_at "rd"
      refine ⟨p, dx, _, rfl, T3.1, p, dx, dT, [], 0, rfl, T3, _, rfl, Nat.zero_le _, ?_⟩
      walk_at "rd"
      refine k_ite (fun z => by simp at z) fun _ => ?_
      walk_at "rd"
      refine ⟨p, dx, _, rfl, T3.1, p, dx, dT, [], 0, _, rfl, T3, _, rfl, ?_⟩
      walk_at "rd"
      refine k_ite (fun z => by cases z) fun _ => ?_
      walk_at "rd"
      refine ⟨_, rfl, p, dx, _, rfl, T3.1, flds_no _ _ (by decide +kernel) (by decide +kernel), ?_⟩
      walk_at "rd"
      refine ⟨[.ref p], [.int 5], rfl, rfl, k_sz rfl, fun y hy => put0 T3 hy fun H4 T4 => ?_⟩
      walk_at "rd"
      refine k_ite (fun z => by simp at z) fun _ => ?_
      walk_at "rd"
      refine ⟨_, rfl, p, dx, _, rfl, T4.1, rows1 T4 fun u H5 s5 hu5 => ?_⟩
      walk_at "rd"
      refine ⟨k_sz rfl, fun y1 h1 => ?_⟩
      walk_at "rd"
      refine ⟨k_sz rfl, fun y2 h2 => ?_⟩
      walk_at "rd"
      refine ⟨k_sz rfl, fun y3 h3 => ?_⟩
      walk_at "rd"
      refine ne_row1 (hu5.keep (((tups_new h1).trans (tups_new h2)).trans (tups_new h3))) upd_same (lk_new upd_same h3) (lk_new (lk_new upd_same h2) h3) ?_
      walk_at "rd"
      refine k_ite (fun z => by cases z) fun _ => ?_
      walk_at "rd"
      unfold tProp
      refine mk0 J fun p2 dx2 dT2 H6 _ T6 => ?_
      refine ⟨p2, dx2, _, rfl, T6.1, rows0 T6 fun u2 H7 s7 hu7 => ?_⟩
      walk_at "rd"
      refine ⟨k_sz rfl, fun y4 h4 => ?_⟩
      refine eq_tup0 (lk_new hu7 h4) upd_same ?_
      refine ⟨true, rfl, iteT ?_⟩
      walk_at "rd"
      unfold tMethR
      refine mk0 J fun p3 dx3 dT3 H8 _ T8 => ?_
      refine ⟨p3, dx3, _, rfl, T8.1, flds_no _ _ (by decide +kernel) (by decide +kernel), ?_⟩
      walk_at "rd"
      refine ⟨[.ref p3], [.int 7], rfl, rfl, k_sz rfl, fun y hy => put0 T8 hy fun H9 T9 => ?_⟩
      walk_at "rd"
      rw [decide_eq_true rfl]
      exact k _
end
end K21

set_option Elab.async false
set_option maxRecDepth 100000
set_option maxHeartbeats 4000000
set_option linter.unusedVariables false
namespace K21
open PySem PySem.Spec PyProof.Rows L2 Own
theorem kb_of {K : PySem.W.Frag} {x qual : Str} {st : Stmt} {f : Addr} {fd : FuncData} {ps ks : List Str} {n : Nat} {g : List Value → List Value → List Value} {gV : List V → List V → List V} (F : Fun K x qual st f fd)
    (rel : ∀ {vs : List V} {us : List Value} {zs : List V} {ws : List Value}, Vals vs us → Vals zs ws → Vals (gV vs zs) (g us ws))
    (h : ∀ (kV doc pm : Value) (an : Option Addr) (cdv ct : Value) (us ws : List Value), us.length = n → ws.length = ks.length →
      bindArgs (PySem.W.fnOf x qual (defArgs st) (defBody st) (defScope st) .none kV doc pm an cdv ct) ⟨us, ks.zip ws⟩ = pure (ps.zip (g us ws))) : KBn K fd ps n ks g gV := by
  obtain ⟨oc, od, kV, doc, pm, an, cdv, ct, osl, rfl, _, _⟩ := F.ex
  exact ⟨fun s us ws _ l1 l2 => BindsTo.of_eq (h kV doc pm an cdv ct us ws l1 l2), rel⟩
/-- keywords for a def with defaults, none of which is needed -/
theorem kb_def {K : PySem.W.Frag} {x qual : Str} {params : Arguments} {body : List Stmt} {scope : Scope} {kws : List (Str × V)} {dvs : List V} {f : Addr} {fd : FuncData} {ps ks : List Str} {n : Nat} {g : List Value → List Value → List Value} {gV : List V → List V → List V}
    (F : FunD K x qual params body scope dvs kws f fd) (hd : dvs ≠ [])
    (rel : ∀ {vs : List V} {us : List Value} {zs : List V} {ws : List Value}, Vals vs us → Vals zs ws → Vals (gV vs zs) (g us ws))
    (h : ∀ (T : Addr) (kV doc pm : Value) (an : Option Addr) (cdv ct : Value) (us its ws : List Value), us.length = n → its.length = dvs.length → ws.length = ks.length →
      ∃ k, bindArgs (PySem.W.fnOf x qual params body scope (.ref T) kV doc pm an cdv ct) ⟨us, ks.zip ws⟩ = seqItems? (.ref T) >>= k ∧ k (some its.toArray) = pure (ps.zip (g us ws))) : KBn K fd ps n ks g gV := by
  obtain ⟨oc, od, dV, kV, doc, pm, an, cdv, ct, osl, rfl, lk, hcd, hD, hK⟩ := F.ex
  rcases hD with ⟨e, _⟩ | ⟨_, T, o, its, m, rfl, lT, oT, rT⟩
  · exact absurd e hd
  · refine ⟨fun s us ws X l1 l2 => ?_, rel⟩
    obtain ⟨k, e1, e2⟩ := h T kV doc pm an cdv ct us its ws l1 rT.length.symm l2
    refine BindsTo.of_looks fun M => ?_
    rw [e1]
    exact looks_items X lT oT (.of_pure e2)
theorem vals_rev : ∀ {zs : List V} {ws : List Value}, Vals zs ws → Vals zs.reverse ws.reverse
  | _, _, .nil => .nil
  | _, _, .cons h t => by
    rw [List.reverse_cons, List.reverse_cons]
    exact (vals_rev t).append (.cons h .nil)
theorem rel_rev {vs zs : List V} {us ws : List Value} (a : Vals vs us) (b : Vals zs ws) : Vals (gCV vs zs) (gC us ws) := a.append (vals_rev b)
theorem raw0 {P : Program} {w : World} {K : PySem.W.Frag} {mg : Str → Option Value} {g0 : Heap} {k : Nat} {f : Addr} {fd : FuncData} {ps : List Str} {sp : Sp} (F : FnOk P w K mg g0 CX0 k f fd ps sp) (b : Binds K fd ps []) : FnR P w K mg g0 CX0 k f sp :=
  (F.raw b .nil).imp fun vs H Q E h => by rw [List.append_nil]; exact h
theorem all_mk {l : PySem.W.OpenLaw} {w : World} {K : PySem.W.Frag} {h : Heap} {mg : Str → Option Value} {fa C N Wk Tb T0 e0 pr : Addr} (X : K.In h) (G : h.Ns mainGlobals mg) (hfa : mg "law" = some (.ref fa))
    {fI : Addr} {odI anI : Option Addr} {slI : Array (Option Value)} {ocI kVI dcI pmI cdI ctI : Value}
    {fput : Addr} {odput anput : Option Addr} {slput : Array (Option Value)} {ocput kVput dcput pmput cdput ctput : Value}
    {fchange : Addr} {odchange anchange : Option Addr} {slchange : Array (Option Value)} {occhange kVchange dcchange pmchange cdchange ctchange : Value}
    {fdrop : Addr} {oddrop androp : Option Addr} {sldrop : Array (Option Value)} {ocdrop kVdrop dcdrop pmdrop cddrop ctdrop : Value}
    {fin : Addr} {odin anin : Option Addr} {slin : Array (Option Value)} {ocin kVin dcin pmin cdin ctin : Value}
    {flen : Addr} {odlen anlen : Option Addr} {sllen : Array (Option Value)} {oclen kVlen dclen pmlen cdlen ctlen : Value}
    {frows : Addr} {odrows anrows : Option Addr} {slrows : Array (Option Value)} {ocrows kVrows dcrows pmrows cdrows ctrows : Value}
    {fNI : Addr} {odNI anNI : Option Addr} {slNI : Array (Option Value)} {ocNI kVNI dcNI pmNI cdNI ctNI : Value}
    {nmN qN : Str} {NN : Addr} {bsN bmN : List Value} {snN : List Str} {subN : List Value} {abN : Bool} {colN : Option Bool} {ddN : Option Addr} {m0N m1N m2N m3N m5N : Option Value}
    {ocT : Value} {odT odE : Option Addr} {slT slE : Array (Option Value)} {nT nE : Nat} {restP : List Value} {tk0 : Tok}
    (aC : PySem.W.nsIn K mainGlobals "LiveTable" = some (some (.ref C)))
    (aN : PySem.W.nsIn K mainGlobals "NoRow" = some (some (.ref N)))
    (aW : PySem.W.nsIn K mainGlobals "WakeError" = some (some (.ref Wk)))
    (aT : PySem.W.nsIn K mainGlobals "NoTable" = some (some (.ref Tb)))
    (pg : PySem.W.plainGet K C Str.empty = true)
    (hd : PySem.W.hasDictIn K C = true)
    (po : PySem.W.plainOver K C = true)
    (sa : PySem.W.findIn K (.ref C) "__setattr__" = some (some (.builtin "object.__setattr__")))
    (nR : PySem.W.findIn K (.ref C) "_rows" = some none)
    (nF : PySem.W.findIn K (.ref C) "_following" = some none)
    (mki : PySem.W.makesIn K C = true)
    (kC : PySem.W.keepIn K (.ref C) = true)
    (aI : PySem.W.findIn K (.ref C) "__init__" = some (some (.ref fI)))
    (iI : PySem.W.isFn K (.ref fI) = true)
    (lI : K.lookup fI = some ⟨ocI, odI, .func (PySem.W.fnOf "__init__" "LiveTable.__init__" (defArgs s_LiveTable___init__) (defBody s_LiveTable___init__) (defScope s_LiveTable___init__) (.ref T0) kVI dcI pmI anI cdI ctI), slI⟩)
    (cI : PySem.W.codeIn K cdI "LiveTable.__init__" = true)
    (kI : PySem.W.keepIn K (.ref fI) = true)
    (lT : K.lookup T0 = some ⟨ocT, odT, .seq #[.ref e0, .int 0 tk0] nT, slT⟩)
    (lE : K.lookup e0 = some ⟨.type "tuple", odE, .seq #[] nE, slE⟩)
    (aput : PySem.W.findIn K (.ref C) "put" = some (some (.ref fput)))
    (iput : PySem.W.isFn K (.ref fput) = true)
    (lput : K.lookup fput = some ⟨ocput, odput, .func (PySem.W.fnOf "put" "LiveTable.put" (defArgs s_LiveTable_put) (defBody s_LiveTable_put) (defScope s_LiveTable_put) .none kVput dcput pmput anput cdput ctput), slput⟩)
    (cput : PySem.W.codeIn K cdput "LiveTable.put" = true)
    (kput : PySem.W.keepIn K (.ref fput) = true)
    (achange : PySem.W.findIn K (.ref C) "change" = some (some (.ref fchange)))
    (ichange : PySem.W.isFn K (.ref fchange) = true)
    (lchange : K.lookup fchange = some ⟨occhange, odchange, .func (PySem.W.fnOf "change" "LiveTable.change" (defArgs s_LiveTable_change) (defBody s_LiveTable_change) (defScope s_LiveTable_change) .none kVchange dcchange pmchange anchange cdchange ctchange), slchange⟩)
    (cchange : PySem.W.codeIn K cdchange "LiveTable.change" = true)
    (kchange : PySem.W.keepIn K (.ref fchange) = true)
    (adrop : PySem.W.findIn K (.ref C) "drop" = some (some (.ref fdrop)))
    (idrop : PySem.W.isFn K (.ref fdrop) = true)
    (ldrop : K.lookup fdrop = some ⟨ocdrop, oddrop, .func (PySem.W.fnOf "drop" "LiveTable.drop" (defArgs s_LiveTable_drop) (defBody s_LiveTable_drop) (defScope s_LiveTable_drop) .none kVdrop dcdrop pmdrop androp cddrop ctdrop), sldrop⟩)
    (cdrop : PySem.W.codeIn K cddrop "LiveTable.drop" = true)
    (kdrop : PySem.W.keepIn K (.ref fdrop) = true)
    (ain : PySem.W.findIn K (.ref C) "__contains__" = some (some (.ref fin)))
    (iin : PySem.W.isFn K (.ref fin) = true)
    (lin : K.lookup fin = some ⟨ocin, odin, .func (PySem.W.fnOf "__contains__" "LiveTable.__contains__" (defArgs s_LiveTable___contains__) (defBody s_LiveTable___contains__) (defScope s_LiveTable___contains__) .none kVin dcin pmin anin cdin ctin), slin⟩)
    (cin : PySem.W.codeIn K cdin "LiveTable.__contains__" = true)
    (kin : PySem.W.keepIn K (.ref fin) = true)
    (alen : PySem.W.findIn K (.ref C) "__len__" = some (some (.ref flen)))
    (ilen : PySem.W.isFn K (.ref flen) = true)
    (llen : K.lookup flen = some ⟨oclen, odlen, .func (PySem.W.fnOf "__len__" "LiveTable.__len__" (defArgs s_LiveTable___len__) (defBody s_LiveTable___len__) (defScope s_LiveTable___len__) .none kVlen dclen pmlen anlen cdlen ctlen), sllen⟩)
    (clen : PySem.W.codeIn K cdlen "LiveTable.__len__" = true)
    (klen : PySem.W.keepIn K (.ref flen) = true)
    (aP : PySem.W.findIn K (.ref C) "rows" = some (some (.ref pr)))
    (gP : PySem.W.specialIn K (.ref pr) "__get__" = some (some (.builtin "property.__get__")))
    (tP : PySem.W.takesIn K (.ref pr) = some true)
    (rP : PySem.W.recIn K pr "property" = some (.ref frows :: restP))
    (lrows : K.lookup frows = some ⟨ocrows, odrows, .func (PySem.W.fnOf "rows" "LiveTable.rows" (defArgs s_LiveTable_rows) (defBody s_LiveTable_rows) (defScope s_LiveTable_rows) .none kVrows dcrows pmrows anrows cdrows ctrows), slrows⟩)
    (crows : PySem.W.codeIn K cdrows "LiveTable.rows" = true)
    (krows : PySem.W.keepIn K (.ref frows) = true)
    (xL : K.lookup N = some (excClassObj nmN qN N NN bsN bmN true snN subN abN colN ddN m0N m1N m2N m3N m5N "ValueError.__new__"))
    (xb : PySem.HandSPX.refsVE bmN = true)
    (saN : PySem.W.findIn K (.ref N) "__setattr__" = some (some (.builtin "object.__setattr__")))
    (exN : PySem.W.subIn K (.ref N) (.type "BaseException") = some true)
    (tyN : PySem.W.typeIn K (.ref N) = some (.type "type"))
    (kN : PySem.W.keepIn K (.ref N) = true)
    (n1 : PySem.W.findIn K (.ref N) "name" = some none)
    (n2 : PySem.W.findIn K (.ref N) "number" = some none)
    (gaN : PySem.W.findIn K (.ref N) "__getattribute__" = some (some (.builtin "BaseException.__getattribute__")))
    (ggN : PySem.W.findIn K (.ref N) "__getattr__" = some none)
    (hdN : PySem.W.hasDictIn K N = true)
    (haN : PySem.W.findIn K (.ref N) "__class__" = some (some (.builtin "object.__class__")))
    (hnN : PySem.W.specialIn K (.builtin "object.__class__") "__get__" = some (some (.builtin "getset_descriptor.__get__")))
    (htN : PySem.W.takesIn K (.builtin "object.__class__") = some true)
    (hmN : PySem.W.mroIn K N (.type "object") = some true)
    (seN : PySem.W.exmOne K (.ref N) (.ref N) = some true)
    (s1N : PySem.W.kitOne K (.ref N) (.ref Wk) = some true)
    (s2N : PySem.W.kitOne K (.ref N) (.type "ValueError") = some true)
    (s3N : PySem.W.kitOne K (.ref N) (.ref Tb) = some false)
    (aNI : PySem.W.findIn K (.ref N) "__init__" = some (some (.ref fNI)))
    (tNI : PySem.W.typeIn K (.ref fNI) = some (.type "function"))
    (lNI : K.lookup fNI = some ⟨ocNI, odNI, .func (PySem.W.fnOf "__init__" "NoRow.__init__" (defArgs s_NoRow___init__) (defBody s_NoRow___init__) (defScope s_NoRow___init__) .none kVNI dcNI pmNI anNI cdNI ctNI), slNI⟩)
    (cNI : PySem.W.codeIn K cdNI "NoRow.__init__" = true)
    (kNI : PySem.W.keepIn K (.ref fNI) = true)
    {f1 : Addr} {od1 an1 : Option Addr} {sl1 : Array (Option Value)} {oc1 kV1 dc1 pm1 cd1 ct1 : Value}
    (a1 : PySem.W.nsIn K mainGlobals "_law_deck" = some (some (.ref f1))) (l1 : K.lookup f1 = some ⟨oc1, od1, .func (PySem.W.fnOf "_law_deck" "_law_deck" (defArgs s_deck) (defBody s_deck) (defScope s_deck) .none kV1 dc1 pm1 an1 cd1 ct1), sl1⟩)
    (c1 : PySem.W.codeIn K cd1 "_law_deck" = true) (k1 : PySem.W.keepIn K (.ref f1) = true)
    {f2 : Addr} {od2 an2 : Option Addr} {sl2 : Array (Option Value)} {oc2 kV2 dc2 pm2 cd2 ct2 : Value}
    (a2 : PySem.W.nsIn K mainGlobals "_law_draw" = some (some (.ref f2))) (l2 : K.lookup f2 = some ⟨oc2, od2, .func (PySem.W.fnOf "_law_draw" "_law_draw" (defArgs s_draw) (defBody s_draw) (defScope s_draw) .none kV2 dc2 pm2 an2 cd2 ct2), sl2⟩)
    (c2 : PySem.W.codeIn K cd2 "_law_draw" = true) (k2 : PySem.W.keepIn K (.ref f2) = true)
    {f3 : Addr} {od3 an3 : Option Addr} {sl3 : Array (Option Value)} {oc3 kV3 dc3 pm3 cd3 ct3 : Value}
    (a3 : PySem.W.nsIn K mainGlobals "_law_pick" = some (some (.ref f3))) (l3 : K.lookup f3 = some ⟨oc3, od3, .func (PySem.W.fnOf "_law_pick" "_law_pick" (defArgs s_pick) (defBody s_pick) (defScope s_pick) .none kV3 dc3 pm3 an3 cd3 ct3), sl3⟩)
    (c3 : PySem.W.codeIn K cd3 "_law_pick" = true) (k3 : PySem.W.keepIn K (.ref f3) = true)
    {f4 : Addr} {od4 an4 : Option Addr} {sl4 : Array (Option Value)} {oc4 kV4 dc4 pm4 cd4 ct4 : Value}
    (a4 : PySem.W.nsIn K mainGlobals "_law_values" = some (some (.ref f4))) (l4 : K.lookup f4 = some ⟨oc4, od4, .func (PySem.W.fnOf "_law_values" "_law_values" (defArgs s_values) (defBody s_values) (defScope s_values) .none kV4 dc4 pm4 an4 cd4 ct4), sl4⟩)
    (c4 : PySem.W.codeIn K cd4 "_law_values" = true) (k4 : PySem.W.keepIn K (.ref f4) = true)
    {f5 : Addr} {od5 an5 : Option Addr} {sl5 : Array (Option Value)} {oc5 kV5 dc5 pm5 cd5 ct5 : Value}
    (a5 : PySem.W.nsIn K mainGlobals "_law_rows" = some (some (.ref f5))) (l5 : K.lookup f5 = some ⟨oc5, od5, .func (PySem.W.fnOf "_law_rows" "_law_rows" (defArgs s_rows) (defBody s_rows) (defScope s_rows) .none kV5 dc5 pm5 an5 cd5 ct5), sl5⟩)
    (c5 : PySem.W.codeIn K cd5 "_law_rows" = true) (k5 : PySem.W.keepIn K (.ref f5) = true)
    {f6 : Addr} {od6 an6 : Option Addr} {sl6 : Array (Option Value)} {oc6 kV6 dc6 pm6 cd6 ct6 : Value}
    (a6 : PySem.W.nsIn K mainGlobals "_law_refused" = some (some (.ref f6))) (l6 : K.lookup f6 = some ⟨oc6, od6, .func (PySem.W.fnOf "_law_refused" "_law_refused" (defArgs s_refused) (defBody s_refused) (defScope s_refused) .none kV6 dc6 pm6 an6 cd6 ct6), sl6⟩)
    (c6 : PySem.W.codeIn K cd6 "_law_refused" = true) (k6 : PySem.W.keepIn K (.ref f6) = true)
    {f7 : Addr} {od7 an7 : Option Addr} {sl7 : Array (Option Value)} {oc7 kV7 dc7 pm7 cd7 ct7 : Value}
    (a7 : PySem.W.nsIn K mainGlobals "_law_alike" = some (some (.ref f7))) (l7 : K.lookup f7 = some ⟨oc7, od7, .func (PySem.W.fnOf "_law_alike" "_law_alike" (defArgs s_alike) (defBody s_alike) (defScope s_alike) .none kV7 dc7 pm7 an7 cd7 ct7), sl7⟩)
    (c7 : PySem.W.codeIn K cd7 "_law_alike" = true) (k7 : PySem.W.keepIn K (.ref f7) = true)
    {f8 : Addr} {od8 an8 : Option Addr} {sl8 : Array (Option Value)} {oc8 kV8 dc8 pm8 cd8 ct8 : Value}
    (a8 : PySem.W.nsIn K mainGlobals "_law_put" = some (some (.ref f8))) (l8 : K.lookup f8 = some ⟨oc8, od8, .func (PySem.W.fnOf "_law_put" "_law_put" (defArgs s_put) (defBody s_put) (defScope s_put) .none kV8 dc8 pm8 an8 cd8 ct8), sl8⟩)
    (c8 : PySem.W.codeIn K cd8 "_law_put" = true) (k8 : PySem.W.keepIn K (.ref f8) = true)
    {f9 : Addr} {od9 an9 : Option Addr} {sl9 : Array (Option Value)} {oc9 kV9 dc9 pm9 cd9 ct9 : Value}
    (a9 : PySem.W.nsIn K mainGlobals "_law_deed" = some (some (.ref f9))) (l9 : K.lookup f9 = some ⟨oc9, od9, .func (PySem.W.fnOf "_law_deed" "_law_deed" (defArgs s_deed) (defBody s_deed) (defScope s_deed) .none kV9 dc9 pm9 an9 cd9 ct9), sl9⟩)
    (c9 : PySem.W.codeIn K cd9 "_law_deed" = true) (k9 : PySem.W.keepIn K (.ref f9) = true)
    {f10 : Addr} {od10 an10 : Option Addr} {sl10 : Array (Option Value)} {oc10 kV10 dc10 pm10 cd10 ct10 : Value}
    (a10 : PySem.W.nsIn K mainGlobals "law" = some (some (.ref f10))) (l10 : K.lookup f10 = some ⟨oc10, od10, .func (PySem.W.fnOf "law" "law" (defArgs s_law) (defBody s_law) (defScope s_law) .none kV10 dc10 pm10 an10 cd10 ct10), sl10⟩)
    (c10 : PySem.W.codeIn K cd10 "law" = true) (k10 : PySem.W.keepIn K (.ref f10) = true)
    (z_list : PySem.W.nsIn K mainGlobals "list" = some none)
    (z_len : PySem.W.nsIn K mainGlobals "len" = some none)
    (z_tuple : PySem.W.nsIn K mainGlobals "tuple" = some none)
    (z_range : PySem.W.nsIn K mainGlobals "range" = some none)
    (z_repr : PySem.W.nsIn K mainGlobals "repr" = some none)
    (z_sorted : PySem.W.nsIn K mainGlobals "sorted" = some none)
    (z_set : PySem.W.nsIn K mainGlobals "set" = some none)
    (z_isinstance : PySem.W.nsIn K mainGlobals "isinstance" = some none)
    (z_int : PySem.W.nsIn K mainGlobals "int" = some none)
    (z_bool : PySem.W.nsIn K mainGlobals "bool" = some none)
    (z_ValueError : PySem.W.nsIn K mainGlobals "ValueError" = some none)
    (z_dict : PySem.W.nsIn K mainGlobals "dict" = some none) :
    ∃ fd : FuncData, (∀ (s : Shared) (v : Value), BindsTo s fd ⟨[v], []⟩ [("_law_script", v)]) ∧
      ∀ g0 : Heap, K.In g0 → g0.Ns mainGlobals mg → GOk l.prog w K mg g0 CX0 6 fa fd ["_law_script"] (spLaw K) := by
  have e := hfa.symm.trans (PySem.W.mg_of X G a10)
  cases e
  have F1 := fun_mk (st := s_deck) l1 c1 k1
  have b1 := F1.binds (ps := ["_law_script"]) fun _ _ _ _ _ _ us hl => match us, hl with | [_], _ => rfl
  have F2 := fun_mk (st := s_draw) l2 c2 k2
  have b2 := F2.binds (ps := ["_law_deck_here", "_law_many"]) fun _ _ _ _ _ _ us hl => match us, hl with | [_, _], _ => rfl
  have F3 := fun_mk (st := s_pick) l3 c3 k3
  have b3 := F3.binds (ps := ["_law_deck_here", "_law_some"]) fun _ _ _ _ _ _ us hl => match us, hl with | [_, _], _ => rfl
  have F4 := fun_mk (st := s_values) l4 c4 k4
  have b4 := F4.binds (ps := ["_law_deck_here", "_law_many"]) fun _ _ _ _ _ _ us hl => match us, hl with | [_, _], _ => rfl
  have F5 := fun_mk (st := s_rows) l5 c5 k5
  have b5 := F5.binds (ps := ["_law_deck_here", "_law_many"]) fun _ _ _ _ _ _ us hl => match us, hl with | [_, _], _ => rfl
  have F6 := fun_mk (st := s_refused) l6 c6 k6
  have b6 := F6.binds (ps := ["_law_table", "_law_place", "_law_fresh"]) fun _ _ _ _ _ _ us hl => match us, hl with | [_, _, _], _ => rfl
  have F7 := fun_mk (st := s_alike) l7 c7 k7
  have b7 := F7.binds (ps := ["_law_table", "_law_model"]) fun _ _ _ _ _ _ us hl => match us, hl with | [_, _], _ => rfl
  have F8 := fun_mk (st := s_put) l8 c8 k8
  have b8 := F8.binds (ps := ["_law_deck_here", "_law_table", "_law_model"]) fun _ _ _ _ _ _ us hl => match us, hl with | [_, _, _], _ => rfl
  have F9 := fun_mk (st := s_deed) l9 c9 k9
  have b9 := F9.binds (ps := ["_law_deck_here", "_law_table", "_law_model"]) fun _ _ _ _ _ _ us hl => match us, hl with | [_, _, _], _ => rfl
  have Fput := fun_mk (st := s_LiveTable_put) lput cput kput
  have Fchange := fun_mk (st := s_LiveTable_change) lchange cchange kchange
  have Fdrop := fun_mk (st := s_LiveTable_drop) ldrop cdrop kdrop
  have Fin := fun_mk (st := s_LiveTable___contains__) lin cin kin
  have Flen := fun_mk (st := s_LiveTable___len__) llen clen klen
  have Frows := fun_mk (st := s_LiveTable_rows) lrows crows krows
  have FNI := fun_mk (st := s_NoRow___init__) lNI cNI kNI
  have bchange := Fchange.binds (ps := ["self", "number", "values"]) fun _ _ _ _ _ _ us hl => match us, hl with | [_, _, _], _ => rfl
  have bdrop := Fdrop.binds (ps := ["self", "number"]) fun _ _ _ _ _ _ us hl => match us, hl with | [_, _], _ => rfl
  have bin := Fin.binds (ps := ["self", "x"]) fun _ _ _ _ _ _ us hl => match us, hl with | [_, _], _ => rfl
  have blen := Flen.binds (ps := ["self"]) fun _ _ _ _ _ _ us hl => match us, hl with | [_], _ => rfl
  have brows := Frows.binds (ps := ["self"]) fun _ _ _ _ _ _ us hl => match us, hl with | [_], _ => rfl
  have bNI := FNI.binds (ps := ["self", "name", "number"]) fun _ _ _ _ _ _ us hl => match us, hl with | [_, _, _], _ => rfl
  have y_list := PySem.W.mg_none_of X G z_list
  have y_len := PySem.W.mg_none_of X G z_len
  have y_tuple := PySem.W.mg_none_of X G z_tuple
  have y_range := PySem.W.mg_none_of X G z_range
  have y_repr := PySem.W.mg_none_of X G z_repr
  have y_sorted := PySem.W.mg_none_of X G z_sorted
  have y_set := PySem.W.mg_none_of X G z_set
  have y_isinstance := PySem.W.mg_none_of X G z_isinstance
  have y_int := PySem.W.mg_none_of X G z_int
  have y_bool := PySem.W.mg_none_of X G z_bool
  have y_ValueError := PySem.W.mg_none_of X G z_ValueError
  have y_dict := PySem.W.mg_none_of X G z_dict
  have FI : FunD K "__init__" "LiveTable.__init__" (defArgs s_LiveTable___init__) (defBody s_LiveTable___init__) (defScope s_LiveTable___init__) [V.ref e0, V.int 0] [] fI _ :=
    ⟨⟨_, _, _, _, _, _, _, _, _, _, rfl, lI, cI, .inr ⟨by simp, T0, _, [.ref e0, .int 0 tk0], nT, rfl, lT, rfl, .cons rfl (.cons ⟨_, rfl⟩ .nil)⟩, .inl rfl⟩, kI⟩
  obtain ⟨ds3, v3, bI3⟩ := FI.binds1 (ps := ["self", "rows", "following"]) 3 2 (by simp) rfl fun _ _ _ _ _ _ _ us its h1 h2 => match us, h1, its, h2 with | [_, _, _], _, [_, _], _ => ⟨_, rfl, rfl⟩
  cases v3
  obtain ⟨ds0, v0, bI0⟩ := FI.binds1 (ps := ["self", "rows", "following"]) 1 0 (by simp) rfl fun _ _ _ _ _ _ _ us its h1 h2 => match us, h1, its, h2 with | [_], _, [_, _], _ => ⟨_, rfl, rfl⟩
  have kbI : KBn K _ ["self", "rows", "following"] 1 ["following", "rows"] gC gCV := kb_def FI (by simp) rel_rev fun _ _ _ _ _ _ _ us its ws h1 h2 h3 => match us, h1, its, h2, ws, h3 with | [_], _, [_, _], _, [_, _], _ => ⟨_, rfl, rfl⟩
  have kbC : KBn K _ ["self", "number", "values"] 1 ["values", "number"] gC gCV := kb_of Fchange rel_rev fun _ _ _ _ _ _ us ws h1 h2 => match us, h1, ws, h2 with | [_], _, [_, _], _ => rfl
  have kbD : KBn K _ ["self", "number"] 1 ["number"] gD gDV := kb_of Fdrop (fun a b => a.append b) fun _ _ _ _ _ _ us ws h1 h2 => match us, h1, ws, h2 with | [_], _, [_], _ => rfl
  refine ⟨PySem.W.fnOf "law" "law" (defArgs s_law) (defBody s_law) (defScope s_law) .none kV10 dc10 pm10 an10 cd10 ct10, fun s v => .of_eq rfl, fun g0 _ _ => ?_⟩
  have tx : Txt K C := ⟨⟨pg, hd, po, sa⟩, nR, nF⟩
  have nt : NoTxt K N := ⟨⟨⟨_, _, _, _, _, _, _, _, _, _, _, _, _, _, _, xL, xb⟩, saN, exN, tyN, kN⟩, n1, n2⟩
  have FinR : FnR l.prog w K mg g0 CX0 1 fin (spIn C) := raw0 (ok_in Fin tx y_isinstance y_int y_bool) bin
  have FlenR : FnR l.prog w K mg g0 CX0 1 flen (spLen C) := raw0 (ok_len Flen tx y_len) blen
  have T : Cl l.prog w K mg g0 C N := ⟨tx, PySem.W.mg_of X G aC, ⟨_, ⟨aput, iput, kput⟩, ok_put Fput tx fun kV doc pm an cdv ct us rest hl => StX.bind_star1 (p1 := "self") (pv := "values") (B := fun vs => bindArgs (PySem.W.fnOf "put" "LiveTable.put" (defArgs s_LiveTable_put) (defBody s_LiveTable_put) (defScope s_LiveTable_put) .none kV doc pm an cdv ct) ⟨vs, []⟩) (fun _ => rfl) (fun _ _ _ => rfl) us rest hl⟩, ⟨_, ain, beq_iff_eq.mp iin, FinR⟩,
    ⟨_, alen, beq_iff_eq.mp ilen, FlenR⟩, ⟨_, _, _, ⟨aP, gP, tP, ⟨_, rP⟩⟩, ok_rows Frows tx y_tuple y_sorted, brows⟩⟩
  have I : Ins l.prog w K mg g0 C N := ⟨tx, nt, PySem.W.mg_of X G aN, ⟨_, ain, beq_iff_eq.mp iin, FinR⟩, ⟨_, _, aNI, tNI, ok_no FNI nt, bNI⟩⟩
  have R : Ref l.prog w K mg g0 C N Wk Tb := ⟨T, PySem.W.mg_of X G aN, PySem.W.mg_of X G aW, PySem.W.mg_of X G aT, seN, s1N, s2N, s3N, ⟨gaN, ggN, exN, hdN, haN, hnN, htN, hmN⟩, ⟨gaN, ggN, exN, hdN⟩, n1, n2,
    ⟨_, _, ⟨achange, ichange, kchange⟩, ok_change Fchange I y_tuple, bchange, kbC⟩, ⟨_, _, ⟨adrop, idrop, kdrop⟩, ok_drop Fdrop I, bdrop, kbD⟩⟩
  have J : Ini l.prog w K mg g0 C e0 := ⟨⟨_, _, ⟨mki, aI, iI, kC⟩, ok_init FI tx, bI3, kbI, _, v0, bI0⟩, fun H => .inr ⟨_, #[], nE, lE, rfl, rfl, Nat.zero_le _, .nil⟩⟩
  have C1 : Cal l.prog w K mg g0 "_law_deck" 1 ["_law_script"] (spDeck K) := ⟨_, _, ok_deck F1 y_list, b1, PySem.W.mg_of X G a1, k1⟩
  have C2 : Cal l.prog w K mg g0 "_law_draw" 1 ["_law_deck_here", "_law_many"] (spDraw) := ⟨_, _, ok_draw F2, b2, PySem.W.mg_of X G a2, k2⟩
  have C3 : Cal l.prog w K mg g0 "_law_pick" 2 ["_law_deck_here", "_law_some"] (spPick) := ⟨_, _, ok_pick F3 y_len C2, b3, PySem.W.mg_of X G a3, k3⟩
  have C4 : Cal l.prog w K mg g0 "_law_values" 3 ["_law_deck_here", "_law_many"] (spValues) := ⟨_, _, ok_values F4 y_tuple y_range C2 C3, b4, PySem.W.mg_of X G a4, k4⟩
  have C5 : Cal l.prog w K mg g0 "_law_rows" 4 ["_law_deck_here", "_law_many"] (spRowsL) := ⟨_, _, ok_rowsL F5 y_tuple y_range C2 C4, b5, PySem.W.mg_of X G a5, k5⟩
  have C6 : Cal l.prog w K mg g0 "_law_refused" 4 ["_law_table", "_law_place", "_law_fresh"] (spRefused C) := ⟨_, _, ok_refused F6 R y_isinstance y_ValueError, b6, PySem.W.mg_of X G a6, k6⟩
  have C7 : Cal l.prog w K mg g0 "_law_alike" 3 ["_law_table", "_law_model"] (spAlike C) := ⟨_, _, ok_alike F7 T y_tuple y_sorted y_set y_len y_repr y_range, b7, PySem.W.mg_of X G a7, k7⟩
  have C8 : Cal l.prog w K mg g0 "_law_put" 4 ["_law_deck_here", "_law_table", "_law_model"] (spPutL C) := ⟨_, _, ok_putL F8 T y_len y_repr C4, b8, PySem.W.mg_of X G a8, k8⟩
  have C9 : Cal l.prog w K mg g0 "_law_deed" 5 ["_law_deck_here", "_law_table", "_law_model"] (spDeed C) := ⟨_, _, ok_deed F9 C2 C4 C8 C6, b9, PySem.W.mg_of X G a9, k9⟩
  exact ok_law (fun_mk (st := s_law) l10 c10 k10) T J y_range y_repr y_dict y_list y_len C1 C2 C5 C9 C7
end K21

open PySem PySem.W PyProof.Rows in
set_option maxRecDepth 100000 in
set_option maxHeartbeats 0 in
theorem PySem.Challenge.cw_ownwake_k21_live_tables_holds : PySem.Challenge.rw_ownwake_k21_live_tables.Holds := by
  w_on; o_law; k_head; (case hw => w_witness2)
  k_fill
  refine Own.walkG (l := PySem.Challenge.rw_ownwake_k21_live_tables) (n := 63) (k := 6) (x := "_law_script") (sp := fun w => K21.spLaw _) rfl (by decide) rfl ⟨rfl, by decide, by decide⟩ (fun w h Y => PySem.W.kIn_of Y) ?F
    (fun _ _ a ns hl _ hS => ⟨a, ns, rfl, hS, hl, fun _ => rfl⟩)
  case F =>
    intro w mg fa h KX G hmg
    refine' K21.all_mk KX G hmg ?aC ?aN ?aW ?aT ?pg ?hd ?po ?sa ?nR ?nF ?mki ?kC ?aI ?iI ?lI ?cI ?kI ?lT ?lE ?aput ?iput ?lput ?cput ?kput ?achange ?ichange ?lchange ?cchange ?kchange ?adrop ?idrop ?ldrop ?cdrop ?kdrop ?ain ?iin ?lin ?cin ?kin ?alen ?ilen ?llen ?clen ?klen ?aP ?gP ?tP ?rP ?lrows ?crows ?krows ?xL ?xb ?saN ?exN ?tyN ?kN ?n1 ?n2 ?gaN ?ggN ?hdN ?haN ?hnN ?htN ?hmN ?seN ?s1N ?s2N ?s3N ?aNI ?tNI ?lNI ?cNI ?kNI ?a1 ?l1 ?c1 ?k1 ?a2 ?l2 ?c2 ?k2 ?a3 ?l3 ?c3 ?k3 ?a4 ?l4 ?c4 ?k4 ?a5 ?l5 ?c5 ?k5 ?a6 ?l6 ?c6 ?k6 ?a7 ?l7 ?c7 ?k7 ?a8 ?l8 ?c8 ?k8 ?a9 ?l9 ?c9 ?k9 ?a10 ?l10 ?c10 ?k10 ?z_list ?z_len ?z_tuple ?z_range ?z_repr ?z_sorted ?z_set ?z_isinstance ?z_int ?z_bool ?z_ValueError ?z_dict
    (case a1 => k_is)
    (case l1 => k_is)
    (case c1 => k_is)
    (case k1 => k_is)
    (case a2 => k_is)
    (case l2 => k_is)
    (case c2 => k_is)
    (case k2 => k_is)
    (case a3 => k_is)
    (case l3 => k_is)
    (case c3 => k_is)
    (case k3 => k_is)
    (case a4 => k_is)
    (case l4 => k_is)
    (case c4 => k_is)
    (case k4 => k_is)
    (case a5 => k_is)
    (case l5 => k_is)
    (case c5 => k_is)
    (case k5 => k_is)
    (case a6 => k_is)
    (case l6 => k_is)
    (case c6 => k_is)
    (case k6 => k_is)
    (case a7 => k_is)
    (case l7 => k_is)
    (case c7 => k_is)
    (case k7 => k_is)
    (case a8 => k_is)
    (case l8 => k_is)
    (case c8 => k_is)
    (case k8 => k_is)
    (case a9 => k_is)
    (case l9 => k_is)
    (case c9 => k_is)
    (case k9 => k_is)
    (case a10 => k_is)
    (case l10 => k_is)
    (case c10 => k_is)
    (case k10 => k_is)
    (case z_list => k_is)
    (case z_len => k_is)
    (case z_tuple => k_is)
    (case z_range => k_is)
    (case z_repr => k_is)
    (case z_sorted => k_is)
    (case z_set => k_is)
    (case z_isinstance => k_is)
    (case z_int => k_is)
    (case z_bool => k_is)
    (case z_ValueError => k_is)
    (case z_dict => k_is)
    (case aC => k_is)
    (case aN => k_is)
    (case aW => k_is)
    (case aT => k_is)
    (case pg => k_is)
    (case hd => k_is)
    (case po => k_is)
    (case sa => k_is)
    (case nR => k_is)
    (case nF => k_is)
    (case mki => k_is)
    (case kC => k_is)
    (case aI => k_is)
    (case iI => k_is)
    (case lI => k_is)
    (case cI => k_is)
    (case kI => k_is)
    (case lT => k_is)
    (case lE => k_is)
    (case aput => k_is)
    (case iput => k_is)
    (case lput => k_is)
    (case cput => k_is)
    (case kput => k_is)
    (case achange => k_is)
    (case ichange => k_is)
    (case lchange => k_is)
    (case cchange => k_is)
    (case kchange => k_is)
    (case adrop => k_is)
    (case idrop => k_is)
    (case ldrop => k_is)
    (case cdrop => k_is)
    (case kdrop => k_is)
    (case ain => k_is)
    (case iin => k_is)
    (case lin => k_is)
    (case cin => k_is)
    (case kin => k_is)
    (case alen => k_is)
    (case ilen => k_is)
    (case llen => k_is)
    (case clen => k_is)
    (case klen => k_is)
    (case aP => k_is)
    (case gP => k_is)
    (case tP => k_is)
    (case rP => k_is)
    (case lrows => k_is)
    (case crows => k_is)
    (case krows => k_is)
    (case xL => k_is)
    (case xb => first | decide +kernel | rfl)
    (case saN => k_is)
    (case exN => k_is)
    (case tyN => k_is)
    (case kN => k_is)
    (case n1 => k_is)
    (case n2 => k_is)
    (case gaN => k_is)
    (case ggN => k_is)
    (case hdN => k_is)
    (case haN => k_is)
    (case hnN => k_is)
    (case htN => k_is)
    (case hmN => k_is)
    (case seN => first | rfl | k_is)
    (case s1N => first | rfl | k_is)
    (case s2N => first | rfl | k_is)
    (case s3N => first | rfl | k_is)
    (case aNI => k_is)
    (case tNI => k_is)
    (case lNI => k_is)
    (case cNI => k_is)
    (case kNI => k_is)
#print axioms PySem.Challenge.cw_ownwake_k21_live_tables_holds
