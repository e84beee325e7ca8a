import PyProof.Rows.All
import Wide.All
import OpenK.AllK
import Wide.FinOn
import HandS.ForMost
import HandS.Wide
import HandS.Style
import HandS.Flow
import HandS.RaiseMore
import HandS.Defaults
import HandS.MakeKwOnly
import HandS.Evl
import KE.DataCmp
import HandS.Property
import HandS.Comp
import HandS.DictComp
import HandS.ExcInit
import HandS.ExcIs
import HandS.More
import HandS.Star
import HandS.Strs
import HandS.TryOnly
import HandS.CallSlots
import HandS.WordsExc
import HandS.GenList
import HandS.GenYield
import KE.SortData
import KE.DataMinMax
import HandS.Iter
import KE.KItemsList
import HandS.NamedTupSort
import HandS.GenCall
import HandS.Walk
import PyProof.GenQ
import PyProof.Rows.RowBridgeG
import PyProof.GenRules
import HandS.GenOver
import PyProof.ForAny
import HandS.IsInst
import PySem.Challenge.RW_ownwake_k22_scans_of_a_still_table
set_option Elab.async false
set_option maxRecDepth 100000
/-! defs that are called where nothing is being shown (repr): the layer's own def rule with that one fact carried along -/
namespace Own
open PySem PySem.Spec PyProof.Rows L2

abbrev Quiet (A : Around) : Prop := A.guards = some []

/-- a def that keeps sp, called where nothing is being shown -/
structure GOk (P : Program) (w : World) (K : PySem.W.Frag) (mg : Str → Option Value) (g0 : Heap) (Z : CXT) (k : Nat)
    (f : Addr) (fd : FuncData) (ps : List Str) (sp : Sp) : Prop where
  len : ∀ vs H Q E, sp vs H Q E → vs.length = ps.length
  run : ∀ (A : Around) (up : List Env) (s : Shared) (H : Hp) (as : Args) (us : List Value) (vs : List V) (Q : VK) (E : XK),
    Quiet A → Room k A → Env0 P w K mg g0 A up s H → BindsTo s fd as (ps.zip us) → Vals vs us → sp vs H Q E →
    codeAny (model P w) A (.call (.ref f) as) (CR Z up P w H s Q E) s

section
variable {P : Program} {w : World} {K : PySem.W.Frag} {mg : Str → Option Value} {g0 : Heap} {Z : CXT} {k j : Nat}
  {f : Addr} {fd : FuncData} {ps : List Str} {sp : Sp}
theorem GOk.of (F : FnOk P w K mg g0 Z k f fd ps sp) : GOk P w K mg g0 Z k f fd ps sp :=
  ⟨F.len, fun A up s H as us vs Q E _ => F.run A up s H as us vs Q E⟩
theorem GOk.mono (F : GOk P w K mg g0 Z j f fd ps sp) (h : j ≤ k) : GOk P w K mg g0 Z k f fd ps sp :=
  ⟨F.len, fun A up s H as us vs Q E q r => F.run A up s H as us vs Q E q (r.mono h)⟩
end

section
variable {X : Cx} {Z : CXT} {k : Nat} {f : Addr} {fd : FuncData} {ps : List Str} {sp : Sp} {dvs : List V} {ds : List Value}
  {E : XK} {x : Str} {p pos : Pos} {e : Expr} {es : List Expr} {t : TA}

theorem goRun {pins : List (Addr × Obj)} {σ : L2.St} {H : Hp} {s : Shared} {Q : VK} {us : List Value} {vs : List V}
    (qt : Quiet X.A) (F : GOk X.prog X.w X.K X.mg X.base Z k f fd ps sp) (room : Room k X.A)
    (bd : Binds X.K fd ps ds) (dv : Vals dvs ds) (px : Passes Z X E) (I : Inv X pins σ H s) (rv : Vals vs us)
    (q : sp (vs ++ dvs) H Q E) : wpAny (model X.prog X.w) X.A (call (.ref f) us) (EP X pins σ Q) X.xe s := by
  have rr : Vals (vs ++ dvs) (us ++ ds) := rv.append dv
  have ll : (us ++ ds).length = ps.length := rr.length.symm.trans (F.len _ _ _ _ q)
  have cc := F.run X.A X.stack s H ⟨us, []⟩ (us ++ ds) (vs ++ dvs) Q E qt room I.env0 (bd s us I.kIn ll) rr q
  refine wpAny_call (codeAny_mono cc ?_)
  intro r s' z
  match r, z with
  | .error e, z => exact px pins σ H s e s' I z
  | .ok (.ret u), z => exact I.after z
  | .ok .next, z => exact z.elim
  | .ok .brk, z => exact z.elim
  | .ok .cont, z => exact z.elim

/-- f(e, ..) -/
theorem pe_callG (qt : Quiet X.A) (F : GOk X.prog X.w X.K X.mg X.base Z k f fd ps sp) (room : Room k X.A) (gl : Gl X x)
    (at_ : X.mg x = some (.ref f)) (kp : PySem.W.keepIn X.K (.ref f) = true) (bd : Binds X.K fd ps ds) (dv : Vals dvs ds)
    (px : Passes Z X E) (pa : PA X (e :: es) t) (nodbg : (x == ("__debug__" : Str)) = false := by decide)
    (st : starEach (e :: es) X.env = (false, eval e X.env) :: starEach es X.env := by rfl)
    (pl : (backTo pos (starEach es X.env)).any (·.1) = false := by rfl) :
    PE X (.Call (.Name x p) (e :: es) [] pos) (tCall sp dvs E t) := by
  constructor
  intro pins s σ H Q I q
  refine wpAny_Call_Name_kw (ld_glob I gl at_ ?_ nodbg)
  refine PySem.W.callWith_K (h₀ := X.base) I.ok.mod.kin kp ?_ st pl
  exact thn (pa.run pos pins s σ H _ I q) fun us s1 ⟨vs, H1, I1, rv, q1⟩ => ⟨I1.kIn, goRun qt F room bd dv px I1 rv q1⟩
end

/-- a def of the text, by its body, where nothing is being shown -/
theorem okG {P : Program} {w : World} {K : PySem.W.Frag} {mg : Str → Option Value} {g0 : Heap} {x qual : Str} {st : Stmt} {f : Addr}
    {fd : FuncData} {N ps : List Str} {k : Nat} {sp : Sp} (F : Fun K x qual st f fd) (S : FnScope N ps (defScope st))
    (len : ∀ vs H Q E, sp vs H Q E → vs.length = ps.length)
    (body : ∀ (cdv : Value) (A : Around) (up : List Env) (s : Shared) (H : Hp) (vs : List V) (Q : VK) (E : XK), Quiet A →
      Room k (A.deeper (envOfC qual (defScope st) s.heap.objs.size f cdv)) → sp vs H Q E →
      ∃ t, PSs (cxOf CX0 P w K mg g0 N qual (defScope st) f cdv A up s H E).nox (defBody st) t ∧
        t { nx := fun _ H' => Q .non H', rt := Q } (start N vs) H) : GOk P w K mg g0 CX0 (k + 1) f fd ps sp := by
  obtain ⟨oc, od, kV, doc, pm, an, cdv, ct, osl, rfl, lk, hcd⟩ := F.ex
  refine ⟨len, ?_⟩
  intro A up s H as us vs Q E qt room e0 bd rv q
  have ll := len _ _ _ _ q
  have kk : K.In s.heap := e0.mod.kin.keeps fun b o e => (e0.bs b o e).1
  have nolim : s.heap.NoLimit := e0.mod.nolimit.keeps fun b o e => (e0.bs b o e).1
  have names : ∀ y ∈ ps.zip us, (defScope st).names.lookup y.1 = some .local ∨
      ((defScope st).names.lookup y.1 = some .cell ∧
        ((cellsFrom (s.heap.objs.size + 1) (defScope st).names []).lookup y.1).isSome = true) := by
    rintro ⟨n, v⟩ hy
    exact (S.par n (List.of_mem_zip hy).1).imp id fun z => ⟨z, PySem.W.cellsFrom_some _ _ _ (.inl z)⟩
  refine codeAny_call_function room.depth (kk _ _ lk) rfl S.co S.gen rfl (PySem.W.codeRec_of kk hcd) (bd _ _ _ _ ?_)
  refine wpAny_newFunctionEnv_cells S.kind names ?_
  intro env he s1 ic
  subst he
  refine ⟨nolim.keeps ic.toInCall.keep, codeAny_func ?_⟩
  obtain ⟨t, pt, rd⟩ := body cdv A up s H vs Q E qt (room.deeper _) q
  have I := inv_start (CX := CX0) (E := E) S room.hd e0 ll rv ic
  have run := (PSs.nox pt).run [] s1 (start N vs) H _ I rd
  refine wpAny_mono run ?_ fun e s' z => z
  intro fl s' z
  have fin : ∀ {σ' : L2.St} {H' : Hp} {v : V} {u : Value},
      Inv (cxOf CX0 P w K mg g0 N qual (defScope st) f cdv A up s H E) [] σ' H' s' → RelV v u → Q v H' → CE up P w H s Q u s' := by
    intro σ' H' v u J rr qq
    exact ⟨v, H', J.os, J.bare, J.base, J.hok, rr, qq⟩
  match fl, z with
  | .ret u, ⟨v, σ', H', J, rr, qq⟩ => exact fin J rr qq
  | .next, ⟨σ', H', J, qq⟩ => exact fin (v := V.non) (u := Value.none) J rfl qq
  | .brk, ⟨_, _, _, z⟩ => exact z.elim
  | .cont, ⟨_, _, _, z⟩ => exact z.elim

theorem quiet_deeper {A : Around} {env : Env} (q : Quiet A) : Quiet (A.deeper env) := q
theorem quiet_caller : Quiet callerA := rfl

/-! ### repr of data -/
mutual
theorem dp_nodict {K : PySem.W.Frag} {H : Hp} : ∀ {d : PyData} {v : V}, Dp K H v d → d.hasDict = false
  | .none, _, _ => rfl
  | .bool _, _, _ => rfl
  | .int _, _, _ => rfl
  | .str _, _, _ => rfl
  | .list _, _, .lst _ a => dps_nodict a
  | .tuple _, _, .tup _ a => dps_nodict a
theorem dps_nodict {K : PySem.W.Frag} {H : Hp} : ∀ {ds : List PyData} {vs : List V}, DpAll K H vs ds → PyData.hasDictAll ds = false
  | [], _, _ => rfl
  | _ :: _, _, .cons a b => by
    show (_ || _) = false
    rw [dp_nodict a, dps_nodict b]
    rfl
end
/-- repr(x), x data -/
def rRepr (K : PySem.W.Frag) : List V → Hp → VK → Prop := fun xs H Q =>
  ∃ x d, xs = [x] ∧ Dp K H x d ∧ d.showable = true ∧ d.depth ≤ 60 ∧ d.shown.length ≤ sizeLine ∧ Q (.str d.shown) H
theorem call_repr {X : Cx} (qt : Quiet X.A) (hu : X.A.units + 64 < cLine) : CallR X (.builtin "repr") (rRepr X.K) := by
  intro pins s σ H xs us Q I rv h
  obtain ⟨x, d, rfl, hd, hs, hz, hl, q⟩ := h
  obtain ⟨u, rfl, rx⟩ : ∃ u, us = [u] ∧ RelV x u := by
    cases rv with
    | cons a b =>
      cases b
      exact ⟨_, rfl, a⟩
  obtain ⟨as, rd⟩ := Dp.reads I d x u hd rx
  have nd := dp_nodict hd
  cases hd with
  | non =>
    cases rx
    exact P.repr_of_none ⟨.str "None", H, I.tok _, ⟨_, rfl⟩, q⟩
  | bl b =>
    cases rx
    exact P.repr_of_bool ⟨.str (if b then "True" else "False"), H, I.tok _, ⟨_, rfl⟩, q⟩
  | int i =>
    obtain ⟨t, rfl⟩ := rx
    refine P.repr_of_int ?_ ⟨.str (toString i), H, I.tok _, ⟨_, rfl⟩, q⟩
    simpa [PyData.showable] using hs
  | str y =>
    obtain ⟨t, rfl⟩ := rx
    exact P.repr_of_str ⟨.str (reprText y), H, I.tok _, ⟨_, rfl⟩, q⟩ hl
  | lst _ _ =>
    cases rx
    exact repr_of_reads' rd hs (fun z => by rw [nd] at z; cases z) qt (by omega) (fun _ _ z => z)
      (fun h' w tk k => ⟨.str _, H, I.kept k, ⟨_, rfl⟩, q⟩) hl
  | tup _ _ =>
    cases rx
    exact repr_of_reads' rd hs (fun z => by rw [nd] at z; cases z) qt (by omega) (fun _ _ z => z)
      (fun h' w tk k => ⟨.str _, H, I.kept k, ⟨_, rfl⟩, q⟩) hl

/-! ### a < b, a > b of alike data -/
def rLtD (K : PySem.W.Frag) : R2 := fun x y H Q => ∃ d e, Dp K H x d ∧ Dp K H y e ∧ PySem.W.alike d e = true ∧ d ≠ .none ∧ d.depth ≤ 60 ∧ Q (.bl (PySem.W.dataLt d e)) H
def rGtD (K : PySem.W.Frag) : R2 := fun x y H Q => ∃ d e, Dp K H x d ∧ Dp K H y e ∧ PySem.W.alike d e = true ∧ d ≠ .none ∧ d.depth ≤ 60 ∧ Q (.bl (PySem.W.dataLt e d)) H
theorem op_ltD {X : Cx} (hu : X.A.units + 64 < cLine) : OpR X (compareOp .Lt) (rLtD X.K) := by
  intro pins s σ H x y v u Q I rx ry h
  obtain ⟨d, e, hd, he, al, nn, dp, q⟩ := h
  obtain ⟨as, r1⟩ := Dp.reads I d x v hd rx
  obtain ⟨bs, r2⟩ := Dp.reads I e y u he ry
  exact PySem.W.lt_data r1 r2 al nn (by omega) ⟨.bl _, H, I, rfl, q⟩
theorem op_gtD {X : Cx} (hu : X.A.units + 64 < cLine) : OpR X (compareOp .Gt) (rGtD X.K) := by
  intro pins s σ H x y v u Q I rx ry h
  obtain ⟨d, e, hd, he, al, nn, dp, q⟩ := h
  obtain ⟨as, r1⟩ := Dp.reads I d x v hd rx
  obtain ⟨bs, r2⟩ := Dp.reads I e y u he ry
  exact PySem.W.gt_data r1 r2 al nn (by omega) ⟨.bl _, H, I, rfl, q⟩
end Own

set_option Elab.async false
set_option maxRecDepth 100000
/-! the law's call, from a promise that is kept where nothing is being shown -/
namespace Own
open PySem PySem.Spec PyProof.Rows L2

/-- the wish of the law: True -/
abbrev qTrue : VK := fun v _ => v = .bl true

theorem lawG {P : Program} {w : World} {K : PySem.W.Frag} {mg mb : Str → Option Value} {k : Nat} {fa a : Addr} {fd : FuncData}
    {x : Str} {sp : Sp} {s : Shared} {vs : List Value} {ns : List Int} (kk : K.In s.heap) (gm : s.heap.Ns mainGlobals mg)
    (gb : s.heap.Ns builtinsNs mb) (gbb : ∀ y : Str, y ≠ "__name__" → mb y = bootBuiltins y) (nolim : s.heap.NoLimit)
    (nog : s.gens = #[]) (at_ : s.heap.get? a = some { cls := .type "list", data := .seq vs.toArray }) (hin : IntsAre vs ns)
    (small : ns.length ≤ sizeLine) (room : Room k callerA)
    (F : ∀ g0 : Heap, K.In g0 → g0.Ns mainGlobals mg → GOk P w K mg g0 CX0 k fa fd [x] sp)
    (bd : ∀ (s : Shared) (u : Value), BindsTo s fd ⟨[u], []⟩ [(x, u)])
    (sp0 : ∀ H : Hp, Only H → SqL K H a (ns.map V.int) → sp [.ref a] H qTrue fun _ _ _ => False) :
    codeAny (model P w) callerA (.call (.ref fa) ⟨[.ref a], []⟩)
      (fun r s' => r = .ok (.ret (.bool true)) ∧ OldK s.heap s'.heap ∧ s'.os = s.os ∧ AllBare s'.gens) s := by
  have rv := vals_ints hin
  have nv : vs.length = ns.length := hin.length
  -- whatever the abstract heap says of the script, it says nothing else
  have main : ∀ H : Hp, (∀ b, H b ≠ none → b = a) → Only H → SqL K H a (ns.map V.int) → HOk P w H s.heap → (H a ≠ none → K.lookup a = none) →
      codeAny (model P w) callerA (.call (.ref fa) ⟨[.ref a], []⟩)
        (fun r s' => r = .ok (.ret (.bool true)) ∧ OldK s.heap s'.heap ∧ s'.os = s.os ∧ AllBare s'.gens) s := by
    intro H onlyA only sq hok notK
    have dictNone : ∀ {b : Addr} {o : Obj} {es : Array DictEntry} {n : Nat}, s.heap.get? b = some o → o.data = .dict es n → H b = none := by
      intro b o es n ho hd
      match hb : H b with
      | none => rfl
      | some u =>
        obtain rfl := onlyA b (by rw [hb]; exact fun z => nomatch z)
        rw [at_] at ho
        cases ho
        cases hd
    have ns0 : ∀ {b : Addr} {m : Str → Option Value}, s.heap.Ns b m → (hidT s.heap H).Ns b m := by
      rintro b m ⟨o, es, n, ho, hd, r⟩
      exact ⟨o, es, n, hidT_get ho (dictNone ho hd), hd, r⟩
    have k0 : K.In (hidT s.heap H) := by
      intro b o hb
      refine hidT_get (kk b o hb) ?_
      match hH : H b with
      | none => rfl
      | some u =>
        obtain rfl := onlyA b (by rw [hH]; exact fun z => nomatch z)
        rw [notK (by rw [hH]; exact fun z => nomatch z)] at hb
        cases hb
    have md : Mod K mg (hidT s.heap H) :=
      { kin := k0, glob := ns0 gm, blt := ⟨mb, ns0 gb, gbb⟩, nolimit := by obtain ⟨mc, n1, n2⟩ := nolim; exact ⟨mc, ns0 n1, n2⟩ }
    have e0 : Env0 P w K mg (hidT s.heap H) callerA [] s H :=
      { frames := rfl, mod := md, bs := fun b o e => of_hidT e, bsz := Nat.le_of_eq (hidT_size _ _), funs := trivial,
        frf := fun b hb => absurd (show b ∈ ([] : List Addr) from hb) (by simp), hok := hok, bare := .of_eq nog }
    have cc := (F _ k0 (ns0 gm)).run callerA [] s H ⟨[.ref a], []⟩ [.ref a] [.ref a] qTrue (fun _ _ _ => False) quiet_caller room e0
      (bd s (.ref a)) (.cons rfl .nil) (sp0 H only sq)
    refine codeAny_mono cc ?_
    intro r s' z
    match r, z with
    | .error e, z => exact z.elim
    | .ok .next, z => exact z.elim
    | .ok .brk, z => exact z.elim
    | .ok .cont, z => exact z.elim
    | .ok (.ret u), ⟨v, H', os, bare, un, hok', rr, q⟩ =>
      have q' : v = V.bl true := q
      subst q'
      obtain rfl : u = Value.bool true := rr
      refine ⟨rfl, OldK.of_keep ?_, os, bare⟩
      intro b o ho
      have nf : b ∉ frs ([] : List Env) := fun z => absurd (show b ∈ ([] : List Addr) from z) (by simp)
      match hb : H b with
      | none => exact un.keep b o ho hb nf (by simp)
      | some u =>
        rcases only b with z | ⟨ob, xs, z⟩
        · rw [hb] at z
          cases z
        · have z2 := un.frzs b ob _ z
          have p1 := (hok b _ z).1
          have p2 := (hok' b _ z2).1
          rw [ho] at p1
          cases p1
          exact p2
  match hk : K.lookup a with
  | some o =>
    have e := kk a o hk
    rw [at_] at e
    cases e
    refine main (fun _ => none) (fun b z => absurd rfl z) (fun b => .inl rfl) ?_ (fun b u z => ?_) fun z => absurd rfl z
    · refine .inr ⟨_, vs.toArray, _, hk, rfl, rfl, rfl, ?_, by simpa using rv⟩
      rw [List.size_toArray, nv]
      exact small
    · have z' : (none : Option HO) = some u := z
      cases z'
  | none =>
    let o1 : HO := .frz { cls := .type "list", data := .seq vs.toArray } (.lst (ns.map V.int))
    have ya : (fun b => if b = a then some o1 else none : Hp) a = some o1 := if_pos rfl
    refine main (fun b => if b = a then some o1 else none) (fun b z => ?_) (fun b => ?_) (.inl (.inr ⟨_, ya⟩)) (fun b u z => ?_) fun _ => hk
    · by_cases hb : b = a
      · exact hb
      · exact absurd (if_neg hb) z
    · by_cases hb : b = a
      · exact .inr ⟨_, _, if_pos hb⟩
      · exact .inl (if_neg hb)
    · by_cases hb : b = a
      · have z' := (if_pos hb).symm.trans z
        cases z'
        subst hb
        refine ⟨at_, ?_, vs, _, rv, at_⟩
        rw [List.length_map]
        exact small
      · have z' := (if_neg hb).symm.trans z
        cases z'

theorem walkG {l : PySem.W.OpenLaw} {n k : Nat} {q : Program} {loose : List Str} {XP : (Str → Option Value) → Heap → Prop}
    {YP : World → Heap → Prop} {d : DefRec} {K : Params → PySem.W.Frag} {sp : World → Sp} {x : Str}
    (hn : l.most = some n) (hn2 : n ≤ sizeLine) (hdf : d.params.defaults = []) (room : Room k callerA)
    (hY : ∀ (w : World) (h : Heap), YP w h → (K w.params).In h)
    (F : ∀ (w : World) (mg : Str → Option Value) (fa : Addr) (h : Heap), (K w.params).In h → h.Ns mainGlobals mg → mg d.name = some (.ref fa) →
      ∃ fd : FuncData, (∀ (s : Shared) (u : Value), BindsTo s fd ⟨[u], []⟩ [(x, u)]) ∧
        ∀ g0 : Heap, (K w.params).In g0 → g0.Ns mainGlobals mg → GOk l.prog w (K w.params) mg g0 CX0 k fa fd [x] (sp w))
    (sp0 : ∀ (w : World) (H : Hp) (a : Addr) (ns : List Int), ns.length ≤ n → Only H → SqL (K w.params) H a (ns.map V.int) →
      sp w [.ref a] H qTrue fun _ _ _ => False) :
    PySem.W.WalkO q loose XP YP l.row.toRowW d [] (fun f vs => PySem.call f vs) := by
  refine Att.attach_call hn hdf ?_
  intro w s0 s mg mb fa o pm cd doc a vs ns G Y ho hd hcd hmg hobj hin hlen hg
  have kk := hY w _ Y
  obtain ⟨fd, bd, FF⟩ := F w mg fa _ kk G.T.g hmg
  exact lawG kk G.T.g G.T.b G.T.builtins G.T.nolimit hg hobj hin (Nat.le_trans hlen hn2) room FF bd fun H hO hS => sp0 w H a ns hlen hO hS
end Own

set_option Elab.async false
set_option maxRecDepth 100000
/-! calls by name, readings step by step, heaps that grow -/
namespace Own
open PySem PySem.Spec PyProof.Rows L2

/-! ### a def that stands at a name -/
structure Cal (P : Program) (w : World) (K : PySem.W.Frag) (mg : Str → Option Value) (g0 : Heap) (x : Str) (k : Nat) (ps : List Str) (sp : Sp) : Prop where
  ex : ∃ (f : Addr) (fd : FuncData), GOk P w K mg g0 CX0 k f fd ps sp ∧ Binds K fd ps [] ∧ mg x = some (.ref f) ∧ PySem.W.keepIn K (.ref f) = true
/-- .. by keywords: n values, then those of the names ks -/
structure CalK (P : Program) (w : World) (K : PySem.W.Frag) (mg : Str → Option Value) (g0 : Heap) (x : Str) (k : Nat) (ps : List Str) (n : Nat) (ks : List Str) (gV : List V → List V → List V) (sp : Sp) : Prop where
  ex : ∃ (f : Addr) (fd : FuncData) (g : List Value → List Value → List Value), GOk P w K mg g0 CX0 k f fd ps sp ∧ KBn K fd ps n ks g gV ∧ mg x = some (.ref f) ∧ PySem.W.keepIn K (.ref f) = true
section
variable {X : Cx} {k n : Nat} {ps ks : List Str} {sp : Sp} {x : Str} {p pos : Pos} {e : Expr} {es : List Expr} {kws : List Keyword} {t tk : TA} {gV : List V → List V → List V}
theorem pe_c (C : Cal X.prog X.w X.K X.mg X.base x k ps sp) (qt : Quiet X.A) (room : Room k X.A) (pa : PA X (e :: es) t) (gl : Gl X x := by rfl)
    (nodbg : (x == ("__debug__" : Str)) = false := by decide)
    (st : starEach (e :: es) X.env = (false, eval e X.env) :: starEach es X.env := by rfl)
    (pl : (backTo pos (starEach es X.env)).any (·.1) = false := by rfl) :
    PE X (.Call (.Name x p) (e :: es) [] pos) (tCall sp [] E0 t) := by
  obtain ⟨f, fd, G, bd, at_, kp⟩ := C.ex
  exact pe_callG qt G room gl at_ kp bd .nil pass0 pa nodbg st pl
theorem goRunK {pins : List (Addr × Obj)} {σ : L2.St} {H : Hp} {s : Shared} {Q : VK} {us ws : List Value} {vs zs : List V}
    (C : CalK X.prog X.w X.K X.mg X.base x k ps n ks gV sp) (qt : Quiet X.A) (room : Room k X.A) (I : Inv X pins σ H s) (rv : Vals vs us) (rz : Vals zs ws)
    (l1 : vs.length = n) (l2 : zs.length = ks.length) (q : sp (gV vs zs) H Q E0) (f : Addr) (at_ : X.mg x = some (.ref f)) :
    wpAny (model X.prog X.w) X.A (call (.ref f) us (ks.zip ws)) (EP X pins σ Q) X.xe s := by
  obtain ⟨f', fd, g, G, bd, at', kp⟩ := C.ex
  rw [at_] at at'
  cases at'
  have rr := bd.rel rv rz
  have cc := G.run X.A X.stack s H ⟨us, ks.zip ws⟩ (g us ws) (gV vs zs) Q E0 qt room I.env0
    (bd.to s us ws I.kIn (rv.length.symm.trans l1) (rz.length.symm.trans l2)) rr q
  refine wpAny_call (codeAny_mono cc ?_)
  intro r s' z
  match r, z with
  | .error e, z => exact z.elim
  | .ok (.ret u), z => exact I.after z
  | .ok .next, z => exact z.elim
  | .ok .brk, z => exact z.elim
  | .ok .cont, z => exact z.elim
def tCK (n m : Nat) (sp : Sp) (gV : List V → List V → List V) (t tk : TA) : TE := fun σ H Q =>
  t σ H fun vs H1 => tk σ H1 fun zs H2 => vs.length = n ∧ zs.length = m ∧ sp (gV vs zs) H2 Q E0
/-- f(k = v, ..) -/
theorem pe_ck0 (C : CalK X.prog X.w X.K X.mg X.base x k ps 0 ks gV sp) (qt : Quiet X.A) (room : Room k X.A) (pk : PK X kws tk) (gl : Gl X x := by rfl)
    (all : (backToKw pos (keywordEach kws X.env)).all (·.1.isSome) = true := by rfl) (nm : (backToKw pos (keywordEach kws X.env)).filterMap (·.1) = ks := by rfl)
    (nodbg : (x == ("__debug__" : Str)) = false := by decide)
    (pl : ((backTo pos (starEach [] X.env)).any (·.1) || (backToKw pos (keywordEach kws X.env)).any (·.1.isNone)) = false := by rfl) :
    PE X (.Call (.Name x p) [] kws pos) (tCK 0 ks.length sp gV tNil tk) := by
  obtain ⟨f, fd, g, G, bd, at_, kp⟩ := C.ex
  constructor
  intro pins s σ H Q I q
  refine wpAny_Call_Name_kw (ld_glob I gl at_ ?_ nodbg)
  refine PySem.W.callWith_KW0 (h₀ := X.base) I.ok.mod.kin kp all ?_ pl
  refine thn (pk.run pos pins s σ H _ I q) fun ws s2 ⟨zs, H2, I2, rz, l1, l2, q2⟩ => ⟨I2.kIn, ?_⟩
  rw [nm]
  exact goRunK C qt room I2 .nil rz rfl l2 q2 f at_
/-- f(e, .., k = v, ..) -/
theorem pe_ck (C : CalK X.prog X.w X.K X.mg X.base x k ps n ks gV sp) (qt : Quiet X.A) (room : Room k X.A) (pa : PA X (e :: es) t) (pk : PK X kws tk) (gl : Gl X x := by rfl)
    (all : (backToKw pos (keywordEach kws X.env)).all (·.1.isSome) = true := by rfl) (nm : (backToKw pos (keywordEach kws X.env)).filterMap (·.1) = ks := by rfl)
    (nodbg : (x == ("__debug__" : Str)) = false := by decide) (st : starEach (e :: es) X.env = (false, eval e X.env) :: starEach es X.env := by rfl)
    (pl : ((backTo pos (starEach (e :: es) X.env)).any (·.1) || (backToKw pos (keywordEach kws X.env)).any (·.1.isNone)) = false := by rfl) :
    PE X (.Call (.Name x p) (e :: es) kws pos) (tCK n ks.length sp gV t tk) := by
  obtain ⟨f, fd, g, G, bd, at_, kp⟩ := C.ex
  constructor
  intro pins s σ H Q I q
  refine wpAny_Call_Name_kw (ld_glob I gl at_ ?_ nodbg)
  refine PySem.W.callWith_KW (h₀ := X.base) I.ok.mod.kin kp all (thn (pa.run pos pins s σ H _ I q) fun us s1 ⟨vs, H1, I1, rv, q1⟩ => ?_) pl st
  refine thn (pk.run pos pins s1 σ H1 _ I1 q1) fun ws s2 ⟨zs, H2, I2, rz, l1, l2, q2⟩ => ⟨I2.kIn, ?_⟩
  rw [nm]
  exact goRunK C qt room I2 rv rz l1 l2 q2 f at_
end

/-! ### heaps that grow; objects at M may change -/
def Ext (M : Addr → Prop) (H H' : Hp) : Prop := (∀ a xs, H a = some (.tup xs) → H' a = some (.tup xs)) ∧ ∀ a o, ¬ M a → H a = some o → H' a = some o
theorem Same.ext {M : Addr → Prop} {H H' : Hp} (s : Same H H') : Ext M H H' := ⟨fun a _ h => s a _ h, fun a o _ h => s a o h⟩
theorem Ext.refl {M : Addr → Prop} (H : Hp) : Ext M H H := ⟨fun _ _ h => h, fun _ _ _ h => h⟩
theorem Ext.trans {M : Addr → Prop} {H H1 H2 : Hp} (a : Ext M H H1) (b : Ext M H1 H2) : Ext M H H2 :=
  ⟨fun x xs h => b.1 x xs (a.1 x xs h), fun x o n h => b.2 x o n (a.2 x o n h)⟩
theorem Ext.mono {M N : Addr → Prop} {H H' : Hp} (e : Ext M H H') (h : ∀ a, M a → N a) : Ext N H H' := ⟨e.1, fun a o n => e.2 a o fun z => n (h a z)⟩
theorem Ext.same {H H' : Hp} (e : Ext (fun _ => False) H H') : Same H H' := fun a o h => e.2 a o (fun z => z) h
theorem Ext.tup {M : Addr → Prop} {H H' : Hp} (e : Ext M H H') {a : Addr} {xs : List V} (h : H a = some (.tup xs)) : H' a = some (.tup xs) := e.1 a xs h
theorem Same.upd {H : Hp} {p : Addr} {o : HO} (h : H p = none) : Same H (upd H p o) := fun a u e => by
  rw [upd_ne (ne_of_none e h)]
  exact e
theorem ext_new {M : Addr → Prop} {H : Hp} {p : Addr} {o : HO} (h : H p = none) : Ext M H (L2.upd H p o) := Same.ext (Same.upd h)
theorem Ext.upd {M : Addr → Prop} {H : Hp} {p : Addr} {o u : HO} (h : H p = some u) (m : M p) (nt : ∀ xs, u ≠ .tup xs) : Ext M H (upd H p o) := by
  refine ⟨fun a xs e => ?_, fun a v n e => ?_⟩
  · rw [upd_ne fun z => ?_]
    · exact e
    · subst z
      rw [h] at e
      cases e
      exact nt _ rfl
  · rw [upd_ne fun z => ?_]
    · exact e
    · subst z
      exact n m
theorem SqT.ext {M : Addr → Prop} {K : PySem.W.Frag} {H H' : Hp} (e : Ext M H H') {a : Addr} {xs : List V} (h : SqT K H a xs) (m : ¬ M a) : SqT K H' a xs := by
  rcases h with (h | ⟨o, h⟩) | h
  · exact .inl (.inl (e.1 _ _ h))
  · exact .inl (.inr ⟨o, e.2 _ _ m h⟩)
  · exact .inr h
theorem SqL.ext {M : Addr → Prop} {K : PySem.W.Frag} {H H' : Hp} (e : Ext M H H') {a : Addr} {xs : List V} (h : SqL K H a xs) (m : ¬ M a) : SqL K H' a xs := by
  rcases h with (h | ⟨o, h⟩) | h
  · exact .inl (.inl (e.2 _ _ m h))
  · exact .inl (.inr ⟨o, e.2 _ _ m h⟩)
  · exact .inr h

/-! ### the readings, one step at a time -/
section
variable {t u : TS} {D : Ends} {σ : L2.St} {H : Hp} {te ta tb : TE} {i : Nat} {Q : VK} {v : V} {tt tu : TT} {QB : Bool → Hp → Prop} {r : R2} {tl tr : TA} {QA : List V → Hp → Prop}
theorem k_seq (h : t { D with nx := u D } σ H) : tSeq t u D σ H := h
theorem k_asg {g : TG} (h : te σ H fun x H1 => g x σ H1 D.nx) : tAsg te g D σ H := h
theorem k_gN {QS : L2.St → Hp → Prop} (h : QS (σ.set i (some v)) H) : gName i v σ H QS := h
theorem k_gS {QS : L2.St → Hp → Prop} {ts : TSet} (h : ta σ H fun o H1 => tb σ H1 fun x H2 => ts o x v H2 fun H3 => QS σ H3) : gSub ta tb ts v σ H QS := h
theorem k_gNil {QS : L2.St → Hp → Prop} (h : QS σ H) : gNil [] σ H QS := ⟨rfl, h⟩
theorem k_gCons {QS : L2.St → Hp → Prop} {g : TG} {gs : TGs} {vs : List V} (h : g v σ H fun σ' H' => gs vs σ' H' QS) : gCons g gs (v :: vs) σ H QS := ⟨v, vs, rfl, h⟩
theorem k_gTup {QS : L2.St → Hp → Prop} {K : PySem.W.Frag} {n : Nat} {gs : TGs} {a : Addr} {xs : List V} (e : SqT K H a xs) (l : xs.length = n) (h : gs xs σ H QS) : gTup K n gs (.ref a) σ H QS := ⟨a, xs, rfl, e, l, h⟩
theorem k_ret (h : te σ H D.rt) : tRet te D σ H := h
theorem k_drop (h : te σ H fun _ H' => D.nx σ H') : tDrop te D σ H := h
theorem k_next (h : D.nx σ H) : tNext D σ H := h
theorem k_ifS (h : tt σ H fun b H' => if b = true then t D σ H' else u D σ H') : tIfS tt t u D σ H := h
theorem k_var (e : σ[i]? = some (some v)) (h : Q v H) : tVar i σ H Q := ⟨v, e, h⟩
theorem k_c (h : Q v H) : tC v σ H Q := h
theorem k_op (h : ta σ H fun x H1 => tb σ H1 fun y H2 => r x y H2 Q) : tOp r ta tb σ H Q := h
theorem k_un {ru : V → Hp → VK → Prop} (h : ta σ H fun x H1 => ru x H1 Q) : tUn ru ta σ H Q := h
theorem k_test (h : te σ H fun x H' => ∃ k, x = .bl k ∧ QB k H') : tTest te σ H QB := h
theorem k_B (h : te σ H fun x H' => ∃ k, x = .bl k ∧ QB k H') : tB te σ H QB := h
theorem k_and (h : tt σ H fun c H1 => if c = true then tu σ H1 QB else QB false H1) : tAnd tt tu σ H QB := h
theorem k_or (h : tt σ H fun c H1 => if c = true then QB true H1 else tu σ H1 QB) : tOr tt tu σ H QB := h
theorem k_not (h : tt σ H fun c H1 => QB (!c) H1) : tNot tt σ H QB := h
theorem k_andV (h : ta σ H fun x H1 => ∃ c, x = .bl c ∧ if c = true then tb σ H1 Q else Q (.bl false) H1) : tAndV ta tb σ H Q := h
theorem k_orV (h : ta σ H fun x H1 => ∃ c, x = .bl c ∧ if c = true then Q (.bl true) H1 else tb σ H1 Q) : tOrV ta tb σ H Q := h
theorem k_notV (h : ta σ H fun x H1 => ∃ c, x = .bl c ∧ Q (.bl (!c)) H1) : tNotV ta σ H Q := h
theorem k_if (h : tt σ H fun c H1 => if c = true then ta σ H1 Q else tb σ H1 Q) : tIf tt ta tb σ H Q := h
theorem k_nil (h : QA [] H) : tNil σ H QA := h
theorem k_cons (h : te σ H fun x H1 => tl σ H1 fun xs H2 => QA (x :: xs) H2) : tCons te tl σ H QA := h
theorem k_tup (h : tl σ H fun xs H1 => xs.length ≤ sizeLine ∧ ∀ p, H1 p = none → Q (.ref p) (upd H1 p (.tup xs))) : tTup tl σ H Q := h
theorem k_lst (h : tl σ H fun xs H1 => xs.length ≤ sizeLine ∧ ∀ p, H1 p = none → Q (.ref p) (upd H1 p (.lst xs))) : tLst tl σ H Q := h
theorem k_call {sp : Sp} {dvs : List V} {E : XK} (h : tl σ H fun vs H1 => sp (vs ++ dvs) H1 Q E) : tCall sp dvs E tl σ H Q := h
theorem k_cb {rc : List V → Hp → VK → Prop} (h : tl σ H fun vs H1 => rc vs H1 Q) : tCB rc tl σ H Q := h
theorem k_ck {n m : Nat} {sp : Sp} {gV : List V → List V → List V} {tk : TA} (h : tl σ H fun vs H1 => tk σ H1 fun zs H2 => vs.length = n ∧ zs.length = m ∧ sp (gV vs zs) H2 Q E0) : tCK n m sp gV tl tk σ H Q := h
theorem k_par {j : Nat} (h : tl σ H fun vs H1 => ∃ v w, vs = [v, w] ∧ D.nx ((σ.set i (some v)).set j (some w)) H1) : tPar i j tl D σ H := h
theorem k_par1 {j : Nat} {v w : V} (h : D.nx ((σ.set i (some v)).set j (some w)) H) : ∃ v' w', [v, w] = [v', w'] ∧ D.nx ((σ.set i (some v')).set j (some w')) H := ⟨v, w, rfl, h⟩
theorem k_tr {b : Bool} {R : Bool → Prop} (h : R b) : ∃ k, V.bl b = .bl k ∧ R k := ⟨b, rfl, h⟩
theorem k_ite {b : Bool} {A B : Prop} (h1 : b = true → A) (h2 : b = false → B) : if b = true then A else B := by
  cases b with
  | true => exact iteT (h1 rfl)
  | false => exact iteF (h2 rfl)
theorem k_iteD {c : Prop} [Decidable c] {A B : Prop} (h1 : c → A) (h2 : ¬ c → B) : if decide c = true then A else B :=
  k_ite (fun z => h1 (of_decide_eq_true z)) fun z => h2 (of_decide_eq_false z)
theorem k_for {wi : TI} {g : TG} {tb : TS} (h : wi σ H fun J H1 => ∃ W : Nat → Nat → L2.St → Hp → Prop, (∃ m, W 0 m σ H1) ∧ ∀ i m σ H, W i m σ H →
    (J.stop i H ∧ D.nx σ H) ∨ (J.go i H ∧ ∃ N : L2.St → Hp → Prop, (∀ σ' H', N σ' H' → ∃ m', m' < m ∧ W (i + 1) m' σ' H') ∧ ∀ x H', J.yld i H x H' → g x σ H' fun σ2 H2 => tb { D with nx := N, ct := N, bk := D.nx } σ2 H2)) : tFor wi g tb D σ H := h
theorem k_iL {K : PySem.W.Frag} {R : It → Hp → Prop} (h : te σ H fun x H1 => ∃ a, x = .ref a ∧ (∃ xs, SqL K H1 a xs) ∧ R (Itl K a) H1) : iList K te σ H R := h
theorem k_iT {K : PySem.W.Frag} {R : It → Hp → Prop} (h : te σ H fun x H1 => ∃ a, x = .ref a ∧ (∃ xs, SqT K H1 a xs) ∧ R (Itt K a) H1) : iTup K te σ H R := h
theorem k_iR1 {R : It → Hp → Prop} (h : tl σ H fun vs H1 => ∃ j, vs = [.int j] ∧ -(2 ^ 62) ≤ j ∧ j < 2 ^ 62 ∧ R (Itr 0 j.toNat) H1) : iRng1 tl σ H R := h
theorem k_iR1i {R : It → Hp → Prop} {j : Int} (l : -(2 ^ 62) ≤ j ∧ j < 2 ^ 62) (h : R (Itr 0 j.toNat) H) : ∃ i, [V.int j] = [.int i] ∧ -(2 ^ 62) ≤ i ∧ i < 2 ^ 62 ∧ R (Itr 0 i.toNat) H := ⟨j, rfl, l.1, l.2, h⟩
theorem k_ble {n m : Nat} (h : Nat.ble n m = true) : n ≤ m := Nat.le_of_ble_eq_true h
theorem k_sz {n : Nat} (h : Nat.ble n 100000 = true) : n ≤ sizeLine := Nat.le_trans (Nat.le_of_ble_eq_true h) (by decide)
theorem k_rI0 {g : Int → Int → V} {i j : Int} (h : Q (g i j) H) : rI0 g (.int i) (.int j) H Q := ⟨i, j, rfl, rfl, h⟩
theorem k_rI {C : Int → Int → Prop} {g : Int → Int → V} {i j : Int} (c : C i j) (h : Q (g i j) H) : rI C g (.int i) (.int j) H Q := ⟨i, j, rfl, rfl, c, h⟩
theorem k_rU {g : Int → V} {i : Int} (h : Q (g i) H) : rU g (.int i) H Q := ⟨i, rfl, h⟩
theorem k_eq {x y : V} (s : scal x y = true) (h : Q (.bl (decide (x = y))) H) : rEq x y H Q := ⟨s, h⟩
theorem k_ne {x y : V} (s : scal x y = true) (h : Q (.bl (!decide (x = y))) H) : rNe x y H Q := ⟨s, h⟩
variable {K : PySem.W.Frag} {a : Addr} {xs : List V}
theorem k_setL {QH : Hp → Prop} {n : Int} {j : Nat} (e : H a = some (.lst xs)) (f : ixN xs.length n = some j) (h : QH (upd H a (.lst (xs.set j v)))) : rSetL (.ref a) (.int n) v H QH := ⟨a, xs, n, j, rfl, rfl, e, f, h⟩
theorem k_bm0 {T : String} {rm : V → List V → Hp → VK → Prop} (h : te σ H fun x H1 => tyV K T x H1 ∧ rm x [] H1 Q) : tBM0 K T rm te σ H Q := h
theorem k_bm {T : String} {rm : V → List V → Hp → VK → Prop} (h : te σ H fun x H1 => tyV K T x H1 ∧ tl σ H1 fun xs H2 => rm x xs H2 Q) : tBM K T rm te tl σ H Q := h
theorem k_tyL (e : H a = some (.lst xs)) : tyV K "list" (.ref a) H := .inl ⟨rfl, _, SqL.of e⟩
theorem k_pop (e : H a = some (.lst xs)) (l : xs[xs.length - 1]? = some v) (h : Q v (upd H a (.lst xs.dropLast))) : rPop (.ref a) [] H Q := ⟨a, xs, v, rfl, rfl, e, l, h⟩
theorem k_app (e : H a = some (.lst xs)) (l : xs.length < sizeLine) (h : Q .non (upd H a (.lst (xs ++ [v])))) : rAppend (.ref a) [v] H Q := ⟨a, xs, v, rfl, rfl, e, l, h⟩
theorem k_ixL {n : Int} (e : SqL K H a xs) (f : atI xs n = some v) (h : Q v H) : rIxL K (.ref a) (.int n) H Q := ⟨a, xs, n, v, rfl, rfl, e, f, h⟩
theorem k_ixT {n : Int} (e : SqT K H a xs) (f : atI xs n = some v) (h : Q v H) : rIxT K (.ref a) (.int n) H Q := ⟨a, xs, n, v, rfl, rfl, e, f, h⟩
end
section
variable {X : Cx} {K : PySem.W.Frag} {H : Hp} {Q : VK} {a : Addr} {xs : List V} {v : V}
def rLen (K : PySem.W.Frag) : List V → Hp → VK → Prop := fun xs H Q => ∃ p ys, xs = [.ref p] ∧ (SqL K H p ys ∨ SqT K H p ys) ∧ Q (.int ys.length) H
theorem c_len : CallR X (.builtin "len") (rLen X.K) := call_len_seq
theorem k_lenL (e : SqL K H a xs) (h : Q (.int xs.length) H) : rLen K [.ref a] H Q := ⟨a, xs, rfl, .inl e, h⟩
theorem k_lenT (e : SqT K H a xs) (h : Q (.int xs.length) H) : rLen K [.ref a] H Q := ⟨a, xs, rfl, .inr e, h⟩
def rList (K : PySem.W.Frag) : List V → Hp → VK → Prop := fun xs H Q => ∃ p ys, xs = [.ref p] ∧ (SqL K H p ys ∨ SqT K H p ys) ∧ ∀ l, H l = none → Q (.ref l) (upd H l (.lst ys))
theorem c_list : CallR X (.type "list") (rList X.K) := call_list_of
theorem k_listL (e : SqL K H a xs) (h : ∀ l, H l = none → Q (.ref l) (upd H l (.lst xs))) : rList K [.ref a] H Q := ⟨a, xs, rfl, .inl e, h⟩
theorem k_listT (e : SqT K H a xs) (h : ∀ l, H l = none → Q (.ref l) (upd H l (.lst xs))) : rList K [.ref a] H Q := ⟨a, xs, rfl, .inr e, h⟩
def rMax : List V → Hp → VK → Prop := fun xs H Q => ∃ i j, xs = [.int i, .int j] ∧ Q (.int (if j > i then j else i)) H
theorem c_max (hc : X.calm = true) : CallR X (.builtin "max") rMax := call_max2 hc
theorem k_max {i j : Int} (h : Q (.int (if j > i then j else i)) H) : rMax [.int i, .int j] H Q := ⟨i, j, rfl, h⟩
theorem k_ixqL {n : Int} (e : SqL K H a xs) (f : atI xs n = some v) (h : Q v H) : rIx K (.ref a) (.int n) H Q := .inl ⟨a, xs, n, v, rfl, rfl, e, f, h⟩
theorem k_ixqT {n : Int} (e : SqT K H a xs) (f : atI xs n = some v) (h : Q v H) : rIx K (.ref a) (.int n) H Q := .inr (.inl ⟨a, xs, n, v, rfl, rfl, e, f, h⟩)
theorem k_slL {lo hi : Option Int} (e : SqL K H a xs) (h : ∀ p, H p = none → Q (.ref p) (upd H p (.lst (cutV xs lo hi)))) : rSlL K (.ref a) lo hi H Q := ⟨a, xs, rfl, e, h⟩
theorem k_ltT {b : Addr} {ns ms : List Int} (e : SqT K H a (ns.map V.int)) (f : SqT K H b (ms.map V.int)) (h : Q (.bl (HT.lexLt ns ms)) H) : rLtT K (.ref a) (.ref b) H Q := ⟨a, b, ns, ms, rfl, rfl, e, f, h⟩
def rIsBb : R2 := rIsB
theorem k_isB {x y : Bool} (h : Q (.bl (decide (x = y))) H) : rIsB (.bl x) (.bl y) H Q := ⟨x, y, rfl, rfl, h⟩
theorem k_isN {x : V} {r : V → V → Hp → VK → Prop} (h : r x .non H Q) : r x .non H Q := h
variable {σ : L2.St} {te : TE} {tl th : TO} {tl' : TO} {QO : Option Int → Hp → Prop}
theorem k_sl {r : V → Option Int → Option Int → Hp → VK → Prop} (h : te σ H fun x H1 => tl σ H1 fun l H2 => th σ H2 fun u H3 => r x l u H3 Q) : tSl r te tl th σ H Q := h
theorem k_noP (h : QO none H) : tNoPart σ H QO := h
theorem k_part (h : te σ H fun x H1 => ∃ i, x = .int i ∧ QO (some i) H1) : tPart te σ H QO := h
theorem k_partI {R : Int → Prop} {i : Int} (h : R i) : ∃ j, V.int i = .int j ∧ R j := ⟨i, rfl, h⟩
theorem k_revL (h : te σ H fun x H1 => ∃ a xs, x = .ref a ∧ SqL K H1 a xs ∧ ∀ p, H1 p = none → Q (.ref p) (upd H1 p (.lst xs.reverse))) : tRevL K te σ H Q := h
/-- a > b, tuples of ints -/
def rGtT (K : PySem.W.Frag) : R2 := fun x y H Q => ∃ a b ns ms, x = .ref a ∧ y = .ref b ∧ SqT K H a (ns.map V.int) ∧ SqT K H b (ms.map V.int) ∧ Q (.bl (HT.lexLt ms ns)) H
theorem k_gtT {b : Addr} {ns ms : List Int} (e : SqT K H a (ns.map V.int)) (f : SqT K H b (ms.map V.int)) (h : Q (.bl (HT.lexLt ms ns)) H) : rGtT K (.ref a) (.ref b) H Q := ⟨a, b, ns, ms, rfl, rfl, e, f, h⟩
theorem dpAll_ints {K : PySem.W.Frag} {H : Hp} : ∀ xs : List Int, DpAll K H (xs.map V.int) (xs.map PyData.int)
  | [] => .nil
  | x :: xs => .cons (.int x) (dpAll_ints xs)
theorem alike_ints : ∀ xs ys : List Int, PySem.W.alikeAll (xs.map PyData.int) (ys.map PyData.int) = true
  | [], ys => by cases ys <;> rfl
  | _ :: _, [] => rfl
  | x :: xs, y :: ys => by
    show (true && _) = true
    rw [alike_ints xs ys]
    rfl
theorem depth_ints : ∀ xs : List Int, PyData.depthAll (xs.map PyData.int) = 0
  | [] => rfl
  | x :: xs => by
    show max 0 (PyData.depthAll (xs.map PyData.int)) = 0
    rw [depth_ints xs]
    rfl
theorem lt_ints : ∀ xs ys : List Int, PySem.W.dataLt (.tuple (xs.map PyData.int)) (.tuple (ys.map PyData.int)) = HT.lexLt xs ys
  | [], [] => by decide
  | [], y :: ys => by
    show PyProof.Rows.lexLt itemOrd (PySem.W.keyToksAll []) (PySem.W.keyToksAll (PyData.int y :: _)) = true
    rw [PySem.W.toks_all_cons]
    exact (lex_diff (O := itemOrd) (by decide)).trans (by decide)
  | x :: xs, [] => by
    show PyProof.Rows.lexLt itemOrd (PySem.W.keyToksAll (PyData.int x :: _)) (PySem.W.keyToksAll []) = false
    rw [PySem.W.toks_all_cons]
    exact (lex_diff (O := itemOrd) (by decide)).trans (by decide)
  | x :: xs, y :: ys => by
    show PyProof.Rows.lexLt itemOrd (PySem.W.keyToksAll (PyData.int x :: _)) (PySem.W.keyToksAll (PyData.int y :: _)) = (if x = y then HT.lexLt xs ys else decide (x < y))
    by_cases e : x = y
    · subst e
      rw [if_pos rfl, PySem.W.dataLt_all_yes rfl (by simp [PyData.eqv])]
      exact lt_ints xs ys
    · rw [if_neg e, PySem.W.dataLt_all_no rfl (by simpa [PyData.eqv] using e)]
      exact PySem.W.dataLt_int x y
theorem op_gtT {X : Cx} (hu : X.A.units + 64 < cLine) : OpR X (compareOp .Gt) (rGtT X.K) := by
  intro pins s σ H x y v u Q I rx ry h
  obtain ⟨a, b, ns, ms, rfl, rfl, ha, hb, q⟩ := h
  obtain ⟨as, r1⟩ := Dp.reads I (.tuple (ns.map PyData.int)) (.ref a) v (.tup ha (dpAll_ints ns)) rx
  obtain ⟨bs, r2⟩ := Dp.reads I (.tuple (ms.map PyData.int)) (.ref b) u (.tup hb (dpAll_ints ms)) ry
  refine PySem.W.gt_data r1 r2 (alike_ints ns ms) (fun z => by cases z) ?_ ⟨.bl _, H, I, rfl, ?_⟩
  · show X.A.units + min (PyData.depthAll (ns.map PyData.int) + 1) _ < cLine
    rw [depth_ints]
    omega
  · rw [lt_ints]
    exact q
end
theorem atI_head {α : Type} {x : α} {xs : List α} : atI (x :: xs) 0 = some x := atI_nat (j := 0) (xs := x :: xs) rfl
/-! what is known is known behind a step -/
theorem lk_new {H : Hp} {a p : Addr} {o u : HO} (h : H a = some u) (n : H p = none) : upd H p o a = some u := (upd_ne (ne_of_none h n)).trans h
theorem lk_ext {M : Addr → Prop} {H H' : Hp} {a : Addr} {xs : List V} (e : Ext M H H') (h : H a = some (.tup xs)) : H' a = some (.tup xs) := e.1 a xs h
theorem lk_same {H H' : Hp} {a : Addr} {o : HO} (e : Same H H') (h : H a = some o) : H' a = some o := e a o h
end Own

set_option Elab.async false
set_option maxRecDepth 100000
/-! instances of own classes: in, len, methods by keywords, errors with fields -/
namespace Own
open PySem PySem.Spec PyProof.Rows L2

theorem k_yes {σ : L2.St} {H : Hp} {A B : Hp → Prop} (h : A H) : tYes σ H (fun b H' => if b = true then A H' else B H') := by
  show (if true = true then A H else B H)
  rw [if_pos rfl]
  exact h
theorem k_szL {n : Nat} (h : n < 100000) : n < sizeLine := by
  rw [sizeLine_eq]
  omega
section
variable {X : Cx} {Z : CXT} {k : Nat} {C f : Addr} {sp : Sp} {E : XK}
/-- x in o, o an instance whose class has its own __contains__ -/
theorem own_in {pins : List (Addr × Obj)} {σ : L2.St} {H : Hp} {s : Shared} {a dx : Addr} {fs : List (Str × V)} {x : V} {u : Value} {Q : Bool → Hp → Prop}
    (hs : PySem.W.findIn X.K (.ref C) "__contains__" = some (some (.ref f))) (hf : PySem.W.typeIn X.K (.ref f) = some (.type "function"))
    (F : FnR X.prog X.w X.K X.mg X.base Z k f sp) (room : Room k X.A) (px : Passes Z X E) (I : Inv X pins σ H s) (ea : H a = some (.ins C dx fs)) (rx : RelV x u)
    (h : sp [.ref a, x] H (fun v H' => ∃ b, v = .bl b ∧ Q b H') E) :
    wpAny (model X.prog X.w) X.A (contains (.ref a) u) (TP X pins σ Q) X.xe s := by
  obtain ⟨mA, O, _, _, _, _⟩ := ins_get I.hok ea
  obtain ⟨od, J, _⟩ := O.look
  unfold contains
  refine wpAny_holding ?_
  rw [stdlibNamesSay?_ref]
  dsimp only
  refine wpAny_bind (m := specialOf (.ref a) "__contains__") ?_
  unfold specialOf
  refine wpAny_bind (J.type.here ((PySem.W.looks_findIn I.kIn hs).here ?_))
  rw [show ((some (Value.ref f) : Option Value) == some Value.none) = false from rfl]
  rw [if_neg Bool.false_ne_true]
  refine wpAny_bind ?_
  unfold callSpecialUnlessNone? specialOf
  refine wpAny_bind (wpAny_bind (J.type.here ((PySem.W.looks_findIn I.kIn hs).here ?_)))
  dsimp only
  refine wpAny_holding (wpAny_bind ((PySem.W.bind_fn I.kIn _ hf).here ?_))
  rw [show ((Value.ref f) == Value.none) = false from rfl]
  rw [if_neg Bool.false_ne_true]
  refine wpAny_bind (wpAny_mono (wpAny_call (run_fnR (us := [.ref a, u]) (vs := [.ref a, x]) F room px I (.cons rfl (.cons rx .nil)) h)) (fun r s' z => ?_) fun _ _ z => z)
  obtain ⟨v, H', I', rv, b, rfl, q⟩ := z
  cases rv
  exact wpAny_pure (wpAny_truthy_bool ⟨H', I', q⟩)
def rInO (C : Addr) (sp : Sp) (E : XK) (g : Bool → Bool) : R2 := fun x y H Q => ∃ a dx fs, y = .ref a ∧ H a = some (.ins C dx fs) ∧ sp [.ref a, x] H (fun v H' => ∃ b, v = .bl b ∧ Q (.bl (g b)) H') E
theorem op_inO (hs : PySem.W.findIn X.K (.ref C) "__contains__" = some (some (.ref f))) (hf : PySem.W.typeIn X.K (.ref f) = some (.type "function"))
    (F : FnR X.prog X.w X.K X.mg X.base Z k f sp) (room : Room k X.A) (px : Passes Z X E) : OpR X (compareOp .In) (rInO C sp E fun b => b) := by
  intro pins s σ H x y v u Q I rx ry h
  obtain ⟨a, dx, fs, rfl, ea, q⟩ := h
  obtain rfl : u = Value.ref a := ry
  refine wpAny_bind (wpAny_mono (own_in (Q := fun b H' => Q (.bl b) H') hs hf F room px I ea rx q) (fun b s' z => ?_) fun _ _ z => z)
  obtain ⟨H', I', q'⟩ := z
  exact wpAny_pure ⟨.bl b, H', I', rfl, q'⟩
theorem op_notInO (hs : PySem.W.findIn X.K (.ref C) "__contains__" = some (some (.ref f))) (hf : PySem.W.typeIn X.K (.ref f) = some (.type "function"))
    (F : FnR X.prog X.w X.K X.mg X.base Z k f sp) (room : Room k X.A) (px : Passes Z X E) : OpR X (compareOp .NotIn) (rInO C sp E fun b => !b) := by
  intro pins s σ H x y v u Q I rx ry h
  obtain ⟨a, dx, fs, rfl, ea, q⟩ := h
  obtain rfl : u = Value.ref a := ry
  refine wpAny_bind (wpAny_mono (own_in (Q := fun b H' => Q (.bl (!b)) H') hs hf F room px I ea rx q) (fun b s' z => ?_) fun _ _ z => z)
  obtain ⟨H', I', q'⟩ := z
  exact wpAny_pure ⟨.bl (!b), H', I', rfl, q'⟩

/-- a callee, run below the running body -/
theorem atRun {pins : List (Addr × Obj)} {σ : L2.St} {H : Hp} {s : Shared} {B : Around} {Q : VK} {us : List Value} {vs : List V} (F : FnR X.prog X.w X.K X.mg X.base Z k f sp) (room : Room k B)
    (e0 : Env0 X.prog X.w X.K X.mg X.base B X.stack s H) (px : Passes Z X E) (I : Inv X pins σ H s) (rv : Vals vs us) (q : sp vs H Q E) :
    wpAny (model X.prog X.w) B (call (.ref f) us) (EP X pins σ Q) X.xe s := by
  refine wpAny_call (codeAny_mono (F B X.stack s H us vs Q E room e0 rv q) ?_)
  intro r s' z
  match r, z with
  | .error e, z => exact px pins σ H s e s' I z
  | .ok (.ret u), z => exact I.after z
  | .ok .next, z => exact z.elim
  | .ok .brk, z => exact z.elim
  | .ok .cont, z => exact z.elim
/-- len(o), o an instance whose class has its own __len__ -/
def rLenO (C : Addr) (sp : Sp) (E : XK) : List V → Hp → VK → Prop := fun xs H Q => ∃ a dx fs, xs = [.ref a] ∧ H a = some (.ins C dx fs) ∧
  sp [.ref a] H (fun v H' => ∃ n : Nat, v = .int n ∧ n ≤ sizeLine ∧ Q (.int n) H') E
theorem call_lenO (hs : PySem.W.findIn X.K (.ref C) "__len__" = some (some (.ref f))) (hf : PySem.W.typeIn X.K (.ref f) = some (.type "function"))
    (F : FnR X.prog X.w X.K X.mg X.base Z k f sp) (room : Room (k + 1) X.A) (px : Passes Z X E) : CallR X (.builtin "len") (rLenO C sp E) := by
  intro pins s σ H xs us Q I r h
  obtain ⟨a, dx, fs, rfl, ea, q⟩ := h
  obtain ⟨u, rfl, ru⟩ := r.one
  obtain rfl : u = Value.ref a := ru
  obtain ⟨mA, O, _, _, _, _⟩ := ins_get I.hok ea
  obtain ⟨od, J, _⟩ := O.look
  refine Calls.call_function_entry kind_len plain_len entry_len (args_len1 _) ?_
  unfold Builtin.«len»
  refine wpAny_bind (m := oneArg "len" _) (wpAny_pure ?_)
  refine wpAny_bind (m := callSpecial? (.ref a) (Str.ofString "__len__")) (PySem.W.special_fn (args := []) I.kIn J hs hf (wpAny_mono (atRun (us := [.ref a]) (vs := [.ref a]) F room.in1 I.env0.in1 px I (.cons rfl .nil) q) (fun r s' z => ?_) fun _ _ z => z))
  obtain ⟨v, H', I', rv, n, rfl, hn, qn⟩ := z
  obtain ⟨t, rfl⟩ := rv
  rw [sizeLine_eq] at hn
  refine wpAny_bind (wpAny_holding (wpAny_pure ?_))
  refine wpAny_bind (wpAny_letGo ?_)
  show wpAny _ _ (if (n : Int) < 0 then _ else _) _ _ _
  rw [if_neg (by omega)]
  show wpAny _ _ (if (n : Int) ≥ 2 ^ 63 then _ else _) _ _ _
  rw [if_neg (by omega)]
  exact wpAny_bind (wpAny_mkInt (wpAny_pure ⟨_, rfl, .int n, H', I'.tok _, ⟨_, rfl⟩, qn⟩))
end

/-! ### methods by keywords, and such as may raise -/
section
variable {X : Cx} {Z : CXT} {k n : Nat} {C f : Addr} {fd : FuncData} {ps ks : List Str} {sp : Sp} {m : Str} {pos apos : Pos} {o e : Expr} {es : List Expr} {kws : List Keyword} {to : TE} {t tk : TA}
  {g : List Value → List Value → List Value} {gV : List V → List V → List V} {E : L2.St → XK} {pl : Sem Bool}
/-- o.m(e, .., k = v, ..): n positional values with self, mm keywords -/
def tMK (C : Addr) (m : Str) (n mm : Nat) (sp : Sp) (gV : List V → List V → List V) (E : L2.St → XK) (to : TE) (t tk : TA) : TE := fun σ H Q =>
  to σ H fun x H1 => ∃ a dx fs, x = .ref a ∧ H1 a = some (.ins C dx fs) ∧ fs.lookup m = none ∧ t σ H1 fun vs H2 => tk σ H2 fun zs H3 => (V.ref a :: vs).length = n ∧ zs.length = mm ∧ sp (gV (.ref a :: vs) zs) H3 Q (E σ)
theorem runK {pins : List (Addr × Obj)} {σ : L2.St} {H : Hp} {s : Shared} {Q : VK} {us ws : List Value} {vs zs : List V} (F : FnOk X.prog X.w X.K X.mg X.base Z k f fd ps sp) (room : Room k X.A) (kb : KBn X.K fd ps n ks g gV)
    (px : PassesAt Z X σ (E σ)) (I : Inv X pins σ H s) (rv : Vals vs us) (rz : Vals zs ws) (l1 : vs.length = n) (l2 : zs.length = ks.length) (q : sp (gV vs zs) H Q (E σ)) :
    wpAny (model X.prog X.w) X.A (call (.ref f) us (ks.zip ws)) (EP X pins σ Q) X.xe s := by
  have rr := kb.rel rv rz
  have cc := F.run X.A X.stack s H ⟨us, ks.zip ws⟩ (g us ws) (gV vs zs) Q (E σ) room I.env0 (kb.to s us ws I.kIn (rv.length.symm.trans l1) (rz.length.symm.trans l2)) rr q
  refine wpAny_call (codeAny_mono cc ?_)
  intro r s' z
  match r, z with
  | .error e, z => exact px pins H s e s' I z
  | .ok (.ret u), z => exact I.after z
  | .ok .next, z => exact z.elim
  | .ok .brk, z => exact z.elim
  | .ok .cont, z => exact z.elim
/-- with some positional arguments -/
theorem pe_mk1 (he : PE X o to) (c : Cls X.K C) (hm : Meth X.K C m f) (F : FnOk X.prog X.w X.K X.mg X.base Z k f fd ps sp) (room : Room k X.A) (kb : KBn X.K fd ps n ks g gV) (px : ∀ σ, PassesAt Z X σ (E σ))
    (pa : PA X (e :: es) t) (pk : PK X kws tk) (all : (backToKw pos (keywordEach kws X.env)).all (·.1.isSome) = true := by rfl) (nm : (backToKw pos (keywordEach kws X.env)).filterMap (·.1) = ks := by rfl)
    (st : starEach (e :: es) X.env = (false, eval e X.env) :: starEach es X.env := by rfl)
    (pn : ((backTo pos (starEach (e :: es) X.env)).any (·.1) || (backToKw pos (keywordEach kws X.env)).any (·.1.isNone)) = false := by rfl)
    (form : eval (.Call (.Attribute o m apos) (e :: es) kws pos) X.env = (do
      let ov ← eval o X.env
      standAt apos.atName
      let (f, first) ← holding [ov] (getMethod ov m pl)
      callWith pos f first (backTo pos (starEach (e :: es) X.env)) (backToKw pos (keywordEach kws X.env))) := by rfl) :
    PE X (.Call (.Attribute o m apos) (e :: es) kws pos) (tMK C m n ks.length sp gV E to t tk) := by
  constructor
  intro pins s σ H Q I h
  refine PySem.W.methodCall_KW (pl := pl) (thn (he.run pins s σ H _ I h) fun u s1 ⟨x, H1, I1, rx, a, dx, fs, ex, ea, l, q⟩ => ?_) form
  subst ex
  obtain rfl : u = Value.ref a := rx
  refine getmeth_ok I1 ea c hm l (PySem.W.callWith_KW (first := [.ref a]) (h₀ := X.base) I.ok.mod.kin hm.kp all (thn (pa.run pos pins s1 σ H1 _ I1 q) fun us s2 ⟨vs, H2, I2, rv, q2⟩ => ?_) pn st)
  refine thn (pk.run pos pins s2 σ H2 _ I2 q2) fun ws s3 ⟨zs, H3, I3, rz, l1, l2, q3⟩ => ⟨I3.kIn, ?_⟩
  rw [nm]
  exact runK (us := .ref a :: us) (vs := .ref a :: vs) F room kb (px σ) I3 (.cons rfl rv) rz l1 l2 q3
/-- keywords alone -/
theorem pe_mk0 (he : PE X o to) (c : Cls X.K C) (hm : Meth X.K C m f) (F : FnOk X.prog X.w X.K X.mg X.base Z k f fd ps sp) (room : Room k X.A) (kb : KBn X.K fd ps n ks g gV) (px : ∀ σ, PassesAt Z X σ (E σ))
    (pk : PK X kws tk) (all : (backToKw pos (keywordEach kws X.env)).all (·.1.isSome) = true := by rfl) (nm : (backToKw pos (keywordEach kws X.env)).filterMap (·.1) = ks := by rfl)
    (pn : ((backTo pos (starEach [] X.env)).any (·.1) || (backToKw pos (keywordEach kws X.env)).any (·.1.isNone)) = false := by rfl)
    (form : eval (.Call (.Attribute o m apos) [] kws pos) X.env = (do
      let ov ← eval o X.env
      standAt apos.atName
      let (f, first) ← holding [ov] (getMethod ov m pl)
      callWith pos f first (backTo pos (starEach [] X.env)) (backToKw pos (keywordEach kws X.env))) := by rfl) :
    PE X (.Call (.Attribute o m apos) [] kws pos) (tMK C m n ks.length sp gV E to tNil tk) := by
  constructor
  intro pins s σ H Q I h
  refine PySem.W.methodCall_KW (pl := pl) (thn (he.run pins s σ H _ I h) fun u s1 ⟨x, H1, I1, rx, a, dx, fs, ex, ea, l, q⟩ => ?_) form
  subst ex
  obtain rfl : u = Value.ref a := rx
  refine getmeth_ok I1 ea c hm l (PySem.W.callWith_KW0 (first := [.ref a]) (h₀ := X.base) I.ok.mod.kin hm.kp all ?_ pn)
  refine thn (pk.run pos pins s1 σ H1 _ I1 q) fun ws s3 ⟨zs, H3, I3, rz, l1, l2, q3⟩ => ⟨I3.kIn, ?_⟩
  rw [nm]
  exact runK (us := [.ref a]) (vs := [.ref a]) F room kb (px σ) I3 (.cons rfl .nil) rz l1 l2 q3
/-- o.m(e, ..), which may raise -/
def tMS (C : Addr) (m : Str) (sp : Sp) (E : L2.St → XK) (to : TE) (t : TA) : TE := fun σ H Q =>
  to σ H fun x H1 => ∃ a dx fs, x = .ref a ∧ H1 a = some (.ins C dx fs) ∧ fs.lookup m = none ∧ t σ H1 fun vs H2 => sp (.ref a :: vs) H2 Q (E σ)
theorem pe_ms (he : PE X o to) (c : Cls X.K C) (hm : Meth X.K C m f) (F : FnOk X.prog X.w X.K X.mg X.base Z k f fd ps sp) (room : Room k X.A) (b : Binds X.K fd ps []) (px : ∀ σ, PassesAt Z X σ (E σ)) (pa : PA X (e :: es) t)
    (st : starEach (e :: es) X.env = (false, eval e X.env) :: starEach es X.env := by rfl) (pn : (backTo pos (starEach es X.env)).any (·.1) = false := by rfl)
    (form : eval (.Call (.Attribute o m apos) (e :: es) [] pos) X.env = (do
      let ov ← eval o X.env
      standAt apos.atName
      let (f, first) ← holding [ov] (getMethod ov m pl)
      callWith pos f first (backTo pos (starEach (e :: es) X.env)) (backToKw pos (keywordEach [] X.env))) := by rfl) :
    PE X (.Call (.Attribute o m apos) (e :: es) [] pos) (tMS C m sp E to t) := by
  constructor
  intro pins s σ H Q I h
  refine PySem.W.methodCall_KW (pl := pl) (thn (he.run pins s σ H _ I h) fun u s1 ⟨x, H1, I1, rx, a, dx, fs, ex, ea, l, q⟩ => ?_) form
  subst ex
  obtain rfl : u = Value.ref a := rx
  refine getmeth_ok I1 ea c hm l (PySem.W.callWith_K (first := [.ref a]) (h₀ := X.base) I.ok.mod.kin hm.kp (thn (pa.run pos pins s1 σ H1 _ I1 q) fun us s2 ⟨vs, H2, I2, rv, q2⟩ => ⟨I2.kIn, ?_⟩) st pn)
  exact run_fnS (us := .ref a :: us) (vs := .ref a :: vs) F room b (px σ) I2 (.cons rfl rv) q2
end

/-! ### isinstance of an error that has fields -/
section
open PySem.W
variable {prog : Program} {w : World} {A : Around} {E : Value → Shared → Prop} {s : Shared} {K : Frag} {x D : Addr} {ox : Obj} {od : Option Obj}
theorem err_class {Q : Option Value → Shared → Prop} (T : ExcC K D) (hf : findObj K D od "__class__" = some (.bind (.builtin "getset_descriptor.__get__") (.builtin "object.__class__"))) (kin : K.In s.heap)
    (J : InstAt s.heap x ox D od) (h : Q (some (.ref D)) { s with toks := s.toks + 1 }) : wpAny (model prog w) A (getAttr? (.ref x) "__class__") Q E s := by
  obtain ⟨hp, g, d, t, os⟩ := s
  have ty := J.type (M := model prog w)
  have own := looks_findIn (M := model prog w) kin T.hg
  have no := looks_findIn (M := model prog w) kin T.hk
  have fnd := looks_find (M := model prog w) kin J hf
  have base : Looks (model prog w) hp (isInstance (.ref x) (.type "BaseException")) true := ty.andThen (looks_subIn kin T.hs)
  have b1 : (Value.builtin "BaseException.__getattribute__" == Value.builtin "object.__getattribute__") = false := by decide +kernel
  have b2 : (onTheHeap (Value.ref D) && Value.builtin "BaseException.__getattribute__" == Value.builtin "object.__getattribute__") = false := by
    rw [b1]
    rfl
  unfold getAttr? getAttrBy? getAttrBy
  refine wpAny_bind (wpAny_mkText (wpAny_bind (wpAny_attempt (wpAny_holding (wpAny_bind (ty.at (wpAny_bind (own.at ?_))))))))
  show wpAny _ _ (if (onTheHeap (Value.ref D) && Value.builtin "BaseException.__getattribute__" == Value.builtin "object.__getattribute__") = true then _ else _) _ _ _
  rw [if_neg (by rw [b2]; exact Bool.false_ne_true)]
  unfold getAttrByItsOwn hookBefore
  refine wpAny_bind ?_
  rw [if_pos (show onTheHeap (Value.ref D) = true from rfl)]
  refine no.at (wpAny_bind (wpAny_attempt (wpAny_holding ?_)))
  unfold callGetattribute
  rw [if_neg (show ¬ (false && onTheHeap (Value.builtin "BaseException.__getattribute__")) = true from Bool.false_ne_true)]
  unfold boundAndCalled
  rw [PySem.F.excAttr_ValueError.ga.bind (.ref x)]
  refine wpAny_bind (wpAny_pure ?_)
  show wpAny _ _ (call (.builtin "BaseException.__getattribute__") [.ref x, .str "__class__" t]) _ _ _
  refine wpAny_call (codeAny_call_builtin PySem.F.excAttr_ValueError.ga.plain PySem.F.entry_bexc_ga (@check_slot (model prog w) _ _ ⟨hp, g, d, t + 1, os⟩ "BaseException.__getattribute__" "BaseException" "__getattribute__" (.ref x) [.str "__class__" t] [] _ (by decide +kernel) (by decide +kernel) base (PySem.F.args_bexc_ga (.ref x) (.str "__class__" t)) ?_))
  unfold Builtin.«object.__getattribute__»
  refine wpAny_bind (wpAny_of_eq (a := ((Value.ref x : Value), [Value.str "__class__" t])) (by first | rfl | (simp only [slotArgs]; rfl)) ?_)
  refine wpAny_bind (wpAny_pure (wpAny_bind (ty.at (wpAny_bind (fnd.at ?_)))))
  show wpAny _ _ (holding [Value.builtin "object.__class__"] (call (.builtin "getset_descriptor.__get__") [.builtin "object.__class__", .ref x, .ref D]) >>= ret) _ _ _
  refine wpAny_bind (wpAny_holding (wpAny_call (class_get (s := ⟨hp, g, d, t + 1, os⟩) (ox := ox) (od := od) kin J T.hm (wpAny_pure ?_))))
  show wpAny _ _ (handedOut (.ref D)) _ _ _
  rw [handedOut_of (v := .ref D) rfl]
  first
    | exact wpAny_pure (wpAny_pure h)
    | exact wpAny_pure h
    | exact wpAny_pure (wpAny_bind (wpAny_pure (wpAny_pure h)))
end
section
theorem err_kit {K : PySem.W.Frag} {a D : Addr} {oe : Obj} {od : Option Obj} (T : ExcC K D) (hf : PySem.W.findObj K D od "__class__" = some (.bind (.builtin "getset_descriptor.__get__") (.builtin "object.__class__"))) :
    PySem.W.KitX K (.ref a) (.ref D) (fun h => PySem.W.InstAt h a oe D od) where
  ty := fun _ _ _ J => J.type
  ca := fun kin J k => err_class T hf kin J k
  it := fun _ h kin _ => by
    obtain ⟨cd, hc, _⟩ := PySem.W.any_some T.hd
    unfold PySem.W.clsIn at hc
    split at hc
    · rename_i c' d' cd' sl' ho
      intro A' Q' E' s' keep q
      unfold isType loadHead
      exact wpAny_bind (wpAny_loadPart (keep _ _ (kin _ _ ho)) (wpAny_pure q))
    · cases hc
  ne := fun h tp dd its n sl kin htp => by
    obtain ⟨cd, hc, _⟩ := PySem.W.any_some T.hd
    rw [beq_eq_false_iff_ne]
    intro e
    obtain rfl := Value.ref.inj e
    unfold PySem.W.clsIn at hc
    split at hc
    · rename_i c' d' cd' sl' ho
      have z := (kin _ _ ho).symm.trans htp
      cases z
    · cases hc
/-- isinstance(e, c), e the error that the suite holds, with its fields -/
def rIsEF (K : PySem.W.Frag) (D a : Addr) (cls : Value) (d : Option Addr) : List V → Hp → VK → Prop := fun xs H Q => ∃ (dd : Addr) (fs : List (Str × V)) (c : V) (cv : Value) (b : Bool),
  cls = .ref D ∧ d = some dd ∧ H dd = some (.xd fs) ∧ xs = [.ref a, c] ∧ (∀ u, RelV c u → u = cv) ∧ PySem.W.kitOne K (.ref D) cv = some b ∧ Q (.bl b) H
theorem call_isEF {X : Cx} {a D : Addr} {oe : Obj} {cls : Value} {d : Option Addr} {pn : List (Addr × Obj)} (T : ExcC X.K D) (hz : Zc cls d oe) (hf : ∃ vs, oe.data = .fields vs) :
    CallR (X.suite a ((a, oe) :: pn)) (.builtin "isinstance") (rIsEF X.K D a cls d) := by
  intro pins s σ H xs us Q I r h
  obtain ⟨dd, fs, c, cv, b, rfl, rfl, hd, rfl, hcv, e, q⟩ := h
  match r with
  | .cons rx (.cons rt .nil) =>
    cases rx
    obtain rfl := hcv _ rt
    obtain ⟨hget, _⟩ := I.pin (a, oe) (List.mem_append_left _ List.mem_cons_self)
    obtain ⟨vs, hv⟩ := hf
    have hx : ObjOk X.prog X.w H s.heap dd (.xd fs) := I.hok dd _ hd
    obtain ⟨mA, hns, _⟩ := hx
    obtain ⟨od, ho, _⟩ := lookIn_ns hns
    have J : PySem.W.InstAt s.heap a oe D (some od) := ⟨hget, hz.1, by unfold PySem.W.notCls; rw [hv] <;> rfl, by rw [hz.2]; exact ho⟩
    have hc : (PySem.W.clsIn X.K D).isSome = true := by
      obtain ⟨cd, hc, _⟩ := PySem.W.any_some T.hd
      rw [hc]
      rfl
    exact PySem.W.kia_one (err_kit T (PySem.W.findObj_data hc T.ha T.hn T.ht)) I.kIn J e (fun z => nomatch z) fun tk => ⟨.bl b, H, I.kept (t' := tk) fun _ _ z => z, rfl, q⟩
end
end Own

set_option Elab.async false
set_option maxRecDepth 100000
/-! generator methods by keywords; sorted, min and max of lists of data -/
namespace Own
open PySem PySem.Spec PyProof.Rows L2

/-! ### list(o.m(.., k = v)), m a generator -/
section
variable {X : Cx} {k n : Nat} {C f : Addr} {fd : FuncData} {ps ks : List Str} {sp : SpG} {m : Str} {pos apos : Pos} {o e : Expr} {es : List Expr} {kws : List Keyword} {to : TE} {t tk : TA}
  {g : List Value → List Value → List Value} {gV : List V → List V → List V} {E : XK} {pl : Sem Bool}
theorem run_gK {pins : List (Addr × Obj)} {σ : L2.St} {H : Hp} {s : Shared} {us ws : List Value} {vs zs : List V} {cont : List V → Hp → Prop} {E1 : Value → Shared → Prop} (F : GFn X.prog X.w X.K X.mg X.base k f fd ps sp) (hr : Room k X.A)
    (kb : KBn X.K fd ps n ks g gV) (I : Inv X pins σ H s) (rv : Vals vs us) (rz : Vals zs ws) (l1 : vs.length = n) (l2 : zs.length = ks.length) (h : sp (gV vs zs) H cont E) :
    wpAny (model X.prog X.w) X.A (call (.ref f) us (ks.zip ws)) (fun u s' => ∃ H1 sc ex, Inv X pins σ H1 sc ∧ ExOk X pins ex ∧ GMade X.prog X.w k X.stack H1 sc ex cont E u s') E1 s := by
  refine wpAny_call (codeAny_mono (F.run X.A X.stack s H ⟨us, ks.zip ws⟩ (g us ws) (gV vs zs) cont E hr I.env0 (kb.to s us ws I.kIn (rv.length.symm.trans l1) (rz.length.symm.trans l2)) (kb.rel rv rz) h) fun r s' hq => ?_)
  match r, hq with
  | .error e, hq => exact hq.elim
  | .ok (.ret u), hq => exact ⟨H, s, [], I, .nil, hq⟩
  | .ok .next, hq => exact hq.elim
  | .ok .brk, hq => exact hq.elim
  | .ok .cont, hq => exact hq.elim
def tMGK (C : Addr) (m : Str) (n mm : Nat) (sp : SpG) (gV : List V → List V → List V) (E : XK) (to : TE) (t tk : TA) : TGen := fun σ H cont => to σ H fun x H1 => ∃ a dx fs, x = .ref a ∧ H1 a = some (.ins C dx fs) ∧ fs.lookup m = none ∧
  t σ H1 fun vs H2 => tk σ H2 fun zs H3 => (V.ref a :: vs).length = n ∧ zs.length = mm ∧ sp (gV (.ref a :: vs) zs) H3 cont E
theorem pgen_mk1 (he : PE X o to) (c : Cls X.K C) (hm : Meth X.K C m f) (F : GFn X.prog X.w X.K X.mg X.base k f fd ps sp) (hr : Room k X.A) (kb : KBn X.K fd ps n ks g gV) (pa : PA X (e :: es) t) (pk : PK X kws tk)
    (all : (backToKw pos (keywordEach kws X.env)).all (·.1.isSome) = true := by rfl) (nm : (backToKw pos (keywordEach kws X.env)).filterMap (·.1) = ks := by rfl)
    (st : starEach (e :: es) X.env = (false, eval e X.env) :: starEach es X.env := by rfl)
    (pn : ((backTo pos (starEach (e :: es) X.env)).any (·.1) || (backToKw pos (keywordEach kws X.env)).any (·.1.isNone)) = false := by rfl)
    (form : eval (.Call (.Attribute o m apos) (e :: es) kws pos) X.env = (do
      let ov ← eval o X.env
      standAt apos.atName
      let (f, first) ← holding [ov] (getMethod ov m pl)
      callWith pos f first (backTo pos (starEach (e :: es) X.env)) (backToKw pos (keywordEach kws X.env))) := by rfl) :
    PGen X k (.Call (.Attribute o m apos) (e :: es) kws pos) (tMGK C m n ks.length sp gV E to t tk) E := by
  constructor
  intro pins s σ H cont I h
  refine PySem.W.methodCall_KW (pl := pl) (thn (he.run pins s σ H _ I h) fun u s1 ⟨x, H1, I1, rx, a, dx, fs, ex, ea, l, q⟩ => ?_) form
  subst ex
  obtain rfl : u = Value.ref a := rx
  refine getmeth_ok I1 ea c hm l (PySem.W.callWith_KW (first := [.ref a]) (h₀ := X.base) I.ok.mod.kin hm.kp all (thn (pa.run pos pins s1 σ H1 _ I1 q) fun us s2 ⟨vs, H2, I2, rv, q2⟩ => ?_) pn st)
  refine thn (pk.run pos pins s2 σ H2 _ I2 q2) fun ws s3 ⟨zs, H3, I3, rz, l1, l2, q3⟩ => ⟨I3.kIn, ?_⟩
  rw [nm]
  exact run_gK (us := .ref a :: us) (vs := .ref a :: vs) F hr kb I3 (.cons rfl rv) rz l1 l2 q3
theorem pgen_mk0 (he : PE X o to) (c : Cls X.K C) (hm : Meth X.K C m f) (F : GFn X.prog X.w X.K X.mg X.base k f fd ps sp) (hr : Room k X.A) (kb : KBn X.K fd ps n ks g gV) (pk : PK X kws tk)
    (all : (backToKw pos (keywordEach kws X.env)).all (·.1.isSome) = true := by rfl) (nm : (backToKw pos (keywordEach kws X.env)).filterMap (·.1) = ks := by rfl)
    (pn : ((backTo pos (starEach [] X.env)).any (·.1) || (backToKw pos (keywordEach kws X.env)).any (·.1.isNone)) = false := by rfl)
    (form : eval (.Call (.Attribute o m apos) [] kws pos) X.env = (do
      let ov ← eval o X.env
      standAt apos.atName
      let (f, first) ← holding [ov] (getMethod ov m pl)
      callWith pos f first (backTo pos (starEach [] X.env)) (backToKw pos (keywordEach kws X.env))) := by rfl) :
    PGen X k (.Call (.Attribute o m apos) [] kws pos) (tMGK C m n ks.length sp gV E to tNil tk) E := by
  constructor
  intro pins s σ H cont I h
  refine PySem.W.methodCall_KW (pl := pl) (thn (he.run pins s σ H _ I h) fun u s1 ⟨x, H1, I1, rx, a, dx, fs, ex, ea, l, q⟩ => ?_) form
  subst ex
  obtain rfl : u = Value.ref a := rx
  refine getmeth_ok I1 ea c hm l (PySem.W.callWith_KW0 (first := [.ref a]) (h₀ := X.base) I.ok.mod.kin hm.kp all ?_ pn)
  refine thn (pk.run pos pins s1 σ H1 _ I1 q) fun ws s3 ⟨zs, H3, I3, rz, l1, l2, q3⟩ => ⟨I3.kIn, ?_⟩
  rw [nm]
  exact run_gK (us := [.ref a]) (vs := [.ref a]) F hr kb I3 (.cons rfl .nil) rz l1 l2 q3
end

/-! ### sorted(xs), xs data -/
section
variable {X : Cx}
open PySem.W in
theorem eachV {pins : List (Addr × Obj)} {σ : L2.St} {H : Hp} {s : Shared} (I : Inv X pins σ H s) : ∀ {bs : List (V × PyData)} {its : List Value}, Vals (bs.map (·.1)) its → (∀ b ∈ bs, Dp X.K H b.1 b.2) →
    EachIs (fun v (b : V × PyData) => RelV b.1 v) its bs ∧ EachIs (fun v (b : V × PyData) => ∃ as, Reads s.heap v b.2 as) its bs
  | [], _, r, _ => by
    cases r
    exact ⟨.nil, .nil⟩
  | b :: bs, _, r, h => by
    rw [List.map_cons] at r
    cases r with
    | cons r1 r2 =>
      obtain ⟨a1, a2⟩ := eachV I r2 fun c hc => h c (List.mem_cons_of_mem _ hc)
      exact ⟨.cons r1 a1, .cons (Dp.reads I b.2 b.1 _ (h b List.mem_cons_self) r1) a2⟩
open PySem.W in
theorem eachVals : ∀ {bs : List (V × PyData)} {its : List Value}, EachIs (fun v (b : V × PyData) => RelV b.1 v) its bs → Vals (bs.map (·.1)) its
  | _, _, .nil => .nil
  | _, _, .cons a b => .cons a (eachVals b)
/-- bs: the items with what they read as -/
def rSortedD (K : PySem.W.Frag) : List V → Hp → VK → Prop := fun xs H Q => ∃ (a : Addr) (bs : List (V × PyData)), xs = [.ref a] ∧ SqL K H a (bs.map (·.1)) ∧ (∀ b ∈ bs, Dp K H b.1 b.2 ∧ b.2.depth ≤ 50) ∧ PySem.W.AllAlike (bs.map (·.2)) ∧ PySem.W.Sortable (bs.map (·.2)) ∧
  ∀ p, H p = none → Q (.ref p) (upd H p (.lst ((bs.mergeSort (PySem.W.dataLe false fun b : V × PyData => b.2)).map (·.1))))
theorem call_sortedD (hu : X.A.units + 64 < cLine) : CallR X (.builtin "sorted") (rSortedD X.K) := by
  intro pins s σ H xs us Q I r h
  obtain ⟨a, bs, rfl, hs, hd, ha, hk, q⟩ := h
  obtain ⟨its, rv, hl, hz⟩ := I.list hs
  obtain ⟨u, rfl, ru⟩ := r.one
  obtain rfl : u = Value.ref a := ru
  obtain ⟨e1, e2⟩ := eachV I rv fun b hb => (hd b hb).1
  rw [List.length_map] at hz
  refine PySem.W.sorted_data (enc := fun b : V × PyData => b.2) hl.isList e1 e2 ha hk hz (fun b hb => ?_) fun out ho eo => ?_
  · have := (hd b hb).2
    omega
  · obtain ⟨c, hc⟩ := PyProof.Rows.sortedAll_at s.heap its out.toArray
    have fresh : H (s.heap.objs.size + 1) = none := I.hok.fresh (Nat.le_succ _)
    refine ⟨.ref _, _, I.laid (o := .lst ((bs.mergeSort (PySem.W.dataLe false fun b : V × PyData => b.2)).map (·.1))) (t' := s.toks) (fun b o e => PyProof.Rows.sortedAll_old e) (Nat.le_succ _) ⟨?_, out, c, eachVals eo, ?_⟩, rfl, q _ fresh⟩
    · rw [List.length_map, List.length_mergeSort]
      exact hz
    · rw [hc]
/-! ### min(xs), max(xs), xs data -/
/-- the item that is told is one of those whose data is the least (greatest) -/
def rBestD (K : PySem.W.Frag) (best : PyData → List PyData → PyData) : List V → Hp → VK → Prop := fun xs H Q => ∃ (a : Addr) (b : V × PyData) (bs : List (V × PyData)), xs = [.ref a] ∧ SqL K H a ((b :: bs).map (·.1)) ∧
  (∀ c ∈ b :: bs, Dp K H c.1 c.2 ∧ c.2.canLay0 = true) ∧ PySem.W.AlikeAll ((b :: bs).map (·.2)) ∧ PyData.depthAll ((b :: bs).map (·.2)) ≤ 50 ∧ ∀ c ∈ b :: bs, c.2 = best b.2 (bs.map (·.2)) → Q c.1 H
theorem dp_readsAll {pins : List (Addr × Obj)} {σ : L2.St} {H : Hp} {s : Shared} (I : Inv X pins σ H s) : ∀ {bs : List (V × PyData)} {its : List Value}, Vals (bs.map (·.1)) its → (∀ b ∈ bs, Dp X.K H b.1 b.2) → ∃ as, ReadsAll s.heap its (bs.map (·.2)) as
  | [], _, r, _ => by
    cases r
    exact ⟨_, .nil⟩
  | b :: bs, _, r, h => by
    rw [List.map_cons] at r
    cases r with
    | cons r1 r2 =>
      obtain ⟨as, q1⟩ := Dp.reads I b.2 b.1 _ (h b List.mem_cons_self) r1
      obtain ⟨cs, q2⟩ := dp_readsAll I r2 fun c hc => h c (List.mem_cons_of_mem _ hc)
      exact ⟨_, .cons q1 q2⟩
theorem vals_at : ∀ {bs : List (V × PyData)} {its : List Value}, Vals (bs.map (·.1)) its → ∀ {i : Nat} {v : Value}, its[i]? = some v → ∃ b ∈ bs, RelV b.1 v
  | [], _, r, i, v, e => by
    cases r
    simp at e
  | b :: bs, _, r, i, v, e => by
    rw [List.map_cons] at r
    cases r with
    | cons r1 r2 =>
      match i, e with
      | 0, e =>
        simp at e
        subst e
        exact ⟨b, List.mem_cons_self, r1⟩
      | i + 1, e =>
        simp at e
        obtain ⟨c, hc, h⟩ := vals_at r2 e
        exact ⟨c, List.mem_cons_of_mem _ hc, h⟩
theorem best_told {pins : List (Addr × Obj)} {σ : L2.St} {H : Hp} {s : Shared} {its : List Value} {bs : List (V × PyData)} {Q : VK} {d : PyData} (I : Inv X pins σ H s) (rv : Vals (bs.map (·.1)) its) (hd : ∀ c ∈ bs, Dp X.K H c.1 c.2 ∧ c.2.canLay0 = true)
    (q : ∀ c ∈ bs, c.2 = d → Q c.1 H) {i : Nat} {v : Value} {h' : Heap} {tk : Nat} {cs : List Addr} (e : its.toArray[i]? = some v) (r : Reads h' v d cs) (k : ∀ b o, s.heap.get? b = some o → h'.get? b = some o) : EP X pins σ Q v { s with heap := h', toks := tk } := by
  obtain ⟨c, hc, rc⟩ := vals_at rv (i := i) (v := v) (by simpa using e)
  obtain ⟨as, r2⟩ := Dp.reads I c.2 c.1 v (hd c hc).1 rc
  have e2 : c.2 = d := PySem.SeqAt.Reads.unique c.2 d v _ _ (hd c hc).2 (PyProof.Rows.Reads.keeps k r2) r
  exact ⟨c.1, H, I.kept k, rc, q c hc e2⟩
theorem call_minD (hc : X.calm = true) (hu : X.A.units + 64 < cLine) : CallR X (.builtin "min") (rBestD X.K PySem.W.minD) := by
  intro pins s σ H xs us Q I r h
  obtain ⟨a, b, bs, rfl, hs, hd, ha, hz, q⟩ := h
  obtain ⟨its, rv, hl, _⟩ := I.list hs
  obtain ⟨u, rfl, ru⟩ := r.one
  obtain rfl : u = Value.ref a := ru
  obtain ⟨as, ra⟩ := dp_readsAll I rv fun c hc => (hd c hc).1
  refine PySem.W.min_list_data (x := b.2) (xs := List.map (fun c : V × PyData => c.2) bs) (I.ok.hd hc) hl.isList (by simpa using ra) ha ?_ fun i v h' tk cs e r k => best_told I rv hd q e r k
  have z : PyData.depthAll (b.2 :: bs.map (·.2)) ≤ 50 := hz
  omega
theorem call_maxD (hc : X.calm = true) (hu : X.A.units + 64 < cLine) : CallR X (.builtin "max") (rBestD X.K PySem.W.maxD) := by
  intro pins s σ H xs us Q I r h
  obtain ⟨a, b, bs, rfl, hs, hd, ha, hz, q⟩ := h
  obtain ⟨its, rv, hl, _⟩ := I.list hs
  obtain ⟨u, rfl, ru⟩ := r.one
  obtain rfl : u = Value.ref a := ru
  obtain ⟨as, ra⟩ := dp_readsAll I rv fun c hc => (hd c hc).1
  refine PySem.W.max_list_data (x := b.2) (xs := List.map (fun c : V × PyData => c.2) bs) (I.ok.hd hc) hl.isList (by simpa using ra) ha ?_ fun i v h' tk cs e r k => best_told I rv hd q e r k
  have z : PyData.depthAll (b.2 :: bs.map (·.2)) ≤ 50 := hz
  omega
end
end Own

set_option Elab.async false
set_option maxRecDepth 100000
set_option maxHeartbeats 2000000
/-! d.items() walked by one name: each turn's pair is a tuple of its own -/
namespace Own
open PySem PySem.Spec PyProof.Rows PySem.W

section
variable {prog : Program} {w : World} {L : Type} [DecidableEq L] {kd : KeyKind prog w L} {A : Around} {E : Value → Shared → Prop} {s : Shared}
theorem get_alive {a : Addr} {Q : Option Obj → Shared → Prop} (h : Q (s.heap.get? a) s) : wpAny (model prog w) A (loadIfAlive a) Q E s := fun _ _ _ => h
/-- asked again, the pair of the turn before alive or not -/
theorem items_any {r d a : Addr} {fl : Bool} {i ep : Nat} {kvs : List (L × Value)} {k : L} {v y1 y2 : Value} {Q : Option Value → Shared → Prop} (hr : KdxIt s.heap r d i kvs.length ep y1 y2 a fl) (hd : s.heap.DictAt kd d kvs ep) (hx : kvs[i]? = some (k, v))
    (q : ∀ u h', kd.is k u = true → (∃ z1 z2 b gl, KdxIt h' r d (i + 1) kvs.length ep z1 z2 b gl) → h'.get? s.heap.objs.size = some { cls := .type "tuple", data := .seq #[u, v] } → h'.objs.size = s.heap.objs.size + 1 →
      (∀ b o, b ≠ r → s.heap.get? b = some o → h'.get? b = some o) → Q (some (.ref s.heap.objs.size)) { s with heap := h' }) :
    wpAny (model prog w) A (pyNext (.ref r)) Q E s := by
  obtain ⟨h0, gs, dn, tk, os⟩ := s
  obtain ⟨od, es, ho, hc, hdt, hk, hp, hn⟩ := id hd
  have ty : Shared.TypeIs ⟨h0, gs, dn, tk, os⟩ (.ref r) "dict_itemiterator" := ⟨_, hr, rfl⟩
  have own : Builtin.Dict_items.ownsTuple "dict_itemiterator" = true := by decide
  have sz : es.size = kvs.length := by rw [← hp.length, Array.length_toList]
  have lt : i < kvs.length := (List.getElem?_eq_some_iff.mp hx).1
  have lt' : i < es.size := by rw [sz]; exact lt
  obtain ⟨ek, ev⟩ := hp.get? (e := es[i]) (by simp [lt']) hx
  unfold pyNext
  refine wpAny_bind (wpAny_attempt (wpAny_callSpecial?_slot (name := Str.ofString "__next__") ty F.slot_dict_itemiterator_next (wpAny_call_entry F.slot_dict_itemiterator_next ty F.entry_dict_itemiterator_next ?body (F.args_dict_itemiterator_next_1 _))))
  case body =>
  refine wpAny_bind (wpAny_pure (wpAny_bind (wpAny_bind ?_)))
  (first | refine wpAny_bind (wpAny_typeNameOfWhole_itemiter ty (wpAny_pure ?_)) | refine wpAny_bind (wpAny_typeNameOf_itemiter ty (wpAny_pure ?_))); refine wpAny_bind (wpAny_fieldsOf hr rfl ?_)
  simp only [own, if_true]; show wpAny _ _ (if (Value.ref d == Value.none) = true then _ else _) _ _ _; rw [if_neg (show ¬ ((Value.ref d == Value.none) = true) from Bool.false_ne_true)]
  refine wpAny_bind (wpAny_pure (wpAny_bind (wpAny_dictEntries ho hdt ?_))); rw [if_neg (by rw [sz]; simp)]
  refine wpAny_bind (wpAny_pure (wpAny_bind (wpAny_dictEpoch ho hdt ?_))); rw [if_neg (by simp)]; refine wpAny_pure ?_
  simp only [show ¬ ((i : Int) < 0) from by omega, if_false, Int.toNat_natCast, Array.getElem?_eq_getElem lt']; refine wpAny_bind ?_
  (first | refine wpAny_bind (wpAny_typeNameOfWhole_itemiter ty (wpAny_pure ?_)) | refine wpAny_bind (wpAny_typeNameOf_itemiter ty (wpAny_pure ?_))); refine wpAny_bind (wpAny_isOneOf_itemiter ty ?_)
  show wpAny _ _ (setField (.ref r) 3 (rawInt ((i : Int) + 1)) >>= _) _ _ ⟨h0, gs, dn, tk, os⟩
  refine wpAny_bind (wpAny_setField_rec hr (by simp) fun h1 r1 b1 => ?_)
  replace b1 : Heap.SameBut r h0 h1 := b1
  replace r1 : KdxIt h1 r d (i + 1) kvs.length ep y1 y2 a fl := by
    have e : ((i + 1 : Nat) : Int) = (i : Int) + 1 := by omega
    unfold KdxIt
    rw [e]
    simpa [rawInt] using r1
  have ty1 : Shared.TypeIs ⟨h1, gs, dn, tk, os⟩ (.ref r) "dict_itemiterator" := ⟨_, r1, rfl⟩
  refine wpAny_bind (wpAny_holding (wpAny_bind (wpAny_isOneOf_itemiter ty1 (wpAny_bind (wpAny_isOneOf_itemiter ty1 ?_)))))
  show wpAny _ _ (Builtin.Dict_items.pairFromOwner (.ref r) 6 es[i].key es[i].val) _ _ ⟨h1, gs, dn, tk, os⟩
  unfold Builtin.Dict_items.pairFromOwner; refine wpAny_bind (wpAny_newTuple ?_)
  have r2 : KdxIt (h1.push { cls := .type "tuple", data := .seq #[es[i].key, es[i].val] }) r d (i + 1) kvs.length ep y1 y2 a fl := Heap.get?_push_of_some _ r1
  have z1 : h1.objs.size = h0.objs.size := b1.1
  have lr : r < h0.objs.size := Heap.lt_size hr
  have t2 : (h1.push { cls := .type "tuple", data := .seq #[es[i].key, es[i].val] }).get? h0.objs.size = some { cls := .type "tuple", data := .seq #[es[i].key, es[i].val] } := by rw [← z1]; exact Heap.get?_push_size _ rfl
  have z2 : (h1.push { cls := .type "tuple", data := .seq #[es[i].key, es[i].val] }).objs.size = h0.objs.size + 1 := by rw [Heap.size_push, z1]
  have k2 : ∀ b o, b ≠ r → h0.get? b = some o → (h1.push { cls := .type "tuple", data := .seq #[es[i].key, es[i].val] }).get? b = some o := fun b o hb e => Heap.get?_push_of_some _ (b1.extBut b o hb e)
  generalize h1.push { cls := .type "tuple", data := .seq #[es[i].key, es[i].val] } = h2 at r2 t2 z2 k2 ⊢
  rw [z1]
  have fin : ∀ (h3 : Heap) (y3 y4 : Value) (b : Addr) (gl : Bool), KdxIt h3 r d (i + 1) kvs.length ep y3 y4 b gl → Heap.SameBut r h2 h3 → Q (some (.ref h0.objs.size)) ⟨h3, gs, dn, tk, os⟩ := fun h3 y3 y4 b gl r3 b3 =>
    q es[i].key h3 ek ⟨y3, y4, b, gl, r3⟩ (by rw [← ev]; exact b3.extBut _ _ (Nat.ne_of_gt lr) t2) (by rw [b3.1, z2]) fun b o hb e => b3.extBut b o hb (k2 b o hb e)
  show wpAny _ _ (Builtin.Dict_items.ownedTupleIsFree (.ref r) >>= _) _ _ ⟨h2, gs, dn, tk, os⟩
  refine wpAny_bind ?_
  unfold Builtin.Dict_items.ownedTupleIsFree
  refine wpAny_bind (wpAny_field r2 rfl (x := rawInt a) rfl ?_)
  show wpAny _ _ (loadIfAlive ((a : Int).toNat) >>= _) _ _ _
  rw [Int.toNat_natCast]
  refine wpAny_bind (get_alive ?_)
  show wpAny _ _ (if (h2.get? a).isNone = true then _ else _) _ _ _
  cases e : h2.get? a with
  | some oa =>
    rw [if_neg (show ¬ ((some oa).isNone = true) from Bool.false_ne_true)]
    refine wpAny_bind (wpAny_field r2 rfl (x := .bool fl) rfl ?_)
    cases fl with
    | true =>
      rw [if_neg (show ¬ ((Value.bool true != .bool true) = true) from Bool.false_ne_true)]
      refine wpAny_pure (wpAny_pure (wpAny_pure ⟨_, rfl, wpAny_pure (fin h2 _ _ _ _ r2 (.refl _ _))⟩))
    | false =>
      rw [if_pos (show (Value.bool false != .bool true) = true from rfl)]
      refine wpAny_bind (wpAny_setField_rec r2 (by simp) fun h3 r3 b3 => ?_)
      have r3' : KdxIt h3 r d (i + 1) kvs.length ep y1 y2 a true := r3
      exact wpAny_pure (wpAny_pure (wpAny_pure ⟨_, rfl, wpAny_pure (fin h3 _ _ _ _ r3' b3)⟩))
  | none =>
    rw [if_pos (show ((none : Option Obj).isNone = true) from rfl)]
    refine wpAny_pure ?_
    show wpAny _ _ (if true = true then _ else _) _ _ _
    rw [if_pos rfl]
    show wpAny _ _ (field (.ref r) 6 >>= _) _ _ _
    refine wpAny_bind (wpAny_field r2 rfl (x := y1) rfl (wpAny_bind (wpAny_field r2 rfl (x := y2) rfl ?_)))
    refine wpAny_bind (wpAny_setField_rec r2 (by simp) fun h3 r3 b3 => wpAny_bind (wpAny_setField_rec r3 (by simp) fun h4 r4 b4 => wpAny_bind (wpAny_setField_rec r4 (by simp) fun h5 r5 b5 => wpAny_bind (wpAny_setField_rec r5 (by simp) fun h6 r6 b6 => ?_))))
    have r6' : KdxIt h6 r d (i + 1) kvs.length ep es[i].key es[i].val h0.objs.size false := r6
    have b26 : Heap.SameBut r h2 h6 := by
      have c3 : Heap.SameBut r h2 h3 := b3
      have c4 : Heap.SameBut r h3 h4 := b4
      have c5 : Heap.SameBut r h4 h5 := b5
      have c6 : Heap.SameBut r h5 h6 := b6
      exact ⟨by rw [c6.1, c5.1, c4.1, c3.1], fun b hb => by rw [c6.2 b hb, c5.2 b hb, c4.2 b hb, c3.2 b hb]⟩
    refine wpAny_bind (wpAny_letGo (wpAny_pure (wpAny_pure ⟨_, rfl, wpAny_pure (fin h6 _ _ _ _ r6' b26)⟩)))
end
/-! ### as a walk of the layer -/
/-- the iterator as it stands ahead of turn i -/
def ItAt (r d n ep : Nat) (i : Nat) (h : Heap) : Prop := (i = 0 ∧ ∃ y1 y2, IsItemIter h r d 0 n ep y1 y2) ∨ ∃ y1 y2 a fl, KdxIt h r d i n ep y1 y2 a fl
open L2 in
theorem turn_itemsN {P : Program} {w : World} {K : PySem.W.Frag} {d : Addr} {o : Obj} {es : Array DictEntry} {ep : Nat} {kvs : List (Key × V)} {y : Str} {p : Pos} (r : Addr) (hod : o.data = .dict es ep) :
    Turn P w K (.Name y p) (Iti d o kvs) [r] r (ItAt r d kvs.length ep) where
  mem := List.mem_singleton.mpr rfl
  obj := fun i h st b hb => by
    obtain rfl := List.mem_singleton.mp hb
    rcases st with ⟨_, y1, y2, e⟩ | ⟨y1, y2, a, fl, e⟩
    · exact ⟨_, e, fun v z => nomatch z⟩
    · exact ⟨_, e, fun v z => nomatch z⟩
  keep := fun i h h' st k => by
    rcases st with ⟨e0, y1, y2, e⟩ | ⟨y1, y2, a, fl, e⟩
    · exact .inl ⟨e0, y1, y2, k r (List.mem_singleton.mpr rfl) _ e⟩
    · exact .inr ⟨y1, y2, a, fl, k r (List.mem_singleton.mpr rfl) _ e⟩
  item := by
    intro X hP hw hK hc i pins s σ H E I hf st hg
    subst hP hw hK
    obtain ⟨hd, hi⟩ := hg
    obtain ⟨hs, hgd, hx, es', ep', vs, dat_, n_, kv, at_⟩ := I.frzK hd
    obtain ⟨rfl, rfl⟩ : es = es' ∧ ep = ep' := ⟨(dict_ep hod dat_).1.symm, (dict_ep hod dat_).2.symm⟩
    obtain ⟨⟨k, v⟩, hkv⟩ : ∃ q, kvs[i]? = some q := ⟨kvs[i], List.getElem?_eq_getElem hi⟩
    obtain ⟨u, hu, ru⟩ := kv_get kv hkv
    have len_ : kvs.length = vs.length := Paired.length kv
    have after : ∀ (key : Value) (h' : Heap), keyIs k key = true → (∃ z1 z2 b gl, KdxIt h' r d (i + 1) vs.length ep z1 z2 b gl) → h'.get? s.heap.objs.size = some { cls := .type "tuple", data := .seq #[key, u] } →
        (∀ b ob, b ≠ r → s.heap.get? b = some ob → h'.get? b = some ob) → r < s.heap.objs.size →
        ∃ uu, some (Value.ref s.heap.objs.size) = some uu ∧ wpAny (model X.prog X.w) X.A (letOwnedTupleGo (.Name y p) (.ref r) uu) (fun _ s2 => ∃ x H', Inv X pins σ H' s2 ∧ RelV x uu ∧ (Iti d o kvs).yld i H x H' ∧ ItAt r d kvs.length ep (i + 1) s2.heap ∧ ∀ b ∈ [r], H' b = none) E { s with heap := h' } := by
      intro key h' hkey st' hT hk lt
      have new : ObjOk X.prog X.w (upd H s.heap.objs.size (.tup [kV k, v])) h' s.heap.objs.size (.tup [kV k, v]) :=
        ⟨by show 2 ≤ sizeLine; decide, [key, u], .cons (relV_key hkey) (.cons ru .nil), ⟨_, hT, rfl, _, rfl⟩⟩
      have I1 : Inv X pins σ (upd H s.heap.objs.size (.tup [kV k, v])) { s with heap := h' } :=
        I.turnedNew (t' := s.toks) (ch := [r]) (fun b ob hb e => hk b ob (fun z => hb (List.mem_singleton.mpr z)) e) hf (Nat.le_refl _) new
      refine ⟨_, rfl, wpAny_pure ⟨.ref s.heap.objs.size, _, I1, rfl, ⟨_, k, v, hkv, rfl, I.hok.fresh (Nat.le_refl _), rfl⟩, .inr ?_, fun b hb => ?_⟩⟩
      · rw [len_]
        exact st'
      · obtain rfl := List.mem_singleton.mp hb
        rw [upd_ne (Nat.ne_of_lt lt)]
        exact (hf b hb).1
    rcases st with ⟨rfl, y1, y2, he⟩ | ⟨y1, y2, a, fl, he⟩
    · rw [len_] at he
      exact wpAny_pyNext_items_item he at_ hu fun key h' hkey ho hT hz hk => after key h' hkey ⟨_, _, _, _, ho⟩ hT hk (Heap.lt_size he)
    · rw [len_] at he
      exact items_any he at_ hu fun key h' hkey st' hT hz hk => after key h' hkey st' hT hk (Heap.lt_size he)
  done := by
    intro X hP hw hK hc i pins s σ H E I hf st hg
    subst hP hw hK
    obtain ⟨hd, hi⟩ := hg
    obtain ⟨f0, f1, f2, f3, f4, f5⟩ := hf r (List.mem_singleton.mpr rfl)
    obtain ⟨hs, hgd, hx, es', ep', vs, dat_, n_, kv, at_⟩ := I.frzK hd
    obtain ⟨rfl, rfl⟩ : es = es' ∧ ep = ep' := ⟨(dict_ep hod dat_).1.symm, (dict_ep hod dat_).2.symm⟩
    have len_ : kvs.length = vs.length := Paired.length kv
    have none_ : vs[i]? = none := List.getElem?_eq_none (by omega)
    rcases st with ⟨rfl, y1, y2, he⟩ | ⟨y1, y2, a, fl, he⟩
    · rw [len_] at he
      exact wpAny_pyNext_items_end (I.ok.hd hc) he at_ none_ fun h' eb => ⟨rfl, I.turned (t' := s.toks) (fun b ob hb e => eb b ob hb e) f0 f1 f3 f4 f5⟩
    · rw [len_] at he
      exact kdx_end_out (I.ok.hd hc) he at_ none_ fun h' eb => ⟨rfl, I.turned (t' := s.toks) (fun b ob hb e => eb b ob hb e) f0 f1 f3 f4 f5⟩
  self := fun A i s Q E st h => by
    rcases st with ⟨_, y1, y2, e⟩ | ⟨y1, y2, a, fl, e⟩
    · exact PySem.W.kcp_self e h
    · have ty : s.TypeIs (.ref r) "dict_itemiterator" := ⟨_, e, rfl⟩
      exact wpAny_pyIter_slot ty F.slot_dict_itemiterator_iter (wpAny_call_entry F.slot_dict_itemiterator_iter ty kcp_entry (show wpAny _ _ (ret (.ref r)) _ _ s from wpAny_pure ⟨_, rfl, "dict_itemiterator", _, ty, F.slot_dict_itemiterator_next.lookup, h⟩) (F.args_dict_itemiterator_iter_1 _))
open L2 in
/-- for x in d.items(), x one name -/
theorem pi_itemsN {X : L2.Cx} {e : Expr} {td : L2.TE} {apos cpos p : Pos} {y : Str} (he : L2.PE X e td) (hb : attributeBase e "items" X.env (eval e X.env) = eval e X.env := by rfl) (len_ine : (apos.endLine == cpos.line) = true := by rfl) :
    L2.PI X (.Name y p) (.Call (.Attribute e "items" apos) [] [] cpos) (L2.iItems td) := by
  constructor
  intro pins s σ H R I h
  refine wpAny_Call_method (T := "dict") (id := "dict.items") hb rfl len_ine F.plainAttrs_dict F.slot_dict_items F.type_dict_items (thn (he.run pins s σ H _ I h) fun u s1 ⟨x, H1, I1, rx, d, o, kvs, ex, hd, q⟩ => ?_)
  subst ex
  obtain rfl : u = Value.ref d := rx
  obtain ⟨hs, hgd, hx, es, ep, vs, dat_, n_, kv, at_⟩ := I1.frzK hd
  have len_ : kvs.length = vs.length := Paired.length kv
  refine ⟨at_.dictOf.typeIs, at_.dictOf.mapOf.noDict, ?_⟩
  have I2 : L2.Inv X pins σ H1 { s1 with heap := s1.heap.push { cls := .type "dict_items", data := .fields #[.ref d] } } := I1.kept (t' := s1.toks) fun b ob z => Heap.get?_push_of_some _ z
  have then_ : wpAny (model X.prog X.w) X.A (pyIter (.ref s1.heap.objs.size)) (L2.PIE X pins σ (.Name y p) R) X.xe { s1 with heap := s1.heap.push { cls := .type "dict_items", data := .fields #[.ref d] } } := by
    refine wpAny_pyIter_items (d := d) (knd := L2.mixKind X.prog X.w) ⟨_, Heap.get?_push_size _ rfl, rfl, rfl⟩ (at_.push _) (L2.pi_one (tk := s1.toks) I2 _ (turn_itemsN _ dat_) (.inl ⟨rfl, .none, .none, ?_⟩) q)
    rw [len_]
    exact Heap.get?_push_size _ rfl
  show wpAny _ _ (callWith cpos (.builtin "dict.items") [.ref d] [] []) _ X.xe s1
  exact method_meetsIn F.slot_dict_items F.entry_dict_items rfl (PySem.evalArgs_none ⟨rfl, at_.dictOf.typeIs, F.args_dict_items_1 _, _, meets_dict_items (L2.mixKind X.prog X.w) d hs, ⟨vs, at_.dictOf⟩, then_⟩)
end Own

set_option Elab.async false
set_option maxRecDepth 100000
set_option maxHeartbeats 4000000
namespace K22
open PySem PySem.Spec PyProof.Rows L2 Own
def top (i : Nat) : Stmt := PySem.Challenge.pw_ownwake_k22_scans_of_a_still_table.main.body.getD i (.Pass ⟨0, 0, 0, 0⟩)
-- steps
local macro_rules | `(tactic| walk_at "lk") => `(tactic| first
  | assumption | exact upd_same
  | ((with_reducible refine' lk_new ?e (by assumption)); (case e => walk_at "lk"))
  | ((with_reducible refine' lk_ext (by assumption) ?e); (case e => walk_at "lk"))
  | ((with_reducible refine' lk_same (by assumption) ?e); (case e => walk_at "lk")))
local macro_rules | `(tactic| walk_at "sq") => `(tactic| first | assumption | exact SqL.of (by walk_at "lk") | exact SqT.of (by walk_at "lk"))
local macro_rules | `(tactic| walk_at "r1") => `(tactic| first
  | with_reducible refine k_seq ?_ | with_reducible refine k_asg ?_ | with_reducible refine k_ret ?_ | with_reducible refine k_drop ?_ | with_reducible refine k_next ?_ | with_reducible refine k_ifS ?_
  | ((with_reducible refine' k_var ?e ?_); (case e => exact rfl)) | with_reducible refine k_c ?_ | with_reducible refine k_op ?_ | with_reducible refine k_un ?_ | with_reducible refine k_test ?_ | with_reducible refine k_B ?_
  | with_reducible refine k_and ?_ | with_reducible refine k_or ?_ | with_reducible refine k_not ?_ | with_reducible refine k_andV ?_ | with_reducible refine k_orV ?_ | with_reducible refine k_notV ?_ | with_reducible refine k_if ?_
  | with_reducible refine k_nil ?_ | with_reducible refine k_cons ?_ | with_reducible refine k_tup ?_ | with_reducible refine k_lst ?_ | with_reducible refine k_call ?_ | with_reducible refine k_cb ?_ | with_reducible refine k_ck ?_
  | with_reducible refine k_par ?_ | with_reducible refine k_par1 ?_ | with_reducible refine k_tr ?_ | with_reducible refine k_rI0 ?_ | with_reducible refine k_rU ?_
  | with_reducible refine k_gN ?_ | with_reducible refine k_gS ?_ | with_reducible refine k_gNil ?_ | with_reducible refine k_gCons ?_ | with_reducible refine k_bm0 ?_ | with_reducible refine k_bm ?_
  | with_reducible refine k_for ?_ | with_reducible refine k_iL ?_ | with_reducible refine k_iT ?_ | with_reducible refine k_iR1 ?_ | ((with_reducible refine k_iR1i ?e ?_); (case e => first | decide | exact ⟨by omega, by omega⟩))
  | with_reducible refine k_max ?_ | with_reducible refine k_isB ?_ | with_reducible refine k_sl ?_ | with_reducible refine k_noP ?_ | with_reducible refine k_part ?_ | with_reducible refine k_partI ?_ | with_reducible refine k_revL ?_
  | ((with_reducible refine' k_ixqT ?e ?f ?_); (case e => walk_at "sq"); (case f => first | exact rfl | exact atI_head))
  | ((with_reducible refine' k_ixqL ?e ?f ?_); (case e => walk_at "sq"); (case f => first | exact rfl | exact atI_head))
  | ((with_reducible refine' k_lenL ?e ?_); (case e => walk_at "sq"))
  | ((with_reducible refine' k_lenT ?e ?_); (case e => walk_at "sq"))
  | ((with_reducible refine' k_ixL ?e ?f ?_); (case e => walk_at "sq"); (case f => first | exact rfl | exact atI_head))
  | ((with_reducible refine' k_ixT ?e ?f ?_); (case e => walk_at "sq"); (case f => first | exact rfl | exact atI_head))
  | ((with_reducible refine k_eq ?e ?_); (case e => exact rfl)) | ((with_reducible refine k_ne ?e ?_); (case e => exact rfl))
  | ((with_reducible refine k_rI ?e ?_); (case e => first | assumption | omega | decide | exact ⟨by omega, by omega⟩ | exact .inl ⟨by omega, by omega⟩ | exact .inr ⟨by omega, by omega⟩)))
local macro_rules | `(tactic| walk_at "rd") => `(tactic| repeat walk_at "r1")
-- steps end
abbrev s_deck : Stmt := top 10
theorem sc_deck : FnScope ["_law_script", "_law_cell", "_law_cells", "_law_mixed"] ["_law_script"] (defScope s_deck) :=
  ⟨rfl, rfl, rfl, by decide +kernel, rfl, by decide +kernel, by decide +kernel⟩
abbrev s_draw : Stmt := top 11
theorem sc_draw : FnScope ["_law_deck_here", "_law_many", "_law_cell", "_law_mixed"] ["_law_deck_here", "_law_many"] (defScope s_draw) :=
  ⟨rfl, rfl, rfl, by decide +kernel, rfl, by decide +kernel, by decide +kernel⟩
abbrev s_pick : Stmt := top 12
theorem sc_pick : FnScope ["_law_deck_here", "_law_some"] ["_law_deck_here", "_law_some"] (defScope s_pick) :=
  ⟨rfl, rfl, rfl, by decide +kernel, rfl, by decide +kernel, by decide +kernel⟩
/-! ### the deck: the cells' list, a number, how often it was drawn -/
def Dk (d c : Addr) (a : Addr) : Prop := a = d ∨ a = c
def Deck (d c : Addr) (b : Int) (H : Hp) : Prop := ∃ (xs : List Int) (m n : Int), d ≠ c ∧ H d = some (.lst [.ref c, .int m, .int n]) ∧ H c = some (.lst (xs.map V.int)) ∧
  0 ≤ m ∧ m < 4294967296 ∧ 0 ≤ n ∧ n ≤ b ∧ xs.length ≤ 63
theorem Deck.mono {d c : Addr} {b b' : Int} {H : Hp} (D : Deck d c b H) (h : b ≤ b') : Deck d c b' H := by
  obtain ⟨xs, m, n, ne, h1, h2, m0, m1, n0, n1, l⟩ := D
  exact ⟨xs, m, n, ne, h1, h2, m0, m1, n0, Int.le_trans n1 h, l⟩
theorem Deck.same {d c : Addr} {b : Int} {H H' : Hp} (D : Deck d c b H) (s : Same H H') : Deck d c b H' := by
  obtain ⟨xs, m, n, ne, h1, h2, r⟩ := D
  exact ⟨xs, m, n, ne, s _ _ h1, s _ _ h2, r⟩
theorem Deck.new {d c : Addr} {b : Int} {H : Hp} (D : Deck d c b H) {p : Addr} {o : HO} (n : H p = none) : Deck d c b (upd H p o) := D.same (Same.upd n)
/-- what is new is not of the deck -/
theorem Deck.off {d c : Addr} {b : Int} {H : Hp} (D : Deck d c b H) {p : Addr} (n : H p = none) : ¬ Dk d c p := by
  obtain ⟨xs, m, k, _, h1, h2, _⟩ := D
  rintro (rfl | rfl)
  · rw [h1] at n; cases n
  · rw [h2] at n; cases n
theorem Deck.tup {d c : Addr} {b : Int} {H : Hp} (D : Deck d c b H) {p : Addr} {xs : List V} (n : H p = some (.tup xs)) : ¬ Dk d c p := by
  obtain ⟨xs, m, k, _, h1, h2, _⟩ := D
  rintro (rfl | rfl)
  · rw [h1] at n; cases n
  · rw [h2] at n; cases n

theorem dp_ints {K : PySem.W.Frag} {H : Hp} : ∀ xs : List Int, DpAll K H (xs.map V.int) (xs.map PyData.int)
  | [] => .nil
  | x :: xs => .cons (.int x) (dp_ints xs)
theorem lay_ints : ∀ xs : List Int, SeqAt.shaped (.list (xs.map PyData.int)) = true := by
  intro xs
  have h1 : ∀ ys : List Int, PyData.canLayAll0 (ys.map PyData.int) = true := by
    intro ys
    induction ys with
    | nil => rfl
    | cons y ys ih => simpa [PyData.canLayAll0, PyData.canLay0] using ih
  have h2 : ∀ ys : List Int, PyData.depthAll (ys.map PyData.int) = 0 := by
    intro ys
    induction ys with
    | nil => rfl
    | cons y ys ih => simp [PyData.depthAll, PyData.depth, ih]
  unfold SeqAt.shaped
  simp [PyData.canLay0, PyData.depth, h1, h2]
theorem ne_nil (x : PyData) (xs : List PyData) : PyData.eqv (.list (x :: xs)) (.list []) = false := by
  simp [PyData.eqv, PyData.eqvAll]
theorem eq_nil : PyData.eqv (.list []) (.list []) = true := by simp [PyData.eqv, PyData.eqvAll]

section
variable {P : Program} {w : World} {K : PySem.W.Frag} {mg : Str → Option Value} {g0 : Heap}

def spDraw : Sp := fun vs H Q _ => ∃ (d c : Addr) (b many : Int), vs = [.ref d, .int many] ∧ Deck d c b H ∧ b ≤ 1000000000 ∧ 0 < many ∧ many ≤ 1000000000000 ∧
  ∀ (r : Int) (H' : Hp), 0 ≤ r → r < many → Deck d c (b + 1) H' → Ext (Dk d c) H H' → Q (.int r) H'
theorem ok_draw {f : Addr} {fd : FuncData} (F : Fun K "_law_draw" "_law_draw" s_draw f fd) : GOk P w K mg g0 CX0 1 f fd ["_law_deck_here", "_law_many"] spDraw := by
  refine okG F sc_draw (fun vs H Q E h => ?_) (fun cdv A up s H vs Q E qt hr h => ?_)
  · obtain ⟨d, c, b, many, rfl, _⟩ := h
    rfl
  · obtain ⟨d, c, b, many, rfl, D, hb, h0, h1, k⟩ := h
    refine ⟨_, pss_cons (ps_asg (pe_op op_add (pe_ix ix_list (pv 0) pe_int (fun _ _ => rfl)) pe_int) (pg_sub (pv 0) pe_int set_list))
      (pss_cons (ps_set (i := 2) sc_draw.nd rfl (.inl rfl) (pe_ix ix_list (pv 0) pe_int (fun _ _ => rfl)))
      (Evl.pss_cut (ps_if (pt_cmpR (op_neD hr.units) (pe_ix ix_list (pv 0) pe_int (fun _ _ => rfl)) (pe_lst pa_nil) (nomark _))
        (pss_cons (ps_set (i := 2) sc_draw.nd rfl (.inl rfl) (pe_bm0 PySem.F.plainAttrs_list PySem.F.slot_list_pop PySem.F.type_list_pop mt_pop (pe_ix ix_list (pv 0) pe_int (fun _ _ => rfl))))
          (pss_cons (ps_if (pt_cmpR op_ge (pv 2) (pe_op op_pow pe_int pe_int) (nomark _))
            (pss_cons (ps_expr (pe_bm PySem.F.plainAttrs_list PySem.F.slot_list_append PySem.F.type_list_append mt_append (pe_ix ix_list (pv 0) pe_int (fun _ _ => rfl)) (pa_cons (pe_op op_fdivW (pv 2) (pv 1)) pa_nil)))
              (pss_one (ps_ret (pe_op op_mod (pv 2) (pv 1))))) pss_nil)
          (pss_one (ps_set (i := 2) sc_draw.nd rfl (.inl rfl) (pe_op op_add (pv 2) (pe_ix ix_list (pv 0) pe_int (fun _ _ => rfl))))))) pss_nil)
      (pss_cons (ps_set (i := 3) sc_draw.nd rfl (.inl rfl) (pe_op op_mod (pe_op op_mul (pe_op op_add (pe_op op_add (pe_op op_mod (pv 2) pe_int) (pe_op op_mul (pe_op op_mul pe_int (pe_ix ix_list (pv 0) pe_int (fun _ _ => rfl))) (pe_ix ix_list (pv 0) pe_int (fun _ _ => rfl)))) pe_int) pe_int) pe_int))
      (pss_cons (ps_set (i := 3) sc_draw.nd rfl (.inl rfl) (pe_op op_mod (pe_op op_add (pe_op op_add (pe_op op_mul (pv 3) (pv 3)) (pe_op op_mul pe_int (pe_ix ix_list (pv 0) pe_int (fun _ _ => rfl)))) pe_int) pe_int))
      (pss_one (ps_ret (pe_op op_mod (pe_op op_fdiv (pe_op op_mod (pe_op op_mul (pv 3) pe_int) pe_int) pe_int) (pv 1)))))))), ?_⟩
    obtain ⟨xs, m, n, ne, hd, hc, m0, m1, n0, n1, hl⟩ := D
    walk_at "rd"
    refine' k_setL hd rfl ?_
    rw [show [V.ref c, V.int m, V.int n].set (Int.toNat 2) (V.int (n + 1)) = [V.ref c, V.int m, V.int (n + 1)] from rfl]
    have x1 : Ext (Dk d c) H (upd H d (.lst [V.ref c, V.int m, V.int (n + 1)])) := Ext.upd hd (.inl rfl) (fun _ z => by cases z)
    have hd1 : upd H d (.lst [V.ref c, V.int m, V.int (n + 1)]) d = some (.lst [V.ref c, V.int m, V.int (n + 1)]) := upd_same
    have hc1 : upd H d (.lst [V.ref c, V.int m, V.int (n + 1)]) c = some (.lst (xs.map V.int)) := (upd_ne ne.symm).trans hc
    generalize upd H d (.lst [V.ref c, V.int m, V.int (n + 1)]) = H1 at x1 hd1 hc1 ⊢
    walk_at "rd"
    let Mid : L2.St → Hp → Prop := fun σ' H' => ∃ (cell : Int) (ys : List Int), σ' = [some (.ref d), some (.int many), some (.int cell), none] ∧ Ext (Dk d c) H H' ∧
      H' d = some (.lst [V.ref c, V.int m, V.int (n + 1)]) ∧ H' c = some (.lst (ys.map V.int)) ∧ ys.length ≤ 63
    refine ⟨Mid, ?_, ?_⟩
    · walk_at "rd"
      refine ⟨k_sz rfl, fun p hp => ?_⟩
      have x2 : Ext (Dk d c) H (upd H1 p (.lst [])) := x1.trans (ext_new hp)
      have hd2 := lk_new (o := .lst []) hd1 hp
      have hc2 := lk_new (o := .lst []) hc1 hp
      have hp2 : upd H1 p (.lst []) p = some (.lst []) := upd_same
      generalize upd H1 p (.lst []) = H2 at x2 hd2 hc2 hp2 ⊢
      refine ⟨.list (xs.map .int), .list [], .lst (SqL.of hc2) (dp_ints xs), .lst (SqL.of hp2) .nil, lay_ints xs, lay_ints [], ?_⟩
      rcases List.eq_nil_or_concat xs with rfl | ⟨zs, z, rfl⟩
      · refine ⟨_, rfl, ?_⟩
        rw [show PyData.eqv (.list (List.map PyData.int [])) (.list []) = true from eq_nil]
        refine iteF ?_
        exact ⟨m, [], rfl, x2, hd2, hc2, Nat.zero_le _⟩
      · have hz : (zs.concat z).map V.int = zs.map V.int ++ [V.int z] := by simp
        have hz2 : zs.length ≤ 62 := by simp at hl; omega
        refine ⟨_, rfl, ?_⟩
        rw [show PyData.eqv (.list (List.map PyData.int (zs.concat z))) (.list []) = false by
          cases zs <;> simp [PyData.eqv, PyData.eqvAll]]
        refine iteT ?_
        walk_at "rd"
        refine ⟨k_tyL hc2, ?_⟩
        rw [hz] at hc2
        refine k_pop (v := .int z) hc2 (by simp) ?_
        rw [List.dropLast_concat]
        have x3 : Ext (Dk d c) H (upd H2 c (.lst (zs.map V.int))) := x2.trans (Ext.upd hc2 (.inr rfl) (fun _ z => by cases z))
        have hd3 : upd H2 c (.lst (zs.map V.int)) d = some (.lst [V.ref c, V.int m, V.int (n + 1)]) := (upd_ne ne).trans hd2
        have hc3 : upd H2 c (.lst (zs.map V.int)) c = some (.lst (zs.map V.int)) := upd_same
        generalize upd H2 c (.lst (zs.map V.int)) = H3 at x3 hd3 hc3 ⊢
        walk_at "rd"
        refine k_ite (fun _ => ?_) (fun _ => ?_)
        · walk_at "rd"
          refine ⟨k_tyL hc3, ?_⟩
          walk_at "rd"
          refine k_rI (wide_div (b := 40) h0 (by omega) (by decide) (by decide)) ?_
          walk_at "rd"
          refine k_app hc3 (by simp; exact Nat.lt_of_le_of_lt hz2 (by decide)) ?_
          walk_at "rd"
          refine k _ _ (Int.emod_nonneg _ (by omega)) (Int.emod_lt_of_pos _ h0) ⟨zs ++ [z / many], m, n + 1, ne, (upd_ne ne).trans hd3, ?_, m0, m1, by omega, by omega, by simp; omega⟩ ?_
          · rw [upd_same]
            simp
          · exact x3.trans (Ext.upd hc3 (.inr rfl) (fun _ z => by cases z))
        · walk_at "rd"
          exact ⟨z + m, zs, rfl, x3, hd3, hc3, by omega⟩
    · rintro σ' H' ⟨cell, ys, rfl, x2, hd2, hc2, hy⟩
      walk_at "rd"
      exact k _ _ (Int.emod_nonneg _ (by omega)) (Int.emod_lt_of_pos _ h0) ⟨ys, m, n + 1, ne, hd2, hc2, m0, m1, by omega, by omega, hy⟩ x2

theorem atI_in {xs : List V} {r : Int} (h0 : 0 ≤ r) (h1 : r < (xs.length : Int)) : ∃ x, x ∈ xs ∧ atI xs r = some x := by
  have h2 : r.toNat < xs.length := by omega
  refine ⟨xs[r.toNat], List.getElem_mem h2, ?_⟩
  have e : ((r.toNat : Nat) : Int) = r := by omega
  have q : atI xs ((r.toNat : Nat) : Int) = some xs[r.toNat] := atI_nat (List.getElem?_eq_getElem h2)
  rw [e] at q
  exact q
def spPick : Sp := fun vs H Q _ => ∃ (d c l : Addr) (b : Int) (xs : List V), vs = [.ref d, .ref l] ∧ Deck d c b H ∧ b ≤ 1000000000 ∧ ¬ Dk d c l ∧ H l = some (.lst xs) ∧ 0 < xs.length ∧ xs.length ≤ 1000 ∧
  ∀ (x : V) (H' : Hp), x ∈ xs → Deck d c (b + 1) H' → Ext (Dk d c) H H' → Q x H'
theorem ok_pick {f : Addr} {fd : FuncData} (F : Fun K "_law_pick" "_law_pick" s_pick f fd) (z_len : mg "len" = none)
    (C_draw : Cal P w K mg g0 "_law_draw" 1 ["_law_deck_here", "_law_many"] spDraw) : GOk P w K mg g0 CX0 2 f fd ["_law_deck_here", "_law_some"] spPick := by
  have nd := sc_pick.nd
  refine okG F sc_pick (fun vs H Q E h => ?_) (fun cdv A up s H vs Q E qt hr h => ?_)
  · obtain ⟨d, c, l, b, xs, rfl, _⟩ := h
    rfl
  · obtain ⟨d, c, l, b, xs, rfl, D, hb, ml, hl, l0, l1, k⟩ := h
    refine ⟨_, (pss_one (ps_ret (pe_ix ix_seq (pv 1) (pe_c C_draw qt (hr.mono (by decide)) (pa_cons (pv 0) (pa_cons (pe_callB c_len (by rfl) z_len (by decide +kernel) (pa_cons (pv 1) pa_nil)) pa_nil))) (fun _ _ => rfl)))), ?_⟩
    walk_at "rd"
    refine ⟨d, c, b, _, rfl, D, hb, by omega, by omega, fun r H' r0 r1 D' x' => ?_⟩
    obtain ⟨x, hx, he⟩ := atI_in r0 r1
    refine k_ixqL (SqL.of (x'.2 _ _ ml hl)) he ?_
    exact k x H' hx D' x'
theorem cut_ints (ns : List Int) (lo hi : Option Int) : ∃ ms : List Int, cutV (ns.map V.int) lo hi = ms.map V.int ∧ ms.length ≤ ns.length := by
  refine ⟨(ns.drop (HT.sIx ns.length 0 lo)).take (HT.sIx ns.length ns.length hi - HT.sIx ns.length 0 lo), ?_, ?_⟩
  · unfold cutV
    rw [List.length_map, List.map_take, List.map_drop]
  · rw [List.length_take, List.length_drop]
    omega
def spDeck (K : PySem.W.Frag) : Sp := fun vs H Q _ => ∃ (a : Addr) (ns : List Int), vs = [.ref a] ∧ SqL K H a (ns.map V.int) ∧ ns.length ≤ 63 ∧
  ∀ (d c : Addr) (H' : Hp), H d = none → H c = none → Deck d c 0 H' → Same H H' → Q (.ref d) H'
theorem same_free {H H' : Hp} (s : Same H H') {p : Addr} (h : H' p = none) : H p = none := L2.Same.free s h
theorem ok_deck {f : Addr} {fd : FuncData} (F : Fun K "_law_deck" "_law_deck" s_deck f fd) (z_list : mg "list" = none) : GOk P w K mg g0 CX0 1 f fd ["_law_script"] (spDeck K) := by
  have nd := sc_deck.nd
  refine okG F sc_deck (fun vs H Q E h => ?_) (fun cdv A up s H vs Q E qt hr h => ?_)
  · obtain ⟨a, ns, rfl, _⟩ := h
    rfl
  · obtain ⟨a, ns, rfl, hS, hl, k⟩ := h
    refine ⟨_, (pss_cons (ps_par (i := 2) (j := 3) (by rfl) nd rfl rfl (by decide) rfl rfl (pa_cons (pe_callTy c_list (by rfl) z_list (by decide +kernel) (pa_cons (pe_slice sl_list (pv 0) po_none (po_some pe_int)) pa_nil)) (pa_cons pe_int pa_nil)) (by rfl))
        (pss_cons (ps_for PassesOwn.never rfl (pi_list (pv 2)) (pg_name (i := 1) nd rfl (Or.inl rfl)) (pss_one (ps_set (i := 3) nd rfl (Or.inl rfl) (pe_op op_mod (pe_op op_add (pe_op op_add (pe_op op_mul (pv 3) pe_int) (pe_op op_mod (pv 1) pe_int)) pe_int) pe_int))))
        (pss_one (ps_ret (pe_lst (pa_cons (pe_revL (pv 2)) (pa_cons (pv 3) (pa_cons pe_int pa_nil)))))))), ?_⟩
    walk_at "rd"
    refine k_slL hS (fun p hp => ?_)
    obtain ⟨ms, em, lm⟩ := cut_ints ns none (some 63)
    rw [em]
    have s1 : Same H (upd H p (.lst (ms.map V.int))) := Same.upd hp
    have hp1 : upd H p (.lst (ms.map V.int)) p = some (.lst (ms.map V.int)) := upd_same
    generalize upd H p (.lst (ms.map V.int)) = H1 at s1 hp1 ⊢
    walk_at "rd"
    refine k_listL (SqL.of hp1) (fun q hq => ?_)
    have s2 : Same H (upd H1 q (.lst (ms.map V.int))) := s1.trans (Same.upd hq)
    have hq2 : upd H1 q (.lst (ms.map V.int)) q = some (.lst (ms.map V.int)) := upd_same
    generalize upd H1 q (.lst (ms.map V.int)) = H2 at s2 hq2 ⊢
    walk_at "rd"
    let Pv : Nat → L2.St → Hp → Prop := fun i σ H' => ∃ (m : Int) (v : Option V), σ = [some (.ref a), v, some (.ref q), some (.int m)] ∧ H2 = H' ∧ 0 ≤ m ∧ m < 4294967296
    refine ⟨q, rfl, ⟨_, SqL.of hq2⟩, for_list (xs := ms.map V.int) Pv ⟨_, _, rfl, rfl, by decide, by decide⟩ (fun i σ H' _ h => ?_) (fun i x σ H' hx h => ?_) (fun σ H' h => ?_)⟩
    · obtain ⟨m, v, rfl, rfl, _⟩ := h
      exact SqL.of hq2
    · obtain ⟨m, v, rfl, rfl, m0, m1⟩ := h
      rw [List.getElem?_map] at hx
      obtain ⟨z, hz, rfl⟩ := Option.map_eq_some_iff.mp hx
      walk_at "rd"
      exact ⟨_, _, rfl, rfl, by omega, by omega⟩
    · obtain ⟨m, v, rfl, rfl, m0, m1⟩ := h
      walk_at "rd"
      refine ⟨q, _, rfl, SqL.of hq2, fun c hc => ?_⟩
      have s3 : Same H (upd H2 c (.lst (ms.map V.int).reverse)) := s2.trans (Same.upd hc)
      have hc3 : upd H2 c (.lst (ms.map V.int).reverse) c = some (.lst (ms.map V.int).reverse) := upd_same
      generalize upd H2 c (.lst (ms.map V.int).reverse) = H3 at s3 hc3 ⊢
      walk_at "rd"
      refine ⟨k_sz rfl, fun d hd => ?_⟩
      refine k d c _ (same_free s3 hd) (same_free s2 hc) ⟨ms.reverse, m, 0, (ne_of_none hc3 hd).symm, upd_same, ?_, m0, m1, Int.le_refl _, Int.le_refl _, ?_⟩ (s3.trans (Same.upd hd))
      · rw [upd_ne (ne_of_none hc3 hd), hc3, List.map_reverse]
      · rw [List.length_reverse]
        omega
end
abbrev s_place_of : Stmt := top 6
theorem sc_place_of : FnScope ["path", "row"] ["path", "row"] (defScope s_place_of) :=
  ⟨rfl, rfl, rfl, by decide +kernel, rfl, by decide +kernel, by decide +kernel⟩
abbrev s_comes_first : Stmt := top 7
theorem sc_comes_first : FnScope ["path", "place", "other"] ["path", "place", "other"] (defScope s_comes_first) :=
  ⟨rfl, rfl, rfl, by decide +kernel, rfl, by decide +kernel, by decide +kernel⟩
abbrev s__is_within : Stmt := top 8
theorem sc__is_within : FnScope ["path", "row", "least", "most", "value"] ["path", "row", "least", "most"] (defScope s__is_within) :=
  ⟨rfl, rfl, rfl, by decide +kernel, rfl, by decide +kernel, by decide +kernel⟩
abbrev s_LiveTable___init__ : Stmt := inClass (top 5) 0
theorem sc_LiveTable___init__ : FnScope ["self", "rows", "following", "number", "values"] ["self", "rows", "following"] (defScope s_LiveTable___init__) :=
  ⟨rfl, rfl, rfl, by decide +kernel, rfl, by decide +kernel, by decide +kernel⟩
abbrev s_LiveTable_rows : Stmt := inClass (top 5) 1
theorem sc_LiveTable_rows : FnScope ["self", "number"] ["self"] (defScope s_LiveTable_rows) :=
  ⟨rfl, rfl, rfl, by decide +kernel, rfl, by decide +kernel, by decide +kernel⟩
abbrev s_LiveTable_next_row : Stmt := inClass (top 5) 7
theorem sc_LiveTable_next_row : FnScope ["self", "path", "place", "least", "most", "places", "behind", "number", "row", "found"] ["self", "path", "place", "least", "most"] (defScope s_LiveTable_next_row) :=
  ⟨rfl, rfl, rfl, by decide +kernel, rfl, by decide +kernel, by decide +kernel⟩
abbrev s_LiveTable_scan : Stmt := inClass (top 5) 8
abbrev s_LiveTable___len__ : Stmt := inClass (top 5) 10
theorem sc_LiveTable___len__ : FnScope ["self"] ["self"] (defScope s_LiveTable___len__) :=
  ⟨rfl, rfl, rfl, by decide +kernel, rfl, by decide +kernel, by decide +kernel⟩
abbrev s_rows : Stmt := top 13
theorem sc_rows : FnScope ["_law_deck_here", "_law_many", "_law_most_rows", "_law_k", "_law_found", "_law_number", "_law_values", "_law_j"] ["_law_deck_here", "_law_many", "_law_most_rows"] (defScope s_rows) :=
  ⟨rfl, rfl, rfl, by decide +kernel, rfl, by decide +kernel, by decide +kernel⟩
abbrev s_road : Stmt := top 14
theorem sc_road : FnScope ["_law_deck_here", "_law_many", "_law_at"] ["_law_deck_here", "_law_many"] (defScope s_road) :=
  ⟨rfl, rfl, rfl, by decide +kernel, rfl, by decide +kernel, by decide +kernel⟩
abbrev s_spot : Stmt := top 15
theorem sc_spot : FnScope ["_law_road_here", "_law_row"] ["_law_road_here", "_law_row"] (defScope s_spot) :=
  ⟨rfl, rfl, rfl, by decide +kernel, rfl, by decide +kernel, by decide +kernel⟩
abbrev s_beyond : Stmt := top 16
theorem sc_beyond : FnScope ["_law_road_here", "_law_last", "_law_spot_here"] ["_law_road_here", "_law_last", "_law_spot_here"] (defScope s_beyond) :=
  ⟨rfl, rfl, rfl, by decide +kernel, rfl, by decide +kernel, by decide +kernel⟩
abbrev s_ordered : Stmt := top 17
theorem sc_ordered : FnScope ["_law_road_here", "_law_rows_here", "_law_spots_here", "_law_found", "_law_row", "_law_spot_here"] ["_law_road_here", "_law_rows_here"] (defScope s_ordered) :=
  ⟨rfl, rfl, rfl, by decide +kernel, rfl, by decide +kernel, by decide +kernel⟩
abbrev s_first : Stmt := top 18
theorem sc_first : FnScope ["_law_table", "_law_road_here", "_law_many", "_law_found", "_law_row"] ["_law_table", "_law_road_here", "_law_many"] (defScope s_first) :=
  ⟨rfl, rfl, rfl, by decide +kernel, rfl, by decide +kernel, by decide +kernel⟩
abbrev s_twice : Stmt := top 19
theorem sc_twice : FnScope ["_law_table", "_law_road_here", "_law_further", "_law_found", "_law_row"] ["_law_table", "_law_road_here", "_law_further"] (defScope s_twice) :=
  ⟨rfl, rfl, rfl, by decide +kernel, rfl, by decide +kernel, by decide +kernel⟩
abbrev s_spots : Stmt := top 20
theorem sc_spots : FnScope ["_law_deck_here", "_law_road_here", "_law_due", "_law_found", "_law_k", "_law_row", "_law_number", "_law_value"] ["_law_deck_here", "_law_road_here", "_law_due"] (defScope s_spots) :=
  ⟨rfl, rfl, rfl, by decide +kernel, rfl, by decide +kernel, by decide +kernel⟩
abbrev s_next_right : Stmt := top 21
theorem sc_next_right : FnScope ["_law_table", "_law_road_here", "_law_due", "_law_spot_here", "_law_later", "_law_told", "_law_row"] ["_law_table", "_law_road_here", "_law_due", "_law_spot_here"] (defScope s_next_right) :=
  ⟨rfl, rfl, rfl, by decide +kernel, rfl, by decide +kernel, by decide +kernel⟩
abbrev s_law : Stmt := top 22
theorem sc_law : FnScope ["_law_script", "_law_deck_here", "_law_turn", "_law_many", "_law_early", "_law_begun", "_law_after", "_law_table", "_law_road_here", "_law_further", "_law_due", "_law_other", "_law_spot_here", "_law_row"] ["_law_script"] (defScope s_law) :=
  ⟨rfl, rfl, rfl, by decide +kernel, rfl, by decide +kernel, by decide +kernel⟩

/-! ### rows: numbers with their values -/
abbrev Rows := List (Int × List Int)
def hasR (m : Rows) (n : Int) : Bool := m.any fun r => decide (r.1 = n)
def getR (m : Rows) (n : Int) : List Int := ((m.find? fun r => decide (r.1 = n)).map (·.2)).getD []
def putR (m : Rows) (n : Int) (vs : List Int) : Rows := if hasR m n = true then m.map (fun r => if r.1 = n then (r.1, vs) else r) else m ++ [(n, vs)]
def dropR (m : Rows) (n : Int) : Rows := m.filter fun r => decide (r.1 ≠ n)
def keysR (m : Rows) : List Int := m.map (·.1)
theorem hasR_iff {m : Rows} {n : Int} : hasR m n = true ↔ n ∈ keysR m := by
  unfold hasR keysR
  rw [List.any_eq_true, List.mem_map]
  constructor
  · rintro ⟨r, hr, e⟩
    exact ⟨r, hr, of_decide_eq_true e⟩
  · rintro ⟨r, hr, e⟩
    exact ⟨r, hr, decide_eq_true e⟩
theorem keys_put {m : Rows} {n : Int} {vs : List Int} : keysR (putR m n vs) = if hasR m n = true then keysR m else keysR m ++ [n] := by
  unfold putR keysR
  split
  · rw [List.map_map]
    refine List.map_congr_left fun r _ => ?_
    show (if r.1 = n then (r.1, vs) else r).1 = r.1
    split <;> rfl
  · rw [List.map_append]
    rfl
theorem keys_drop {m : Rows} {n : Int} : keysR (dropR m n) = (keysR m).filter fun k => decide (k ≠ n) := by
  unfold dropR keysR
  rw [List.filter_map]
  rfl

/-- a dict of rows, as its pairs tell -/
def Ent (H : Hp) (kvs : List (Key × V)) (m : Rows) : Prop := Paired (fun (q : Key × V) (r : Int × List Int) => q.1 = Sum.inl r.1 ∧ ∃ t, q.2 = V.ref t ∧ H t = some (.tup (r.2.map V.int))) kvs m
def Tups (H H' : Hp) : Prop := ∀ a xs, H a = some (.tup xs) → H' a = some (.tup xs)
theorem Ent.ext {H H' : Hp} {kvs : List (Key × V)} {m : Rows} (e : Ent H kvs m) (x : Tups H H') : Ent H' kvs m := by
  refine Paired.mapP e fun q r h => ?_
  obtain ⟨h1, t, h2, h3⟩ := h
  exact ⟨h1, t, h2, x _ _ h3⟩
theorem Ent.keys {H : Hp} : ∀ {kvs : List (Key × V)} {m : Rows}, Ent H kvs m → kvs.map (·.1) = (keysR m).map Sum.inl
  | _, _, .nil => rfl
  | _, _, .cons a r => by
    rw [List.map_cons, a.1, Ent.keys r]
    rfl
theorem key_dec (q : Key) (k n : Int) (e : q = Sum.inl k) : decide (q = (Sum.inl n : Key)) = decide (k = n) := by
  subst e
  by_cases h : k = n
  · subst h
    simp
  · rw [decide_eq_false h, decide_eq_false fun z => h (Sum.inl.inj z)]
theorem Ent.any {H : Hp} {n : Int} : ∀ {kvs : List (Key × V)} {m : Rows}, Ent H kvs m → (kvs.any fun kv => decide (kv.1 = (Sum.inl n : Key))) = hasR m n
  | _, _, .nil => rfl
  | _, _, .cons a r => by
    rw [List.any_cons, key_dec _ _ n a.1, Ent.any r]
    rfl
theorem Ent.snoc {H : Hp} {kvs : List (Key × V)} {m : Rows} {n : Int} {t : Addr} {vs : List Int} (e : Ent H kvs m) (h : H t = some (.tup (vs.map V.int))) : Ent H (kvs ++ [(Sum.inl n, V.ref t)]) (m ++ [(n, vs)]) :=
  Paired.snoc e ⟨rfl, t, rfl, h⟩
theorem Ent.map {H : Hp} {n : Int} {t : Addr} {vs : List Int} (h : H t = some (.tup (vs.map V.int))) : ∀ {kvs : List (Key × V)} {m : Rows}, Ent H kvs m →
    Ent H (kvs.map fun kv => if kv.1 = (Sum.inl n : Key) then (kv.1, V.ref t) else kv) (m.map fun r => if r.1 = n then (r.1, vs) else r)
  | _, _, .nil => .nil
  | kv :: kvs, r :: m, .cons a x => by
    refine .cons ?_ (Ent.map h x)
    dsimp only
    by_cases e : r.1 = n
    · rw [if_pos (by rw [a.1, e]), if_pos e]
      exact ⟨a.1, t, rfl, h⟩
    · rw [if_neg (fun z => e (Sum.inl.inj (a.1.symm.trans z))), if_neg e]
      exact a
theorem Ent.put {H : Hp} {kvs : List (Key × V)} {m : Rows} {n : Int} {t : Addr} {vs : List Int} (e : Ent H kvs m) (h : H t = some (.tup (vs.map V.int))) : Ent H (putK kvs (Sum.inl n) (V.ref t)) (putR m n vs) := by
  unfold putK putR
  rw [e.any]
  split
  · exact Ent.map h e
  · exact e.snoc h
theorem Ent.drop {H : Hp} {n : Int} : ∀ {kvs : List (Key × V)} {m : Rows}, Ent H kvs m → Ent H (dropK kvs (Sum.inl n)) (dropR m n)
  | _, _, .nil => .nil
  | kv :: kvs, r :: m, .cons a x => by
    have ih := Ent.drop (n := n) x
    unfold dropK dropR at ih ⊢
    by_cases e : r.1 = n
    · rw [List.filter_cons_of_neg (by simp [a.1, e]), List.filter_cons_of_neg (by simp [e])]
      exact ih
    · rw [List.filter_cons_of_pos (by simp [a.1, e]), List.filter_cons_of_pos (by simp [e])]
      exact .cons a ih
theorem Ent.get {H : Hp} {n : Int} : ∀ {kvs : List (Key × V)} {m : Rows}, Ent H kvs m → hasR m n = true → ∃ t, valV kvs (Sum.inl n : Key) = some (V.ref t) ∧ H t = some (.tup ((getR m n).map V.int))
  | _, _, .nil, h => by cases h
  | kv :: kvs, r :: m, .cons a x, h => by
    obtain ⟨a1, t, a2, a3⟩ := a
    by_cases e : r.1 = n
    · refine ⟨t, ?_, ?_⟩
      · rw [valV_pos (by rw [a1, e]), a2]
      · unfold getR
        rw [List.find?_cons_of_pos (by simp [e])]
        exact a3
    · have h' : hasR m n = true := by
        unfold hasR at h ⊢
        rw [List.any_cons, decide_eq_false e, Bool.false_or] at h
        exact h
      obtain ⟨t', b1, b2⟩ := Ent.get x h'
      refine ⟨t', ?_, ?_⟩
      · rw [valV_neg (fun z => e (Sum.inl.inj (a1.symm.trans z)))]
        exact b1
      · unfold getR at b2 ⊢
        rw [List.find?_cons_of_neg (by simp [e])]
        exact b2
theorem Ent.none {H : Hp} {kvs : List (Key × V)} {m : Rows} {n : Int} (e : Ent H kvs m) (h : hasR m n = false) : valV kvs (Sum.inl n : Key) = none := by
  have z := valV_any (Sum.inl n : Key) kvs
  rw [e.any, h] at z
  cases hv : valV kvs (Sum.inl n : Key) with
  | none => rfl
  | some v =>
    rw [hv] at z
    cases z
theorem Ent.some {H : Hp} {kvs : List (Key × V)} {m : Rows} {n : Int} (e : Ent H kvs m) : (valV kvs (Sum.inl n : Key)).isSome = hasR m n := by
  rw [← valV_any, e.any]
theorem Ent.length {H : Hp} {kvs : List (Key × V)} {m : Rows} (e : Ent H kvs m) : kvs.length = m.length := Paired.length e

/-- ascending lists with the same members are one -/
theorem asc_same : ∀ {xs ys : List Int}, xs.Pairwise (· < ·) → ys.Pairwise (· < ·) → (∀ k, k ∈ xs ↔ k ∈ ys) → xs = ys
  | [], [], _, _, _ => rfl
  | [], y :: ys, _, _, h => absurd ((h y).mpr (List.mem_cons_self ..)) (by simp)
  | x :: xs, [], _, _, h => absurd ((h x).mp (List.mem_cons_self ..)) (by simp)
  | x :: xs, y :: ys, hx, hy, h => by
    obtain ⟨x1, x2⟩ := List.pairwise_cons.mp hx
    obtain ⟨y1, y2⟩ := List.pairwise_cons.mp hy
    have e : x = y := by
      rcases List.mem_cons.mp ((h x).mp (List.mem_cons_self ..)) with e | e
      · exact e
      · rcases List.mem_cons.mp ((h y).mpr (List.mem_cons_self ..)) with e2 | e2
        · exact e2.symm
        · have := y1 x e
          have := x1 y e2
          omega
    subst e
    refine congrArg (x :: ·) (asc_same x2 y2 fun k => ?_)
    constructor
    · intro hk
      rcases List.mem_cons.mp ((h k).mp (List.mem_cons_of_mem _ hk)) with e | e
      · have := x1 k hk
        omega
      · exact e
    · intro hk
      rcases List.mem_cons.mp ((h k).mpr (List.mem_cons_of_mem _ hk)) with e | e
      · have := y1 k hk
        omega
      · exact e
theorem asc_of {xs ks : List Int} (p : xs.Perm ks) (s : xs.Pairwise (· ≤ ·)) (nd : ks.Nodup) : xs.Pairwise (· < ·) := by
  have nx : xs.Nodup := p.nodup_iff.mpr nd
  refine (s.and nx).imp fun h => ?_
  obtain ⟨h1, h2⟩ := h
  omega
/-- a row, and rows, as data -/
def rowD (n : Int) (vs : List Int) : PyData := .tuple [.int n, .tuple (vs.map .int)]
def rowsD (m : Rows) (ns : List Int) : PyData := .tuple (ns.map fun n => rowD n (getR m n))
/-- what is told of rows -/
structure Good (m : Rows) (next many : Int) : Prop where
  nd : (keysR m).Nodup
  lt : ∀ k ∈ keysR m, 0 ≤ k ∧ k < next
  ok : ∀ r ∈ m, (r.2.length : Int) = many ∧ ∀ v ∈ r.2, -1000000000 ≤ v ∧ v ≤ 1000000000
end K22

set_option Elab.async false
set_option maxRecDepth 100000
set_option maxHeartbeats 4000000
namespace K22
open PySem PySem.Spec PyProof.Rows L2 Own
-- steps
local macro_rules | `(tactic| walk_at "lk") => `(tactic| first
  | assumption | exact upd_same
  | ((with_reducible refine' lk_new ?e (by assumption)); (case e => walk_at "lk"))
  | ((with_reducible refine' lk_ext (by assumption) ?e); (case e => walk_at "lk"))
  | ((with_reducible refine' lk_same (by assumption) ?e); (case e => walk_at "lk")))
local macro_rules | `(tactic| walk_at "sq") => `(tactic| first | assumption | exact SqL.of (by walk_at "lk") | exact SqT.of (by walk_at "lk"))
local macro_rules | `(tactic| walk_at "r1") => `(tactic| first
  | with_reducible refine k_seq ?_ | with_reducible refine k_asg ?_ | with_reducible refine k_ret ?_ | with_reducible refine k_drop ?_ | with_reducible refine k_next ?_ | with_reducible refine k_ifS ?_
  | ((with_reducible refine' k_var ?e ?_); (case e => exact rfl)) | with_reducible refine k_c ?_ | with_reducible refine k_op ?_ | with_reducible refine k_un ?_ | with_reducible refine k_test ?_ | with_reducible refine k_B ?_
  | with_reducible refine k_and ?_ | with_reducible refine k_or ?_ | with_reducible refine k_not ?_ | with_reducible refine k_andV ?_ | with_reducible refine k_orV ?_ | with_reducible refine k_notV ?_ | with_reducible refine k_if ?_
  | with_reducible refine k_nil ?_ | with_reducible refine k_cons ?_ | with_reducible refine k_tup ?_ | with_reducible refine k_lst ?_ | with_reducible refine k_call ?_ | with_reducible refine k_cb ?_ | with_reducible refine k_ck ?_
  | with_reducible refine k_par ?_ | with_reducible refine k_par1 ?_ | with_reducible refine k_tr ?_ | with_reducible refine k_rI0 ?_ | with_reducible refine k_rU ?_
  | with_reducible refine k_gN ?_ | with_reducible refine k_gS ?_ | with_reducible refine k_gNil ?_ | with_reducible refine k_gCons ?_ | with_reducible refine k_bm0 ?_ | with_reducible refine k_bm ?_
  | with_reducible refine k_for ?_ | with_reducible refine k_iL ?_ | with_reducible refine k_iT ?_ | with_reducible refine k_iR1 ?_ | ((with_reducible refine k_iR1i ?e ?_); (case e => first | decide | exact ⟨by omega, by omega⟩))
  | with_reducible refine k_max ?_ | with_reducible refine k_isB ?_ | with_reducible refine k_sl ?_ | with_reducible refine k_noP ?_ | with_reducible refine k_part ?_ | with_reducible refine k_partI ?_ | with_reducible refine k_revL ?_
  | ((with_reducible refine' k_ixqT ?e ?f ?_); (case e => walk_at "sq"); (case f => first | exact rfl | exact atI_head))
  | ((with_reducible refine' k_ixqL ?e ?f ?_); (case e => walk_at "sq"); (case f => first | exact rfl | exact atI_head))
  | ((with_reducible refine' k_lenL ?e ?_); (case e => walk_at "sq"))
  | ((with_reducible refine' k_lenT ?e ?_); (case e => walk_at "sq"))
  | ((with_reducible refine' k_ixL ?e ?f ?_); (case e => walk_at "sq"); (case f => first | exact rfl | exact atI_head))
  | ((with_reducible refine' k_ixT ?e ?f ?_); (case e => walk_at "sq"); (case f => first | exact rfl | exact atI_head))
  | ((with_reducible refine k_eq ?e ?_); (case e => exact rfl)) | ((with_reducible refine k_ne ?e ?_); (case e => exact rfl))
  | ((with_reducible refine k_rI ?e ?_); (case e => first | assumption | omega | decide | exact ⟨by omega, by omega⟩ | exact .inl ⟨by omega, by omega⟩ | exact .inr ⟨by omega, by omega⟩)))
local macro_rules | `(tactic| walk_at "rd") => `(tactic| repeat walk_at "r1")
-- steps end
/-! ### a live table -/
theorem rf : ¬ (("_rows" : Str) = "_following") := by decide +kernel
def flds (d : Addr) (z : Int) : List (Str × V) := putF "_following" (.int z) (putF "_rows" (.ref d) [])
theorem flds_eq (d : Addr) (z : Int) : flds d z = [(("_rows" : Str), V.ref d), (("_following" : Str), V.int z)] := by
  show (if ("_rows" : Str) = "_following" then [(("_rows" : Str), V.int z)] else (("_rows" : Str), V.ref d) :: putF "_following" (V.int z) []) = _
  rw [if_neg rf]
  rfl
theorem flds_rows (d : Addr) (z : Int) : (flds d z).lookup ("_rows" : Str) = some (.ref d) := by
  unfold flds
  rw [lookup_putF, if_neg rf, lookup_putF, if_pos rfl]
theorem flds_foll (d : Addr) (z : Int) : (flds d z).lookup ("_following" : Str) = some (.int z) := by
  unfold flds
  rw [lookup_putF, if_pos rfl]
theorem flds_no (d : Addr) (z : Int) {m : Str} (h1 : ¬ m = "_following") (h2 : ¬ m = "_rows") : (flds d z).lookup m = none := by
  unfold flds
  rw [lookup_putF, if_neg h1, lookup_putF, if_neg h2]
  rfl
theorem flds_put (d : Addr) (z y : Int) : putF "_following" (.int y) (flds d z) = flds d y := by
  rw [flds_eq, flds_eq]
  show (if ("_rows" : Str) = "_following" then _ else (("_rows" : Str), V.ref d) :: (if ("_following" : Str) = "_following" then [(("_following" : Str), V.int y)] else _)) = _
  rw [if_neg rf, if_pos rfl]
theorem flds_len (d : Addr) (z : Int) : (flds d z).length < 1000 := by
  rw [flds_eq]
  show 2 < 1000
  decide
/-- what of the text the class must have -/
structure Txt (K : PySem.W.Frag) (C : Addr) : Prop where
  cl : Cls K C
  nR : NoAttr K C "_rows"
  nF : NoAttr K C "_following"
def DictAt (H : Hp) (d : Addr) (m : Rows) : Prop := ∃ kvs, H d = some (.dK kvs) ∧ Ent H kvs m
def TableAt (C : Addr) (H : Hp) (p dx d : Addr) (m : Rows) (z : Int) : Prop := H p = some (.ins C dx (flds d z)) ∧ DictAt H d m
/-- rows as they are handed in -/
def RowAt (H : Hp) (t : Addr) (r : Int × List Int) : Prop := ∃ u, H t = some (.tup [.int r.1, .ref u]) ∧ H u = some (.tup (r.2.map V.int))
def BegunAt (K : PySem.W.Frag) (H : Hp) (b : Addr) (m : Rows) : Prop := ∃ ts : List Addr, SqT K H b (ts.map V.ref) ∧ Paired (RowAt H) ts m
theorem DictAt.keep {H H' : Hp} {d : Addr} {m : Rows} (D : DictAt H d m) (x : Tups H H') (k : ∀ o, H d = some o → H' d = some o) : DictAt H' d m := by
  obtain ⟨kvs, h1, h2⟩ := D
  exact ⟨kvs, k _ h1, h2.ext x⟩
theorem TableAt.keep {C : Addr} {H H' : Hp} {p dx d : Addr} {m : Rows} {z : Int} (T : TableAt C H p dx d m z) (x : Tups H H') (k : ∀ o, H d = some o → H' d = some o) (k2 : ∀ o, H p = some o → H' p = some o) : TableAt C H' p dx d m z :=
  ⟨k2 _ T.1, T.2.keep x k⟩
theorem RowAt.keep {H H' : Hp} {t : Addr} {r : Int × List Int} (h : RowAt H t r) (x : Tups H H') : RowAt H' t r := let ⟨u, a, b⟩ := h; ⟨u, x _ _ a, x _ _ b⟩
theorem tups_upd {H : Hp} {p : Addr} {o u : HO} (h : H p = some u) (n : ∀ xs, u ≠ .tup xs) : Tups H (upd H p o) := fun a xs e => by
  rw [upd_ne fun z => ?_]
  · exact e
  · subst z
    rw [h] at e
    cases e
    exact n _ rfl
theorem tups_new {H : Hp} {p : Addr} {o : HO} (h : H p = none) : Tups H (upd H p o) := fun a xs e => lk_new e h
theorem Tups.trans {H H1 H2 : Hp} (a : Tups H H1) (b : Tups H1 H2) : Tups H H2 := fun x xs h => b x xs (a x xs h)
theorem Tups.refl (H : Hp) : Tups H H := fun _ _ h => h
theorem Tups.same {H H' : Hp} (s : Same H H') : Tups H H' := fun a xs h => s a _ h
theorem pget {α β : Type} {F : α → β → Prop} : ∀ {xs : List α} {ys : List β}, Paired F xs ys → ∀ {i : Nat} {x : α}, xs[i]? = some x → ∃ y, ys[i]? = some y ∧ F x y
  | _, _, .nil, i, x, h => by simp at h
  | _, _, .cons a r, 0, x, h => by
    simp at h
    subst h
    exact ⟨_, rfl, a⟩
  | _, _, .cons a r, i + 1, x, h => by
    simp at h
    obtain ⟨y, h1, h2⟩ := pget r h
    exact ⟨y, by simpa using h1, h2⟩
theorem put_take {m : Rows} {i : Nat} {r : Int × List Int} (nd : (keysR m).Nodup) (h : m[i]? = some r) : putR (m.take i) r.1 r.2 = m.take (i + 1) := by
  have hn : hasR (m.take i) r.1 = false := by
    rw [Bool.eq_false_iff]
    intro z
    have z' := hasR_iff.mp z
    have e : keysR m = keysR (m.take i) ++ keysR (m.drop i) := by
      unfold keysR
      rw [← List.map_append, List.take_append_drop]
    rw [e] at nd
    have i2 : r.1 ∈ keysR (m.drop i) := by
      unfold keysR
      refine List.mem_map_of_mem (List.mem_of_getElem? (i := 0) ?_)
      rw [List.getElem?_drop]
      exact h
    exact (List.nodup_append.mp nd).2.2 _ z' _ i2 rfl
  unfold putR
  rw [if_neg (by rw [hn]; exact Bool.false_ne_true), List.take_add_one, h]
  rfl
/-- the value of the i-th statement, an assignment -/
def defVal (st : Stmt) (i : Nat) : Expr := match (defBody st)[i]? with | some (.Assign _ v _) => v | _ => .Constant .none 0 ⟨0, 0, 0, 0⟩
section
variable {P : Program} {w : World} {K : PySem.W.Frag} {mg : Str → Option Value} {base : Heap} {C : Addr}
def spInit (K : PySem.W.Frag) (C : Addr) : Sp := fun vs H Q _ => ∃ (p dx b : Addr) (m : Rows) (z : Int), vs = [.ref p, .ref b, .int z] ∧ H p = some (.ins C dx []) ∧ BegunAt K H b m ∧ (keysR m).Nodup ∧ m.length ≤ 1000 ∧
  ∀ (d : Addr) (H' : Hp), H d = none → TableAt C H' p dx d m z → (∀ a o, a ≠ p → H a = some o → H' a = some o) → Q .non H'
theorem ok_init {f : Addr} {fd : FuncData} {dvs : List V} {kws : List (Str × V)} (F : FunD K "__init__" "LiveTable.__init__" (defArgs s_LiveTable___init__) (defBody s_LiveTable___init__) (defScope s_LiveTable___init__) dvs kws f fd) (T : Txt K C) :
    FnOk P w K mg base CX0 1 f fd ["self", "rows", "following"] (spInit K C) := by
  have nd := sc_LiveTable___init__.nd
  refine F.ok sc_LiveTable___init__ (fun vs H Q E h => ?_) (fun cdv A up s H vs Q E hr h => ?_)
  · obtain ⟨p, dx, b, m, z, rfl, _⟩ := h
    rfl
  · obtain ⟨p, dx, b, m, z, rfl, hp, ⟨ts, hb, hts⟩, hnd, hl, k⟩ := h
    refine ⟨_, pss_cons (ps_fld (pv 0) (pe_dc (own := [("number", 3), ("values", 4)]) (g := gTup K 2 (gCons (gName 3) (gCons (gName 4) gNil))) (tt := tYes) (tk := tVar 3) (tv := tVar 4) (by rfl) nd (pi_tup (pv 1)) (blkOk_by (own := [("number", 3), ("values", 4)]) (N := ["self", "rows", "following", "number", "values"]) (sc := defScope s_LiveTable___init__) (by decide +kernel))
        (fun _ _ _ _ _ => by exact (pg_tup rfl (pgs_cons (pg_name (i := 3) nd rfl (.inl rfl)) (pgs_cons (pg_name (i := 4) nd rfl (.inl rfl)) pgs_nil)))) (fun _ _ _ _ _ => pts_nil) (fun _ _ _ _ _ => pv 3) (fun _ _ _ _ _ => pv 4)) rfl) (pss_one (ps_fld (pv 0) (pv 2) rfl)), ?_⟩
    have len : ts.length = m.length := Paired.length hts
    refine ⟨_, rfl, b, rfl, ⟨_, hb⟩, fun d hd => ?_⟩
    have x0 : Same H (upd H d (.dK [])) := Same.upd hd
    refine dc_tup (xs := ts.map V.ref) (fun i H' => Tups H H' ∧ (∀ a o, a ≠ d → H a = some o → H' a = some o) ∧ ∃ kvs, H' d = some (.dK kvs) ∧ Ent H' kvs (m.take i)) ⟨Tups.same x0, fun a o _ e => x0 a o e, [], upd_same, .nil⟩ (fun i H' _ h => ?_) (fun i x H' hx h => ?_) (fun H' h => ?_)
    · rcases hb with (hb | ⟨o, hb⟩) | hb
      · exact .inl (.inl (h.1 _ _ hb))
      · exact .inl (.inr ⟨o, h.2.1 _ _ (ne_of_none hb hd) hb⟩)
      · exact .inr hb
    · obtain ⟨x1, x2, kvs, hk, he⟩ := h
      rw [List.getElem?_map] at hx
      obtain ⟨t, ht, rfl⟩ := Option.map_eq_some_iff.mp hx
      obtain ⟨r, hr1, u, h1, h2⟩ := pget hts ht
      refine k_gTup (SqT.of (x1 _ _ h1)) rfl ?_
      walk_at "rd"
      refine ⟨rfl, ?_⟩
      refine k_yes ?_
      walk_at "rd"
      have hi : i < m.length := (List.getElem?_eq_some_iff.mp hr1).1
      have lk : kvs.length ≤ i := by
        rw [he.length, List.length_take]
        exact Nat.min_le_left _ _
      have e2 := he.put (n := r.1) (x1 _ _ h2)
      rw [put_take hnd hr1] at e2
      have x3 : Tups H' (upd H' d (.dK (putK kvs (Sum.inl r.1) (V.ref u)))) := tups_upd hk fun xs z => by cases z
      refine ⟨kvs, Sum.inl r.1, rfl, hk, k_szL (by omega), x1.trans x3, fun a o na e => ?_, _, upd_same, e2.ext x3⟩
      rw [upd_ne na]
      exact x2 a o na e
    · obtain ⟨x1, x2, kvs, hk, he⟩ := h
      rw [List.length_map, len, List.take_length] at he
      have npd : p ≠ d := ne_of_none hp hd
      have hp' := x2 p _ npd hp
      refine ⟨_, rfl, p, C, dx, [], rfl, hp', T.cl, T.nR, by decide, ?_⟩
      refine ⟨_, rfl, _, rfl, p, C, dx, _, rfl, upd_same, T.cl, T.nF, (by show 1 < 1000; decide), ?_⟩
      rw [upd_upd]
      have x3 : Tups H' (upd H' p (.ins C dx (flds d z))) := tups_upd hp' fun xs z => by cases z
      refine k d _ hd ⟨upd_same, kvs, by rw [upd_ne npd.symm]; exact hk, he.ext x3⟩ fun a o na e => ?_
      show upd H' p _ a = _
      rw [upd_ne na]
      exact x2 a o (ne_of_none e hd) e
end
end K22

set_option Elab.async false
set_option maxRecDepth 100000
set_option maxHeartbeats 4000000
set_option linter.unusedVariables false
namespace K22
open PySem PySem.Spec PyProof.Rows L2 Own
-- steps
local macro_rules | `(tactic| walk_at "lk") => `(tactic| first
  | assumption | exact upd_same
  | ((with_reducible refine' lk_new ?e (by assumption)); (case e => walk_at "lk"))
  | ((with_reducible refine' lk_ext (by assumption) ?e); (case e => walk_at "lk"))
  | ((with_reducible refine' lk_same (by assumption) ?e); (case e => walk_at "lk")))
local macro_rules | `(tactic| walk_at "sq") => `(tactic| first | assumption | exact SqL.of (by walk_at "lk") | exact SqT.of (by walk_at "lk"))
local macro_rules | `(tactic| walk_at "r1") => `(tactic| first
  | with_reducible refine k_seq ?_ | with_reducible refine k_asg ?_ | with_reducible refine k_ret ?_ | with_reducible refine k_drop ?_ | with_reducible refine k_next ?_ | with_reducible refine k_ifS ?_
  | ((with_reducible refine' k_var ?e ?_); (case e => exact rfl)) | with_reducible refine k_c ?_ | with_reducible refine k_op ?_ | with_reducible refine k_un ?_ | with_reducible refine k_test ?_ | with_reducible refine k_B ?_
  | with_reducible refine k_and ?_ | with_reducible refine k_or ?_ | with_reducible refine k_not ?_ | with_reducible refine k_andV ?_ | with_reducible refine k_orV ?_ | with_reducible refine k_notV ?_ | with_reducible refine k_if ?_
  | with_reducible refine k_nil ?_ | with_reducible refine k_cons ?_ | with_reducible refine k_tup ?_ | with_reducible refine k_lst ?_ | with_reducible refine k_call ?_ | with_reducible refine k_cb ?_ | with_reducible refine k_ck ?_
  | with_reducible refine k_par ?_ | with_reducible refine k_par1 ?_ | with_reducible refine k_tr ?_ | with_reducible refine k_rI0 ?_ | with_reducible refine k_rU ?_
  | with_reducible refine k_gN ?_ | with_reducible refine k_gS ?_ | with_reducible refine k_gNil ?_ | with_reducible refine k_gCons ?_ | with_reducible refine k_bm0 ?_ | with_reducible refine k_bm ?_
  | with_reducible refine k_for ?_ | with_reducible refine k_iL ?_ | with_reducible refine k_iT ?_ | with_reducible refine k_iR1 ?_ | ((with_reducible refine k_iR1i ?e ?_); (case e => first | decide | exact ⟨by omega, by omega⟩))
  | with_reducible refine k_max ?_ | with_reducible refine k_isB ?_ | with_reducible refine k_sl ?_ | with_reducible refine k_noP ?_ | with_reducible refine k_part ?_ | with_reducible refine k_partI ?_ | with_reducible refine k_revL ?_
  | ((with_reducible refine' k_ixqT ?e ?f ?_); (case e => walk_at "sq"); (case f => first | exact rfl | exact atI_head))
  | ((with_reducible refine' k_ixqL ?e ?f ?_); (case e => walk_at "sq"); (case f => first | exact rfl | exact atI_head))
  | ((with_reducible refine' k_lenL ?e ?_); (case e => walk_at "sq"))
  | ((with_reducible refine' k_lenT ?e ?_); (case e => walk_at "sq"))
  | ((with_reducible refine' k_ixL ?e ?f ?_); (case e => walk_at "sq"); (case f => first | exact rfl | exact atI_head))
  | ((with_reducible refine' k_ixT ?e ?f ?_); (case e => walk_at "sq"); (case f => first | exact rfl | exact atI_head))
  | ((with_reducible refine k_eq ?e ?_); (case e => exact rfl)) | ((with_reducible refine k_ne ?e ?_); (case e => exact rfl))
  | ((with_reducible refine k_rI ?e ?_); (case e => first | assumption | omega | decide | exact ⟨by omega, by omega⟩ | exact .inl ⟨by omega, by omega⟩ | exact .inr ⟨by omega, by omega⟩)))
local macro_rules | `(tactic| walk_at "rd") => `(tactic| repeat walk_at "r1")
-- steps end
theorem k_isN {ta : TE} {σ : L2.St} {H : Hp} {Q : VK} (h : ta σ H fun x H1 => Q (.bl (decide (x = .non))) H1) : tIsN ta σ H Q := h
theorem heap_up : ¬ (("up" : Str) = "heap") := by decide +kernel
theorem heap_down : ¬ (("down" : Str) = "heap") := by decide +kernel
theorem down_up : ¬ (("up" : Str) = "down") := by decide +kernel
theorem down_heap : ¬ (("heap" : Str) = "down") := by decide +kernel
/-! ### paths, places, bounds -/
def RoadAt (H : Hp) (p : Addr) (r : Str) (c : Nat) : Prop := (r = "heap" ∧ H p = some (.tup [.str "heap"])) ∨ ((r = "up" ∨ r = "down") ∧ H p = some (.tup [.str r, .int c]))
theorem RoadAt.keep {H H' : Hp} {p : Addr} {r : Str} {c : Nat} (h : RoadAt H p r c) (x : Tups H H') : RoadAt H' p r c := h.elim (fun z => .inl ⟨z.1, x _ _ z.2⟩) fun z => .inr ⟨z.1, x _ _ z.2⟩
theorem RoadAt.head {H : Hp} {p : Addr} {r : Str} {c : Nat} (h : RoadAt H p r c) : ∃ rest, H p = some (.tup (.str r :: rest)) := by
  rcases h with ⟨rfl, h⟩ | ⟨_, h⟩
  · exact ⟨_, h⟩
  · exact ⟨_, h⟩
def col (c : Nat) (row : Int × List Int) : Int := row.2.getD c 0
def placeL (r : Str) (c : Nat) (row : Int × List Int) : List Int := if r = "heap" then [row.1] else [col c row, row.1]
def first (r : Str) (a b : List Int) : Bool := if r = "down" then HT.lexLt b a else HT.lexLt a b
def EndV (lo : Option Int) : V := match lo with | none => .non | some x => .int x
def within (r : Str) (c : Nat) (lo hi : Option Int) (row : Int × List Int) : Bool := decide (r = "heap") || ((match lo with | none => true | some x => decide (x ≤ col c row)) && (match hi with | none => true | some x => decide (col c row ≤ x)))
/-- the column is one of the row's -/
def HasCol (r : Str) (c : Nat) (row : Int × List Int) : Prop := r = "heap" ∨ c < row.2.length
theorem col_at {c : Nat} {row : Int × List Int} (h : c < row.2.length) : atI (row.2.map V.int) (c : Int) = some (.int (col c row)) := by
  refine atI_nat ?_
  rw [List.getElem?_map]
  unfold col
  rw [List.getD_eq_getElem?_getD, List.getElem?_eq_getElem h]
  rfl
section
variable {P : Program} {w : World} {K : PySem.W.Frag} {mg : Str → Option Value} {base : Heap} {C : Addr}
def spPlace : Sp := fun vs H Q _ => ∃ (p t : Addr) (r : Str) (c : Nat) (row : Int × List Int), vs = [.ref p, .ref t] ∧ RoadAt H p r c ∧ RowAt H t row ∧ HasCol r c row ∧ ∀ q, H q = none → Q (.ref q) (upd H q (.tup ((placeL r c row).map V.int)))
theorem ok_place {f : Addr} {fd : FuncData} (F : Fun K "place_of" "place_of" s_place_of f fd) : FnOk P w K mg base CX0 1 f fd ["path", "row"] spPlace := by
  have nd := sc_place_of.nd
  refine F.ok sc_place_of (fun vs H Q E h => ?_) (fun cdv A up s H vs Q E hr h => ?_)
  · obtain ⟨p, t, r, c, row, rfl, _⟩ := h
    rfl
  · obtain ⟨p, t, r, c, row, rfl, hp, ⟨u, h1, h2⟩, hc, k⟩ := h
    obtain ⟨rest, hp0⟩ := hp.head
    refine ⟨_, (pss_one (ps_ret (pe_ifExp (pt_cmpR op_eq (pe_ix ix_seq (pv 0) pe_int (fun _ _ => rfl)) pe_str (nomark _)) (pe_tup (pa_cons (pe_ix ix_seq (pv 1) pe_int (fun _ _ => rfl)) pa_nil)) (pe_tup (pa_cons (pe_ix ix_seq (pe_ix ix_seq (pv 1) pe_int (fun _ _ => rfl)) (pe_ix ix_seq (pv 0) pe_int (fun _ _ => rfl)) (fun _ _ => rfl)) (pa_cons (pe_ix ix_seq (pv 1) pe_int (fun _ _ => rfl)) pa_nil)))))), ?_⟩
    walk_at "rd"
    refine k_iteD (fun e => ?_) (fun e => ?_)
    · obtain rfl := V.str.inj e
      walk_at "rd"
      refine ⟨k_sz rfl, fun q hq => ?_⟩
      walk_at "rd"
      have z := k q hq
      unfold placeL at z
      rw [if_pos rfl] at z
      exact z
    · have ne : ¬ r = "heap" := fun z => e (congrArg V.str z)
      have hp2 : H p = some (.tup [.str r, .int c]) := by
        rcases hp with ⟨z, _⟩ | ⟨_, z⟩
        · exact absurd z ne
        · exact z
      have lc : c < row.2.length := hc.resolve_left ne
      clear hp0
      walk_at "rd"
      refine k_ixqT (SqT.of h2) (col_at lc) ?_
      walk_at "rd"
      refine ⟨k_sz rfl, fun q hq => ?_⟩
      walk_at "rd"
      have z := k q hq
      unfold placeL at z
      rw [if_neg ne] at z
      exact z
def spFirst : Sp := fun vs H Q _ => ∃ (p a b : Addr) (r : Str) (c : Nat) (xs ys : List Int), vs = [.ref p, .ref a, .ref b] ∧ RoadAt H p r c ∧ H a = some (.tup (xs.map V.int)) ∧ H b = some (.tup (ys.map V.int)) ∧ Q (.bl (first r xs ys)) H
theorem ok_first {f : Addr} {fd : FuncData} (F : Fun K "comes_first" "comes_first" s_comes_first f fd) : FnOk P w K mg base CX0 1 f fd ["path", "place", "other"] spFirst := by
  have nd := sc_comes_first.nd
  refine F.ok sc_comes_first (fun vs H Q E h => ?_) (fun cdv A up s H vs Q E hr h => ?_)
  · obtain ⟨p, a, b, r, c, xs, ys, rfl, _⟩ := h
    rfl
  · obtain ⟨p, a, b, r, c, xs, ys, rfl, hp, ha, hb, k⟩ := h
    obtain ⟨rest, hp0⟩ := hp.head
    refine ⟨_, (pss_one (ps_ret (pe_ifExp (pt_cmpR op_eq (pe_ix ix_seq (pv 0) pe_int (fun _ _ => rfl)) pe_str (nomark _)) (pe_cmpR (op_gtT hr.units) (pv 1) (pv 2) (nomark _)) (pe_cmpR (op_ltT hr.units0) (pv 1) (pv 2) (nomark _))))), ?_⟩
    walk_at "rd"
    unfold first at k
    refine k_iteD (fun e => ?_) (fun e => ?_)
    · walk_at "rd"
      refine k_gtT (SqT.of ha) (SqT.of hb) ?_
      rw [if_pos (V.str.inj e)] at k
      exact k
    · walk_at "rd"
      refine k_ltT (SqT.of ha) (SqT.of hb) ?_
      rw [if_neg (fun z => e (congrArg V.str z))] at k
      exact k
def spWithin : Sp := fun vs H Q _ => ∃ (p t : Addr) (r : Str) (c : Nat) (row : Int × List Int) (lo hi : Option Int), vs = [.ref p, .ref t, EndV lo, EndV hi] ∧ RoadAt H p r c ∧ RowAt H t row ∧ HasCol r c row ∧ Q (.bl (within r c lo hi row)) H
theorem ok_within {f : Addr} {fd : FuncData} (F : Fun K "_is_within" "_is_within" s__is_within f fd) : FnOk P w K mg base CX0 1 f fd ["path", "row", "least", "most"] spWithin := by
  have nd := sc__is_within.nd
  refine F.ok sc__is_within (fun vs H Q E h => ?_) (fun cdv A up s H vs Q E hr h => ?_)
  · obtain ⟨p, t, r, c, row, lo, hi, rfl, _⟩ := h
    rfl
  · obtain ⟨p, t, r, c, row, lo, hi, rfl, hp, ⟨u, h1, h2⟩, hc, k⟩ := h
    obtain ⟨rest, hp0⟩ := hp.head
    unfold within at k
    refine ⟨_, (pss_cons (ps_if (pt_cmpR op_eq (pe_ix ix_seq (pv 0) pe_int (fun _ _ => rfl)) pe_str (nomark _)) (pss_one (ps_ret pe_bl)) pss_nil)
        (pss_cons (ps_set (i := 4) nd rfl (Or.inl rfl) (pe_ix ix_seq (pe_ix ix_seq (pv 1) pe_int (fun _ _ => rfl)) (pe_ix ix_seq (pv 0) pe_int (fun _ _ => rfl)) (fun _ _ => rfl)))
        (pss_one (ps_ret (pe_and (pe_or (pe_cmp (pc_isN (pv 2))) (pe_one (pe_cmpR op_le (pv 2) (pv 4) (nomark _)))) (pe_one (pe_or (pe_cmp (pc_isN (pv 3))) (pe_one (pe_cmpR op_le (pv 4) (pv 3) (nomark _)))))))))), ?_⟩
    walk_at "rd"
    refine k_iteD (fun e => ?_) (fun e => ?_)
    · obtain rfl := V.str.inj e
      walk_at "rd"
      rw [decide_eq_true rfl, Bool.true_or] at k
      exact k
    · have ne : ¬ r = "heap" := fun z => e (congrArg V.str z)
      have hp2 : H p = some (.tup [.str r, .int c]) := by
        rcases hp with ⟨z, _⟩ | ⟨_, z⟩
        · exact absurd z ne
        · exact z
      have lc : c < row.2.length := hc.resolve_left ne
      clear hp0
      rw [decide_eq_false ne, Bool.false_or] at k
      walk_at "rd"
      refine k_ixqT (SqT.of h2) (col_at lc) ?_
      walk_at "rd"
      cases lo with
      | none =>
        rw [Bool.true_and] at k
        refine k_isN ?_
        walk_at "rd"
        refine k_iteD (fun _ => ?_) fun z => absurd rfl z
        refine ⟨true, rfl, iteT ?_⟩
        walk_at "rd"
        refine k_isN ?_
        walk_at "rd"
        cases hi with
        | none =>
          refine k_iteD (fun _ => ?_) fun z => absurd rfl z
          walk_at "rd"
          exact k
        | some y =>
          refine k_iteD (fun z => by cases z) fun _ => ?_
          walk_at "rd"
          exact k_rI0 (j := y) k
      | some x =>
        refine k_isN ?_
        walk_at "rd"
        refine k_iteD (fun z => by cases z) fun _ => ?_
        walk_at "rd"
        refine k_rI0 (i := x) ?_
        refine ⟨_, rfl, ?_⟩
        refine k_iteD (fun e1 => ?_) fun e1 => ?_
        · dsimp only at k
          rw [decide_eq_true e1, Bool.true_and] at k
          walk_at "rd"
          refine k_isN ?_
          walk_at "rd"
          cases hi with
          | none =>
            refine k_iteD (fun _ => ?_) fun z => absurd rfl z
            walk_at "rd"
            exact k
          | some y =>
            refine k_iteD (fun z => by cases z) fun _ => ?_
            walk_at "rd"
            exact k_rI0 (j := y) k
        · dsimp only at k
          rw [decide_eq_false e1, Bool.false_and] at k
          exact k
end
end K22

set_option Elab.async false
set_option maxRecDepth 100000
set_option maxHeartbeats 400000
/-! min and max of lists of tuples of whole numbers; calls of defs that raise nothing -/
namespace Own
open PySem PySem.Spec PyProof.Rows L2

/-! ### a def at a name, told without Quiet -/
structure CalF (P : Program) (w : World) (K : PySem.W.Frag) (mg : Str → Option Value) (g0 : Heap) (x : Str) (k : Nat) (ps : List Str) (sp : Sp) : Prop where
  ex : ∃ (f : Addr) (fd : FuncData), FnOk P w K mg g0 CX0 k f fd ps sp ∧ Binds K fd ps [] ∧ mg x = some (.ref f) ∧ PySem.W.keepIn K (.ref f) = true
theorem pe_cf {X : Cx} {k : Nat} {ps : List Str} {sp : Sp} {x : Str} {p pos : Pos} {e : Expr} {es : List Expr} {t : TA} (C : CalF X.prog X.w X.K X.mg X.base x k ps sp) (room : Room k X.A) (pa : PA X (e :: es) t) (gl : Gl X x := by rfl)
    (nodbg : (x == ("__debug__" : Str)) = false := by decide)
    (st : starEach (e :: es) X.env = (false, eval e X.env) :: starEach es X.env := by rfl) (pl : (backTo pos (starEach es X.env)).any (·.1) = false := by rfl) :
    PE X (.Call (.Name x p) (e :: es) [] pos) (tCall sp [] E0 t) := by
  obtain ⟨f, fd, F, bd, at_, kp⟩ := C.ex
  exact pe_call F room gl at_ kp bd .nil pass0 pa nodbg st pl

/-! ### the least and the greatest list -/
def minL (x : List Int) (xs : List (List Int)) : List Int := xs.foldl (fun a y => if HT.lexLt y a then y else a) x
def maxL (x : List Int) (xs : List (List Int)) : List Int := xs.foldl (fun a y => if HT.lexLt a y then y else a) x
def tupD (xs : List Int) : PyData := .tuple (xs.map PyData.int)
theorem minD_tup : ∀ (xs : List (List Int)) (x : List Int), PySem.W.minD (tupD x) (xs.map tupD) = tupD (minL x xs)
  | [], _ => rfl
  | y :: ys, x => by
    have ih := fun z => minD_tup ys z
    unfold PySem.W.minD minL at ih ⊢
    rw [List.map_cons, List.foldl_cons, List.foldl_cons]
    have e : PySem.W.dataLt (tupD y) (tupD x) = HT.lexLt y x := lt_ints y x
    rw [e]
    cases HT.lexLt y x with
    | true => exact ih y
    | false => exact ih x
theorem maxD_tup : ∀ (xs : List (List Int)) (x : List Int), PySem.W.maxD (tupD x) (xs.map tupD) = tupD (maxL x xs)
  | [], _ => rfl
  | y :: ys, x => by
    have ih := fun z => maxD_tup ys z
    unfold PySem.W.maxD maxL at ih ⊢
    rw [List.map_cons, List.foldl_cons, List.foldl_cons]
    have e : PySem.W.dataLt (tupD x) (tupD y) = HT.lexLt x y := lt_ints x y
    rw [e]
    cases HT.lexLt x y with
    | true => exact ih y
    | false => exact ih x
theorem lex_irr : ∀ xs : List Int, HT.lexLt xs xs = false
  | [] => rfl
  | x :: xs => by
    rw [HT.lexLt_cons, if_pos rfl]
    exact lex_irr xs
theorem minL_least : ∀ (xs : List (List Int)) (x : List Int), (∀ y ∈ x :: xs, HT.lexLt y (minL x xs) = false)
  | [], x => fun y hy => by
    rw [List.mem_singleton.mp hy]
    exact lex_irr x
  | z :: zs, x => fun y hy => by
    have e : minL x (z :: zs) = minL (if HT.lexLt z x then z else x) zs := rfl
    rw [e]
    cases c : HT.lexLt z x with
    | true =>
      rw [if_pos rfl]
      have ih := minL_least zs z
      rcases List.mem_cons.mp hy with rfl | hy
      · exact NtL.lex_tr _ _ _ (ih z List.mem_cons_self) (NtL.lex_asym _ _ c)
      · exact ih y hy
    | false =>
      rw [if_neg Bool.false_ne_true]
      have ih := minL_least zs x
      rcases List.mem_cons.mp hy with rfl | hy
      · exact ih _ List.mem_cons_self
      · rcases List.mem_cons.mp hy with rfl | hy
        · exact NtL.lex_tr _ _ _ (ih x List.mem_cons_self) c
        · exact ih y (List.mem_cons_of_mem _ hy)
theorem maxL_most : ∀ (xs : List (List Int)) (x : List Int), (∀ y ∈ x :: xs, HT.lexLt (maxL x xs) y = false)
  | [], x => fun y hy => by
    rw [List.mem_singleton.mp hy]
    exact lex_irr x
  | z :: zs, x => fun y hy => by
    have e : maxL x (z :: zs) = maxL (if HT.lexLt x z then z else x) zs := rfl
    rw [e]
    cases c : HT.lexLt x z with
    | true =>
      rw [if_pos rfl]
      have ih := maxL_most zs z
      rcases List.mem_cons.mp hy with rfl | hy
      · exact NtL.lex_tr _ _ _ (NtL.lex_asym _ _ c) (ih z List.mem_cons_self)
      · exact ih y hy
    | false =>
      rw [if_neg Bool.false_ne_true]
      have ih := maxL_most zs x
      rcases List.mem_cons.mp hy with rfl | hy
      · exact ih _ List.mem_cons_self
      · rcases List.mem_cons.mp hy with rfl | hy
        · exact NtL.lex_tr _ _ _ c (ih x List.mem_cons_self)
        · exact ih y (List.mem_cons_of_mem _ hy)
theorem tupD_inj {xs ys : List Int} (h : tupD xs = tupD ys) : xs = ys := by
  have e : xs.map PyData.int = ys.map PyData.int := by
    injection h
  exact (List.map_inj_right fun a b z => by injection z).mp e
/-- min(xs), max(xs): xs a list of tuples of whole numbers, not empty: k tells them -/
def rBestT (K : PySem.W.Frag) (bt : List Int → List Int → Bool) : List V → Hp → VK → Prop := fun xs H Q => ∃ (a : Addr) (ts : List Addr) (k : Addr → List Int), xs = [.ref a] ∧ ts ≠ [] ∧ SqL K H a (ts.map V.ref) ∧ (∀ t ∈ ts, H t = some (.tup ((k t).map V.int))) ∧
  ∀ t ∈ ts, (∀ u ∈ ts, bt (k u) (k t) = false) → Q (.ref t) H
def tagD (k : Addr → List Int) (t : Addr) : V × PyData := (.ref t, tupD (k t))
theorem canLay_tup : ∀ xs : List Int, PyData.canLayAll0 (xs.map PyData.int) = true
  | [] => rfl
  | x :: xs => by
    show (true && _) = true
    rw [canLay_tup xs]
    rfl
theorem tag_depth (k : Addr → List Int) : ∀ ts : List Addr, PyData.depthAll ((ts.map (tagD k)).map (·.2)) ≤ 1
  | [] => Nat.zero_le _
  | t :: ts => by
    show max (PyData.depthAll ((k t).map PyData.int) + 1) _ ≤ 1
    rw [depth_ints]
    exact Nat.max_le.mpr ⟨Nat.le_refl _, tag_depth k ts⟩
theorem tag_alike (k : Addr → List Int) (ts : List Addr) : PySem.W.AlikeAll ((ts.map (tagD k)).map (·.2)) := by
  refine ⟨fun x hx y hy => ?_, fun x hx => ?_⟩
  · rw [List.map_map] at hx hy
    obtain ⟨t, _, rfl⟩ := List.mem_map.mp hx
    obtain ⟨u, _, rfl⟩ := List.mem_map.mp hy
    exact alike_ints (k t) (k u)
  · rw [List.map_map] at hx
    obtain ⟨t, _, rfl⟩ := List.mem_map.mp hx
    exact fun z => by cases z
theorem best_of {K : PySem.W.Frag} {H : Hp} {Q : VK} {best : PyData → List PyData → PyData} {bl : List Int → List (List Int) → List Int} {bt : List Int → List Int → Bool} (hb : ∀ xs x, best (tupD x) (xs.map tupD) = tupD (bl x xs))
    (hl : ∀ (xs : List (List Int)) (x : List Int), ∀ y ∈ x :: xs, bt y (bl x xs) = false) {xs : List V} (h : rBestT K bt xs H Q) : rBestD K best xs H Q := by
  obtain ⟨a, ts0, k, rfl, ne, hs, ht, q⟩ := h
  cases ts0 with
  | nil => exact absurd rfl ne
  | cons t ts =>
  have e1 : (tagD k t :: ts.map (tagD k)).map (fun c : V × PyData => c.1) = (t :: ts).map V.ref := by
    rw [← List.map_cons, List.map_map]
    exact List.map_congr_left fun _ _ => rfl
  have e2 : (ts.map (tagD k)).map (fun c : V × PyData => c.2) = (ts.map k).map tupD := by
    rw [List.map_map, List.map_map]
    exact List.map_congr_left fun _ _ => rfl
  have d1 : ∀ c ∈ tagD k t :: ts.map (tagD k), Dp K H c.1 c.2 ∧ c.2.canLay0 = true := fun c hc => by
    rw [← List.map_cons] at hc
    obtain ⟨u, hu, rfl⟩ := List.mem_map.mp hc
    exact ⟨Dp.tup (SqT.of (ht u hu)) (dpAll_ints (k u)), canLay_tup (k u)⟩
  have d2 : PySem.W.AlikeAll ((tagD k t :: ts.map (tagD k)).map fun c : V × PyData => c.2) := by
    rw [← List.map_cons]
    exact tag_alike k (t :: ts)
  have d3 : PyData.depthAll ((tagD k t :: ts.map (tagD k)).map fun c : V × PyData => c.2) ≤ 50 := by
    rw [← List.map_cons]
    exact Nat.le_trans (tag_depth k (t :: ts)) (by decide)
  have d4 : ∀ c ∈ tagD k t :: ts.map (tagD k), c.2 = best (tagD k t).2 ((ts.map (tagD k)).map fun c : V × PyData => c.2) → Q c.1 H := fun c hc e => by
    rw [← List.map_cons] at hc
    obtain ⟨u, hu, rfl⟩ := List.mem_map.mp hc
    rw [e2] at e
    have e3 : tupD (k u) = tupD (bl (k t) (ts.map k)) := e.trans (hb (ts.map k) (k t))
    have e4 : k u = bl (k t) (ts.map k) := tupD_inj e3
    refine q u hu fun v hv => ?_
    rw [e4]
    refine hl (ts.map k) (k t) (k v) ?_
    rw [← List.map_cons]
    exact List.mem_map.mpr ⟨v, hv, rfl⟩
  exact ⟨a, tagD k t, ts.map (tagD k), rfl, e1 ▸ hs, d1, d2, d3, d4⟩
theorem call_minT {X : Cx} (hc : X.calm = true) (hu : X.A.units + 64 < cLine) : CallR X (.builtin "min") (rBestT X.K fun a b => HT.lexLt a b) :=
  fun pins s σ H xs us Q I r h => call_minD hc hu pins s σ H xs us Q I r (best_of minD_tup minL_least h)
theorem call_maxT {X : Cx} (hc : X.calm = true) (hu : X.A.units + 64 < cLine) : CallR X (.builtin "max") (rBestT X.K fun a b => HT.lexLt b a) :=
  fun pins s σ H xs us Q I r h => call_maxD hc hu pins s σ H xs us Q I r (best_of maxD_tup maxL_most h)
end Own

set_option Elab.async false
set_option maxRecDepth 100000
set_option maxHeartbeats 1000000
set_option linter.unusedVariables false
namespace K22
open PySem PySem.Spec PyProof.Rows L2 Own
-- steps
local macro_rules | `(tactic| walk_at "lk") => `(tactic| first
  | assumption | exact upd_same
  | ((with_reducible refine' lk_new ?e (by assumption)); (case e => walk_at "lk"))
  | ((with_reducible refine' lk_ext (by assumption) ?e); (case e => walk_at "lk"))
  | ((with_reducible refine' lk_same (by assumption) ?e); (case e => walk_at "lk")))
local macro_rules | `(tactic| walk_at "sq") => `(tactic| first | assumption | exact SqL.of (by walk_at "lk") | exact SqT.of (by walk_at "lk"))
local macro_rules | `(tactic| walk_at "r1") => `(tactic| first
  | with_reducible refine k_seq ?_ | with_reducible refine k_asg ?_ | with_reducible refine k_ret ?_ | with_reducible refine k_drop ?_ | with_reducible refine k_next ?_ | with_reducible refine k_ifS ?_
  | ((with_reducible refine' k_var ?e ?_); (case e => exact rfl)) | with_reducible refine k_c ?_ | with_reducible refine k_op ?_ | with_reducible refine k_un ?_ | with_reducible refine k_test ?_ | with_reducible refine k_B ?_
  | with_reducible refine k_and ?_ | with_reducible refine k_or ?_ | with_reducible refine k_not ?_ | with_reducible refine k_andV ?_ | with_reducible refine k_orV ?_ | with_reducible refine k_notV ?_ | with_reducible refine k_if ?_
  | with_reducible refine k_nil ?_ | with_reducible refine k_cons ?_ | with_reducible refine k_tup ?_ | with_reducible refine k_lst ?_ | with_reducible refine k_call ?_ | with_reducible refine k_cb ?_ | with_reducible refine k_ck ?_
  | with_reducible refine k_par ?_ | with_reducible refine k_par1 ?_ | with_reducible refine k_tr ?_ | with_reducible refine k_rI0 ?_ | with_reducible refine k_rU ?_
  | with_reducible refine k_gN ?_ | with_reducible refine k_gS ?_ | with_reducible refine k_gNil ?_ | with_reducible refine k_gCons ?_ | with_reducible refine k_bm0 ?_ | with_reducible refine k_bm ?_
  | with_reducible refine k_for ?_ | with_reducible refine k_iL ?_ | with_reducible refine k_iT ?_ | with_reducible refine k_iR1 ?_ | ((with_reducible refine k_iR1i ?e ?_); (case e => first | decide | exact ⟨by omega, by omega⟩))
  | with_reducible refine k_max ?_ | with_reducible refine k_isB ?_ | with_reducible refine k_sl ?_ | with_reducible refine k_noP ?_ | with_reducible refine k_part ?_ | with_reducible refine k_partI ?_ | with_reducible refine k_revL ?_
  | ((with_reducible refine' k_ixqT ?e ?f ?_); (case e => walk_at "sq"); (case f => first | exact rfl | exact atI_head))
  | ((with_reducible refine' k_ixqL ?e ?f ?_); (case e => walk_at "sq"); (case f => first | exact rfl | exact atI_head))
  | ((with_reducible refine' k_lenL ?e ?_); (case e => walk_at "sq"))
  | ((with_reducible refine' k_lenT ?e ?_); (case e => walk_at "sq"))
  | ((with_reducible refine' k_ixL ?e ?f ?_); (case e => walk_at "sq"); (case f => first | exact rfl | exact atI_head))
  | ((with_reducible refine' k_ixT ?e ?f ?_); (case e => walk_at "sq"); (case f => first | exact rfl | exact atI_head))
  | ((with_reducible refine k_eq ?e ?_); (case e => exact rfl)) | ((with_reducible refine k_ne ?e ?_); (case e => exact rfl))
  | ((with_reducible refine k_rI ?e ?_); (case e => first | assumption | omega | decide | exact ⟨by omega, by omega⟩ | exact .inl ⟨by omega, by omega⟩ | exact .inr ⟨by omega, by omega⟩)))
local macro_rules | `(tactic| walk_at "rd") => `(tactic| repeat walk_at "r1")
-- steps end
/-! ### the walk over items in a comprehension -/
theorem lc_items {d : Addr} {o : Obj} {kvs : List (Key × V)} {g : TG} {tt : TT} {te : TE} {vs : List Nat} {σ : L2.St} {H1 : Hp} {D : Addr} {Qd : Hp → Prop} (Pv : Nat → Hp → Prop) (h0 : Pv 0 (upd H1 D (.lst []))) (hl : ∀ i H, i ≤ kvs.length → Pv i H → H d = some (.frz o (.dK kvs)))
    (hs : ∀ i k v T H, kvs[i]? = some (k, v) → Pv i H → H T = none → g (.ref T) (wipe σ vs) (upd H T (.tup [kV k, v])) fun σ2 H2 => wipe σ2 vs = wipe σ vs ∧ tt σ2 H2 fun b H3 =>
      if b = true then te σ2 H3 fun y H4 => ∃ acc, H4 D = some (.lst acc) ∧ acc.length < sizeLine ∧ Pv (i + 1) (upd H4 D (.lst (acc ++ [y]))) else Pv (i + 1) H3) (hd : ∀ H, Pv kvs.length H → Qd H) :
    ∃ W : Nat → Nat → Hp → Prop, (∃ m, W 0 m (upd H1 D (.lst []))) ∧ ∀ i m H, W i m H →
      ((Iti d o kvs).stop i H ∧ Qd H) ∨ ((Iti d o kvs).go i H ∧ ∃ Nx : Hp → Prop, (∀ H', Nx H' → ∃ m', m' < m ∧ W (i + 1) m' H') ∧ ∀ x H', (Iti d o kvs).yld i H x H' → g x (wipe σ vs) H' fun σ2 H2 => wipe σ2 vs = wipe σ vs ∧ tt σ2 H2 fun b H3 =>
        if b = true then te σ2 H3 fun y H4 => ∃ acc, H4 D = some (.lst acc) ∧ acc.length < sizeLine ∧ Nx (upd H4 D (.lst (acc ++ [y]))) else Nx H3) := by
  refine ⟨fun i m H => m = kvs.length - i ∧ i ≤ kvs.length ∧ Pv i H, ⟨kvs.length, rfl, Nat.zero_le _, h0⟩, ?_⟩
  rintro i m H ⟨rfl, hi, p⟩
  by_cases lt : i < kvs.length
  · refine .inr ⟨⟨hl i H hi p, lt⟩, fun H' => Pv (i + 1) H', fun H' q => ⟨kvs.length - (i + 1), by omega, rfl, lt, q⟩, ?_⟩
    rintro x H' ⟨T, k, v, hk, rfl, hT, rfl⟩
    exact hs i k v T H hk p hT
  · have e : i = kvs.length := by omega
    subst e
    exact .inl ⟨⟨hl _ H hi p, Nat.le_refl _⟩, hd H p⟩
theorem same_off {H H' : Hp} {p : Addr} {o : HO} (s : Same H H') (n : H p = none) : Same H (upd H' p o) := fun a u e => by
  rw [upd_ne (ne_of_none e n)]
  exact s a u e
def beyond (r : Str) (pl : Option (List Int)) (xs : List Int) : Bool := match pl with | none => true | some ys => first r ys xs
def PlAt (H : Hp) (v : V) (pl : Option (List Int)) : Prop := match pl with | none => v = .non | some ys => ∃ a, v = .ref a ∧ H a = some (.tup (ys.map V.int))
/-- the rows that are asked for -/
def asked (r : Str) (c : Nat) (pl : Option (List Int)) (lo hi : Option Int) (m : Rows) : Rows := (m.filter (within r c lo hi)).filter fun row => beyond r pl (placeL r c row)
/-- no other one comes first -/
def Least (r : Str) (c : Nat) (xs : Rows) (row : Int × List Int) : Prop := row ∈ xs ∧ ∀ o ∈ xs, first r (placeL r c o) (placeL r c row) = false
/-! ### lists of places -/
def numV : V → Int | .int i => i | _ => 0
def kf (H : Hp) (t : Addr) : List Int := match H t with | some (.tup xs) => xs.map numV | _ => []
theorem kf_at {H : Hp} {t : Addr} {xs : List Int} (h : H t = some (.tup (xs.map V.int))) : kf H t = xs := by
  unfold kf
  rw [h]
  show (xs.map V.int).map numV = xs
  rw [List.map_map]
  exact (List.map_congr_left fun _ _ => rfl).trans (List.map_id _)
theorem pmem {α β : Type} {F : α → β → Prop} : ∀ {xs : List α} {ys : List β}, Paired F xs ys → ∀ {x : α}, x ∈ xs → ∃ y, y ∈ ys ∧ F x y
  | _, _, .cons a r, x, h => by
    rcases List.mem_cons.mp h with rfl | h
    · exact ⟨_, List.mem_cons_self, a⟩
    · obtain ⟨y, h1, h2⟩ := pmem r h
      exact ⟨y, List.mem_cons_of_mem _ h1, h2⟩
theorem pmem2 {α β : Type} {F : α → β → Prop} : ∀ {xs : List α} {ys : List β}, Paired F xs ys → ∀ {y : β}, y ∈ ys → ∃ x, x ∈ xs ∧ F x y
  | _, _, .cons a r, y, h => by
    rcases List.mem_cons.mp h with rfl | h
    · exact ⟨_, List.mem_cons_self, a⟩
    · obtain ⟨x, h1, h2⟩ := pmem2 r h
      exact ⟨x, List.mem_cons_of_mem _ h1, h2⟩
theorem tups_dp {K : PySem.W.Frag} {H : Hp} : ∀ {us : List Addr}, (∀ t ∈ us, H t = some (.tup ((kf H t).map V.int))) → DpAll K H (us.map V.ref) (us.map fun t => tupD (kf H t))
  | [], _ => .nil
  | t :: us, h => .cons (.tup (SqT.of (h t List.mem_cons_self)) (dpAll_ints _)) (tups_dp fun u hu => h u (List.mem_cons_of_mem _ hu))
theorem tups_can (k : Addr → List Int) : ∀ us : List Addr, PyData.canLayAll0 (us.map fun t => tupD (k t)) = true
  | [] => rfl
  | t :: us => by
    show (PyData.canLayAll0 ((k t).map PyData.int) && _) = true
    rw [canLay_tup, tups_can k us]
    rfl
theorem tups_depth (k : Addr → List Int) : ∀ us : List Addr, PyData.depthAll (us.map fun t => tupD (k t)) ≤ 1
  | [] => Nat.zero_le _
  | t :: us => by
    show max (PyData.depthAll ((k t).map PyData.int) + 1) _ ≤ 1
    rw [depth_ints]
    exact Nat.max_le.mpr ⟨Nat.le_refl _, tups_depth k us⟩
theorem eq_lst0 {K : PySem.W.Frag} {H : Hp} {Q : VK} {B E : Addr} {us : List Addr} (hB : H B = some (.lst (us.map V.ref))) (hE : H E = some (.lst [])) (F : ∀ t ∈ us, H t = some (.tup ((kf H t).map V.int))) (q : Q (.bl us.isEmpty) H) : rEqD K (.ref B) (.ref E) H Q := by
  refine ⟨.list (us.map fun t => tupD (kf H t)), .list [], .lst (SqL.of hB) (tups_dp F), .lst (SqL.of hE) .nil, ?_, by decide +kernel, ?_⟩
  · show (PyData.canLayAll0 _ && decide (PyData.depthAll _ + 1 ≤ 64)) = true
    rw [tups_can, decide_eq_true (by have := tups_depth (kf H) us; omega)]
    rfl
  · cases us with
    | nil => exact q
    | cons t us => exact q
theorem place_last (r : Str) (c : Nat) (row : Int × List Int) : atI ((placeL r c row).map V.int) (-1) = some (V.int row.1) := by
  unfold placeL
  split <;> rfl
theorem get_of : ∀ {m : Rows}, (keysR m).Nodup → ∀ {row : Int × List Int}, row ∈ m → getR m row.1 = row.2
  | r0 :: m, nd, row, h => by
    have nd' : r0.1 ∉ keysR m ∧ (keysR m).Nodup := List.nodup_cons.mp nd
    unfold getR
    rcases List.mem_cons.mp h with rfl | h
    · simp
    · have ne : ¬ r0.1 = row.1 := fun z => nd'.1 (by rw [z]; exact List.mem_map.mpr ⟨row, h, rfl⟩)
      have z := get_of nd'.2 h
      unfold getR at z
      simpa [ne] using z
section
variable {P : Program} {w : World} {K : PySem.W.Frag} {mg : Str → Option Value} {base : Heap} {C : Addr}
def spNext (C : Addr) : Sp := fun vs H Q _ => ∃ (p pt dx d : Addr) (m : Rows) (z : Int) (r : Str) (c : Nat) (pv : V) (pl : Option (List Int)) (lo hi : Option Int), vs = [.ref p, .ref pt, pv, EndV lo, EndV hi] ∧ TableAt C H p dx d m z ∧ RoadAt H pt r c ∧ PlAt H pv pl ∧
  (∀ row ∈ m, HasCol r c row) ∧ (keysR m).Nodup ∧ m.length ≤ 1000 ∧ (asked r c pl lo hi m = [] → ∀ H', Same H H' → Q .non H') ∧
  ∀ row t H', Least r c (asked r c pl lo hi m) row → Same H H' → RowAt H' t row → Q (.ref t) H'
theorem ok_next {f : Addr} {fd : FuncData} {dvs : List V} {kws : List (Str × V)} (F : FunD K "next_row" "LiveTable.next_row" (defArgs s_LiveTable_next_row) (defBody s_LiveTable_next_row) (defScope s_LiveTable_next_row) dvs kws f fd) (T : Txt K C)
    (z_max : mg "max" = none) (z_min : mg "min" = none)
    (C_place : CalF P w K mg base "place_of" 1 ["path", "row"] spPlace) (C_first : CalF P w K mg base "comes_first" 1 ["path", "place", "other"] spFirst) (C_within : CalF P w K mg base "_is_within" 1 ["path", "row", "least", "most"] spWithin) :
    FnOk P w K mg base CX0 2 f fd ["self", "path", "place", "least", "most"] (spNext C) := by
  have nd := sc_LiveTable_next_row.nd
  refine F.ok sc_LiveTable_next_row (fun vs H Q E h => ?_) (fun cdv A up s H vs Q E hr h => ?_)
  · obtain ⟨p, pt, dx, d, m, z, r, c, pv, pl, lo, hi, rfl, _⟩ := h
    rfl
  · obtain ⟨p, pt, dx, d, m, z, r, c, pv0, pl, lo, hi, rfl, T0, hp, hpl, hcol, hnd, hlen, k1, k2⟩ := h
    have hu := hu_of hr
    refine ⟨_, pss_cons (ps_lock (ps_setLc (i := 5) (own := [("row", 8)]) (g := gName 8) (tt := tB (tCall spWithin [] E0 (tCons (tVar 1) (tCons (tVar 8) (tCons (tVar 3) (tCons (tVar 4) tNil)))))) (te := tCall spPlace [] E0 (tCons (tVar 1) (tCons (tVar 8) tNil))) (by rfl) nd rfl rfl (sw_true rfl rfl rfl (by decide +kernel))
        (pi_itemsN (pe_fld (pv 0) rfl))
        (blkOk_by (own := [("row", 8)]) (N := ["self", "path", "place", "least", "most", "places", "behind", "number", "row", "found"]) (sc := defScope s_LiveTable_next_row) (by decide +kernel))
        (fun _ _ _ _ _ => pg_name (i := 8) nd rfl (.inl rfl)) (fun _ _ _ _ _ => by exact (pts_one (pt_val (pe_cf C_within (hr.mono (by decide)) (pa_cons (pv 1) (pa_cons (pv 8) (pa_cons (pv 3) (pa_cons (pv 4) pa_nil))))))))
        (fun _ _ _ _ _ => by exact (pe_cf C_place (hr.mono (by decide)) (pa_cons (pv 1) (pa_cons (pv 8) pa_nil))))))
      (pss_cons (ps_setLc (i := 6) (own := [("found", 9)]) (g := gName 9) (tt := tOr (tB (tIsN (tVar 2))) (tB (tCall spFirst [] E0 (tCons (tVar 1) (tCons (tVar 2) (tCons (tVar 9) tNil)))))) (te := tVar 9) (by rfl) nd rfl rfl (sw_true rfl rfl rfl (by decide +kernel))
        (pi_list (pv 5))
        (blkOk_by (own := [("found", 9)]) (N := ["self", "path", "place", "least", "most", "places", "behind", "number", "row", "found"]) (sc := defScope s_LiveTable_next_row) (by decide +kernel))
        (fun _ _ _ _ _ => pg_name (i := 9) nd rfl (.inl rfl)) (fun _ _ _ _ _ => by exact (pts_one (PW.pt (pw_or (pt_cmp (pc_isN (pv 2))) (pw_or1 (pt_val (pe_cf C_first (hr.mono (by decide)) (pa_cons (pv 1) (pa_cons (pv 2) (pa_cons (pv 9) pa_nil))))))))))
        (fun _ _ _ _ _ => pv 9))
      (pss_cons (ps_if (pt_cmpR (op_eqD hr.units) (pv 6) (pe_lst pa_nil) (nomark _)) (pss_one (ps_ret pe_non)) pss_nil)
      (pss_cons (ps_set (i := 7) nd rfl (.inl rfl) (pe_ix ix_seq (pe_ifExp (pt_cmpR op_eq (pe_ix ix_seq (pv 1) pe_int (fun _ _ => rfl)) pe_str (nomark _))
          (pe_callB (call_maxT rfl hr.units) (by rfl) z_max (by decide +kernel) (pa_cons (pv 6) pa_nil)) (pe_callB (call_minT rfl hr.units) (by rfl) z_min (by decide +kernel) (pa_cons (pv 6) pa_nil))) (pe_un un_neg pe_int) (fun _ _ => rfl)))
      (pss_one (ps_ret (pe_tup (pa_cons (pv 7) (pa_cons (pe_dget hu (pe_fld (pv 0) rfl) (pv 7) (fun _ _ => rfl)) pa_nil)))))))), ?_⟩
    walk_at "rd"
    obtain ⟨hpi, kvs, hd, he⟩ := id T0
    have lk : kvs.length = m.length := he.length
    refine ⟨d, .dK kvs, hd, True.intro, fun od => ?_⟩
    have hz1 : upd H d (.frz od (.dK kvs)) d = some (.frz od (.dK kvs)) := upd_same
    have kp1 : ∀ a o, a ≠ d → H a = some o → upd H d (.frz od (.dK kvs)) a = some o := fun a o n e => by rw [upd_ne n]; exact e
    generalize upd H d (.frz od (.dK kvs)) = H1 at hz1 kp1 ⊢
    have npd : p ≠ d := ne_of hpi hd (by intro z; cases z)
    have ntd : ∀ {a : Addr} {xs : List V}, H a = some (.tup xs) → a ≠ d := fun e => ne_of e hd (by intro z; cases z)
    walk_at "rd"
    unfold tLc iItems
    refine ⟨_, rfl, p, C, dx, _, _, rfl, kp1 _ _ npd hpi, T.cl, T.nR, flds_rows _ _, d, od, kvs, rfl, hz1, fun D hD => ?_⟩
    have hDd : D ≠ d := (ne_of_none hz1 hD).symm
    have old : ∀ {a : Addr} {o : HO}, a ≠ d → H a = some o → a ≠ D := fun n e => ne_of_none (kp1 _ _ n e) hD
    refine lc_items (fun i H' => H' d = some (.frz od (.dK kvs)) ∧ (∀ a o, a ≠ d → H a = some o → H' a = some o) ∧ ∃ ts : List Addr, H' D = some (.lst (ts.map V.ref)) ∧ ts.length ≤ i ∧
        Paired (fun t row => H' t = some (.tup ((placeL r c row).map V.int))) ts ((m.take i).filter (within r c lo hi))) ?_ (fun i H' _ h => h.1) (fun i k v U H' hk h hU => ?_) (fun H' h => ?_)
    · exact ⟨lk_new hz1 hD, fun a o n e => lk_new (kp1 a o n e) hD, [], upd_same, Nat.le_refl _, .nil⟩
    · obtain ⟨hz, kp, ts, hL, lts, hps⟩ := h
      obtain ⟨row, hrow, hk1, u, hv, hu1⟩ := pget he hk
      dsimp only at hk1 hv
      subst hk1
      subst hv
      have hlt : i < m.length := (List.getElem?_eq_some_iff.mp hrow).1
      have hc := hcol row (List.mem_of_getElem? hrow)
      have tk : Tups H (upd H' U (.tup [V.int row.1, V.ref u])) := fun a xs e => lk_new (kp a _ (ntd e) e) hU
      have hr0 : RowAt (upd H' U (.tup [V.int row.1, V.ref u])) U row := ⟨u, upd_same, tk _ _ hu1⟩
      have tk' : List.filter (within r c lo hi) (m.take (i + 1)) = List.filter (within r c lo hi) (m.take i) ++ (if within r c lo hi row = true then [row] else []) := by
        rw [List.take_add_one, hrow, List.filter_append]
        congr 1
        show List.filter (within r c lo hi) [row] = _
        rw [List.filter_cons]
        rfl
      rw [show kV (Sum.inl row.1 : Key) = V.int row.1 from rfl]
      walk_at "rd"
      refine ⟨rfl, ?_⟩
      walk_at "rd"
      refine ⟨pt, U, r, c, row, lo, hi, rfl, hp.keep tk, hr0, hc, ?_⟩
      walk_at "rd"
      cases hw : within r c lo hi row with
      | false =>
        refine iteF ?_
        rw [hw, if_neg Bool.false_ne_true, List.append_nil] at tk'
        refine ⟨lk_new hz hU, fun a o n e => lk_new (kp a o n e) hU, ts, lk_new hL hU, Nat.le_succ_of_le lts, ?_⟩
        rw [tk']
        exact Paired.mapP hps fun a b e => lk_new e hU
      | true =>
        refine iteT ?_
        rw [hw, if_pos rfl] at tk'
        walk_at "rd"
        refine ⟨pt, U, r, c, row, rfl, hp.keep tk, hr0, hc, fun q hq => ?_⟩
        have hz2 := lk_new (o := .tup ((placeL r c row).map V.int)) (lk_new (o := .tup [V.int row.1, V.ref u]) hz hU) hq
        have hL2 := lk_new (o := .tup ((placeL r c row).map V.int)) (lk_new (o := .tup [V.int row.1, V.ref u]) hL hU) hq
        have hq2 : upd (upd H' U (.tup [V.int row.1, V.ref u])) q (.tup ((placeL r c row).map V.int)) q = some (.tup ((placeL r c row).map V.int)) := upd_same
        have kp2 : ∀ a o, a ≠ d → H a = some o → upd (upd H' U (.tup [V.int row.1, V.ref u])) q (.tup ((placeL r c row).map V.int)) a = some o := fun a o n e => lk_new (lk_new (kp a o n e) hU) hq
        have hp2 := Paired.mapP hps fun a b e => lk_new (o := .tup ((placeL r c row).map V.int)) (lk_new (o := .tup [V.int row.1, V.ref u]) e hU) hq
        generalize upd (upd H' U (.tup [V.int row.1, V.ref u])) q (.tup ((placeL r c row).map V.int)) = H2 at hz2 hL2 hq2 kp2 hp2 ⊢
        refine ⟨ts.map V.ref, hL2, k_szL (by rw [List.length_map]; omega), ?_⟩
        have e1 : ts.map V.ref ++ [V.ref q] = (ts ++ [q]).map V.ref := by simp
        rw [e1, tk']
        have x3 : Tups H2 (upd H2 D (.lst ((ts ++ [q]).map V.ref))) := tups_upd hL2 fun xs z => by cases z
        refine ⟨by rw [upd_ne hDd.symm]; exact hz2, fun a o n e => by rw [upd_ne (old n e)]; exact kp2 a o n e, ts ++ [q], upd_same, by simp [lts], Paired.snoc (Paired.mapP hp2 fun a b e => x3 _ _ e) (x3 _ _ hq2)⟩
    · obtain ⟨hz, kp, ts, hL, lts, hps⟩ := h
      rw [lk, List.take_length] at hps
      walk_at "rd"
      refine ⟨hz, ?_⟩
      have s3 : Same H (upd H' d (.dK kvs)) := fun a o e => by
        by_cases n : a = d
        · subst n
          rw [upd_same, ← e, hd]
        · rw [upd_ne n]
          exact kp a o n e
      have hL3 : upd H' d (.dK kvs) D = some (.lst (ts.map V.ref)) := by rw [upd_ne hDd]; exact hL
      have x3 : Tups H' (upd H' d (.dK kvs)) := tups_upd hz fun xs z => by cases z
      have hps3 := Paired.mapP hps fun a b e => x3 _ _ e
      generalize upd H' d (.dK kvs) = H3 at s3 hL3 hps3 ⊢
      walk_at "rd"
      refine ⟨D, rfl, ⟨_, SqL.of hL3⟩, fun B hB => ?_⟩
      have nDB : D ≠ B := ne_of_none hL3 hB
      refine lc_list (xs := ts.map V.ref) (fun j H' => Same H3 H' ∧ ∃ us : List Addr, H' B = some (.lst (us.map V.ref)) ∧ us.length ≤ j ∧
        Paired (fun t row => H3 t = some (.tup ((placeL r c row).map V.int))) us (((m.filter (within r c lo hi)).take j).filter fun row => beyond r pl (placeL r c row))) ⟨Same.upd hB, [], upd_same, Nat.le_refl _, .nil⟩ (fun j H' _ h => SqL.of (h.1 _ _ hL3)) (fun j x H4 hx h => ?_) (fun H4 h => ?_)
      · obtain ⟨s4, us, hB4, lus, hpu⟩ := h
        rw [List.getElem?_map] at hx
        obtain ⟨t, ht, rfl⟩ := Option.map_eq_some_iff.mp hx
        obtain ⟨row, hrow, hpt⟩ := pget hps3 ht
        have tk' : List.filter (fun row => beyond r pl (placeL r c row)) ((m.filter (within r c lo hi)).take (j + 1)) = List.filter (fun row => beyond r pl (placeL r c row)) ((m.filter (within r c lo hi)).take j) ++ (if beyond r pl (placeL r c row) = true then [row] else []) := by
          rw [List.take_add_one, hrow, List.filter_append]
          congr 1
          show List.filter (fun row => beyond r pl (placeL r c row)) [row] = _
          rw [List.filter_cons]
          rfl
        have hjl : j < ts.length := (List.getElem?_eq_some_iff.mp ht).1
        have fin : ∀ b : Bool, b = beyond r pl (placeL r c row) → if b = true then tVar 9 (List.set [some (.ref p), some (.ref pt), some pv0, some (EndV lo), some (EndV hi), some (.ref D), none, none, none, none] 9 (some (.ref t))) H4 fun y H5 => ∃ acc, H5 B = some (.lst acc) ∧ acc.length < sizeLine ∧
            (Same H3 (upd H5 B (.lst (acc ++ [y]))) ∧ ∃ us : List Addr, upd H5 B (.lst (acc ++ [y])) B = some (.lst (us.map V.ref)) ∧ us.length ≤ j + 1 ∧ Paired (fun t row => H3 t = some (.tup ((placeL r c row).map V.int))) us (((m.filter (within r c lo hi)).take (j + 1)).filter fun row => beyond r pl (placeL r c row)))
          else (Same H3 H4 ∧ ∃ us : List Addr, H4 B = some (.lst (us.map V.ref)) ∧ us.length ≤ j + 1 ∧ Paired (fun t row => H3 t = some (.tup ((placeL r c row).map V.int))) us (((m.filter (within r c lo hi)).take (j + 1)).filter fun row => beyond r pl (placeL r c row))) := by
          intro b hb
          subst hb
          rw [tk']
          cases beyond r pl (placeL r c row) with
          | true =>
            refine iteT ⟨_, rfl, us.map V.ref, hB4, k_szL (by rw [List.length_map]; omega), same_off s4 hB, us ++ [t], ?_, by simp [lus], ?_⟩
            · rw [upd_same]
              simp
            · rw [if_pos rfl]
              exact Paired.snoc hpu hpt
          | false =>
            refine iteF ⟨s4, us, hB4, Nat.le_succ_of_le lus, ?_⟩
            rw [if_neg Bool.false_ne_true, List.append_nil]
            exact hpu
        walk_at "rd"
        refine ⟨rfl, ?_⟩
        walk_at "rd"
        refine k_isN ?_
        walk_at "rd"
        cases pl with
        | none =>
          obtain rfl : pv0 = V.non := hpl
          exact k_iteD (fun _ => fin true rfl) fun z => absurd rfl z
        | some ys =>
          obtain ⟨a, rfl, ha⟩ := hpl
          refine k_iteD (fun z => by cases z) fun _ => ?_
          walk_at "rd"
          refine ⟨pt, a, t, r, c, ys, placeL r c row, rfl, hp.keep (Tups.same (s3.trans s4)), s4 _ _ (s3 _ _ ha), s4 _ _ hpt, ?_⟩
          walk_at "rd"
          exact fin _ rfl
      · obtain ⟨s4, us, hB4, lus, hpu⟩ := h
        rw [show (ts.map V.ref).length = (m.filter (within r c lo hi)).length by rw [List.length_map]; exact Paired.length hps3, List.take_length] at hpu
        have asked_ : List.filter (fun row => beyond r pl (placeL r c row)) (m.filter (within r c lo hi)) = asked r c pl lo hi m := rfl
        rw [asked_] at hpu
        walk_at "rd"
        refine ⟨k_sz rfl, fun E1 hE => ?_⟩
        have hB5 := lk_new (o := .lst []) hB4 hE
        have s5 : Same H3 (upd H4 E1 (.lst [])) := s4.trans (Same.upd hE)
        have hE5 : upd H4 E1 (.lst []) E1 = some (.lst []) := upd_same
        generalize upd H4 E1 (.lst []) = H5 at hB5 s5 hE5 ⊢
        have s0 : Same H H5 := s3.trans s5
        have F5 : ∀ t ∈ us, H5 t = some (.tup ((kf H5 t).map V.int)) := fun t ht => by
          obtain ⟨row, _, e⟩ := pmem hpu ht
          have e5 := s5 _ _ e
          rw [kf_at e5]
          exact e5
        refine eq_lst0 hB5 hE5 F5 ?_
        walk_at "rd"
        cases us with
        | nil =>
          have e : asked r c pl lo hi m = [] := by
            have z := Paired.length hpu
            exact List.eq_nil_of_length_eq_zero (by simpa using z.symm)
          refine iteT ?_
          walk_at "rd"
          exact k1 e H5 s0
        | cons t0 us =>
        refine iteF ?_
        obtain ⟨rest, hp5⟩ := (hp.keep (Tups.same s0)).head
        have tail : ∀ t ∈ t0 :: us, (∀ u ∈ t0 :: us, first r (kf H5 u) (kf H5 t) = false) → ∃ row, Least r c (asked r c pl lo hi m) row ∧ H5 t = some (.tup ((placeL r c row).map V.int)) ∧ row ∈ m := fun t ht hm => by
          obtain ⟨row, hrow, e⟩ := pmem hpu ht
          refine ⟨row, ⟨hrow, fun o ho => ?_⟩, s5 _ _ e, (List.mem_filter.mp (List.mem_filter.mp hrow).1).1⟩
          obtain ⟨u, hu, e2⟩ := pmem2 hpu ho
          have z := hm u hu
          rw [kf_at (s5 _ _ e2), kf_at (s5 _ _ e)] at z
          exact z
        have last : ∀ t ∈ t0 :: us, (∀ u ∈ t0 :: us, first r (kf H5 u) (kf H5 t) = false) → ∃ row, Least r c (asked r c pl lo hi m) row ∧ row ∈ m ∧ ∀ Q' : VK, Q' (.int row.1) H5 → rIx K (.ref t) (.int (-1)) H5 Q' := fun t ht hm => by
          obtain ⟨row, hl, e, hm2⟩ := tail t ht hm
          exact ⟨row, hl, hm2, fun Q' q => k_ixqT (SqT.of e) (place_last r c row) q⟩
        have done : ∀ row, Least r c (asked r c pl lo hi m) row → row ∈ m → tRet (tTup (tCons (tVar 7) (tCons (tDGet (tFld K (tVar 0) "_rows") (tVar 7)) tNil))) { nx := fun _ H' => Q .non H', rt := Q } [some (.ref p), some (.ref pt), some pv0, some (EndV lo), some (EndV hi), some (.ref D), some (.ref B), some (.int row.1), none, none] H5 := fun row hl hm => by
          walk_at "rd"
          obtain ⟨tv, hv, htv⟩ := he.get (hasR_iff.mpr (List.mem_map.mpr ⟨row, hm, rfl⟩))
          rw [get_of hnd hm] at htv
          have hg : DGet H5 d (.int row.1) (some (.ref tv)) := by
            have y := DGet.k (k := Sum.inl row.1) (s0 _ _ hd)
            rw [hv] at y
            exact y
          refine ⟨_, rfl, p, C, dx, _, _, rfl, s0 _ _ hpi, T.cl, T.nR, flds_rows _ _, _, rfl, d, V.ref tv, rfl, hg, ?_⟩
          refine ⟨k_sz rfl, fun q hq => ?_⟩
          exact k2 row q _ hl (s0.trans (Same.upd hq)) ⟨tv, upd_same, lk_new (s0 _ _ htv) hq⟩
        walk_at "rd"
        refine k_iteD (fun e => ?_) fun e => ?_
        · obtain rfl := V.str.inj e
          walk_at "rd"
          refine ⟨B, t0 :: us, kf H5, rfl, List.cons_ne_nil _ _, SqL.of hB5, F5, fun t ht hm => ?_⟩
          obtain ⟨row, hl, hm2, q⟩ := last t ht fun u hu => (show (if ("down" : Str) = "down" then _ else _) = false from (if_pos rfl).trans (hm u hu))
          walk_at "rd"
          refine q _ (k_gN ?_)
          exact done row hl hm2
        · walk_at "rd"
          refine ⟨B, t0 :: us, kf H5, rfl, List.cons_ne_nil _ _, SqL.of hB5, F5, fun t ht hm => ?_⟩
          obtain ⟨row, hl, hm2, q⟩ := last t ht fun u hu => (show (if r = "down" then _ else _) = false from (if_neg fun z => e (congrArg V.str z)).trans (hm u hu))
          walk_at "rd"
          refine q _ (k_gN ?_)
          exact done row hl hm2
end
end K22

set_option Elab.async false
set_option maxRecDepth 100000
set_option maxHeartbeats 1000000
set_option linter.unusedVariables false
namespace K22
open PySem PySem.Spec PyProof.Rows L2 Own
-- steps
local macro_rules | `(tactic| walk_at "lk") => `(tactic| first
  | assumption | exact upd_same
  | ((with_reducible refine' lk_new ?e (by assumption)); (case e => walk_at "lk"))
  | ((with_reducible refine' lk_ext (by assumption) ?e); (case e => walk_at "lk"))
  | ((with_reducible refine' lk_same (by assumption) ?e); (case e => walk_at "lk")))
local macro_rules | `(tactic| walk_at "sq") => `(tactic| first | assumption | exact SqL.of (by walk_at "lk") | exact SqT.of (by walk_at "lk"))
local macro_rules | `(tactic| walk_at "r1") => `(tactic| first
  | with_reducible refine k_seq ?_ | with_reducible refine k_asg ?_ | with_reducible refine k_ret ?_ | with_reducible refine k_drop ?_ | with_reducible refine k_next ?_ | with_reducible refine k_ifS ?_
  | ((with_reducible refine' k_var ?e ?_); (case e => exact rfl)) | with_reducible refine k_c ?_ | with_reducible refine k_op ?_ | with_reducible refine k_un ?_ | with_reducible refine k_test ?_ | with_reducible refine k_B ?_
  | with_reducible refine k_and ?_ | with_reducible refine k_or ?_ | with_reducible refine k_not ?_ | with_reducible refine k_andV ?_ | with_reducible refine k_orV ?_ | with_reducible refine k_notV ?_ | with_reducible refine k_if ?_
  | with_reducible refine k_nil ?_ | with_reducible refine k_cons ?_ | with_reducible refine k_tup ?_ | with_reducible refine k_lst ?_ | with_reducible refine k_call ?_ | with_reducible refine k_cb ?_ | with_reducible refine k_ck ?_
  | with_reducible refine k_par ?_ | with_reducible refine k_par1 ?_ | with_reducible refine k_tr ?_ | with_reducible refine k_rI0 ?_ | with_reducible refine k_rU ?_
  | with_reducible refine k_gN ?_ | with_reducible refine k_gS ?_ | with_reducible refine k_gNil ?_ | with_reducible refine k_gCons ?_ | with_reducible refine k_bm0 ?_ | with_reducible refine k_bm ?_
  | with_reducible refine k_for ?_ | with_reducible refine k_iL ?_ | with_reducible refine k_iT ?_ | with_reducible refine k_iR1 ?_ | ((with_reducible refine k_iR1i ?e ?_); (case e => first | decide | exact ⟨by omega, by omega⟩))
  | with_reducible refine k_max ?_ | with_reducible refine k_isB ?_ | with_reducible refine k_sl ?_ | with_reducible refine k_noP ?_ | with_reducible refine k_part ?_ | with_reducible refine k_partI ?_ | with_reducible refine k_revL ?_
  | ((with_reducible refine' k_ixqT ?e ?f ?_); (case e => walk_at "sq"); (case f => first | exact rfl | exact atI_head))
  | ((with_reducible refine' k_ixqL ?e ?f ?_); (case e => walk_at "sq"); (case f => first | exact rfl | exact atI_head))
  | ((with_reducible refine' k_lenL ?e ?_); (case e => walk_at "sq"))
  | ((with_reducible refine' k_lenT ?e ?_); (case e => walk_at "sq"))
  | ((with_reducible refine' k_ixL ?e ?f ?_); (case e => walk_at "sq"); (case f => first | exact rfl | exact atI_head))
  | ((with_reducible refine' k_ixT ?e ?f ?_); (case e => walk_at "sq"); (case f => first | exact rfl | exact atI_head))
  | ((with_reducible refine k_eq ?e ?_); (case e => exact rfl)) | ((with_reducible refine k_ne ?e ?_); (case e => exact rfl))
  | ((with_reducible refine k_rI ?e ?_); (case e => first | assumption | omega | decide | exact ⟨by omega, by omega⟩ | exact .inl ⟨by omega, by omega⟩ | exact .inr ⟨by omega, by omega⟩)))
local macro_rules | `(tactic| walk_at "rd") => `(tactic| repeat walk_at "r1")
-- steps end
/-! ### the order of places -/
theorem lex_tot : ∀ {a b : List Int}, a.length = b.length → HT.lexLt a b = false → HT.lexLt b a = false → a = b
  | [], [], _, _, _ => rfl
  | x :: a, y :: b, l, h1, h2 => by
    rw [HT.lexLt_cons] at h1 h2
    by_cases e : x = y
    · subst e
      rw [if_pos rfl] at h1 h2
      rw [lex_tot (Nat.succ.inj l) h1 h2]
    · rw [if_neg e] at h1
      rw [if_neg fun z => e z.symm] at h2
      have a1 := of_decide_eq_false h1
      have a2 := of_decide_eq_false h2
      omega
theorem first_irr (r : Str) (a : List Int) : first r a a = false := by
  unfold first
  split <;> exact lex_irr a
theorem first_asym {r : Str} {a b : List Int} (h : first r a b = true) : first r b a = false := by
  unfold first at h ⊢
  split at h
  · rename_i e
    rw [if_pos e]
    exact NtL.lex_asym _ _ h
  · rename_i e
    rw [if_neg e]
    exact NtL.lex_asym _ _ h
theorem first_tot {r : Str} {a b : List Int} (l : a.length = b.length) (h1 : first r a b = false) (h2 : first r b a = false) : a = b := by
  unfold first at h1 h2
  split at h1
  · rename_i e
    rw [if_pos e] at h2
    exact lex_tot l h2 h1
  · rename_i e
    rw [if_neg e] at h2
    exact lex_tot l h1 h2
theorem first_tr {r : Str} {a b d : List Int} (h1 : first r a b = true) (h2 : first r b d = true) (l : a.length = d.length) : first r a d = true := by
  cases h : first r a d with
  | true => rfl
  | false =>
    exfalso
    have a1 := first_asym h1
    have a2 := first_asym h2
    unfold first at *
    split at h
    · rename_i e
      rw [if_pos e] at a1 a2 h1 h2
      have z := NtL.lex_tr _ _ _ a1 h
      rw [z] at h2
      cases h2
    · rename_i e
      rw [if_neg e] at a1 a2 h1 h2
      have z := NtL.lex_tr _ _ _ a2 h
      rw [z] at h1
      cases h1
theorem place_len {r : Str} {c : Nat} {x y : Int × List Int} : (placeL r c x).length = (placeL r c y).length := by
  unfold placeL
  split <;> rfl
theorem place_num {r : Str} {c : Nat} {x y : Int × List Int} (h : placeL r c x = placeL r c y) : x.1 = y.1 := by
  unfold placeL at h
  split at h
  · exact (List.cons.inj h).1
  · exact (List.cons.inj (List.cons.inj h).2).1
theorem row_eq {m : Rows} (nd : (keysR m).Nodup) {x y : Int × List Int} (hx : x ∈ m) (hy : y ∈ m) (h : x.1 = y.1) : x = y := by
  have a := get_of nd hx
  have b := get_of nd hy
  rw [h, b] at a
  exact Prod.ext h a.symm
theorem asked_in {r : Str} {c : Nat} {pl : Option (List Int)} {lo hi : Option Int} {m : Rows} {x : Int × List Int} : x ∈ asked r c pl lo hi m ↔ x ∈ m.filter (within r c lo hi) ∧ beyond r pl (placeL r c x) = true := List.mem_filter
theorem asked_lt {r : Str} {c : Nat} {pl : Option (List Int)} {lo hi : Option Int} {m : Rows} {x : Int × List Int} (h : x ∈ asked r c pl lo hi m) (l : ∀ ys, pl = some ys → ys.length = (placeL r c x).length) :
    (asked r c (some (placeL r c x)) lo hi m).length < (asked r c pl lo hi m).length := by
  have e : asked r c (some (placeL r c x)) lo hi m = (asked r c pl lo hi m).filter fun y => first r (placeL r c x) (placeL r c y) := by
    unfold asked
    generalize m.filter (within r c lo hi) = W
    rw [List.filter_filter]
    refine List.filter_congr fun y _ => ?_
    show first r (placeL r c x) (placeL r c y) = (first r (placeL r c x) (placeL r c y) && beyond r pl (placeL r c y))
    cases h1 : first r (placeL r c x) (placeL r c y) with
    | false => rfl
    | true =>
      have h2 := (asked_in.mp h).2
      cases pl with
      | none => rfl
      | some ys => exact (first_tr (b := placeL r c x) h2 h1 ((l ys rfl).trans place_len)).symm
  rw [e]
  exact List.length_filter_lt_length_iff_exists.mpr ⟨x, h, by rw [first_irr]; exact Bool.false_ne_true⟩
def InTurn (r : Str) (c : Nat) (xs : Rows) : Prop := xs.Pairwise fun a b => first r (placeL r c a) (placeL r c b) = true
def lastP (r : Str) (c : Nat) (xs : Rows) : Option (List Int) := xs.getLast?.map (placeL r c)
end K22

set_option Elab.async false
set_option maxRecDepth 100000
set_option maxHeartbeats 1000000
set_option linter.unusedVariables false
namespace K22
open PySem PySem.Spec PyProof.Rows L2 Own
-- steps
local macro_rules | `(tactic| walk_at "lk") => `(tactic| first
  | assumption | exact upd_same
  | ((with_reducible refine' lk_new ?e (by assumption)); (case e => walk_at "lk"))
  | ((with_reducible refine' lk_ext (by assumption) ?e); (case e => walk_at "lk"))
  | ((with_reducible refine' lk_same (by assumption) ?e); (case e => walk_at "lk")))
local macro_rules | `(tactic| walk_at "sq") => `(tactic| first | assumption | exact SqL.of (by walk_at "lk") | exact SqT.of (by walk_at "lk"))
local macro_rules | `(tactic| walk_at "r1") => `(tactic| first
  | with_reducible refine k_seq ?_ | with_reducible refine k_asg ?_ | with_reducible refine k_ret ?_ | with_reducible refine k_drop ?_ | with_reducible refine k_next ?_ | with_reducible refine k_ifS ?_
  | ((with_reducible refine' k_var ?e ?_); (case e => exact rfl)) | with_reducible refine k_c ?_ | with_reducible refine k_op ?_ | with_reducible refine k_un ?_ | with_reducible refine k_test ?_ | with_reducible refine k_B ?_
  | with_reducible refine k_and ?_ | with_reducible refine k_or ?_ | with_reducible refine k_not ?_ | with_reducible refine k_andV ?_ | with_reducible refine k_orV ?_ | with_reducible refine k_notV ?_ | with_reducible refine k_if ?_
  | with_reducible refine k_nil ?_ | with_reducible refine k_cons ?_ | with_reducible refine k_tup ?_ | with_reducible refine k_lst ?_ | with_reducible refine k_call ?_ | with_reducible refine k_cb ?_ | with_reducible refine k_ck ?_
  | with_reducible refine k_par ?_ | with_reducible refine k_par1 ?_ | with_reducible refine k_tr ?_ | with_reducible refine k_rI0 ?_ | with_reducible refine k_rU ?_
  | with_reducible refine k_gN ?_ | with_reducible refine k_gS ?_ | with_reducible refine k_gNil ?_ | with_reducible refine k_gCons ?_ | with_reducible refine k_bm0 ?_ | with_reducible refine k_bm ?_
  | with_reducible refine k_for ?_ | with_reducible refine k_iL ?_ | with_reducible refine k_iT ?_ | with_reducible refine k_iR1 ?_ | ((with_reducible refine k_iR1i ?e ?_); (case e => first | decide | exact ⟨by omega, by omega⟩))
  | with_reducible refine k_max ?_ | with_reducible refine k_isB ?_ | with_reducible refine k_sl ?_ | with_reducible refine k_noP ?_ | with_reducible refine k_part ?_ | with_reducible refine k_partI ?_ | with_reducible refine k_revL ?_
  | ((with_reducible refine' k_ixqT ?e ?f ?_); (case e => walk_at "sq"); (case f => first | exact rfl | exact atI_head))
  | ((with_reducible refine' k_ixqL ?e ?f ?_); (case e => walk_at "sq"); (case f => first | exact rfl | exact atI_head))
  | ((with_reducible refine' k_lenL ?e ?_); (case e => walk_at "sq"))
  | ((with_reducible refine' k_lenT ?e ?_); (case e => walk_at "sq"))
  | ((with_reducible refine' k_ixL ?e ?f ?_); (case e => walk_at "sq"); (case f => first | exact rfl | exact atI_head))
  | ((with_reducible refine' k_ixT ?e ?f ?_); (case e => walk_at "sq"); (case f => first | exact rfl | exact atI_head))
  | ((with_reducible refine k_eq ?e ?_); (case e => exact rfl)) | ((with_reducible refine k_ne ?e ?_); (case e => exact rfl))
  | ((with_reducible refine k_rI ?e ?_); (case e => first | assumption | omega | decide | exact ⟨by omega, by omega⟩ | exact .inl ⟨by omega, by omega⟩ | exact .inr ⟨by omega, by omega⟩)))
local macro_rules | `(tactic| walk_at "rd") => `(tactic| repeat walk_at "r1")
-- steps end
theorem gsc_scan : GScope ["self", "path", "least", "most", "row", "place"] ["self", "path", "least", "most"] (defScope s_LiveTable_scan) := ⟨rfl, rfl, rfl, by decide +kernel, rfl, by decide +kernel, by decide +kernel⟩
theorem k_gthen {t u : TGn} {D : GEnds} {ys : List V} {σ : L2.St} {H : Hp} (h : t { D with nx := fun ys' σ' H' => u D ys' σ' H' } ys σ H) : tGThen t u D ys σ H := h
theorem k_gplain {t : TS} {D : GEnds} {ys : List V} {σ : L2.St} {H : Hp} (h : t (D.at ys) σ H) : tPlain t D ys σ H := h
theorem k_gyield {te : TE} {D : GEnds} {ys : List V} {σ : L2.St} {H : Hp} (l : ys.length < sizeLine) (h : te σ H fun x H1 => D.nx (ys ++ [x]) σ H1) : tGYield te D ys σ H := ⟨l, h⟩
theorem k_notN {ta : TE} {σ : L2.St} {H : Hp} {Q : VK} (h : ta σ H fun x H1 => Q (.bl (!decide (x = .non))) H1) : tNotN ta σ H Q := h
theorem passA {X : Cx} {σ : L2.St} {E : XK} : PassesAt CX0 X σ E := fun _ _ _ _ _ _ h => h.elim
def gN2 : List Value → List Value → List Value := fun us ws => us ++ (.none :: ws)
def gN2V : List V → List V → List V := fun us ws => us ++ (.non :: ws)
def gN3 : List Value → List Value → List Value := fun us ws => us ++ ws
def gN3V : List V → List V → List V := fun us ws => us ++ ws
structure Nxt (P : Program) (w : World) (K : PySem.W.Frag) (mg : Str → Option Value) (base : Heap) (C : Addr) : Prop where
  tx : Txt K C
  nx : ∃ f fd, Meth K C "next_row" f ∧ FnOk P w K mg base CX0 2 f fd ["self", "path", "place", "least", "most"] (spNext C) ∧ KBn K fd ["self", "path", "place", "least", "most"] 2 ["least", "most"] gN2 gN2V ∧ KBn K fd ["self", "path", "place", "least", "most"] 3 ["least", "most"] gN3 gN3V
section
variable {P : Program} {w : World} {K : PySem.W.Frag} {mg : Str → Option Value} {base : Heap} {C : Addr}
def spScan (C : Addr) : SpG := fun vs H cont _ => ∃ (p pt dx d : Addr) (m : Rows) (z : Int) (r : Str) (c : Nat) (lo hi : Option Int), vs = [.ref p, .ref pt, EndV lo, EndV hi] ∧ TableAt C H p dx d m z ∧ RoadAt H pt r c ∧ (∀ row ∈ m, HasCol r c row) ∧ (keysR m).Nodup ∧ m.length ≤ 1000 ∧
  ∀ (ts : List Addr) (rows : Rows) (H' : Hp), Same H H' → Paired (RowAt H') ts rows → InTurn r c rows → (∀ x, x ∈ rows ↔ x ∈ m.filter (within r c lo hi)) → cont (ts.map V.ref) H'
theorem ok_scan {f : Addr} {oc kV doc pm cdv ct : Value} {dV : Value} {an od : Option Addr} {osl : Array (Option Value)} (lk : K.lookup f = some ⟨oc, od, .func (PySem.W.fnOf "scan" "LiveTable.scan" (defArgs s_LiveTable_scan) (defBody s_LiveTable_scan) (defScope s_LiveTable_scan) dV kV doc pm an cdv ct), osl⟩)
    (hcd : PySem.W.codeIn K cdv "LiveTable.scan" = true) (T : Nxt P w K mg base C) (C_place : CalF P w K mg base "place_of" 1 ["path", "row"] spPlace) :
    GFn P w K mg base 3 f (PySem.W.fnOf "scan" "LiveTable.scan" (defArgs s_LiveTable_scan) (defBody s_LiveTable_scan) (defScope s_LiveTable_scan) dV kV doc pm an cdv ct) ["self", "path", "least", "most"] (spScan C) := by
  have nd := gsc_scan.nd
  obtain ⟨fn, fdn, mN, FN, kb2, kb3⟩ := T.nx
  refine gfn_of lk hcd gsc_scan (fun vs H Q E h => ?_) fun A outer s H vs Q E pn hr h => ?_
  · obtain ⟨p, pt, dx, d, m, z, r, c, lo, hi, rfl, _⟩ := h
    rfl
  · obtain ⟨p, pt, dx, d, m, z, r, c, lo, hi, rfl, T0, hp, hcol, hnd, hlen, k⟩ := h
    refine ⟨_, gss_cons (gs_ps (ps_set (i := 4) nd rfl (.inl rfl) (pe_mk1 (E := fun _ => E0) (pv 0) T.tx.cl mN FN (hr.mono (by decide)) kb2 (fun σ => passA) (pa_cons (pv 1) pa_nil) (pk_cons (pv 2) (pk_cons (pv 3) pk_nil)))))
      (gss_cons (gs_while owns_gcx (pt_cmp (pc_notN (pv 4)))
        (gss_cons (gs_ps (ps_set (i := 5) nd rfl (.inl rfl) (pe_cf C_place (hr.mono (by decide)) (pa_cons (pv 1) (pa_cons (pv 4) pa_nil)))))
        (gss_cons (gs_yield (pv 4))
        (gss_cons (gs_ps (ps_set (i := 4) nd rfl (.inl rfl) (pe_mk1 (E := fun _ => E0) (pv 0) T.tx.cl mN FN (hr.mono (by decide)) kb3 (fun σ => passA) (pa_cons (pv 1) (pa_cons (pv 5) pa_nil)) (pk_cons (pv 2) (pk_cons (pv 3) pk_nil)))))
        gss_nil)))) gss_nil), ?_⟩
    refine k_gthen (k_gplain ?_)
    walk_at "rd"
    let Iv : Nat → List V → L2.St → Hp → Prop := fun n ys σ H' => ∃ (ts : List Addr) (dn : Rows) (pl : Option (List Int)) (o5 : Option V) (rv : V), ys = ts.map V.ref ∧ σ = [some (.ref p), some (.ref pt), some (EndV lo), some (EndV hi), some rv, o5] ∧ Same H H' ∧ Paired (RowAt H') ts dn ∧ InTurn r c dn ∧
      (∀ x ∈ dn, x ∈ m.filter (within r c lo hi)) ∧ (∀ ys, pl = some ys → ∃ y : Int × List Int, ys = placeL r c y) ∧ (∀ x ∈ dn, ∀ y : Int × List Int, beyond r pl (placeL r c y) = true → first r (placeL r c x) (placeL r c y) = true) ∧
      (∀ x ∈ m.filter (within r c lo hi), x ∈ dn ∨ beyond r pl (placeL r c x) = true) ∧ dn.length + (asked r c pl lo hi m).length ≤ m.length ∧ n = (asked r c pl lo hi m).length ∧
      ((rv = .non ∧ asked r c pl lo hi m = []) ∨ ∃ row t, rv = .ref t ∧ Least r c (asked r c pl lo hi m) row ∧ RowAt H' t row)
    have ask : ∀ (pl : Option (List Int)) (ts : List Addr) (dn : Rows) (o5 : Option V) (H' : Hp), Same H H' → Paired (RowAt H') ts dn → InTurn r c dn → (∀ x ∈ dn, x ∈ m.filter (within r c lo hi)) → (∀ ys, pl = some ys → ∃ y : Int × List Int, ys = placeL r c y) →
        (∀ x ∈ dn, ∀ y : Int × List Int, beyond r pl (placeL r c y) = true → first r (placeL r c x) (placeL r c y) = true) → (∀ x ∈ m.filter (within r c lo hi), x ∈ dn ∨ beyond r pl (placeL r c x) = true) → dn.length + (asked r c pl lo hi m).length ≤ m.length →
        ∀ (pv : V) (Q' : VK), PlAt H' pv pl → (∀ rv H2, Iv (asked r c pl lo hi m).length (ts.map V.ref) [some (.ref p), some (.ref pt), some (EndV lo), some (EndV hi), some rv, o5] H2 → Q' rv H2) →
          spNext C [.ref p, .ref pt, pv, EndV lo, EndV hi] H' Q' E0 := by
      intro pl ts dn o5 H' s1 hps it hin hpl h4 h5 hl pv Q' hpv q
      refine ⟨p, pt, dx, d, m, z, r, c, pv, pl, lo, hi, rfl, T0.keep (Tups.same s1) (fun o e => s1 _ _ e) (fun o e => s1 _ _ e), hp.keep (Tups.same s1), hpv, hcol, hnd, hlen, fun e H2 s2 => q _ _ ?_, fun row t H2 hle s2 hrt => q _ _ ?_⟩
      · exact ⟨ts, dn, pl, o5, .non, rfl, rfl, s1.trans s2, Paired.mapP hps fun a b h => h.keep (Tups.same s2), it, hin, hpl, h4, h5, hl, rfl, .inl ⟨rfl, e⟩⟩
      · exact ⟨ts, dn, pl, o5, .ref t, rfl, rfl, s1.trans s2, Paired.mapP hps fun a b h => h.keep (Tups.same s2), it, hin, hpl, h4, h5, hl, rfl, .inr ⟨row, t, rfl, hle, hrt⟩⟩
    refine ⟨_, rfl, p, dx, _, rfl, T0.1, flds_no _ _ (by decide +kernel) (by decide +kernel), ?_⟩
    walk_at "rd"
    refine ⟨rfl, rfl, ?_⟩
    refine ask none [] [] none H (Same.refl _) .nil List.Pairwise.nil (fun x h => by simp at h) (fun ys e => by cases e) (fun x h => by simp at h) (fun x _ => .inr rfl) ?_ .non _ rfl fun rv H1 hI => ?_
    · have z1 : (asked r c none lo hi m).length ≤ (m.filter (within r c lo hi)).length := List.length_filter_le _ _
      have z2 := List.length_filter_le (within r c lo hi) m
      show 0 + _ ≤ _
      omega
    refine k_gN ?_
    dsimp only [GEnds.at]
    refine k_gthen ?_
    refine ⟨Iv, ⟨_, hI⟩, fun n ys σ H2 hI2 => ?_⟩
    obtain ⟨ts, dn, pl, o5, rv2, rfl, rfl, s2, hps, it, hin, hpl, h4, h5, hl, hn, hrv⟩ := hI2
    refine k_B (k_notN ?_)
    walk_at "rd"
    rcases hrv with ⟨rfl, e0⟩ | ⟨row, t, rfl, hle, hrt⟩
    · refine iteF ?_
      exact k ts dn H2 s2 hps it fun x => ⟨hin x, fun hx => (h5 x hx).resolve_right fun hb => by
        have z1 : x ∈ asked r c pl lo hi m := asked_in.mpr ⟨hx, hb⟩
        rw [e0] at z1
        simp at z1⟩
    · refine iteT ?_
      refine ⟨fun ys σ H => ∃ n', n' < n ∧ Iv n' ys σ H, fun _ _ _ h => h, ?_⟩
      obtain ⟨hra, hrl⟩ := hle
      have hrw := (asked_in.mp hra).1
      have hrm := (List.mem_filter.mp hrw).1
      refine k_gthen (k_gplain ?_)
      walk_at "rd"
      refine ⟨pt, t, r, c, row, rfl, hp.keep (Tups.same s2), hrt, hcol row hrm, fun q hq => ?_⟩
      refine k_gN ?_
      dsimp only [GEnds.at]
      refine k_gthen (k_gyield ?_ ?_)
      · rw [List.length_map, Paired.length hps]
        exact k_szL (by omega)
      walk_at "rd"
      dsimp only
      refine k_gthen (k_gplain ?_)
      walk_at "rd"
      have s3 : Same H (upd H2 q (.tup ((placeL r c row).map V.int))) := s2.trans (Same.upd hq)
      refine ⟨_, rfl, p, dx, _, rfl, s3 _ _ T0.1, flds_no _ _ (by decide +kernel) (by decide +kernel), ?_⟩
      walk_at "rd"
      refine ⟨rfl, rfl, ?_⟩
      have hlt := asked_lt (pl := pl) (lo := lo) (hi := hi) (m := m) hra fun ys e => by
        obtain ⟨y, rfl⟩ := hpl ys e
        exact place_len
      refine ask (some (placeL r c row)) (ts ++ [t]) (dn ++ [row]) (some (.ref q)) _ s3 (Paired.snoc (Paired.mapP hps fun a b h => h.keep (tups_new hq)) (hrt.keep (tups_new hq))) ?_ ?_ (fun ys e => ⟨row, (Option.some.inj e).symm⟩) ?_ ?_ ?_ (.ref q) _ ⟨q, rfl, upd_same⟩ fun rv H3 hI3 => ?_
      · exact List.pairwise_append.mpr ⟨it, List.pairwise_singleton _ _, fun a ha b hb => by
          rw [List.mem_singleton.mp hb]
          exact h4 a ha row (asked_in.mp hra).2⟩
      · intro x hx
        rcases List.mem_append.mp hx with hx | hx
        · exact hin x hx
        · rw [List.mem_singleton.mp hx]
          exact hrw
      · intro x hx y hy
        rcases List.mem_append.mp hx with hx | hx
        · exact first_tr (h4 x hx row (asked_in.mp hra).2) hy place_len
        · rw [List.mem_singleton.mp hx]
          exact hy
      · intro x hx
        rcases h5 x hx with h | h
        · exact .inl (List.mem_append_left _ h)
        · by_cases e : x = row
          · exact .inl (List.mem_append_right _ (List.mem_singleton.mpr e))
          · refine .inr ?_
            show first r (placeL r c row) (placeL r c x) = true
            cases hb : first r (placeL r c row) (placeL r c x) with
            | true => rfl
            | false =>
              exfalso
              have z1 := first_tot place_len hb (hrl x (asked_in.mpr ⟨hx, h⟩))
              exact e (row_eq hnd (List.mem_filter.mp hx).1 hrm (place_num z1).symm)
      · rw [List.length_append]
        show dn.length + 1 + _ ≤ _
        omega
      · refine k_gN ?_
        have e1 : (ts ++ [t]).map V.ref = ts.map V.ref ++ [V.ref t] := by simp
        rw [e1] at hI3
        dsimp only [GEnds.at, tG0]
        exact ⟨_, by rw [hn]; exact hlt, hI3⟩
end
end K22

set_option Elab.async false
set_option maxRecDepth 100000
set_option maxHeartbeats 1000000
set_option linter.unusedVariables false
namespace K22
open PySem PySem.Spec PyProof.Rows L2 Own
-- steps
local macro_rules | `(tactic| walk_at "lk") => `(tactic| first
  | assumption | exact upd_same
  | ((with_reducible refine' lk_new ?e (by assumption)); (case e => walk_at "lk"))
  | ((with_reducible refine' lk_ext (by assumption) ?e); (case e => walk_at "lk"))
  | ((with_reducible refine' lk_same (by assumption) ?e); (case e => walk_at "lk")))
local macro_rules | `(tactic| walk_at "sq") => `(tactic| first | assumption | exact SqL.of (by walk_at "lk") | exact SqT.of (by walk_at "lk"))
local macro_rules | `(tactic| walk_at "r1") => `(tactic| first
  | with_reducible refine k_seq ?_ | with_reducible refine k_asg ?_ | with_reducible refine k_ret ?_ | with_reducible refine k_drop ?_ | with_reducible refine k_next ?_ | with_reducible refine k_ifS ?_
  | ((with_reducible refine' k_var ?e ?_); (case e => exact rfl)) | with_reducible refine k_c ?_ | with_reducible refine k_op ?_ | with_reducible refine k_un ?_ | with_reducible refine k_test ?_ | with_reducible refine k_B ?_
  | with_reducible refine k_and ?_ | with_reducible refine k_or ?_ | with_reducible refine k_not ?_ | with_reducible refine k_andV ?_ | with_reducible refine k_orV ?_ | with_reducible refine k_notV ?_ | with_reducible refine k_if ?_
  | with_reducible refine k_nil ?_ | with_reducible refine k_cons ?_ | with_reducible refine k_tup ?_ | with_reducible refine k_lst ?_ | with_reducible refine k_call ?_ | with_reducible refine k_cb ?_ | with_reducible refine k_ck ?_
  | with_reducible refine k_par ?_ | with_reducible refine k_par1 ?_ | with_reducible refine k_tr ?_ | with_reducible refine k_rI0 ?_ | with_reducible refine k_rU ?_
  | with_reducible refine k_gN ?_ | with_reducible refine k_gS ?_ | with_reducible refine k_gNil ?_ | with_reducible refine k_gCons ?_ | with_reducible refine k_bm0 ?_ | with_reducible refine k_bm ?_
  | with_reducible refine k_for ?_ | with_reducible refine k_iL ?_ | with_reducible refine k_iT ?_ | with_reducible refine k_iR1 ?_ | ((with_reducible refine k_iR1i ?e ?_); (case e => first | decide | exact ⟨by omega, by omega⟩))
  | with_reducible refine k_max ?_ | with_reducible refine k_isB ?_ | with_reducible refine k_sl ?_ | with_reducible refine k_noP ?_ | with_reducible refine k_part ?_ | with_reducible refine k_partI ?_ | with_reducible refine k_revL ?_
  | ((with_reducible refine' k_ixqT ?e ?f ?_); (case e => walk_at "sq"); (case f => first | exact rfl | exact atI_head))
  | ((with_reducible refine' k_ixqL ?e ?f ?_); (case e => walk_at "sq"); (case f => first | exact rfl | exact atI_head))
  | ((with_reducible refine' k_lenL ?e ?_); (case e => walk_at "sq"))
  | ((with_reducible refine' k_lenT ?e ?_); (case e => walk_at "sq"))
  | ((with_reducible refine' k_ixL ?e ?f ?_); (case e => walk_at "sq"); (case f => first | exact rfl | exact atI_head))
  | ((with_reducible refine' k_ixT ?e ?f ?_); (case e => walk_at "sq"); (case f => first | exact rfl | exact atI_head))
  | ((with_reducible refine k_eq ?e ?_); (case e => exact rfl)) | ((with_reducible refine k_ne ?e ?_); (case e => exact rfl))
  | ((with_reducible refine k_rI ?e ?_); (case e => first | assumption | omega | decide | exact ⟨by omega, by omega⟩ | exact .inl ⟨by omega, by omega⟩ | exact .inr ⟨by omega, by omega⟩)))
local macro_rules | `(tactic| walk_at "rd") => `(tactic| repeat walk_at "r1")
-- steps end
section
variable {P : Program} {w : World} {K : PySem.W.Frag} {mg : Str → Option Value} {g0 : Heap} {C : Addr}
/-! ### the law's own looks -/
theorem ok_spot {f : Addr} {fd : FuncData} (F : Fun K "_law_spot" "_law_spot" s_spot f fd) : GOk P w K mg g0 CX0 1 f fd ["_law_road_here", "_law_row"] spPlace := by
  have nd := sc_spot.nd
  refine okG F sc_spot (fun vs H Q E h => ?_) (fun cdv A up s H vs Q E qt hr h => ?_)
  · obtain ⟨p, t, r, c, row, rfl, _⟩ := h
    rfl
  · obtain ⟨p, t, r, c, row, rfl, hp, ⟨u, h1, h2⟩, hc, k⟩ := h
    obtain ⟨rest, hp0⟩ := hp.head
    refine ⟨_, (pss_one (ps_ret (pe_ifExp (pt_cmpR op_eq (pe_ix ix_seq (pv 0) pe_int (fun _ _ => rfl)) pe_str (nomark _)) (pe_tup (pa_cons (pe_ix ix_seq (pv 1) pe_int (fun _ _ => rfl)) pa_nil)) (pe_tup (pa_cons (pe_ix ix_seq (pe_ix ix_seq (pv 1) pe_int (fun _ _ => rfl)) (pe_ix ix_seq (pv 0) pe_int (fun _ _ => rfl)) (fun _ _ => rfl)) (pa_cons (pe_ix ix_seq (pv 1) pe_int (fun _ _ => rfl)) pa_nil)))))), ?_⟩
    walk_at "rd"
    refine k_iteD (fun e => ?_) (fun e => ?_)
    · obtain rfl := V.str.inj e
      walk_at "rd"
      refine ⟨k_sz rfl, fun q hq => ?_⟩
      walk_at "rd"
      have z := k q hq
      unfold placeL at z
      rw [if_pos rfl] at z
      exact z
    · have ne : ¬ r = "heap" := fun z => e (congrArg V.str z)
      have hp2 : H p = some (.tup [.str r, .int c]) := by
        rcases hp with ⟨z, _⟩ | ⟨_, z⟩
        · exact absurd z ne
        · exact z
      have lc : c < row.2.length := hc.resolve_left ne
      clear hp0
      walk_at "rd"
      refine k_ixqT (SqT.of h2) (col_at lc) ?_
      walk_at "rd"
      refine ⟨k_sz rfl, fun q hq => ?_⟩
      walk_at "rd"
      have z := k q hq
      unfold placeL at z
      rw [if_neg ne] at z
      exact z
def spBeyond : Sp := fun vs H Q _ => ∃ (p a : Addr) (r : Str) (c : Nat) (pv : V) (pl : Option (List Int)) (ys : List Int), vs = [.ref p, pv, .ref a] ∧ RoadAt H p r c ∧ PlAt H pv pl ∧ H a = some (.tup (ys.map V.int)) ∧ Q (.bl (beyond r pl ys)) H
theorem ok_beyond {f : Addr} {fd : FuncData} (F : Fun K "_law_beyond" "_law_beyond" s_beyond f fd) : GOk P w K mg g0 CX0 1 f fd ["_law_road_here", "_law_last", "_law_spot_here"] spBeyond := by
  have nd := sc_beyond.nd
  refine okG F sc_beyond (fun vs H Q E h => ?_) (fun cdv A up s H vs Q E qt hr h => ?_)
  · obtain ⟨p, a, r, c, pv, pl, ys, rfl, _⟩ := h
    rfl
  · obtain ⟨p, a, r, c, pv0, pl, ys, rfl, hp, hpl, ha, k⟩ := h
    obtain ⟨rest, hp0⟩ := hp.head
    refine ⟨_, (pss_cons (ps_if (pt_cmp (pc_isN (pv 1))) (pss_one (ps_ret pe_bl)) pss_nil)
        (pss_one (ps_ret (pe_ifExp (pt_cmpR op_eq (pe_ix ix_seq (pv 0) pe_int (fun _ _ => rfl)) pe_str (nomark _)) (pe_cmpR (op_ltT hr.units0) (pv 2) (pv 1) (nomark _)) (pe_cmpR (op_ltT hr.units0) (pv 1) (pv 2) (nomark _)))))), ?_⟩
    walk_at "rd"
    refine k_isN ?_
    walk_at "rd"
    cases pl with
    | none =>
      obtain rfl : pv0 = V.non := hpl
      refine k_iteD (fun _ => ?_) fun z => absurd rfl z
      walk_at "rd"
      exact k
    | some xs =>
      obtain ⟨b, rfl, hb⟩ := hpl
      refine k_iteD (fun z => by cases z) fun _ => ?_
      walk_at "rd"
      have k' : Q (.bl (first r xs ys)) H := k
      unfold first at k'
      refine k_iteD (fun e => ?_) (fun e => ?_)
      · walk_at "rd"
        refine k_ltT (SqT.of ha) (SqT.of hb) ?_
        rw [if_pos (V.str.inj e)] at k'
        exact k'
      · walk_at "rd"
        refine k_ltT (SqT.of hb) (SqT.of ha) ?_
        rw [if_neg (fun z => e (congrArg V.str z))] at k'
        exact k'
def spRoad : Sp := fun vs H Q _ => ∃ (d c : Addr) (b many : Int), vs = [.ref d, .int many] ∧ Deck d c b H ∧ b ≤ 500000000 ∧ 1 ≤ many ∧ many ≤ 3 ∧
  ∀ (t : Addr) (r : Str) (j : Nat) (H' : Hp), RoadAt H' t r j → (j : Int) < many → Deck d c (b + 2) H' → Ext (Dk d c) H H' → Q (.ref t) H'
theorem ok_road {f : Addr} {fd : FuncData} (F : Fun K "_law_road" "_law_road" s_road f fd) (C_draw : Cal P w K mg g0 "_law_draw" 1 ["_law_deck_here", "_law_many"] spDraw) : GOk P w K mg g0 CX0 2 f fd ["_law_deck_here", "_law_many"] spRoad := by
  have nd := sc_road.nd
  refine okG F sc_road (fun vs H Q E h => ?_) (fun cdv A up s H vs Q E qt hr h => ?_)
  · obtain ⟨d, c, b, many, rfl, _⟩ := h
    rfl
  · obtain ⟨d, c, b, many, rfl, D, hb, m0, m1, k⟩ := h
    refine ⟨_, (pss_cons (ps_set (i := 2) nd rfl (Or.inl rfl) (pe_c C_draw qt (hr.mono (by decide)) (pa_cons (pv 0) (pa_cons (pv 1) pa_nil))))
        (pss_one (ps_ret (pe_ix ix_seq (pe_lst (pa_cons (pe_tup (pa_cons pe_str pa_nil)) (pa_cons (pe_tup (pa_cons pe_str (pa_cons (pv 2) pa_nil))) (pa_cons (pe_tup (pa_cons pe_str (pa_cons (pv 2) pa_nil))) (pa_cons (pe_tup (pa_cons pe_str (pa_cons (pv 2) pa_nil))) (pa_cons (pe_tup (pa_cons pe_str (pa_cons (pv 2) pa_nil))) pa_nil)))))) (pe_c C_draw qt (hr.mono (by decide)) (pa_cons (pv 0) (pa_cons pe_int pa_nil))) (fun _ _ => rfl))))), ?_⟩
    walk_at "rd"
    refine ⟨d, c, b, many, rfl, D, by omega, by omega, by omega, fun at_ H1 a0 a1 D1 x1 => ?_⟩
    obtain ⟨j, rfl⟩ : ∃ j : Nat, at_ = (j : Int) := ⟨at_.toNat, by omega⟩
    walk_at "rd"
    refine ⟨k_sz rfl, fun t0 h0 => ?_⟩
    walk_at "rd"
    refine ⟨k_sz rfl, fun t1 h1 => ?_⟩
    walk_at "rd"
    refine ⟨k_sz rfl, fun t2 h2 => ?_⟩
    walk_at "rd"
    refine ⟨k_sz rfl, fun t3 h3 => ?_⟩
    walk_at "rd"
    refine ⟨k_sz rfl, fun t4 h4 => ?_⟩
    walk_at "rd"
    refine ⟨k_sz rfl, fun l h5 => ?_⟩
    have q0 := lk_new (o := .lst [V.ref t0, .ref t1, .ref t2, .ref t3, .ref t4]) (lk_new (o := .tup [.str "down", .int j]) (lk_new (o := .tup [.str "up", .int j]) (lk_new (o := .tup [.str "down", .int j]) (lk_new (o := .tup [.str "up", .int j]) (upd_same (H := H1) (a := t0) (o := .tup [.str "heap"])) h1) h2) h3) h4) h5
    have q1 := lk_new (o := .lst [V.ref t0, .ref t1, .ref t2, .ref t3, .ref t4]) (lk_new (o := .tup [.str "down", .int j]) (lk_new (o := .tup [.str "up", .int j]) (lk_new (o := .tup [.str "down", .int j]) (upd_same (H := upd H1 t0 (.tup [.str "heap"])) (a := t1) (o := .tup [.str "up", .int j])) h2) h3) h4) h5
    have q2 := lk_new (o := .lst [V.ref t0, .ref t1, .ref t2, .ref t3, .ref t4]) (lk_new (o := .tup [.str "down", .int j]) (lk_new (o := .tup [.str "up", .int j]) (upd_same (H := upd (upd H1 t0 (.tup [.str "heap"])) t1 (.tup [.str "up", .int j])) (a := t2) (o := .tup [.str "down", .int j])) h3) h4) h5
    have q3 := lk_new (o := .lst [V.ref t0, .ref t1, .ref t2, .ref t3, .ref t4]) (lk_new (o := .tup [.str "down", .int j]) (upd_same (H := upd (upd (upd H1 t0 (.tup [.str "heap"])) t1 (.tup [.str "up", .int j])) t2 (.tup [.str "down", .int j])) (a := t3) (o := .tup [.str "up", .int j])) h4) h5
    have q4 := lk_new (o := .lst [V.ref t0, .ref t1, .ref t2, .ref t3, .ref t4]) (upd_same (H := upd (upd (upd (upd H1 t0 (.tup [.str "heap"])) t1 (.tup [.str "up", .int j])) t2 (.tup [.str "down", .int j])) t3 (.tup [.str "up", .int j])) (a := t4) (o := .tup [.str "down", .int j])) h5
    have x2 : Ext (Dk d c) H (upd (upd (upd (upd (upd (upd H1 t0 (.tup [.str "heap"])) t1 (.tup [.str "up", .int j])) t2 (.tup [.str "down", .int j])) t3 (.tup [.str "up", .int j])) t4 (.tup [.str "down", .int j])) l (.lst [V.ref t0, .ref t1, .ref t2, .ref t3, .ref t4])) :=
      (((((x1.trans (ext_new h0)).trans (ext_new h1)).trans (ext_new h2)).trans (ext_new h3)).trans (ext_new h4)).trans (ext_new h5)
    have D2 := (((((D1.new h0 (o := .tup [.str "heap"])).new h1 (o := .tup [.str "up", .int j])).new h2 (o := .tup [.str "down", .int j])).new h3 (o := .tup [.str "up", .int j])).new h4 (o := .tup [.str "down", .int j])).new h5 (o := .lst [V.ref t0, .ref t1, .ref t2, .ref t3, .ref t4])
    have hl : upd (upd (upd (upd (upd (upd H1 t0 (.tup [.str "heap"])) t1 (.tup [.str "up", .int j])) t2 (.tup [.str "down", .int j])) t3 (.tup [.str "up", .int j])) t4 (.tup [.str "down", .int j])) l (.lst [V.ref t0, .ref t1, .ref t2, .ref t3, .ref t4]) l = some (.lst [V.ref t0, .ref t1, .ref t2, .ref t3, .ref t4]) := upd_same
    have nl : ¬ Dk d c l := ((((((D1.new h0 (o := .tup [.str "heap"])).new h1 (o := .tup [.str "up", .int j])).new h2 (o := .tup [.str "down", .int j])).new h3 (o := .tup [.str "up", .int j])).new h4 (o := .tup [.str "down", .int j]))).off h5
    generalize upd (upd (upd (upd (upd (upd H1 t0 (.tup [.str "heap"])) t1 (.tup [.str "up", .int j])) t2 (.tup [.str "down", .int j])) t3 (.tup [.str "up", .int j])) t4 (.tup [.str "down", .int j])) l (.lst [V.ref t0, .ref t1, .ref t2, .ref t3, .ref t4]) = H2 at q0 q1 q2 q3 q4 x2 D2 hl ⊢
    walk_at "rd"
    refine ⟨d, c, _, _, rfl, D2, by omega, by decide, by decide, fun i H3 i0 i1 D3 x3 => ?_⟩
    have hl3 := x3.2 _ _ nl hl
    have x4 := x2.trans x3
    have D4 : Deck d c (b + 2) H3 := D3.mono (by omega)
    have hi : i = 0 ∨ i = 1 ∨ i = 2 ∨ i = 3 ∨ i = 4 := by omega
    rcases hi with rfl | rfl | rfl | rfl | rfl
    · refine k_ixqL (SqL.of hl3) rfl ?_
      exact k t0 "heap" j H3 (.inl ⟨rfl, x3.1 _ _ q0⟩) a1 D4 x4
    · refine k_ixqL (SqL.of hl3) rfl ?_
      exact k t1 "up" j H3 (.inr ⟨.inl rfl, x3.1 _ _ q1⟩) a1 D4 x4
    · refine k_ixqL (SqL.of hl3) rfl ?_
      exact k t2 "down" j H3 (.inr ⟨.inr rfl, x3.1 _ _ q2⟩) a1 D4 x4
    · refine k_ixqL (SqL.of hl3) rfl ?_
      exact k t3 "up" j H3 (.inr ⟨.inl rfl, x3.1 _ _ q3⟩) a1 D4 x4
    · refine k_ixqL (SqL.of hl3) rfl ?_
      exact k t4 "down" j H3 (.inr ⟨.inr rfl, x3.1 _ _ q4⟩) a1 D4 x4
end
end K22

set_option Elab.async false
set_option maxRecDepth 100000
set_option maxHeartbeats 1000000
set_option linter.unusedVariables false
namespace K22
open PySem PySem.Spec PyProof.Rows L2 Own
-- steps
local macro_rules | `(tactic| walk_at "lk") => `(tactic| first
  | assumption | exact upd_same
  | ((with_reducible refine' lk_new ?e (by assumption)); (case e => walk_at "lk"))
  | ((with_reducible refine' lk_ext (by assumption) ?e); (case e => walk_at "lk"))
  | ((with_reducible refine' lk_same (by assumption) ?e); (case e => walk_at "lk")))
local macro_rules | `(tactic| walk_at "sq") => `(tactic| first | assumption | exact SqL.of (by walk_at "lk") | exact SqT.of (by walk_at "lk"))
local macro_rules | `(tactic| walk_at "r1") => `(tactic| first
  | with_reducible refine k_seq ?_ | with_reducible refine k_asg ?_ | with_reducible refine k_ret ?_ | with_reducible refine k_drop ?_ | with_reducible refine k_next ?_ | with_reducible refine k_ifS ?_
  | ((with_reducible refine' k_var ?e ?_); (case e => exact rfl)) | with_reducible refine k_c ?_ | with_reducible refine k_op ?_ | with_reducible refine k_un ?_ | with_reducible refine k_test ?_ | with_reducible refine k_B ?_
  | with_reducible refine k_and ?_ | with_reducible refine k_or ?_ | with_reducible refine k_not ?_ | with_reducible refine k_andV ?_ | with_reducible refine k_orV ?_ | with_reducible refine k_notV ?_ | with_reducible refine k_if ?_
  | with_reducible refine k_nil ?_ | with_reducible refine k_cons ?_ | with_reducible refine k_tup ?_ | with_reducible refine k_lst ?_ | with_reducible refine k_call ?_ | with_reducible refine k_cb ?_ | with_reducible refine k_ck ?_
  | with_reducible refine k_par ?_ | with_reducible refine k_par1 ?_ | with_reducible refine k_tr ?_ | with_reducible refine k_rI0 ?_ | with_reducible refine k_rU ?_
  | with_reducible refine k_gN ?_ | with_reducible refine k_gS ?_ | with_reducible refine k_gNil ?_ | with_reducible refine k_gCons ?_ | with_reducible refine k_bm0 ?_ | with_reducible refine k_bm ?_
  | with_reducible refine k_for ?_ | with_reducible refine k_iL ?_ | with_reducible refine k_iT ?_ | with_reducible refine k_iR1 ?_ | ((with_reducible refine k_iR1i ?e ?_); (case e => first | decide | exact ⟨by omega, by omega⟩))
  | with_reducible refine k_max ?_ | with_reducible refine k_isB ?_ | with_reducible refine k_sl ?_ | with_reducible refine k_noP ?_ | with_reducible refine k_part ?_ | with_reducible refine k_partI ?_ | with_reducible refine k_revL ?_
  | ((with_reducible refine' k_ixqT ?e ?f ?_); (case e => walk_at "sq"); (case f => first | exact rfl | exact atI_head))
  | ((with_reducible refine' k_ixqL ?e ?f ?_); (case e => walk_at "sq"); (case f => first | exact rfl | exact atI_head))
  | ((with_reducible refine' k_lenL ?e ?_); (case e => walk_at "sq"))
  | ((with_reducible refine' k_lenT ?e ?_); (case e => walk_at "sq"))
  | ((with_reducible refine' k_ixL ?e ?f ?_); (case e => walk_at "sq"); (case f => first | exact rfl | exact atI_head))
  | ((with_reducible refine' k_ixT ?e ?f ?_); (case e => walk_at "sq"); (case f => first | exact rfl | exact atI_head))
  | ((with_reducible refine k_eq ?e ?_); (case e => exact rfl)) | ((with_reducible refine k_ne ?e ?_); (case e => exact rfl))
  | ((with_reducible refine k_rI ?e ?_); (case e => first | assumption | omega | decide | exact ⟨by omega, by omega⟩ | exact .inl ⟨by omega, by omega⟩ | exact .inr ⟨by omega, by omega⟩)))
local macro_rules | `(tactic| walk_at "rd") => `(tactic| repeat walk_at "r1")
-- steps end
abbrev Small (v : Int) : Prop := -1000000000 ≤ v ∧ v ≤ 1000000000
theorem PE_imp {X : Cx} {e : Expr} {t t' : TE} (p : PE X e t) (h : ∀ σ H Q, t' σ H Q → t σ H Q) : PE X e t' := ⟨fun pins s σ H Q I q => p.run pins s σ H Q I (h σ H Q q)⟩
theorem PSs_imp {X : Cx} {ss : List Stmt} {t t' : TS} (p : PSs X ss t) (h : ∀ D σ H, t' D σ H → t D σ H) : PSs X ss t' := ⟨fun pins s σ H D I q => p.run pins s σ H D I (h D σ H q)⟩
theorem ext_off {M : Addr → Prop} {H H' : Hp} {p : Addr} {o : HO} (x : Ext M H H') (n : H p = none) : Ext M H (upd H' p o) := by
  refine ⟨fun a xs e => ?_, fun a u na e => ?_⟩
  · rw [upd_ne (ne_of_none e n)]
    exact x.1 a xs e
  · rw [upd_ne (ne_of_none e n)]
    exact x.2 a u na e
theorem Deck.offL {d c : Addr} {b : Int} {H H' : Hp} {p : Addr} {o : HO} (D : Deck d c b H') (n : ¬ Dk d c p) : Deck d c b (upd H' p o) := by
  obtain ⟨xs, m, k, ne, h1, h2, r⟩ := D
  have n1 : d ≠ p := fun z => n (.inl z.symm)
  have n2 : c ≠ p := fun z => n (.inr z.symm)
  exact ⟨xs, m, k, ne, by rw [upd_ne n1]; exact h1, by rw [upd_ne n2]; exact h2, r⟩
theorem Good.nil {z many : Int} : Good [] z many := ⟨List.nodup_nil, fun k h => by simp [keysR] at h, fun r h => by simp at h⟩
theorem Good.up {m : Rows} {z y many : Int} (g : Good m z many) (h : z ≤ y) : Good m y many := ⟨g.nd, fun k hk => ⟨(g.lt k hk).1, Int.lt_of_lt_of_le (g.lt k hk).2 h⟩, g.ok⟩
theorem Good.fresh {m : Rows} {z many : Int} (g : Good m z many) : hasR m z = false := by
  rw [Bool.eq_false_iff]
  intro h
  have := (g.lt z (hasR_iff.mp h)).2
  omega
theorem Good.put {m : Rows} {z n many : Int} {ws : List Int} (g : Good m z many) (h0 : 0 ≤ n) (hn : n < z) (l : (ws.length : Int) = many) (s : ∀ v ∈ ws, Small v) : Good (putR m n ws) z many := by
  refine ⟨?_, fun k hk => ?_, fun r hr => ?_⟩
  · rw [keys_put]
    split
    · exact g.nd
    · rename_i h
      refine List.nodup_append.mpr ⟨g.nd, by simp, fun a ha b hb e => ?_⟩
      rw [List.mem_singleton.mp hb] at e
      subst e
      exact h (hasR_iff.mpr ha)
  · rw [keys_put] at hk
    split at hk
    · exact g.lt k hk
    · rcases List.mem_append.mp hk with e | e
      · exact g.lt k e
      · rw [List.mem_singleton.mp e]
        exact ⟨h0, hn⟩
  · unfold putR at hr
    split at hr
    · obtain ⟨r0, hr0, rfl⟩ := List.mem_map.mp hr
      split
      · exact ⟨l, s⟩
      · exact g.ok r0 hr0
    · rcases List.mem_append.mp hr with e | e
      · exact g.ok r e
      · rw [List.mem_singleton.mp e]
        exact ⟨l, s⟩
theorem Good.drop {m : Rows} {z n many : Int} (g : Good m z many) : Good (dropR m n) z many := by
  refine ⟨?_, fun k hk => ?_, fun r hr => g.ok r (List.mem_filter.mp hr).1⟩
  · rw [keys_drop]
    exact g.nd.filter _
  · rw [keys_drop] at hk
    exact g.lt k (List.mem_filter.mp hk).1
theorem put_new {m : Rows} {n : Int} {ws : List Int} (h : hasR m n = false) : putR m n ws = m ++ [(n, ws)] := by
  unfold putR
  rw [if_neg (by rw [h]; exact Bool.false_ne_true)]
theorem put_len {m : Rows} {n : Int} {ws : List Int} : (putR m n ws).length ≤ m.length + 1 := by
  unfold putR
  split
  · rw [List.length_map]
    omega
  · rw [List.length_append]
    simp
theorem drop_len {m : Rows} {n : Int} : (dropR m n).length ≤ m.length := List.length_filter_le _ _
theorem Ext.tups {M : Addr → Prop} {H H' : Hp} (x : Ext M H H') : Tups H H' := x.1
def RowsT (H : Hp) (b : Addr) (m : Rows) : Prop := ∃ ts : List Addr, H b = some (.tup (ts.map V.ref)) ∧ Paired (RowAt H) ts m
theorem RowsT.keep {H H' : Hp} {b : Addr} {m : Rows} (r : RowsT H b m) (x : Tups H H') : RowsT H' b m := by
  obtain ⟨ts, h1, h2⟩ := r
  exact ⟨ts, x _ _ h1, Paired.mapP h2 fun a b h => h.keep x⟩
section
variable {P : Program} {w : World} {K : PySem.W.Frag} {mg : Str → Option Value} {g0 : Heap}
/-- one value -/
def tOne : TE := fun σ H Q => ∃ (d c : Addr) (b : Int) (s1 s2 s3 s4 s5 s6 s7 : Option V), σ = [some (.ref d), s1, s2, s3, s4, s5, s6, s7] ∧ Deck d c b H ∧ b ≤ 200000000 ∧
  ∀ (v : Int) (H' : Hp), Small v → Deck d c (b + 3) H' → Ext (Dk d c) H H' → Q (.int v) H'
def spRowsL : Sp := fun vs H Q _ => ∃ (d c : Addr) (b many most : Int), vs = [.ref d, .int many, .int most] ∧ Deck d c b H ∧ b ≤ 50000000 ∧ 1 ≤ many ∧ many ≤ 3 ∧ 0 ≤ most ∧ most ≤ 8 ∧
  ∀ (r bt : Addr) (after : Int) (m : Rows) (H' : Hp), H' r = some (.tup [.ref bt, .int after]) → RowsT H' bt m → Good m after many → (keysR m).Pairwise (· < ·) → (∀ k ∈ keysR m, k < 1000000000000) → 0 ≤ after → after ≤ 1000000000100 → m.length ≤ 8 → Deck d c (b + 200) H' → Ext (Dk d c) H H' → Q (.ref r) H'
theorem ok_rowsL {f : Addr} {fd : FuncData} (F : Fun K "_law_rows" "_law_rows" s_rows f fd) (z_tuple : mg "tuple" = none) (z_range : mg "range" = none)
    (C_draw : Cal P w K mg g0 "_law_draw" 1 ["_law_deck_here", "_law_many"] spDraw) (C_pick : Cal P w K mg g0 "_law_pick" 2 ["_law_deck_here", "_law_some"] spPick) : GOk P w K mg g0 CX0 3 f fd ["_law_deck_here", "_law_many", "_law_most_rows"] spRowsL := by
  have nd := sc_rows.nd
  refine okG F sc_rows (fun vs H Q E h => ?_) (fun cdv A up s H vs Q E qt hr h => ?_)
  · obtain ⟨d, c, b, many, most, rfl, _⟩ := h
    rfl
  · obtain ⟨d, c, b, many, most, rfl, D, hb, m0, m1, n0, n1, k⟩ := h
    refine ⟨_, (pss_cons (ps_par (i := 4) (j := 5) (by rfl) nd rfl rfl (by decide) rfl rfl (pa_cons (pe_lst pa_nil) (pa_cons (pe_op op_add (pe_ix ix_seq (pe_lst (pa_cons pe_int (pa_cons pe_int (pa_cons pe_int (pa_cons (pe_op op_sub (pe_op op_pow pe_int pe_int) pe_int) pa_nil))))) (pe_c C_draw qt (hr.mono (by decide)) (pa_cons (pv 0) (pa_cons pe_int pa_nil))) (fun _ _ => rfl)) (pe_c C_draw qt (hr.mono (by decide)) (pa_cons (pv 0) (pa_cons pe_int pa_nil)))) pa_nil)) (by rfl))
        (pss_cons (ps_for PassesOwn.never rfl (pi_range1 (by rfl) z_range (pa_cons (pe_c C_draw qt (hr.mono (by decide)) (pa_cons (pv 0) (pa_cons (pe_op op_add (pv 2) pe_int) pa_nil))) pa_nil)) (pg_name (i := 3) nd rfl (Or.inl rfl)) (pss_cons (ps_setLc (i := 6) (own := [("_law_j", 7)]) (te := tOne) (by rfl) nd rfl rfl (sw_true rfl rfl rfl (by decide +kernel)) (pi_range1 (by rfl) z_range (pa_cons (pv 1) pa_nil)) (blkOk_by (own := [("_law_j", 7)]) (N := ["_law_deck_here", "_law_many", "_law_most_rows", "_law_k", "_law_found", "_law_number", "_law_values", "_law_j"]) (sc := defScope s_rows) (by decide +kernel)) (fun _ _ _ _ _ => (pg_name (i := 7) nd rfl (Or.inl rfl))) (fun _ _ _ _ _ => pts_nil)
          (fun _ _ _ _ _ => by exact (PE_imp (pe_c C_pick qt (hr.mono (by decide)) (pa_cons (pv 0) (pa_cons (pe_lst (pa_cons (pe_c C_draw qt (hr.mono (by decide)) (pa_cons (pv 0) (pa_cons pe_int pa_nil))) (pa_cons (pe_op op_sub (pe_c C_draw qt (hr.mono (by decide)) (pa_cons (pv 0) (pa_cons pe_int pa_nil))) pe_int) (pa_cons (pe_op op_pow pe_int pe_int) pa_nil)))) pa_nil))) (fun σ H Q h => by
            obtain ⟨d, c, b, s1, s2, s3, s4, s5, s6, s7, rfl, D, hb, k⟩ := h
            walk_at "rd"
            refine ⟨d, c, b, _, rfl, D, by omega, by decide, by decide, fun v1 H1 r0 r1 D1 x1 => ?_⟩
            walk_at "rd"
            refine ⟨d, c, _, _, rfl, D1, by omega, by decide, by decide, fun v2 H2 r2 r3 D2 x2 => ?_⟩
            walk_at "rd"
            refine ⟨k_sz rfl, fun l hl => ?_⟩
            walk_at "rd"
            refine ⟨d, c, l, _, _, rfl, D2.new hl, by omega, D2.off hl, upd_same, by simp, by simp, fun x H3 hx D3 x3 => ?_⟩
            have x4 : Ext (Dk d c) H H3 := ((x1.trans x2).trans (ext_new hl)).trans x3
            have D4 : Deck d c (b + 3) H3 := D3.mono (by omega)
            simp only [List.mem_cons, List.not_mem_nil, or_false] at hx
            rcases hx with rfl | rfl | rfl
            · exact k _ H3 ⟨by omega, by omega⟩ D4 x4
            · exact k _ H3 ⟨by omega, by omega⟩ D4 x4
            · exact k _ H3 (by decide) D4 x4))))
        (pss_cons (ps_expr (pe_bm PySem.F.plainAttrs_list PySem.F.slot_list_append PySem.F.type_list_append mt_append (pv 4) (pa_cons (pe_tup (pa_cons (pv 5) (pa_cons (pe_callTy call_tuple_of (by rfl) z_tuple (by decide +kernel) (pa_cons (pv 6) pa_nil)) pa_nil))) pa_nil)))
        (pss_one (ps_set (i := 5) nd rfl (Or.inl rfl) (pe_op op_add (pe_op op_add (pv 5) pe_int) (pe_c C_draw qt (hr.mono (by decide)) (pa_cons (pv 0) (pa_cons pe_int pa_nil)))))))))
        (pss_one (ps_ret (pe_tup (pa_cons (pe_callTy call_tuple_of (by rfl) z_tuple (by decide +kernel) (pa_cons (pv 4) pa_nil)) (pa_cons (pe_op op_add (pv 5) (pe_c C_draw qt (hr.mono (by decide)) (pa_cons (pv 0) (pa_cons pe_int pa_nil)))) pa_nil))))))), ?_⟩
    walk_at "rd"
    refine ⟨k_sz rfl, fun L hL => ?_⟩
    have nL : ¬ Dk d c L := D.off hL
    have DL := D.new (o := .lst []) hL
    have gL0 : (upd H L (.lst [])) L = some (.lst []) := upd_same
    have yL : Ext (Dk d c) H (upd H L (.lst [])) := ext_new hL
    have sL : Same H (upd H L (.lst [])) := Same.upd hL
    generalize eL : upd H L (.lst []) = HL at DL gL0 yL sL ⊢
    walk_at "rd"
    refine ⟨k_sz rfl, fun l4 hl4 => ?_⟩
    have n4 : ¬ Dk d c l4 := DL.off hl4
    have D4 := DL.new (o := .lst [V.int 0, V.int 0, V.int 0, V.int (10 ^ Int.toNat 12 - 40)]) hl4
    have g4 : (upd HL l4 (.lst [V.int 0, V.int 0, V.int 0, V.int (10 ^ Int.toNat 12 - 40)])) l4 = some (.lst [V.int 0, V.int 0, V.int 0, V.int (10 ^ Int.toNat 12 - 40)]) := upd_same
    have gL4 := Same.upd (o := .lst [V.int 0, V.int 0, V.int 0, V.int (10 ^ Int.toNat 12 - 40)]) hl4 _ _ gL0
    have y4 : Ext (Dk d c) H (upd HL l4 (.lst [V.int 0, V.int 0, V.int 0, V.int (10 ^ Int.toNat 12 - 40)])) := yL.trans (ext_new hl4)
    generalize upd HL l4 (.lst [V.int 0, V.int 0, V.int 0, V.int (10 ^ Int.toNat 12 - 40)]) = H4 at D4 g4 gL4 y4 ⊢
    walk_at "rd"
    refine ⟨d, c, b, _, rfl, D4, by omega, by decide, by decide, fun rq H0 rqa rqb D0 x0 => ?_⟩
    have g40 := x0.2 _ _ n4 g4
    have gL04 := x0.2 _ _ nL gL4
    obtain ⟨s0, es, s00, s01⟩ : ∃ s0 : Int, atI [V.int 0, V.int 0, V.int 0, V.int (10 ^ Int.toNat 12 - 40)] rq = some (V.int s0) ∧ 0 ≤ s0 ∧ s0 ≤ 999999999960 := by
      have : rq = 0 ∨ rq = 1 ∨ rq = 2 ∨ rq = 3 := by omega
      rcases this with rfl | rfl | rfl | rfl
      · exact ⟨0, rfl, by decide, by decide⟩
      · exact ⟨0, rfl, by decide, by decide⟩
      · exact ⟨0, rfl, by decide, by decide⟩
      · exact ⟨10 ^ Int.toNat 12 - 40, rfl, by decide, by decide⟩
    refine .inl ⟨l4, _, rq, _, rfl, rfl, SqL.of g40, es, ?_⟩
    walk_at "rd"
    refine ⟨d, c, _, _, rfl, D0, by omega, by decide, by decide, fun r0 H1 ra rb D1 x1 => ?_⟩
    have hL1 : H1 L = some (.lst []) := x1.2 _ _ nL gL04
    have y1 : Ext (Dk d c) H H1 := (y4.trans x0).trans x1
    clear eL DL gL0 yL sL D4 g4 gL4 y4 g40 gL04 x0 x1 D0
    walk_at "rd"
    refine ⟨d, c, _, _, rfl, D1, by omega, by omega, by omega, fun q H2 qa qb D2 x2 => ?_⟩
    have hL2 : H2 L = some (.lst []) := x2.2 _ _ nL hL1
    have y2 := y1.trans x2
    walk_at "rd"
    let Pv : Nat → L2.St → Hp → Prop := fun i σ H' => ∃ (ko o6 o7 : Option V) (place : Int) (ts : List Addr) (m : Rows), σ = [some (.ref d), some (.int many), some (.int most), ko, some (.ref L), some (.int place), o6, o7] ∧ Ext (Dk d c) H H' ∧ Deck d c (b + 3 + 12 * i) H' ∧
      H' L = some (.lst (ts.map V.ref)) ∧ Paired (RowAt H') ts m ∧ m.length = i ∧ 0 ≤ place ∧ place ≤ 999999999964 + 4 * i ∧ Good m place many ∧ (keysR m).Pairwise (· < ·)
    have D2' : Deck d c (b + 3 + 12 * ((0 : Nat) : Int)) H2 := by
      have e : b + 1 + 1 + 1 = b + 3 + 12 * ((0 : Nat) : Int) := by omega
      rw [← e]
      exact D2
    refine ⟨q, rfl, by omega, by omega, for_range (lo := 0) (n := q.toNat) Pv ⟨_, _, _, s0 + r0, [], [], rfl, y2, D2', hL2, .nil, rfl, by omega, by omega, Good.nil, List.Pairwise.nil⟩ (fun i σ H3 hi h => ?_) (fun σ H3 h => ?_)⟩
    · obtain ⟨ko, o6, o7, place, ts, m, rfl, y3, D3, hL3, hp3, lm, p0, p1, g, ga⟩ := h
      walk_at "rd"
      unfold tLc
      walk_at "rd"
      refine ⟨_, rfl, by omega, by omega, fun V0 hV => ?_⟩
      have nV : ¬ Dk d c V0 := D3.off hV
      refine lc_range (lo := 0) (n := many.toNat) (fun i' H' => Ext (Dk d c) H3 H' ∧ Deck d c (b + 3 + 12 * i + 3 * i') H' ∧ ∃ ws : List Int, ws.length = i' ∧ (∀ v ∈ ws, Small v) ∧ H' V0 = some (.lst (ws.map V.int)))
        ⟨ext_new hV, by simpa using D3.new hV, [], rfl, by simp, upd_same⟩ (fun i' H' hi' h => ?_) (fun H' h => ?_)
      · obtain ⟨x4, D4, ws, l1, l2, l3⟩ := h
        refine ⟨rfl, k_yes ?_⟩
        refine ⟨d, c, _, _, _, _, _, _, _, _, rfl, D4, by omega, fun v H5 sv D5 x5 => ?_⟩
        have l4 := x5.2 _ _ nV l3
        refine ⟨_, l4, k_szL (by rw [List.length_map]; omega), ext_off (x4.trans x5) hV, (D5.mono (by omega)).offL (H := H) nV, ws ++ [v], by simp [l1], fun u hu => ?_, by rw [upd_same]; simp⟩
        rcases List.mem_append.mp hu with z | z
        · exact l2 u z
        · rw [List.mem_singleton.mp z]
          exact sv
      · obtain ⟨x4, D4, ws, l1, l2, l3⟩ := h
        have hL4 := x4.2 _ _ nL hL3
        walk_at "rd"
        refine ⟨k_tyL hL4, ?_⟩
        walk_at "rd"
        refine ⟨V0, _, rfl, .inl ⟨SqL.of l3, fun t ht => ?_⟩⟩
        have lw : (ws.length : Int) = many := by omega
        walk_at "rd"
        refine ⟨k_sz rfl, fun u hu => ?_⟩
        have hL5 := lk_new (o := .tup [V.int place, V.ref t]) (lk_new (o := .tup (ws.map V.int)) hL4 ht) hu
        walk_at "rd"
        refine k_app hL5 (k_szL (by rw [List.length_map, Paired.length hp3, lm]; omega)) ?_
        have e1 : ts.map V.ref ++ [V.ref u] = (ts ++ [u]).map V.ref := by simp
        rw [e1]
        have z4 : Tups H' (upd H' t (.tup (ws.map V.int))) := tups_new ht
        have ht4 : upd H' t (.tup (ws.map V.int)) t = some (.tup (ws.map V.int)) := upd_same
        have z5 : Tups (upd H' t (.tup (ws.map V.int))) (upd (upd H' t (.tup (ws.map V.int))) u (.tup [V.int place, V.ref t])) := tups_new hu
        have z6 : Tups (upd (upd H' t (.tup (ws.map V.int))) u (.tup [V.int place, V.ref t])) (upd (upd (upd H' t (.tup (ws.map V.int))) u (.tup [V.int place, V.ref t])) L (.lst ((ts ++ [u]).map V.ref))) := tups_upd hL5 fun xs z => by cases z
        have hrow : RowAt (upd (upd (upd H' t (.tup (ws.map V.int))) u (.tup [V.int place, V.ref t])) L (.lst ((ts ++ [u]).map V.ref))) u (place, ws) := ⟨t, z6 _ _ upd_same, z6 _ _ (z5 _ _ ht4)⟩
        have hp6 := Paired.snoc (Paired.mapP hp3 fun a b h => RowAt.keep h (((Ext.tups x4).trans z4).trans (z5.trans z6))) hrow
        have hL6 : upd (upd (upd H' t (.tup (ws.map V.int))) u (.tup [V.int place, V.ref t])) L (.lst ((ts ++ [u]).map V.ref)) L = some (.lst ((ts ++ [u]).map V.ref)) := upd_same
        have y6 : Ext (Dk d c) H (upd (upd (upd H' t (.tup (ws.map V.int))) u (.tup [V.int place, V.ref t])) L (.lst ((ts ++ [u]).map V.ref))) := ext_off (((y3.trans x4).trans (ext_new ht)).trans (ext_new hu)) hL
        have D6 := ((D4.new ht (o := .tup (ws.map V.int))).new hu (o := .tup [V.int place, V.ref t])).offL (H := H) (p := L) (o := .lst ((ts ++ [u]).map V.ref)) nL
        generalize upd (upd (upd H' t (.tup (ws.map V.int))) u (.tup [V.int place, V.ref t])) L (.lst ((ts ++ [u]).map V.ref)) = H6 at hp6 hL6 y6 D6 ⊢
        walk_at "rd"
        refine ⟨d, c, _, _, rfl, D6, by omega, by decide, by decide, fun r1 H7 ra1 rb1 D7 x7 => ?_⟩
        walk_at "rd"
        have g2 : Good (m ++ [(place, ws)]) (place + 1 + r1) many := by
          rw [← put_new g.fresh]
          exact (g.up (by omega)).put p0 (by omega) lw l2
        exact ⟨_, _, _, _, ts ++ [u], m ++ [(place, ws)], rfl, y6.trans x7, D7.mono (by omega), x7.2 _ _ nL hL6, Paired.mapP hp6 fun a b h => RowAt.keep h (Ext.tups x7), by simp [lm], by omega, by omega, g2, by unfold keysR; rw [List.map_append]; exact List.pairwise_append.mpr ⟨ga, List.pairwise_singleton _ _, fun a ha b hb => by rw [List.mem_singleton.mp hb]; exact (g.lt a ha).2⟩⟩
    · obtain ⟨ko, o6, o7, place, ts, m, rfl, y3, D3, hL3, hp3, lm, p0, p1, g, ga⟩ := h
      walk_at "rd"
      refine ⟨L, _, rfl, .inl ⟨SqL.of hL3, fun bt hbt => ?_⟩⟩
      have x4 : Ext (Dk d c) H3 (upd H3 bt (.tup (ts.map V.ref))) := ext_new hbt
      have hb4 : upd H3 bt (.tup (ts.map V.ref)) bt = some (.tup (ts.map V.ref)) := upd_same
      have D4 := D3.new hbt (o := .tup (ts.map V.ref))
      generalize upd H3 bt (.tup (ts.map V.ref)) = H4 at x4 hb4 D4 ⊢
      walk_at "rd"
      refine ⟨d, c, _, _, rfl, D4, by omega, by decide, by decide, fun r1 H5 ra1 rb1 D5 x5 => ?_⟩
      walk_at "rd"
      refine ⟨k_sz rfl, fun r hr5 => ?_⟩
      have z6 : Tups H5 (upd H5 r (.tup [V.ref bt, V.int (place + r1)])) := tups_new hr5
      have z7 := ((Ext.tups x4).trans (Ext.tups x5)).trans z6
      refine k r bt (place + r1) m _ upd_same ⟨ts, z6 _ _ (x5.1 _ _ hb4), Paired.mapP hp3 fun a b h => RowAt.keep h z7⟩ (g.up (by omega)) ga (fun k hk => by have := (g.lt k hk).2; omega) (by omega) (by omega) (by omega) ?_ (((y3.trans x4).trans x5).trans (ext_new hr5))
      exact (D5.mono (by omega)).new hr5
end
end K22

set_option Elab.async false
set_option maxRecDepth 100000
set_option maxHeartbeats 1000000
set_option linter.unusedVariables false
namespace K22
open PySem PySem.Spec PyProof.Rows L2 Own
-- steps
local macro_rules | `(tactic| walk_at "lk") => `(tactic| first
  | assumption | exact upd_same
  | ((with_reducible refine' lk_new ?e (by assumption)); (case e => walk_at "lk"))
  | ((with_reducible refine' lk_ext (by assumption) ?e); (case e => walk_at "lk"))
  | ((with_reducible refine' lk_same (by assumption) ?e); (case e => walk_at "lk")))
local macro_rules | `(tactic| walk_at "sq") => `(tactic| first | assumption | exact SqL.of (by walk_at "lk") | exact SqT.of (by walk_at "lk"))
local macro_rules | `(tactic| walk_at "r1") => `(tactic| first
  | with_reducible refine k_seq ?_ | with_reducible refine k_asg ?_ | with_reducible refine k_ret ?_ | with_reducible refine k_drop ?_ | with_reducible refine k_next ?_ | with_reducible refine k_ifS ?_
  | ((with_reducible refine' k_var ?e ?_); (case e => exact rfl)) | with_reducible refine k_c ?_ | with_reducible refine k_op ?_ | with_reducible refine k_un ?_ | with_reducible refine k_test ?_ | with_reducible refine k_B ?_
  | with_reducible refine k_and ?_ | with_reducible refine k_or ?_ | with_reducible refine k_not ?_ | with_reducible refine k_andV ?_ | with_reducible refine k_orV ?_ | with_reducible refine k_notV ?_ | with_reducible refine k_if ?_
  | with_reducible refine k_nil ?_ | with_reducible refine k_cons ?_ | with_reducible refine k_tup ?_ | with_reducible refine k_lst ?_ | with_reducible refine k_call ?_ | with_reducible refine k_cb ?_ | with_reducible refine k_ck ?_
  | with_reducible refine k_par ?_ | with_reducible refine k_par1 ?_ | with_reducible refine k_tr ?_ | with_reducible refine k_rI0 ?_ | with_reducible refine k_rU ?_
  | with_reducible refine k_gN ?_ | with_reducible refine k_gS ?_ | with_reducible refine k_gNil ?_ | with_reducible refine k_gCons ?_ | with_reducible refine k_bm0 ?_ | with_reducible refine k_bm ?_
  | with_reducible refine k_for ?_ | with_reducible refine k_iL ?_ | with_reducible refine k_iT ?_ | with_reducible refine k_iR1 ?_ | ((with_reducible refine k_iR1i ?e ?_); (case e => first | decide | exact ⟨by omega, by omega⟩))
  | with_reducible refine k_max ?_ | with_reducible refine k_isB ?_ | with_reducible refine k_sl ?_ | with_reducible refine k_noP ?_ | with_reducible refine k_part ?_ | with_reducible refine k_partI ?_ | with_reducible refine k_revL ?_
  | ((with_reducible refine' k_ixqT ?e ?f ?_); (case e => walk_at "sq"); (case f => first | exact rfl | exact atI_head))
  | ((with_reducible refine' k_ixqL ?e ?f ?_); (case e => walk_at "sq"); (case f => first | exact rfl | exact atI_head))
  | ((with_reducible refine' k_lenL ?e ?_); (case e => walk_at "sq"))
  | ((with_reducible refine' k_lenT ?e ?_); (case e => walk_at "sq"))
  | ((with_reducible refine' k_ixL ?e ?f ?_); (case e => walk_at "sq"); (case f => first | exact rfl | exact atI_head))
  | ((with_reducible refine' k_ixT ?e ?f ?_); (case e => walk_at "sq"); (case f => first | exact rfl | exact atI_head))
  | ((with_reducible refine k_eq ?e ?_); (case e => exact rfl)) | ((with_reducible refine k_ne ?e ?_); (case e => exact rfl))
  | ((with_reducible refine k_rI ?e ?_); (case e => first | assumption | omega | decide | exact ⟨by omega, by omega⟩ | exact .inl ⟨by omega, by omega⟩ | exact .inr ⟨by omega, by omega⟩)))
local macro_rules | `(tactic| walk_at "rd") => `(tactic| repeat walk_at "r1")
-- steps end
/-! ### what sorted gives -/
def spD (r : Str) (c : Nat) (row : Int × List Int) : PyData := .tuple [tupD (placeL r c row), rowD row.1 row.2]
theorem le_tot : ∀ {β : Type} (k : β → PyData), PySem.W.TotalLe (PySem.W.dataLe false k) := fun k => by
  rw [PySem.W.dataLe_eq]
  refine ⟨fun a b c h1 h2 => ?_, fun a b => ?_⟩
  · have a1 : PySem.W.dataLt (k b) (k a) = false := by simpa using h1
    have a2 : PySem.W.dataLt (k c) (k b) = false := by simpa using h2
    show (!PySem.W.dataLt (k c) (k a)) = true
    cases h : PySem.W.dataLt (k c) (k a) with
    | false => rfl
    | true =>
      rcases lex_negTrans (O := itemOrd) _ (PySem.W.keyToks (k b)) _ h with z | z
      · rw [show PySem.W.dataLt (k c) (k b) = true from z] at a2
        cases a2
      · rw [show PySem.W.dataLt (k b) (k a) = true from z] at a1
        cases a1
  · show (!PySem.W.dataLt (k b) (k a)) = true ∨ (!PySem.W.dataLt (k a) (k b)) = true
    cases h : PySem.W.dataLt (k b) (k a) with
    | false => exact .inl rfl
    | true =>
      refine .inr ?_
      cases h2 : PySem.W.dataLt (k a) (k b) with
      | false => rfl
      | true =>
        have z : PySem.W.dataLt (k a) (k a) = true := lex_trans (O := itemOrd) _ _ _ h2 h
        rw [show PySem.W.dataLt (k a) (k a) = false from lex_irrefl _] at z
        cases z
theorem eqv_tup : ∀ xs ys : List Int, PyData.eqv (tupD xs) (tupD ys) = decide (xs = ys)
  | [], [] => rfl
  | [], _ :: _ => rfl
  | _ :: _, [] => rfl
  | x :: xs, y :: ys => by
    have ih := eqv_tup xs ys
    show (x == y && PyData.eqvAll _ _) = _
    have e : PyData.eqvAll (xs.map PyData.int) (ys.map PyData.int) = decide (xs = ys) := ih
    rw [e]
    by_cases h : x = y
    · subst h
      simp
    · simp [h]
theorem alike_row (x y : Int × List Int) : PySem.W.alike (rowD x.1 x.2) (rowD y.1 y.2) = true := by
  show (true && (PySem.W.alike (tupD x.2) (tupD y.2) && true)) = true
  rw [show PySem.W.alike (tupD x.2) (tupD y.2) = true from alike_ints x.2 y.2]
  rfl
theorem alike_sp (r : Str) (c : Nat) (x y : Int × List Int) : PySem.W.alike (spD r c x) (spD r c y) = true := by
  show (PySem.W.alike (tupD (placeL r c x)) (tupD (placeL r c y)) && (PySem.W.alike (rowD x.1 x.2) (rowD y.1 y.2) && true)) = true
  rw [show PySem.W.alike (tupD (placeL r c x)) (tupD (placeL r c y)) = true from alike_ints _ _, alike_row]
  rfl
theorem lt_sp {r : Str} {c : Nat} {x y : Int × List Int} (h : placeL r c x ≠ placeL r c y) : PySem.W.dataLt (spD r c x) (spD r c y) = HT.lexLt (placeL r c x) (placeL r c y) := by
  unfold spD
  rw [PySem.W.dataLt_pair (x := tupD (placeL r c x)) (x' := tupD (placeL r c y)) (show PySem.W.alike (tupD (placeL r c x)) (tupD (placeL r c y)) = true from alike_ints _ _) (alike_row x y), eqv_tup, decide_eq_false h, if_neg Bool.false_ne_true]
  exact lt_ints _ _
/-- two lists in turn with the same members are one -/
theorem turn_same {r : Str} {c : Nat} : ∀ {xs ys : Rows}, InTurn r c xs → InTurn r c ys → (∀ k, k ∈ xs ↔ k ∈ ys) → xs = ys
  | [], [], _, _, _ => rfl
  | [], y :: ys, _, _, h => absurd ((h y).mpr List.mem_cons_self) (by simp)
  | x :: xs, [], _, _, h => absurd ((h x).mp List.mem_cons_self) (by simp)
  | x :: xs, y :: ys, hx, hy, h => by
    obtain ⟨x1, x2⟩ := List.pairwise_cons.mp hx
    obtain ⟨y1, y2⟩ := List.pairwise_cons.mp hy
    have e : x = y := by
      rcases List.mem_cons.mp ((h x).mp List.mem_cons_self) with e | e
      · exact e
      · rcases List.mem_cons.mp ((h y).mpr List.mem_cons_self) with e2 | e2
        · exact e2.symm
        · have z := first_asym (y1 x e)
          rw [x1 y e2] at z
          cases z
    subst e
    refine congrArg (x :: ·) (turn_same x2 y2 fun k => ⟨fun hk => ?_, fun hk => ?_⟩)
    · rcases List.mem_cons.mp ((h k).mp (List.mem_cons_of_mem _ hk)) with e | e
      · have z := x1 k hk
        rw [e, first_irr] at z
        cases z
      · exact e
    · rcases List.mem_cons.mp ((h k).mpr (List.mem_cons_of_mem _ hk)) with e | e
      · have z := y1 k hk
        rw [e, first_irr] at z
        cases z
      · exact e
def SpAt (r : Str) (c : Nat) (H : Hp) (f : Addr) (row : Int × List Int) : Prop := ∃ sp rw_, H f = some (.tup [.ref sp, .ref rw_]) ∧ H sp = some (.tup ((placeL r c row).map V.int)) ∧ RowAt H rw_ row
theorem SpAt.keep {r : Str} {c : Nat} {H H' : Hp} {f : Addr} {row : Int × List Int} (h : SpAt r c H f row) (x : Tups H H') : SpAt r c H' f row := let ⟨a, b, h1, h2, h3⟩ := h; ⟨a, b, x _ _ h1, x _ _ h2, h3.keep x⟩
/-- sorted by place -/
def zG (r : Str) (c : Nat) (q : Addr × (Int × List Int)) : V × PyData := (.ref q.1, spD r c q.2)
theorem zip_mem {α β : Type} {F : α → β → Prop} : ∀ {xs : List α} {ys : List β}, Paired F xs ys → ∀ q ∈ xs.zip ys, F q.1 q.2
  | _, _, .nil, q, h => by simp at h
  | _, _, .cons a r, q, h => by
    rw [List.zip_cons_cons] at h
    rcases List.mem_cons.mp h with rfl | h
    · exact a
    · exact zip_mem r q h
theorem zip_fst {α β : Type} {F : α → β → Prop} : ∀ {xs : List α} {ys : List β}, Paired F xs ys → (xs.zip ys).map (·.1) = xs ∧ (xs.zip ys).map (·.2) = ys
  | _, _, .nil => ⟨rfl, rfl⟩
  | _, _, .cons a r => by
    obtain ⟨h1, h2⟩ := zip_fst r
    exact ⟨congrArg (_ :: ·) h1, congrArg (_ :: ·) h2⟩
theorem paired_map {α β γ : Type} {F : α → β → Prop} {f : γ → α} {g : γ → β} : ∀ {zs : List γ}, (∀ z ∈ zs, F (f z) (g z)) → Paired F (zs.map f) (zs.map g)
  | [], _ => .nil
  | z :: zs, h => .cons (h z List.mem_cons_self) (paired_map fun y hy => h y (List.mem_cons_of_mem _ hy))
theorem paired_rev {α β : Type} {F : α → β → Prop} : ∀ {xs : List α} {ys : List β}, Paired F xs ys → Paired F xs.reverse ys.reverse
  | _, _, .nil => .nil
  | _, _, .cons a r => by
    rw [List.reverse_cons, List.reverse_cons]
    exact Paired.snoc (paired_rev r) a
theorem sort_rows {r : Str} {c : Nat} {H : Hp} {m : Rows} {fs : List Addr} {rows : Rows} (hps : Paired (SpAt r c H) fs rows) (nd : (keysR m).Nodup) (sub : ∀ x ∈ rows, x ∈ m) (ndr : rows.Nodup) :
    ∃ (fs' : List Addr) (rows' : Rows), (((fs.zip rows).map (zG r c)).mergeSort (PySem.W.dataLe false fun b : V × PyData => b.2)).map (·.1) = fs'.map V.ref ∧ Paired (SpAt r c H) fs' rows' ∧ (∀ x, x ∈ rows' ↔ x ∈ rows) ∧
      rows'.Pairwise (fun a b => HT.lexLt (placeL r c a) (placeL r c b) = true) ∧ rows'.length = rows.length := by
  have e : ((fs.zip rows).map (zG r c)).mergeSort (PySem.W.dataLe false fun b : V × PyData => b.2) = ((fs.zip rows).mergeSort (PySem.W.dataLe false fun q : Addr × (Int × List Int) => spD r c q.2)).map (zG r c) :=
    (List.map_mergeSort (f := zG r c) (r := PySem.W.dataLe false fun q : Addr × (Int × List Int) => spD r c q.2) (s := PySem.W.dataLe false fun b : V × PyData => b.2) fun _ _ _ _ => rfl).symm
  have pm := List.mergeSort_perm (fs.zip rows) (PySem.W.dataLe false fun q : Addr × (Int × List Int) => spD r c q.2)
  have pw := PySem.W.sort_pairwise (le_tot fun q : Addr × (Int × List Int) => spD r c q.2) (fs.zip rows)
  generalize (fs.zip rows).mergeSort (PySem.W.dataLe false fun q : Addr × (Int × List Int) => spD r c q.2) = zs at e pm pw
  have er : (fs.zip rows).map (·.2) = rows := (zip_fst hps).2
  have pr : (zs.map (·.2)).Perm rows := by
    have z := pm.map (fun q : Addr × (Int × List Int) => q.2)
    rw [er] at z
    exact z
  refine ⟨zs.map (·.1), zs.map (·.2), ?_, paired_map fun z hz => zip_mem hps z (pm.mem_iff.mp hz), fun x => pr.mem_iff, ?_, pr.length_eq⟩
  · rw [e, List.map_map, List.map_map]
    exact List.map_congr_left fun _ _ => rfl
  · have nd' : (zs.map (·.2)).Nodup := pr.nodup_iff.mpr ndr
    have pw2 : zs.Pairwise fun a b => a.2 ≠ b.2 := List.pairwise_map.mp nd'
    rw [List.pairwise_map]
    refine (pw.and pw2).imp_of_mem fun {a b} ha hb h => ?_
    have ma := sub _ (pr.mem_iff.mp (List.mem_map.mpr ⟨a, ha, rfl⟩))
    have mb := sub _ (pr.mem_iff.mp (List.mem_map.mpr ⟨b, hb, rfl⟩))
    have ne : placeL r c a.2 ≠ placeL r c b.2 := fun z => h.2 (row_eq nd ma mb (place_num z))
    have h1 : PySem.W.dataLt (spD r c b.2) (spD r c a.2) = false := by simpa [PySem.W.dataLe_eq] using h.1
    rw [lt_sp fun z => ne z.symm] at h1
    cases h2 : HT.lexLt (placeL r c a.2) (placeL r c b.2) with
    | true => rfl
    | false => exact absurd (lex_tot place_len h2 h1) ne
section
variable {P : Program} {w : World} {K : PySem.W.Frag} {mg : Str → Option Value} {g0 : Heap} {C : Addr}
def spOrdered : Sp := fun vs H Q _ => ∃ (p bt : Addr) (r : Str) (c : Nat) (m : Rows), vs = [.ref p, .ref bt] ∧ RoadAt H p r c ∧ RowsT H bt m ∧ (∀ row ∈ m, HasCol r c row) ∧ (keysR m).Nodup ∧ m.length ≤ 8 ∧
  ∀ (l : Addr) (ts : List Addr) (rows : Rows) (H' : Hp), Same H H' → H l = none → H' l = some (.lst (ts.map V.ref)) → Paired (RowAt H') ts rows → InTurn r c rows → (∀ x, x ∈ rows ↔ x ∈ m) → Q (.ref l) H'
theorem ok_ordered {f : Addr} {fd : FuncData} (F : Fun K "_law_ordered" "_law_ordered" s_ordered f fd) (z_sorted : mg "sorted" = none) (C_spot : Cal P w K mg g0 "_law_spot" 1 ["_law_road_here", "_law_row"] spPlace) : GOk P w K mg g0 CX0 2 f fd ["_law_road_here", "_law_rows_here"] spOrdered := by
  have nd := sc_ordered.nd
  refine okG F sc_ordered (fun vs H Q E h => ?_) (fun cdv A up s H vs Q E qt hr h => ?_)
  · obtain ⟨p, bt, r, c, m, rfl, _⟩ := h
    rfl
  · obtain ⟨p, bt, r, c, m, rfl, hp, hb, hcol, hnd, hlen, k⟩ := h
    refine ⟨_, (pss_cons (ps_set (i := 2) nd rfl (Or.inl rfl) (pe_callB (call_sortedD hr.units) (by rfl) z_sorted (by decide +kernel) (pa_cons (pe_lc (own := [("_law_row", 4)]) (g := (gName 4)) (tt := tYes) (te := (tTup (tCons (tCall _ [] E0 (tCons (tVar 0) (tCons (tVar 4) tNil))) (tCons (tVar 4) tNil)))) (by rfl) nd (pi_tup (pv 1)) (blkOk_by (own := [("_law_row", 4)]) (N := ["_law_road_here", "_law_rows_here", "_law_spots_here", "_law_found", "_law_row", "_law_spot_here"]) (sc := defScope s_ordered) (by decide +kernel)) (fun _ _ _ _ _ => by exact (pg_name (i := 4) nd rfl (Or.inl rfl))) (fun _ _ _ _ _ => by exact pts_nil) (fun _ _ _ _ _ => by exact (pe_tup (pa_cons (pe_c C_spot qt (hr.mono (by decide)) (pa_cons (pv 0) (pa_cons (pv 4) pa_nil))) (pa_cons (pv 4) pa_nil))))) pa_nil)))
        (pss_cons (ps_setLc (i := 3) (own := [("_law_spot_here", 5), ("_law_row", 4)]) (g := (gTup K 2 (gCons (gName 5) (gCons (gName 4) gNil)))) (tt := tYes) (te := (tVar 4)) (by rfl) nd rfl rfl (sw_true rfl rfl rfl (by decide +kernel)) (pi_list (pv 2)) (blkOk_by (own := [("_law_spot_here", 5), ("_law_row", 4)]) (N := ["_law_road_here", "_law_rows_here", "_law_spots_here", "_law_found", "_law_row", "_law_spot_here"]) (sc := defScope s_ordered) (by decide +kernel)) (fun _ _ _ _ _ => by exact (pg_tup rfl (pgs_cons (pg_name (i := 5) nd rfl (Or.inl rfl)) (pgs_cons (pg_name (i := 4) nd rfl (Or.inl rfl)) pgs_nil)))) (fun _ _ _ _ _ => by exact pts_nil) (fun _ _ _ _ _ => by exact (pv 4)))
        (pss_one (ps_ret (pe_ifExp (pt_cmpR op_eq (pe_ix ix_seq (pv 0) pe_int (fun _ _ => rfl)) pe_str (nomark _)) (pe_revL (pv 3)) (pv 3)))))), ?_⟩
    obtain ⟨bts, hb0, hrows⟩ := id hb
    obtain ⟨rest, hp0⟩ := hp.head
    have lb := Paired.length hrows
    walk_at "rd"
    unfold tLc
    walk_at "rd"
    refine ⟨bt, rfl, ⟨_, SqT.of hb0⟩, fun L hL => ?_⟩
    refine lc_it (walk_tup (xs := bts.map V.ref)) (fun i H' => Same H H' ∧ ∃ fs : List Addr, H' L = some (.lst (fs.map V.ref)) ∧ fs.length ≤ i ∧ Paired (SpAt r c H') fs (m.take i)) ⟨Same.upd hL, [], upd_same, Nat.le_refl _, .nil⟩ (fun i H' _ h => SqT.of (h.1 _ _ hb0)) (fun i x H2 H3 hi h y => ?_) fun H2 h => ?_
    · obtain ⟨s2, fs, hL2, lfs, hps⟩ := h
      obtain ⟨rfl, y⟩ := y
      have hx : (bts.map V.ref)[i]? = some x := y
      rw [List.getElem?_map] at hx
      obtain ⟨t, ht, rfl⟩ := Option.map_eq_some_iff.mp hx
      obtain ⟨row, hrow, hr0⟩ := pget hrows ht
      have hr2 := hr0.keep (Tups.same s2)
      have hi' : i < m.length := (List.getElem?_eq_some_iff.mp hrow).1
      walk_at "rd"
      refine ⟨rfl, k_yes ?_⟩
      walk_at "rd"
      refine ⟨p, t, r, c, row, rfl, hp.keep (Tups.same s2), hr2, hcol row (List.mem_of_getElem? hrow), fun sp hsp => ?_⟩
      walk_at "rd"
      refine ⟨k_sz rfl, fun q hq => ?_⟩
      have s3 := (s2.trans (Same.upd (o := .tup ((placeL r c row).map V.int)) hsp))
      have s4 := s3.trans (Same.upd (o := .tup [.ref sp, .ref t]) hq)
      have hL3 := lk_new (o := .tup [.ref sp, .ref t]) (lk_new (o := .tup ((placeL r c row).map V.int)) hL2 hsp) hq
      have e1 : fs.map V.ref ++ [V.ref q] = (fs ++ [q]).map V.ref := by simp
      refine ⟨_, hL3, k_szL (by rw [List.length_map]; omega), ?_⟩
      rw [e1]
      have x1 : Tups H3 (upd H3 sp (.tup ((placeL r c row).map V.int))) := tups_new hsp
      have x2 : Tups (upd H3 sp (.tup ((placeL r c row).map V.int))) (upd (upd H3 sp (.tup ((placeL r c row).map V.int))) q (.tup [.ref sp, .ref t])) := tups_new hq
      have x3 : Tups (upd (upd H3 sp (.tup ((placeL r c row).map V.int))) q (.tup [.ref sp, .ref t])) (upd (upd (upd H3 sp (.tup ((placeL r c row).map V.int))) q (.tup [.ref sp, .ref t])) L (.lst ((fs ++ [q]).map V.ref))) := tups_upd hL3 fun xs z => by cases z
      have gsp : (upd H3 sp (.tup ((placeL r c row).map V.int))) sp = some (.tup ((placeL r c row).map V.int)) := upd_same
      have gq : (upd (upd H3 sp (.tup ((placeL r c row).map V.int))) q (.tup [.ref sp, .ref t])) q = some (.tup [.ref sp, .ref t]) := upd_same
      refine ⟨same_off s4 hL, fs ++ [q], upd_same, by simp [lfs], ?_⟩
      rw [List.take_add_one, hrow]
      exact Paired.snoc (Paired.mapP hps fun a b h => h.keep ((x1.trans x2).trans x3)) ⟨sp, t, x3 _ _ gq, x3 _ _ (x2 _ _ gsp), hr2.keep ((x1.trans x2).trans x3)⟩
    · obtain ⟨s2, fs, hL2, lfs, hps⟩ := h
      rw [List.length_map, lb] at lfs hps
      rw [List.take_length] at hps
      walk_at "rd"
      have ndm : m.Nodup := (List.pairwise_map.mp hnd).imp fun h e => h (by rw [e])
      obtain ⟨fs', rows', e, hp', hmem, hpw, hlr⟩ := sort_rows hps hnd (fun x hx => hx) ndm
      have ef : ((fs.zip m).map (zG r c)).map (·.1) = fs.map V.ref := by
        rw [List.map_map, show (fun x : V × PyData => x.1) ∘ zG r c = V.ref ∘ (fun q : Addr × (Int × List Int) => q.1) from rfl, ← List.map_map, (zip_fst hps).1]
      refine ⟨L, (fs.zip m).map (zG r c), rfl, ?hsql, ?dp, ?al, ?so, fun S hS => ?_⟩
      case hsql =>
        rw [ef]
        exact SqL.of hL2
      case dp =>
        intro b hb
        obtain ⟨q, hq, rfl⟩ := List.mem_map.mp hb
        obtain ⟨sp, rw_, h1, h2, u, h3, h4⟩ := zip_mem hps q hq
        refine ⟨.tup (SqT.of h1) (.cons (.tup (SqT.of h2) (dpAll_ints _)) (.cons (.tup (SqT.of h3) (.cons (.int _) (.cons (.tup (SqT.of h4) (dpAll_ints _)) .nil))) .nil)), ?_⟩
        show max (PyData.depthAll ((placeL r c q.2).map PyData.int) + 1) (max (max 0 (max (PyData.depthAll (q.2.2.map PyData.int) + 1) 0) + 1) 0) + 1 ≤ 50
        rw [depth_ints, depth_ints]
        decide
      case al =>
        intro x hx y hy
        rw [List.map_map] at hx hy
        obtain ⟨q, _, rfl⟩ := List.mem_map.mp hx
        obtain ⟨q', _, rfl⟩ := List.mem_map.mp hy
        exact alike_sp r c q.2 q'.2
      case so =>
        refine .inl fun x hx => ?_
        rw [List.map_map] at hx
        obtain ⟨q, _, rfl⟩ := List.mem_map.mp hx
        exact ⟨_, _, rfl⟩
      rw [e]
      have s3 : Same H (upd H2 S (.lst (fs'.map V.ref))) := s2.trans (Same.upd hS)
      have hS3 : upd H2 S (.lst (fs'.map V.ref)) S = some (.lst (fs'.map V.ref)) := upd_same
      have hp3 := Paired.mapP hp' fun a b h => SpAt.keep h (tups_new (o := .lst (fs'.map V.ref)) hS)
      generalize upd H2 S (.lst (fs'.map V.ref)) = H3 at s3 hS3 hp3 ⊢
      walk_at "rd"
      try unfold tLc
      try walk_at "rd"
      refine ⟨S, rfl, ⟨_, SqL.of hS3⟩, fun D hD => ?_⟩
      refine lc_list (xs := fs'.map V.ref) (fun j H' => Same H3 H' ∧ ∃ ts : List Addr, H' D = some (.lst (ts.map V.ref)) ∧ ts.length ≤ j ∧ Paired (RowAt H3) ts (rows'.take j)) ⟨Same.upd hD, [], upd_same, Nat.le_refl _, .nil⟩ (fun j H' _ h => SqL.of (h.1 _ _ hS3)) (fun j x H4 hx h => ?_) (fun H4 h => ?_)
      · obtain ⟨s4, ts, hD4, lts, hpt⟩ := h
        rw [List.getElem?_map] at hx
        obtain ⟨f0, hf0, rfl⟩ := Option.map_eq_some_iff.mp hx
        obtain ⟨row, hrow, sp, rw_, h1, h2, h3⟩ := pget hp3 hf0
        have hj : j < fs'.length := (List.getElem?_eq_some_iff.mp hf0).1
        refine k_gTup (SqT.of (s4 _ _ h1)) rfl ?_
        walk_at "rd"
        refine ⟨rfl, k_yes ?_⟩
        walk_at "rd"
        have lf : fs'.length ≤ 1000 := by
          have z1 := Paired.length hp3
          have z2 : rows'.length = m.length := hlr
          omega
        refine ⟨ts.map V.ref, hD4, k_szL (by rw [List.length_map]; omega), same_off s4 hD, ts ++ [rw_], by rw [upd_same]; simp, by simp [lts], ?_⟩
        rw [List.take_add_one, hrow]
        exact Paired.snoc hpt h3
      · obtain ⟨s4, ts, hD4, lts, hpt⟩ := h
        have el : (fs'.map V.ref).length = rows'.length := by rw [List.length_map]; exact Paired.length hp3
        rw [el, List.take_length] at hpt
        walk_at "rd"
        have hp4 := s4 _ _ (s3 _ _ hp0)
        walk_at "rd"
        refine k_iteD (fun e1 => ?_) fun e1 => ?_
        · refine k_revL ?_
          walk_at "rd"
          refine ⟨D, _, rfl, SqL.of hD4, fun B hB => ?_⟩
          rw [← List.map_reverse]
          have hr : r = "down" := V.str.inj e1
          refine k B ts.reverse rows'.reverse _ ((s3.trans s4).trans (Same.upd hB)) (same_free (s3.trans s4) hB) upd_same (paired_rev (Paired.mapP hpt fun a b h => h.keep ((Tups.same s4).trans (tups_new hB)))) ?_ fun x => by rw [List.mem_reverse]; exact hmem x
          refine List.pairwise_reverse.mpr (hpw.imp fun h => ?_)
          unfold first
          rw [if_pos hr]
          exact h
        · walk_at "rd"
          refine k D ts rows' H4 (s3.trans s4) (same_free s3 hD) hD4 (Paired.mapP hpt fun a b h => h.keep (Tups.same s4)) ?_ hmem
          refine hpw.imp fun h => ?_
          unfold first
          rw [if_neg fun z => e1 (congrArg V.str z)]
          exact h
end
end K22

set_option Elab.async false
set_option maxRecDepth 100000
set_option linter.unusedVariables false
/-! OwnFr: a run that never wakes the generators that slept when it began leaves them as they were. -/
namespace Own
open PySem

/-- what a sleeper may be exchanged for: nobody can wake it -/
def trapK : Resume → Sem PySem.Fin := fun _ => .unsupported "own:trap"
def trapS : GenState → GenState
  | .suspended _ l c p fs cl => .suspended trapK l c p fs cl
  | x => x
def sleeps : GenState → Bool
  | .suspended .. => true
  | _ => false
def isRet : Frame → Bool
  | .ret .. => true
  | .gen .. => false
def retOnly (fs : List Frame) : Bool := fs.all isRet
def cleanS : GenState → Prop
  | .suspended _ _ _ _ fs _ => retOnly fs = true
  | _ => True
def cleanE : End → Prop
  | .susp _ _ _ _ _ _ fs => retOnly fs = true
  | _ => True
theorem trapS_of {x : GenState} (h : sleeps x = false) : trapS x = x := by
  cases x <;> first | rfl | (cases h)
theorem trapS_seen (x : GenState) : (trapS x).seen = x.seen := by cases x <;> rfl
theorem trapS_sleeps (x : GenState) : sleeps (trapS x) = sleeps x := by cases x <;> rfl
theorem trapS_bare (x : GenState) : (trapS x).bare = x.bare := by cases x <;> rfl
theorem clean_awake {x : GenState} (h : sleeps x = false) : cleanS x := by
  cases x <;> first | trivial | (cases h)
theorem clean_end {e : End} (h : cleanE e) : cleanS e.genState := by
  cases e with
  | ret r => trivial
  | susp v g l k c p fs => exact h
theorem split_ret : ∀ {fs : List Frame}, retOnly fs = true → splitAtGen fs = none
  | [], _ => rfl
  | .ret k h g l c p kp :: fs, z => by
    have h2 : retOnly fs = true := by
      unfold retOnly at z ⊢
      rw [List.all_cons, Bool.and_eq_true] at z
      exact z.2
    show (splitAtGen fs).map _ = none
    rw [split_ret h2]
    rfl
  | .gen .. :: fs, z => by
    unfold retOnly at z
    rw [List.all_cons, Bool.and_eq_true] at z
    cases z.1
theorem ret_tail {F : Frame} {fs : List Frame} (h : retOnly (F :: fs) = true) : isRet F = true ∧ retOnly fs = true := by
  unfold retOnly at h ⊢
  rw [List.all_cons, Bool.and_eq_true] at h
  exact h
theorem ret_app {a b : List Frame} (h1 : retOnly a = true) (h2 : retOnly b = true) : retOnly (a ++ b) = true := by
  unfold retOnly at *
  rw [List.all_append, h1, h2]
  rfl

/-- s as it is; t the same, but for traps in the place of those that slept in G -/
structure Twin (G : Array GenState) (s t : Shared) : Prop where
  heap : t.heap = s.heap
  drawn : t.drawn = s.drawn
  toks : t.toks = s.toks
  os : t.os = s.os
  size : t.gens.size = s.gens.size
  gens : ∀ i : Nat, (∃ x, G[i]? = some x ∧ sleeps x = true ∧ s.gens[i]? = some x ∧ t.gens[i]? = some (trapS x)) ∨
    ((∀ x, G[i]? = some x → sleeps x = false) ∧ t.gens[i]? = s.gens[i]? ∧ ∀ x, s.gens[i]? = some x → cleanS x)
def trapped (s : Shared) : Shared := { s with gens := s.gens.map trapS }
theorem twin_start (s : Shared) : Twin s.gens s (trapped s) := by
  refine ⟨rfl, rfl, rfl, rfl, Array.size_map .., fun i => ?_⟩
  have e : (trapped s).gens[i]? = s.gens[i]?.map trapS := Array.getElem?_map ..
  rw [e]
  cases h : s.gens[i]? with
  | none => exact .inr ⟨(fun x z => by cases z), rfl, fun x z => by cases z⟩
  | some x =>
    cases hx : sleeps x with
    | true => exact .inl ⟨x, rfl, hx, rfl, rfl⟩
    | false =>
      refine .inr ⟨fun y z => ?_, ?_, fun y z => ?_⟩
      · cases z; exact hx
      · show some (trapS x) = some x
        rw [trapS_of hx]
      · cases z; exact clean_awake hx
variable {G : Array GenState} {s t : Shared}
theorem Twin.mk' (w : Twin G s t) {s' t' : Shared} (h1 : t'.heap = s'.heap) (h2 : t'.drawn = s'.drawn) (h3 : t'.toks = s'.toks) (h4 : t'.os = s'.os) (h5 : s'.gens = s.gens) (h6 : t'.gens = t.gens) : Twin G s' t' :=
  ⟨h1, h2, h3, h4, by rw [h5, h6]; exact w.size, fun i => by rw [h5, h6]; exact w.gens i⟩
theorem Twin.hp (w : Twin G s t) (F : Heap → Heap) : Twin G { s with heap := F s.heap } { t with heap := F t.heap } := w.mk' (show F t.heap = F s.heap by rw [w.heap]) w.drawn w.toks w.os rfl rfl
theorem Twin.tk (w : Twin G s t) : Twin G { s with toks := s.toks + 1 } { t with toks := t.toks + 1 } := w.mk' w.heap w.drawn (show t.toks + 1 = s.toks + 1 by rw [w.toks]) w.os rfl rfl
theorem Twin.dr (w : Twin G s t) (src : Source) : Twin G { s with drawn := s.drawn.bump src } { t with drawn := t.drawn.bump src } := w.mk' w.heap (show t.drawn.bump src = s.drawn.bump src by rw [w.drawn]) w.toks w.os rfl rfl
theorem Twin.osS (w : Twin G s t) (q : OsRequest) : Twin G { s with os := (Os.step s.os q).1 } { t with os := (Os.step t.os q).1 } := w.mk' w.heap w.drawn w.toks (show (Os.step t.os q).1 = (Os.step s.os q).1 by rw [w.os]) rfl rfl
theorem Twin.get (w : Twin G s t) {g : Nat} {y : GenState} (h : t.gens[g]? = some y) (hy : sleeps y = false) : s.gens[g]? = some y ∧ ∀ x, G[g]? = some x → sleeps x = false := by
  rcases w.gens g with ⟨x, _, a2, _, a4⟩ | ⟨b1, b2, _⟩
  · rw [h] at a4
    cases a4
    rw [trapS_sleeps, a2] at hy
    cases hy
  · exact ⟨b2 ▸ h, b1⟩
theorem Twin.seen (w : Twin G s t) {g : Nat} {st : GenState} (h : t.gens[g]? = some st) : ∃ x, s.gens[g]? = some x ∧ st.seen = x.seen := by
  rcases w.gens g with ⟨x, _, _, a3, a4⟩ | ⟨_, b2, _⟩
  · rw [h] at a4
    cases a4
    exact ⟨x, a3, trapS_seen x⟩
  · exact ⟨st, b2 ▸ h, rfl⟩
theorem Twin.sus (w : Twin G s t) {g : Nat} {k : Resume → Sem PySem.Fin} {l : List Value} {c : Code} {p : Pos} {fs : List Frame} {cl : Bool} (h : t.gens[g]? = some (.suspended k l c p fs cl)) :
    k = trapK ∨ ((∀ x, G[g]? = some x → sleeps x = false) ∧ s.gens[g]? = some (.suspended k l c p fs cl) ∧ retOnly fs = true) := by
  rcases w.gens g with ⟨x, _, a2, _, a4⟩ | ⟨b1, b2, b3⟩
  · rw [h] at a4
    cases x with
    | suspended k l c p fs cl =>
      cases a4
      exact .inl rfl
    | _ => cases a2
  · have hs : s.gens[g]? = some (.suspended k l c p fs cl) := by rw [← b2]; exact h
    exact .inr ⟨b1, hs, b3 _ hs⟩
theorem Twin.setGen (w : Twin G s t) {g : Nat} {x : GenState} (hg : ∀ y, G[g]? = some y → sleeps y = false) (hx : cleanS x) : Twin G (s.setGen g x) (t.setGen g x) := by
  refine ⟨w.heap, w.drawn, w.toks, w.os, ?_, fun i => ?_⟩
  · show (t.gens.setIfInBounds g x).size = (s.gens.setIfInBounds g x).size
    rw [Array.size_setIfInBounds, Array.size_setIfInBounds, w.size]
  · show (∃ y, G[i]? = some y ∧ sleeps y = true ∧ (s.gens.setIfInBounds g x)[i]? = some y ∧ (t.gens.setIfInBounds g x)[i]? = some (trapS y)) ∨
      ((∀ y, G[i]? = some y → sleeps y = false) ∧ (t.gens.setIfInBounds g x)[i]? = (s.gens.setIfInBounds g x)[i]? ∧ ∀ y, (s.gens.setIfInBounds g x)[i]? = some y → cleanS y)
    by_cases e : g = i
    · subst e
      refine .inr ⟨hg, ?_, fun y z => ?_⟩
      · by_cases lt : g < s.gens.size
        · rw [Array.getElem?_setIfInBounds_self_of_lt lt, Array.getElem?_setIfInBounds_self_of_lt (by rw [w.size]; exact lt)]
        · rw [Array.getElem?_eq_none (xs := s.gens.setIfInBounds g x) (by rw [Array.size_setIfInBounds]; omega), Array.getElem?_eq_none (xs := t.gens.setIfInBounds g x) (by rw [Array.size_setIfInBounds, w.size]; omega)]
      · by_cases lt : g < s.gens.size
        · rw [Array.getElem?_setIfInBounds_self_of_lt lt] at z
          cases z
          exact hx
        · rw [Array.getElem?_eq_none (by rw [Array.size_setIfInBounds]; omega)] at z
          cases z
    · rw [Array.getElem?_setIfInBounds_ne e, Array.getElem?_setIfInBounds_ne e]
      exact w.gens i
theorem Twin.push (w : Twin G s t) {c : Code} : Twin G { s with gens := s.gens.push (.fresh c) } { t with gens := t.gens.push (.fresh c) } := by
  refine ⟨w.heap, w.drawn, w.toks, w.os, ?_, fun i => ?_⟩
  · show (t.gens.push _).size = (s.gens.push _).size
    rw [Array.size_push, Array.size_push, w.size]
  · show (∃ y, G[i]? = some y ∧ sleeps y = true ∧ (s.gens.push (.fresh c))[i]? = some y ∧ (t.gens.push (.fresh c))[i]? = some (trapS y)) ∨
      ((∀ y, G[i]? = some y → sleeps y = false) ∧ (t.gens.push (.fresh c))[i]? = (s.gens.push (.fresh c))[i]? ∧ ∀ y, (s.gens.push (.fresh c))[i]? = some y → cleanS y)
    rw [Array.getElem?_push, Array.getElem?_push, w.size]
    by_cases e : i = s.gens.size
    · rw [if_pos e, if_pos e]
      refine .inr ⟨fun y z => ?_, rfl, fun y z => ?_⟩
      · rcases w.gens i with ⟨x, _, _, a3, _⟩ | ⟨b1, _⟩
        · have := (Array.getElem?_eq_some_iff.mp a3).1
          omega
        · exact b1 y z
      · cases z
        trivial
    · rw [if_neg e, if_neg e]
      exact w.gens i
theorem no_trap0 {M : Model} {Γ : Ctx} {p : Pos} {x : String} {e : End} {s' : Shared} : ¬ Runs M Γ p (.unsupported x) [] s e s' := fun h => by cases h
theorem no_trap {M : Model} {Γ : Ctx} {p : Pos} {x : String} {fs : List Frame} {e : End} {s' : Shared} : ¬ Runs M Γ p (.unsupported x) fs s e s' := fun h => by
  cases h with
  | segRet h1 _ => exact no_trap0 h1
  | segGen h1 _ => exact no_trap0 h1
  | segSuspOut _ h1 => exact no_trap0 h1
  | segSuspGen _ h1 _ _ => exact no_trap0 h1
theorem twin_runs {M : Model} {Γ : Ctx} {p : Pos} {tm : Sem PySem.Fin} {fs : List Frame} {t : Shared} {e : End} {t' : Shared} (h : Runs M Γ p tm fs t e t') : retOnly fs = true → ∀ s, Twin G s t → ∃ s', Twin G s' t' ∧ Runs M Γ p tm fs s e s' ∧ cleanE e := by
  induction h with
  | done => exact fun _ s w => ⟨s, w, .done, trivial⟩
  | raise => exact fun _ s w => ⟨s, w, .raise, trivial⟩
  | again hq _ ih => intro r s w; obtain ⟨s', w', h, c⟩ := ih r s w; exact ⟨s', w', .again hq h, c⟩
  | rule _ ih => intro r s w; obtain ⟨s', w', h, c⟩ := ih r s w; exact ⟨s', w', .rule h, c⟩
  | «at» _ ih => intro r s w; obtain ⟨s', w', h, c⟩ := ih r s w; exact ⟨s', w', .at h, c⟩
  | load ho _ ih => intro r s w; obtain ⟨s', w', h, c⟩ := ih r s w; exact ⟨s', w', .load (by rw [← w.heap]; exact ho) h, c⟩
  | update ho _ ih =>
    intro r s w
    obtain ⟨s', w', h, c⟩ := ih r _ (w.hp (fun h => h.update _ _))
    exact ⟨s', w', .update (by rw [← w.heap]; exact ho) h, c⟩
  | loadIfAlive _ ih =>
    intro r s w; obtain ⟨s', w', h, c⟩ := ih r s w
    rw [w.heap] at h
    exact ⟨s', w', .loadIfAlive h, c⟩
  | point _ ih => intro r s w; obtain ⟨s', w', h, c⟩ := ih r s w; exact ⟨s', w', .point h, c⟩
  | alloc _ ih =>
    intro r s w
    obtain ⟨s', w', h, c⟩ := ih r _ (w.hp (fun h => h.push _))
    rw [w.heap] at h
    exact ⟨s', w', .alloc h, c⟩
  | fresh _ ih =>
    intro r s w
    obtain ⟨s', w', h, c⟩ := ih r _ w.tk
    rw [w.toks] at h
    exact ⟨s', w', .fresh h, c⟩
  | ask _ ih => intro r s w; obtain ⟨s', w', h, c⟩ := ih r s w; exact ⟨s', w', .ask h, c⟩
  | choose hn _ ih =>
    intro r s w
    obtain ⟨s', w', h, c⟩ := ih r _ (w.dr _)
    rw [w.drawn] at h
    exact ⟨s', w', .choose hn h, c⟩
  | os _ ih =>
    intro r s w
    obtain ⟨s', w', h, c⟩ := ih r _ (w.osS _)
    rw [w.os] at h
    exact ⟨s', w', .os h, c⟩
  | handled _ ih => intro r s w; obtain ⟨s', w', h, c⟩ := ih r s w; exact ⟨s', w', .handled h, c⟩
  | genState hst _ ih =>
    intro r s w
    obtain ⟨s', w', h, c⟩ := ih r s w
    obtain ⟨x, hx, e⟩ := w.seen hst
    rw [e] at h
    exact ⟨s', w', .genState hx h, c⟩
  | stack _ ih => intro r s w; obtain ⟨s', w', h, c⟩ := ih r s w; exact ⟨s', w', .stack h, c⟩
  | thread _ ih => intro r s w; obtain ⟨s', w', h, c⟩ := ih r s w; exact ⟨s', w', .thread h, c⟩
  | newGen _ ih =>
    intro r s w
    obtain ⟨s', w', h, c⟩ := ih r _ w.push
    rw [w.size] at h
    exact ⟨s', w', .newGen h, c⟩
  | call _ _ ih1 ih2 =>
    intro r s w
    obtain ⟨s1, w1, h1, _⟩ := ih1 rfl s w
    obtain ⟨s', w', h, c⟩ := ih2 r s1 w1
    exact ⟨s', w', .call h1 h, c⟩
  | callSusp _ ih =>
    intro r s w
    obtain ⟨s', w', h, c⟩ := ih rfl s w
    exact ⟨s', w', .callSusp h, ret_app c rfl⟩
  | yield => exact fun _ s w => ⟨s, w, .yield, rfl⟩
  | resumeFresh hg _ hq _ ih1 ih2 =>
    intro r s w
    obtain ⟨g1, g2⟩ := w.get hg rfl
    obtain ⟨s1, w1, h1, c1⟩ := ih1 rfl _ (w.setGen (x := .running) g2 trivial)
    obtain ⟨s', w', h, c⟩ := ih2 r _ (w1.setGen g2 (clean_end c1))
    exact ⟨s', w', .resumeFresh g1 h1 hq h, c⟩
  | resumeSuspended hg h1 hq _ ih1 ih2 =>
    intro r s w
    rcases w.sus hg with e | ⟨b1, hs, b3⟩
    · rw [e] at h1
      exact (no_trap h1).elim
    · obtain ⟨s1, w1, h1', c1⟩ := ih1 b3 _ (w.setGen (x := .running) b1 trivial)
      obtain ⟨s', w', h, c⟩ := ih2 r _ (w1.setGen b1 (clean_end c1))
      exact ⟨s', w', .resumeSuspended hs h1' hq h, c⟩
  | resumeJustStarted hg hv _ ih =>
    intro r s w
    obtain ⟨g1, _⟩ := w.get hg rfl
    obtain ⟨s', w', h, c⟩ := ih r s w
    exact ⟨s', w', .resumeJustStarted g1 hv h, c⟩
  | resumeThrowFresh hg _ ih =>
    intro r s w
    obtain ⟨g1, g2⟩ := w.get hg rfl
    obtain ⟨s', w', h, c⟩ := ih r _ (w.setGen (x := .finished) g2 trivial)
    exact ⟨s', w', .resumeThrowFresh g1 h, c⟩
  | resumeRunning hg _ ih =>
    intro r s w
    obtain ⟨g1, _⟩ := w.get hg rfl
    obtain ⟨s', w', h, c⟩ := ih r s w
    exact ⟨s', w', .resumeRunning g1 h, c⟩
  | resumeFinished hg _ ih =>
    intro r s w
    obtain ⟨g1, _⟩ := w.get hg rfl
    obtain ⟨s', w', h, c⟩ := ih r s w
    exact ⟨s', w', .resumeFinished g1 h, c⟩
  | segRet _ _ ih1 ih2 =>
    intro r s w
    obtain ⟨s1, w1, h1, _⟩ := ih1 rfl s w
    obtain ⟨s', w', h, c⟩ := ih2 (ret_tail r).2 s1 w1
    exact ⟨s', w', .segRet h1 h, c⟩
  | segGen _ _ _ _ => intro r; cases (ret_tail r).1
  | segSuspOut hs _ ih =>
    intro r s w
    obtain ⟨s', w', h, c⟩ := ih rfl s w
    exact ⟨s', w', .segSuspOut hs h, ret_app c r⟩
  | segSuspGen hs _ _ _ _ _ =>
    intro r
    rw [split_ret r] at hs
    cases hs
theorem twin_code {M : Model} {A : Around} {c : Code} {R : Result → Shared → Prop} (w : Twin G s t) (h : codeAny M A c R t) : codeAny M A c (fun r s' => ∃ t', Twin G s' t' ∧ R r t') s := fun Γ p hc hΓ => by
  obtain ⟨r, t', hr, hR⟩ := h Γ p hc hΓ
  obtain ⟨s', w', hr', _⟩ := twin_runs hr rfl s w
  exact ⟨r, s', hr', t', w', hR⟩
theorem twin_wakes {M : Model} {Γ : Ctx} {p : Pos} {g : Nat} {r : Resume} {res : GenResult} {t' : Shared} (w : Twin G s t) (h : Wakes M Γ p g r t res t') : ∃ s', Twin G s' t' ∧ Wakes M Γ p g r s res s' := by
  unfold Wakes at h
  cases hg : t.gens[g]? with
  | none =>
    rw [hg] at h
    exact h.elim
  | some x =>
    rw [hg] at h
    cases x with
    | fresh c =>
      obtain ⟨g1, g2⟩ := w.get hg rfl
      cases r with
      | throw x =>
        obtain ⟨rfl, rfl⟩ := h
        refine ⟨_, w.setGen (x := .finished) g2 trivial, ?_⟩
        unfold Wakes
        rw [g1]
        exact ⟨rfl, rfl⟩
      | send v =>
        by_cases hv : v = .none
        · subst hv
          obtain ⟨e1, t1, h1, hq, rfl, rfl⟩ := h
          obtain ⟨s1, w1, h1', c1⟩ := twin_runs h1 rfl _ (w.setGen (x := .running) g2 trivial)
          refine ⟨_, w1.setGen g2 (clean_end c1), ?_⟩
          unfold Wakes
          rw [g1]
          exact ⟨e1, s1, h1', hq, rfl, rfl⟩
        · refine ⟨s, ?_, ?_⟩
          · cases v <;> first | exact absurd rfl hv | (obtain ⟨_, rfl⟩ := h; exact w)
          · unfold Wakes
            rw [g1]
            cases v <;> first | exact absurd rfl hv | (obtain ⟨rfl, _⟩ := h; exact ⟨rfl, rfl⟩)
    | suspended k l c p0 fs cl =>
      rcases w.sus hg with e | ⟨b1, hs, b3⟩
      · obtain ⟨e1, t1, h1, _⟩ := h
        rw [e] at h1
        exact (no_trap h1).elim
      · obtain ⟨e1, t1, h1, hq, rfl, rfl⟩ := h
        obtain ⟨s1, w1, h1', c1⟩ := twin_runs h1 b3 _ (w.setGen (x := .running) b1 trivial)
        refine ⟨_, w1.setGen b1 (clean_end c1), ?_⟩
        unfold Wakes
        rw [hs]
        exact ⟨e1, s1, h1', hq, rfl, rfl⟩
    | running =>
      obtain ⟨g1, _⟩ := w.get hg rfl
      obtain ⟨rfl, rfl⟩ := h
      refine ⟨s, w, ?_⟩
      unfold Wakes
      rw [g1]
      exact ⟨rfl, rfl⟩
    | finished =>
      obtain ⟨g1, _⟩ := w.get hg rfl
      obtain ⟨rfl, rfl⟩ := h
      refine ⟨s, w, ?_⟩
      unfold Wakes
      rw [g1]
      exact ⟨rfl, rfl⟩
theorem twin_wp {M : Model} {Γ : Ctx} {α : Type} {Q : α → Pos → Shared → Prop} {E : Value → Pos → Shared → Prop} (tm : Sem α) : ∀ {p : Pos} {s t : Shared}, Twin G s t → Sem.wp M Γ tm Q E p t →
    Sem.wp M Γ tm (fun a p s' => ∃ t', Twin G s' t' ∧ Q a p t') (fun a p s' => ∃ t', Twin G s' t' ∧ E a p t') p s := by
  induction tm with
  | pure a => exact fun w h => ⟨_, w, h⟩
  | raise x => exact fun w h => ⟨_, w, h⟩
  | unsupported x => exact fun w h => h.elim
  | finish x => exact fun w h => h.elim
  | register a k => exact fun w h => h.elim
  | yield v g l k => exact fun w h => h.elim
  | fork c k => exact fun w h => h.elim
  | await a f d l k => exact fun w h => h.elim
  | rule tag k ih => exact fun w h => ih () w h
  | «at» p' k ih => exact fun w h => ih () w h
  | load a part k ih =>
    intro p s t w h
    obtain ⟨o, ho, h⟩ := h
    exact ⟨o, w.heap ▸ ho, ih o w h⟩
  | update a part f k ih =>
    intro p s t w h
    obtain ⟨ha, h⟩ := h
    exact ⟨w.heap ▸ ha, ih () (w.hp (fun h => h.update a f)) h⟩
  | alloc o k ih =>
    intro p s t w h
    have h : Sem.wp M Γ (k t.heap.objs.size) Q E p { t with heap := t.heap.push o } := h
    have := ih _ (w.hp (fun h => h.push o)) h
    rw [w.heap] at this
    exact this
  | loadIfAlive a k ih =>
    intro p s t w h
    have := ih _ w h
    rw [w.heap] at this
    exact this
  | point l k ih => exact fun w h => ih () w h
  | fresh k ih =>
    intro p s t w h
    have h : Sem.wp M Γ (k t.toks) Q E p { t with toks := t.toks + 1 } := h
    have := ih _ w.tk h
    rw [w.toks] at this
    exact this
  | ask k ih => exact fun w h => ih _ w h
  | choose src n k ih =>
    intro p s t w h
    obtain ⟨hn, h⟩ := h
    have := ih _ (w.dr src) h
    rw [w.drawn] at this
    exact ⟨hn, this⟩
  | os q l k ih =>
    intro p s t w h
    have h : Sem.wp M Γ (k (Os.step t.os q).2) Q E p { t with os := (Os.step t.os q).1 } := h
    have := ih _ (w.osS q) h
    rw [w.os] at this
    exact this
  | call c hd g l k ih =>
    intro p s t w h
    obtain ⟨r, t1, hr, h⟩ := h
    obtain ⟨s1, w1, hr', _⟩ := twin_runs hr rfl s w
    exact ⟨r, s1, hr', ih r w1 h⟩
  | handled own k ih => exact fun w h => ih _ w h
  | newGen c k ih =>
    intro p s t w h
    have := ih _ w.push h
    rw [w.size] at this
    exact this
  | genState g k ih =>
    intro p s t w h
    obtain ⟨st, hst, h⟩ := h
    obtain ⟨x, hx, e⟩ := w.seen hst
    have := ih _ w h
    rw [e] at this
    exact ⟨x, hx, this⟩
  | resume g r l k ih =>
    intro p s t w h
    obtain ⟨res, t1, hw, h⟩ := h
    obtain ⟨s1, w1, hw'⟩ := twin_wakes w hw
    exact ⟨res, s1, hw', ih res w1 h⟩
  | stack k ih => exact fun w h => ih _ w h
  | thread k ih => exact fun w h => ih _ w h
theorem twin_any {M : Model} {A : Around} {α : Type} {tm : Sem α} {Q : α → Shared → Prop} {E : Value → Shared → Prop} (w : Twin G s t) (h : wpAny M A tm Q E t) :
    wpAny M A tm (fun a s' => ∃ t', Twin G s' t' ∧ Q a t') (fun a s' => ∃ t', Twin G s' t' ∧ E a t') s := fun Γ p hΓ => twin_wp tm w (h Γ p hΓ)
theorem Twin.kept (w : Twin G s t) {g : Nat} {x : GenState} (h : G[g]? = some x) (hx : sleeps x = true) : s.gens[g]? = some x := by
  rcases w.gens g with ⟨y, a1, _, a3, _⟩ | ⟨b1, _, _⟩
  · rw [h] at a1
    cases a1
    exact a3
  · rw [b1 x h] at hx
    cases hx
end Own

set_option Elab.async false
set_option maxRecDepth 100000
set_option maxHeartbeats 1000000
set_option linter.unusedVariables false
/-! OwnGn: generators that a loop with a body goes through: between two items anything may happen that the loop's own words allow. -/
namespace Own
open PySem PySem.Spec PyProof.Rows GenW L2

/-! ### a heap's first n places -/
def below (n : Nat) (h : Heap) : Heap := ⟨h.objs.extract 0 n, h.life⟩
theorem ext_get {α : Type} {n : Nat} {xs : Array α} {b : Nat} : (xs.extract 0 n)[b]? = if b < n then xs[b]? else none := by
  rw [Array.getElem?_extract, Nat.zero_add]
  by_cases l : b < n
  · rw [if_pos l]
    by_cases l2 : b < xs.size
    · rw [if_pos (by omega)]
    · rw [if_neg (by omega), Array.getElem?_eq_none (by omega)]
  · rw [if_neg l, if_neg (by omega)]
theorem below_get {n : Nat} {h : Heap} {b : Addr} : (below n h).get? b = if b < n then h.get? b else none := by
  unfold below Heap.get?
  dsimp only
  rw [ext_get]
  by_cases l : b < n
  · rw [if_pos l, if_pos l]
  · rw [if_neg l, if_neg l]
theorem below_of {n : Nat} {h : Heap} {b : Addr} {o : Obj} (e : (below n h).get? b = some o) : b < n ∧ h.get? b = some o := by
  rw [below_get] at e
  by_cases l : b < n
  · rw [if_pos l] at e
    exact ⟨l, e⟩
  · rw [if_neg l] at e
    cases e
theorem below_at {n : Nat} {h : Heap} {b : Addr} {o : Obj} (l : b < n) (e : h.get? b = some o) : (below n h).get? b = some o := by
  rw [below_get, if_pos l]
  exact e
theorem below_le {n : Nat} {h : Heap} : (below n h).objs.size ≤ n := by
  unfold below
  rw [Array.size_extract]
  omega
theorem below_size {n : Nat} {h : Heap} (l : n ≤ h.objs.size) : (below n h).objs.size = n := by
  unfold below
  rw [Array.size_extract]
  omega
theorem below_frames {n : Nat} {h base : Heap} : ∀ {l : List Env}, (∀ b ∈ frs l, b < n) → h.FunFrames base l → (below n h).FunFrames base l
  | [], _, _ => trivial
  | env :: l, lt, hf => by
    obtain ⟨a1, ⟨L, o, a2, a3, a4, a5⟩, a6⟩ := hf
    have e : frs (env :: l) = L :: frs l := by
      unfold frs
      rw [List.filterMap_cons, a2]
    refine ⟨a1, ⟨L, o, a2, a3, below_at (lt L (by rw [e]; exact List.mem_cons_self)) a4, a5⟩, below_frames (fun b hb => lt b (by rw [e]; exact List.mem_cons_of_mem _ hb)) a6⟩

/-! ### the contexts of one generator's run: a new one each time it is woken -/
structure GP where
  P : Program
  w : World
  K : PySem.W.Frag
  mg : Str → Option Value
  base : Heap
  N : List Str
  qual : Str
  scope : Scope
  f : Addr
  cd : Value
  n : Nat
  A : Around
  outer : List Env
  pn : List (Addr × Obj)
def GP.env (g : GP) : Env := envOfC g.qual g.scope g.n g.f g.cd
def GP.cx (g : GP) (t : Shared) (H : Hp) : Cx where
  prog := g.P
  w := g.w
  K := g.K
  mg := g.mg
  base := g.base
  A := g.A.deeper g.env
  N := g.N
  s_0 := { t with heap := below g.n t.heap }
  H_0 := H
  env := g.env
  outer := g.outer
  stack := g.env :: g.outer
  ex := []
  fn := fun _ => true
  calm := true
  pn := g.pn
  xe := fun _ _ => False
/-- no names of inner blocks -/
def GP.NoCells (g : GP) : Prop := ∀ x, g.env.cells.lookup x = none
/-- what is the generator's own stays through its sleep -/
structure Slum (g : GP) (ip : List (Addr × Obj)) (s s' : Shared) (H' : Hp) : Prop where
  fr : ∀ o, s.heap.get? g.n = some o → s'.heap.get? g.n = some o
  free : H' g.n = none
  pins : ∀ p ∈ g.pn ++ ip, s'.heap.get? p.1 = some p.2 ∧ H' p.1 = none
theorem GP.wake {g : GP} {t s1 s' : Shared} {H0 H1 H' : Hp} {ip : List (Addr × Obj)} {σ : L2.St} (nc : g.NoCells) (I : Inv (g.cx t H0) ip σ H1 s1) (e0 : Env0 g.P g.w g.K g.mg g.base g.A g.outer s' H') (z : Slum g ip s1 s' H') : Inv (g.cx s' H') ip σ H' s' := by
  obtain ⟨m, ⟨oL, es, ep, hL, dL, kL, fL⟩, loc⟩ := I.loc
  have hL' : s'.heap.get? g.n = some oL := z.fr oL hL
  have sz : g.n < s'.heap.objs.size := Heap.lt_size hL'
  have bz : g.base.objs.size ≤ g.n := Nat.le_trans I.ok.bsz below_le
  have fl : ∀ b ∈ frs g.outer, b < g.n := fun b hb => by
    obtain ⟨_, o, ho, _⟩ := Heap.FunFrames.mem I.ok.funs hb
    exact (below_of ho).1
  refine ⟨⟨e0.mod, I.ok.kind, I.ok.glob, I.ok.blt, below_le, I.ok.inj, I.ok.has, fun x c _ h => ?_, I.ok.hd, I.ok.frames, I.ok.stk, (fun b hb => by cases hb), fun b o e => ?_, ?_, (fun _ _ _ hb => by cases hb), (fun b hb => by cases hb), ?_, e0.frf⟩,
    rfl, e0.bare, ⟨fun b o e _ _ _ => (below_of e).2, fun b o e _ _ _ => ⟨o.slots, (below_of e).2⟩, fun _ _ _ n _ => n, fun b o e _ => ⟨o, (below_of e).2⟩, fun _ _ e => e, fun _ _ _ e => e, fun b ps e => ⟨#[], by show H' b = _; rw [show H' b = some (.tbl ps) from e]; simp⟩⟩,
    ⟨m, ⟨oL, es, ep, hL', dL, kL, fL⟩, fun i x v e1 e2 e3 => ?_⟩, fun x c h => ?_, z.free, fun x c h => ?_, fun p hp => ?_, e0.hok, I.len⟩
  · rw [show (g.cx s' H').env.cells.lookup x = none from nc x] at h
    cases h
  · have l := Heap.lt_size e
    obtain ⟨a, b2⟩ := e0.bs b o e
    exact ⟨below_at (Nat.lt_of_lt_of_le l bz) a, b2⟩
  · show g.base.objs.size ≤ (below g.n s'.heap).objs.size
    rw [below_size (Nat.le_of_lt sz)]
    exact bz
  · exact below_frames fl e0.funs
  · obtain ⟨u, r, l⟩ := loc i x v e1 e2 e3
    refine ⟨u, r, ?_⟩
    rcases l with l | ⟨_, c, hc, _⟩
    · exact .inl l
    · rw [show (g.cx t H0).env.cells.lookup x = none from nc x] at hc
      cases hc
  · rw [show (g.cx s' H').env.cells.lookup x = none from nc x] at h
    cases h
  · rw [show (g.cx s' H').env.cells.lookup x = none from nc x] at h
    cases h
  · obtain ⟨_, _, q3, q4, q5⟩ := I.pin p hp
    obtain ⟨q1, q2⟩ := z.pins p hp
    exact ⟨q1, q2, q3, q4, q5⟩

/-! ### the words between a generator and the loop -/
structure Pr (Γ : Type) where
  W : Nat → Γ → Shared → Hp → Prop
  C : Nat → Γ → Hp → Prop
  Rl : Hp → Hp → Prop
  Yd : Nat → Γ → V → Hp → Hp → Γ → Prop
  Dn : Nat → Γ → Hp → Hp → Prop
structure Pr.Ok {Γ : Type} (pr : Pr Γ) (g : GP) : Prop where
  env : ∀ i γ s H, pr.W i γ s H → Env0 g.P g.w g.K g.mg g.base g.A g.outer s H
  says : ∀ i γ s H, pr.W i γ s H → pr.C i γ H
section
variable {Γ : Type}
def Y2 (g : GP) (pr : Pr Γ) : Protocol := fun n s₀ v s kap => ∃ (i : Nat) (γ γ' : Γ) (x : V) (ip : List (Addr × Obj)) (σ : L2.St) (H₀ H₁ : Hp), n + 1 + i = sizeLine ∧ pr.W i γ s₀ H₀ ∧ Inv (g.cx s₀ H₀) ip σ H₁ s ∧ (∀ p ∈ g.pn ++ ip, g.n ≤ p.1) ∧ RelV x v ∧
  pr.Yd i γ x H₀ H₁ γ' ∧ ∀ s' H', pr.W (i + 1) γ' s' H' → pr.Rl H₁ H' → Slum g ip s s' H' → kap (.send .none) s'
def F2 (g : GP) (pr : Pr Γ) (s₀ s : Shared) : Prop := ∃ (i : Nat) (γ : Γ) (ip : List (Addr × Obj)) (σ : L2.St) (H₀ H₁ : Hp), pr.W i γ s₀ H₀ ∧ Inv (g.cx s₀ H₀) ip σ H₁ s ∧ pr.Dn i γ H₀ H₁
def R2 (g : GP) (pr : Pr Γ) : GenEnd := fun _ s₀ r s => ((r = .ok (.ret .none) ∨ r = .ok .next) ∧ F2 g pr s₀ s) ∨ ∃ e, r = .error e ∧ False
/-- what is wanted behind a statement of the generator: i items are out, γ is its own word for where it stands, H₀ the heap when it was woken last -/
structure GE (Γ : Type) where
  nx : Nat → Γ → Hp → L2.St → Hp → Prop
  rt : Nat → Γ → Hp → VK
  bk : Nat → Γ → Hp → L2.St → Hp → Prop := fun _ _ _ _ _ => False
  ct : Nat → Γ → Hp → L2.St → Hp → Prop := fun _ _ _ _ _ => False
def GE.at (D : GE Γ) (i : Nat) (γ : Γ) (H₀ : Hp) : Ends := { nx := D.nx i γ H₀, rt := D.rt i γ H₀, bk := D.bk i γ H₀, ct := D.ct i γ H₀ }
abbrev TG2 (Γ : Type) := Pr Γ → GE Γ → Nat → Γ → Hp → L2.St → Hp → Prop
structure GC2 (g : GP) (ip : List (Addr × Obj)) (c : Code) (fs : List Frame) (gd : Bool → Bool) : Prop where
  young : ∀ p ∈ g.pn ++ ip, g.n ≤ p.1
  over : g.A.over c fs = g.A.deeper g.env
  split : splitAtGen fs = none
  guard : fs.any Frame.guarded = false
  gd : gd false = false
abbrev Seg2 (g : GP) (pr : Pr Γ) (n : Nat) (s₀ : Shared) (c : Code) (t : Sem PySem.Fin) (fs : List Frame) (s : Shared) : Prop := Seg (model g.P g.w) g.A (R2 g pr) (Y2 g pr) n s₀ c t fs s
def GK2 (g : GP) (pr : Pr Γ) (ip : List (Addr × Obj)) (c : Code) (fs : List Frame) (K : Flow → Sem PySem.Fin) (D : GE Γ) : Prop :=
  ∀ (n i : Nat) (γ : Γ) (s₀ s : Shared) (H₀ : Hp) (fl : Flow), n + i = sizeLine → pr.W i γ s₀ H₀ → SP (g.cx s₀ H₀) ip (D.at i γ H₀) fl s → Seg2 g pr n s₀ c (K fl) fs s
structure GS2 (g : GP) (st : Stmt) (t : TG2 Γ) : Prop where
  run : ∀ (pr : Pr Γ) (ip : List (Addr × Obj)) (n i : Nat) (γ : Γ) (s₀ s : Shared) (H₀ H : Hp) (σ : L2.St) (c : Code) (fs : List Frame) (K : Flow → Sem PySem.Fin) (J : Value → Sem PySem.Fin) (gd : Bool → Bool) (lv : List Value → List Value) (D : GE Γ),
    pr.Ok g → GC2 g ip c fs gd → n + i = sizeLine → GK2 g pr ip c fs K D → pr.W i γ s₀ H₀ → Inv (g.cx s₀ H₀) ip σ H s → t pr D i γ H₀ σ H → Seg2 g pr n s₀ c ((exec st g.env).wrap K J gd lv) fs s
structure GSs2 (g : GP) (st : List Stmt) (t : TG2 Γ) : Prop where
  run : ∀ (pr : Pr Γ) (ip : List (Addr × Obj)) (n i : Nat) (γ : Γ) (s₀ s : Shared) (H₀ H : Hp) (σ : L2.St) (c : Code) (fs : List Frame) (K : Flow → Sem PySem.Fin) (J : Value → Sem PySem.Fin) (gd : Bool → Bool) (lv : List Value → List Value) (D : GE Γ),
    pr.Ok g → GC2 g ip c fs gd → n + i = sizeLine → GK2 g pr ip c fs K D → pr.W i γ s₀ H₀ → Inv (g.cx s₀ H₀) ip σ H s → t pr D i γ H₀ σ H → Seg2 g pr n s₀ c ((execs st g.env).wrap K J gd lv) fs s
variable {g : GP} {st : Stmt} {rest : List Stmt}
def tP2 (t : TS) : TG2 Γ := fun _ D i γ H₀ σ H => t (D.at i γ H₀) σ H
theorem gs2_ps {t : TS} (h : ∀ u H, PS (g.cx u H) st t) : GS2 g st (tP2 (Γ := Γ) t) := by
  refine ⟨fun pr ip n i γ s₀ s H₀ H σ c fs K J gd lv D ok gc hn gk w I ht => ?_⟩
  refine seg_wrap ?_
  rw [gc.over]
  exact wpAny_mono ((h s₀ H₀).run _ s σ H (D.at i γ H₀) I ht) (fun fl s' hs => gk n i γ s₀ s' H₀ fl hn w hs) fun x s' hx => hx.elim
def tN2 : TG2 Γ := fun _ D i γ H₀ σ H => D.nx i γ H₀ σ H
theorem gss2_nil : GSs2 g [] (tN2 (Γ := Γ)) := by
  refine ⟨fun pr ip n i γ s₀ s H₀ H σ c fs K J gd lv D ok gc hn gk w I ht => ?_⟩
  exact seg_execs_nil (gk n i γ s₀ s H₀ .next hn w ⟨σ, H, I, ht⟩)
def tThen2 (t u : TG2 Γ) : TG2 Γ := fun pr D i γ H₀ σ H => t pr { D with nx := fun i' γ' H₀' σ' H' => u pr D i' γ' H₀' σ' H' } i γ H₀ σ H
theorem gss2_cons {t u : TG2 Γ} (a : GS2 g st t) (b : GSs2 g rest u) : GSs2 g (st :: rest) (tThen2 t u) := by
  refine ⟨fun pr ip n i γ s₀ s H₀ H σ c fs K J gd lv D ok gc hn gk w I ht => ?_⟩
  refine seg_execs_cons (a.run pr ip n i γ s₀ s H₀ H σ c fs _ J gd lv _ ok gc hn (fun n' i' γ' s₀' s' H₀' fl hn' w' hs => ?_) w I ht)
  match fl, hs with
  | .next, hs =>
    obtain ⟨σ', H', I', q⟩ := hs
    exact b.run pr ip n' i' γ' s₀' s' H₀' H' σ' c fs K J gd lv D ok gc hn' gk w' I' q
  | .brk, hs => exact gk n' i' γ' s₀' s' H₀' .brk hn' w' hs
  | .cont, hs => exact gk n' i' γ' s₀' s' H₀' .cont hn' w' hs
  | .ret u, hs => exact gk n' i' γ' s₀' s' H₀' (.ret u) hn' w' hs
def tY2 (te : TE) : TG2 Γ := fun pr D i γ H₀ σ H => i < sizeLine ∧ te σ H fun x H₁ => ∃ γ', pr.Yd i γ x H₀ H₁ γ' ∧ ∀ H', pr.C (i + 1) γ' H' → pr.Rl H₁ H' → D.nx (i + 1) γ' H' σ H'
theorem gs2_yield {e : Expr} {yp pos : Pos} {te : TE} (nc : g.NoCells) (he : ∀ u H, PE (g.cx u H) e te) (hco : g.env.scope.isCoroutine = false := by rfl) (hi : interactive g.env = false := by rfl) : GS2 g (.Expr (.Yield (some e) yp) pos) (tY2 (Γ := Γ) te) := by
  refine ⟨fun pr ip n i γ s₀ s H₀ H σ c fs K J gd lv D ok gc hn gk w I ht => ?_⟩
  obtain ⟨hlt, ht⟩ := ht
  obtain ⟨n, rfl⟩ : ∃ m, n = m + 1 := ⟨n - 1, by omega⟩
  refine seg_Expr_Yield gc.split gc.gd gc.guard ?_ hco hi
  rw [gc.over]
  refine wpAny_mono ((he s₀ H₀).run _ s σ H _ I ht) (fun v s' hv => ?_) fun x s' hx => hx.elim
  obtain ⟨x, H₁, I1, rv, γ', hy, q⟩ := hv
  intro kap hk
  refine ⟨i, γ, γ', x, ip, σ, H₀, H₁, hn, w, I1, gc.young, rv, hy, fun s'' H'' w'' rl sl => hk .none s'' ?_⟩
  exact gk n (i + 1) γ' s'' s'' H'' .next (by omega) w'' ⟨σ, H'', GP.wake nc I1 (ok.env _ _ _ _ w'') sl, q H'' (ok.says _ _ _ _ w'') rl⟩
def tW2 (c : TT) (tb : TG2 Γ) : TG2 Γ := fun pr D i γ H₀ σ H => ∃ B : Nat → Nat → Γ → Hp → L2.St → Hp → Prop, (∃ m, B m i γ H₀ σ H) ∧ ∀ m i γ H₀ σ H, B m i γ H₀ σ H →
  c σ H fun b H1 => if b = true then ∃ N : Nat → Γ → Hp → L2.St → Hp → Prop, (∀ i' γ' H₀' σ' H', N i' γ' H₀' σ' H' → ∃ m', m' < m ∧ B m' i' γ' H₀' σ' H') ∧ tb pr { D with nx := N, ct := N, bk := D.nx } i γ H₀ σ H1 else D.nx i γ H₀ σ H1
theorem gs2_while {test : Expr} {body : List Stmt} {pos : Pos} {tc : TT} {tb : TG2 Γ} (hc : ∀ u H, PT (g.cx u H) test tc) (hb : GSs2 g body tb) : GS2 g (.While test body [] pos) (tW2 tc tb) := by
  refine ⟨fun pr ip n i γ s₀ s H₀ H σ c fs K J gd lv D ok gc hn gk w I ht => ?_⟩
  obtain ⟨B, ⟨m0, b0⟩, turn⟩ := ht
  refine seg_While fun p => ?_
  have gl : ∀ kk : Result → Sem PySem.Fin, GC2 g ip (.whileLoop test body [] g.env) (.ret kk none (gd false) (lv []) c p [] :: fs) id := fun kk =>
    ⟨gc.young, (over_loop rfl rfl).trans gc.over, by show (splitAtGen fs).map _ = none; rw [gc.split]; rfl, by show (gd false || fs.any Frame.guarded) = false; rw [gc.gd, gc.guard]; rfl, rfl⟩
  have back : ∀ (m n i : Nat) (γ : Γ) (s₀ s : Shared) (H₀ H : Hp) (σ : L2.St), n + i = sizeLine → B m i γ H₀ σ H → pr.W i γ s₀ H₀ → Inv (g.cx s₀ H₀) ip σ H s →
      Seg2 g pr n s₀ (.whileLoop test body [] g.env) ((model g.P g.w).den (.whileLoop test body [] g.env))
        (.ret (fun r => ((match r with | .ok f => (.pure f : Sem Flow) | .error e => .raise e).onRaise (cameBack g.env)).wrap K J gd lv) none (gd false) (lv []) c p [] :: fs) s := by
    intro m
    induction m using Nat.strongRecOn with
    | ind m ih =>
      intro n i γ s₀ s H₀ H σ hn b w I
      refine seg_whileLoop ?_
      rw [(gl _).over]
      refine wpAny_mono ((hc s₀ H₀).run _ s σ H _ I (turn m i γ H₀ σ H b)) (fun b s' hb' => ?_) fun x s' hx => hx.elim
      obtain ⟨H2, I2, q2⟩ := hb'
      match b, q2 with
      | true, q2 =>
        obtain ⟨N, hN, q2⟩ := q2
        rw [if_pos rfl]
        refine hb.run pr ip n i γ s₀ s' H₀ H2 σ _ _ _ _ id id _ ok (gl _) hn (fun n' i' γ' s₀' s3 H₀' fl hn' w' hs => ?_) w I2 q2
        match fl, hs with
        | .next, hs =>
          obtain ⟨σ3, H3, I3, n3⟩ := hs
          obtain ⟨m', hm, b3⟩ := hN _ _ _ _ _ n3
          exact seg_again rfl (ih m' hm n' i' γ' s₀' s3 H₀' H3 σ3 hn' b3 w' I3)
        | .cont, hs =>
          obtain ⟨σ3, H3, I3, n3⟩ := hs
          obtain ⟨m', hm, b3⟩ := hN _ _ _ _ _ n3
          exact seg_again rfl (ih m' hm n' i' γ' s₀' s3 H₀' H3 σ3 hn' b3 w' I3)
        | .brk, hs => exact seg_leaf (.ok .next) (gk n' i' γ' s₀' s3 H₀' .next hn' w' hs)
        | .ret v, hs => exact seg_leaf (.ok (.ret v)) (gk n' i' γ' s₀' s3 H₀' (.ret v) hn' w' hs)
      | false, q2 =>
        rw [if_neg Bool.false_ne_true]
        refine seg_execs_nil ?_
        exact seg_leaf (.ok .next) (gk n i γ s₀ s' H₀ .next hn w ⟨σ, H2, I2, q2⟩)
  exact back m0 n i γ s₀ s H₀ H σ hn b0 w I
end
end Own

set_option Elab.async false
set_option maxRecDepth 100000
set_option maxHeartbeats 1000000
set_option linter.unusedVariables false
/-! OwnGo: a generator def's promise, told for a loop; «for x in g:» with any body. -/
namespace Own
open PySem PySem.Spec PyProof.Rows GenW L2

/-! ### the next item; the generator then sleeps -/
section
variable {M : Model} {A : Around} {R : GenEnd} {Y : Protocol} {n g : Nat} {E : Value → Shared → Prop} {s : Shared} {gs : GenState}
def kapOf (M : Model) (A : Around) (R : GenEnd) (Y : Protocol) (gs' : GenState) : Nat → Resume → Shared → Prop
  | 0 => fun _ _ => False
  | m + 1 => fun r' s'' => gs'.Goes M A R Y m r' s''
theorem wake_gen {r : Resume} {l : List Value} {α : Type} {k : GenResult → Sem α} {Q : α → Shared → Prop} (hg : s.gens[g]? = some gs) (go : gs.Goes M A R Y n r (s.setGen g .running))
    (hR : ∀ x s₁, R n (s.setGen g .running) x s₁ → wpAny M A (k (End.ret x).result) Q E (s₁.setGen g .finished))
    (hY : ∀ v s₁ gs', gs'.bare = true → sleeps gs' = true → g < s₁.gens.size → Y (n - 1) (s.setGen g .running) v s₁ (kapOf M A R Y gs' n) → wpAny M A (k (.yielded v)) Q E (s₁.setGen g gs')) :
    wpAny M A (.resume g r l k) Q E s := fun Γ p hΓ => by
  have lt : g < s.gens.size := (Array.getElem?_eq_some_iff.mp hg).1
  rw [Sem.wp_resume]
  have fin : ∀ (e : End) (s₁ : Shared), s.gens.size ≤ s₁.gens.size → SegEnd R Y n (Seg.next M A R Y n) (s.setGen g .running) e s₁ →
      e.quiet = true ∧ Sem.wp M Γ (k e.result) (fun a _ s' => Q a s') (fun x _ s' => E x s') p (s₁.setGen g e.genState) := by
    intro e s₁ ls h
    match e, h with
    | .ret x, h => exact ⟨rfl, hR x s₁ h Γ p hΓ⟩
    | .susp v g0 l0 k0 c0 p0 f0, h =>
      refine ⟨h.1, hY v s₁ _ (End.bare_of_quiet h.1) rfl (Nat.lt_of_lt_of_le lt ls) ?_ Γ p hΓ⟩
      match n, h with
      | 0, h => exact h.2
      | m + 1, h => exact h.2
  match gs, hg, go with
  | .fresh c, hg, go =>
    obtain ⟨rfl, sg⟩ := go
    obtain ⟨e, s₁, hr, he⟩ := seg_iff.mp sg (Γ.wake c p) p rfl (hΓ.wake c p)
    have ls := runs_gsz hr
    rw [setGen_size] at ls
    obtain ⟨q, w⟩ := fin e s₁ ls he
    exact ⟨_, _, by unfold Wakes; rw [hg]; exact ⟨e, s₁, hr, q, rfl, rfl⟩, w⟩
  | .suspended k0 l0 c0 p0 f0 cl, hg, go =>
    obtain ⟨e, s₁, hr, he⟩ := seg_iff.mp go (Γ.wake c0 p) p0 rfl (hΓ.wake c0 p)
    have ls := runs_gsz hr
    rw [setGen_size] at ls
    obtain ⟨q, w⟩ := fin e s₁ ls he
    exact ⟨_, _, by unfold Wakes; rw [hg]; exact ⟨e, s₁, hr, q, rfl, rfl⟩, w⟩
  | .running, hg, go => exact go.elim
  | .finished, hg, go => exact go.elim
end
section
variable {P : Program} {w : World} {A : Around} {E : Value → Shared → Prop} {s : Shared}
abbrev RF (F : Shared → Shared → Prop) : GenEnd := fun _ s₀ r s₁ => ((r = .ok (.ret .none) ∨ r = .ok .next) ∧ F s₀ s₁) ∨ ∃ e, r = .error e ∧ False
theorem next_own {a : Addr} {g n : Nat} {gs : GenState} {F : Shared → Shared → Prop} {Y : Protocol} {Q : Option Value → Shared → Prop} (hh : A.handled = none) (nl : s.heap.NoLimit) (room : A.depth < recursionLimit) (ig : s.heap.IsGen a g) (hgs : s.gens[g]? = some gs)
    (go : gs.Goes (model P w) A.in1 (RF F) Y n (.send .none) (s.setGen g .running))
    (hY : ∀ v s₁ gs', gs'.bare = true → sleeps gs' = true → g < s₁.gens.size → Y (n - 1) (s.setGen g .running) v s₁ (kapOf (model P w) A.in1 (RF F) Y gs' n) → Q (some v) (s₁.setGen g gs'))
    (hP : ∀ s₁, F (s.setGen g .running) s₁ → ∀ h', (∀ b o, s₁.heap.get? b = some o → h'.get? b = some o) → Q none { s₁.setGen g .finished with heap := h' }) : wpAny (model P w) A (pyNext (.ref a)) Q E s := by
  unfold pyNext
  refine wpAny_bind (wpAny_attempt (wpAny_callSpecial?_slot (name := Str.ofString "__next__") ig.typeIs slot_gen_next (wpAny_call_entry slot_gen_next ig.typeIs entry_gen_next ?_ (args_gen_next _))))
  show wpAny _ A.in1 (Builtin.Generator.genWake (.ref a) (.send .none)) _ _ s
  unfold Builtin.Generator.genWake
  refine wpAny_bind (wpAny_holding (wpAny_genNumber ig (wpAny_bind (wpAny_genState hgs ?_))))
  have both : ∀ {l : List Value} {k : GenResult → Sem PySem.Fin} {Q' : PySem.Fin → Shared → Prop} {E' : Value → Shared → Prop},
      (∀ s₁, F (s.setGen g .running) s₁ → wpAny (model P w) A.in1 (k (.returned .none)) Q' E' (s₁.setGen g .finished)) →
      (∀ v s₁ gs', gs'.bare = true → sleeps gs' = true → g < s₁.gens.size → Y (n - 1) (s.setGen g .running) v s₁ (kapOf (model P w) A.in1 (RF F) Y gs' n) → wpAny (model P w) A.in1 (k (.yielded v)) Q' E' (s₁.setGen g gs')) →
      wpAny (model P w) A.in1 (.resume g (.send .none) l k) Q' E' s := fun {l k Q' E'} h1 h2 => by
    refine wake_gen hgs go (fun x s₁ hx => ?_) h2
    rcases hx with ⟨hr, hf⟩ | ⟨_, _, z⟩
    · have er : End.result (.ret x) = .returned .none := by rcases hr with hr | hr <;> rw [hr] <;> rfl
      first | rw [er] | simp only [er]
      exact h1 s₁ hf
    · exact z.elim
  cases gs with
  | running => exact go.elim
  | finished => exact go.elim
  | _ =>
    refine wpAny_bind (wpAny_roomToWake nl room ?_)
    show wpAny _ A.in1 (.resume g (.send .none) [] _) _ _ s
    refine both (fun s₁ hf => ?_) fun v s₁ gs' hb hz hs hv => ?_
    rotate_left
    · exact wpAny_pure ⟨v, rfl, wpAny_pure (hY v s₁ gs' hb hz hs hv)⟩
    show wpAny _ A.in1 (newExc (.type "StopIteration") [] >>= _) _ _ _
    refine wpAny_bind ?_
    simp only [newExc, newTuple]
    refine wpAny_bind (wpAny_newObj_type ?_ (by size_fits))
    refine wpAny_bind (m := firstArgMember _ _) (wpAny_of_eq (a := Value.none) (by first | rfl | (simp only [firstArgMember]; rfl)) ?_)
    refine wpAny_newObj_type ?_ (by size_fits)
    simp only [raiseNew]
    refine wpAny_bind (wpAny_bind (wpAny_handled ?_))
    first | rw [show A.in1.handled = none from hh] | rw [hh]
    refine wpAny_throw ?_
    refine wpAny_bind (wpAny_isInstance (T := "StopIteration") (b := true) ⟨_, Heap.get?_push_size _ rfl, rfl⟩ isSubtype_stop ?_)
    exact wpAny_pure (hP s₁ hf _ fun b o e => Heap.get?_push_of_some _ (Heap.get?_push_of_some _ e))
end
end Own

set_option Elab.async false
set_option maxRecDepth 100000
set_option maxHeartbeats 1000000
set_option linter.unusedVariables false
namespace Own
open PySem PySem.Spec PyProof.Rows GenW L2

/-! ### what a call of a generator def gives -/
/-- the arguments, the heap; the loop's word at each waking, what its body may do, each item, the end; the generator's own word at the beginning -/
abbrev SpF (Γ : Type) := List V → Hp → (Nat → Γ → Hp → Prop) → (Hp → Hp → Prop) → (Nat → Γ → V → Hp → Hp → Γ → Prop) → (Nat → Γ → Hp → Hp → Prop) → Γ → Prop
def Made2 {Γ : Type} (X : Cx) (k : Nat) (sp : SpF Γ) (H : Hp) (s : Shared) (vs : List V) (u : Value) (s' : Shared) : Prop :=
  ∃ (a : Addr) (gi : Nat) (c : Code) (go oL : Obj) (N : List Str) (qual : Str) (scope : Scope) (f : Addr) (cd : Value) (σ : L2.St), u = .ref a ∧ s.heap.objs.size < a ∧ s'.heap.get? a = some go ∧ (∀ h : Heap, h.get? a = some go → h.IsGen a gi) ∧ (∀ v, go.data ≠ .cell v) ∧
    s'.heap.get? s.heap.objs.size = some oL ∧ (∀ v, oL.data ≠ .cell v) ∧ s'.gens[gi]? = some (.fresh c) ∧ s'.os = s.os ∧ AllBare s'.gens ∧ (∀ b o, s.heap.get? b = some o → s'.heap.get? b = some o) ∧
    ∀ A : Around, Room k A → A.frames = some X.stack → ∀ (pr : Pr Γ) (γ₀ : Γ) (g : GP), g = ⟨X.prog, X.w, X.K, X.mg, X.base, N, qual, scope, f, cd, s.heap.objs.size, A, X.stack, [(a, go)]⟩ → g.NoCells ∧ (pr.Ok g → sp vs H pr.C pr.Rl pr.Yd pr.Dn γ₀ →
      ∀ s2 H2, pr.W 0 γ₀ s2 H2 → pr.Rl H H2 → s2.heap.get? s.heap.objs.size = some oL → H2 s.heap.objs.size = none → s2.heap.get? a = some go → H2 a = none →
        Seg2 g pr sizeLine s2 c ((model X.prog X.w).den c) [] s2)
structure GFn2 {Γ : Type} (P : Program) (w : World) (K : PySem.W.Frag) (mg : Str → Option Value) (base : Heap) (k : Nat) (f : Addr) (fd : FuncData) (ps : List Str) (sp : SpF Γ) (ok : List V → Prop) : Prop where
  len : ∀ vs, ok vs → vs.length = ps.length
  run : ∀ (X : Cx) (A : Around) (s : Shared) (H : Hp) (args : Args) (us : List Value) (vs : List V), X.prog = P → X.w = w → X.K = K → X.mg = mg → X.base = base → Room k A → Env0 P w K mg base A X.stack s H → BindsTo s fd args (ps.zip us) → Vals vs us → ok vs →
    codeAny (model P w) A (.call (.ref f) args) (fun r s' => match r with | .ok (.ret u) => Made2 X k sp H s vs u s' | _ => False) s
theorem no_look {α : Type} {a : Option α} {c : α} {G : Prop} (h : a = none) (z : a = some c) : G := by
  rw [h] at z
  cases z
/-- a generator def, by its body -/
theorem gfn2_of {Γ : Type} {P : Program} {w : World} {K : PySem.W.Frag} {mg : Str → Option Value} {base : Heap} {k : Nat} {f : Addr} {name qual : Str} {params : Arguments} {body : List Stmt} {scope : Scope} {dV kV doc pm cdv ct oc : Value} {an od : Option Addr} {osl : Array (Option Value)} {N ps : List Str}
    {sp : SpF Γ} {okv : List V → Prop} (lk : K.lookup f = some ⟨oc, od, .func (PySem.W.fnOf name qual params body scope dV kV doc pm an cdv ct), osl⟩) (hcd : PySem.W.codeIn K cdv qual = true) (S : GScope N ps scope) (len : ∀ vs, okv vs → vs.length = ps.length)
    (nc : ∀ n x, (envOfC qual scope n f cdv).cells.lookup x = none)
    (hbody : ∀ (n : Nat) (A : Around) (outer : List Env) (pn : List (Addr × Obj)) (vs : List V) (H : Hp) (pr : Pr Γ) (γ₀ : Γ), Room k (A.deeper (envOfC qual scope n f cdv)) → GP.NoCells ⟨P, w, K, mg, base, N, qual, scope, f, cdv, n, A, outer, pn⟩ → okv vs → sp vs H pr.C pr.Rl pr.Yd pr.Dn γ₀ →
      ∃ t, GSs2 ⟨P, w, K, mg, base, N, qual, scope, f, cdv, n, A, outer, pn⟩ body t ∧ ∀ H', pr.C 0 γ₀ H' → pr.Rl H H' → t pr { nx := fun i γ H₀ _ H₁ => pr.Dn i γ H₀ H₁, rt := fun i γ H₀ v H₁ => v = .non ∧ pr.Dn i γ H₀ H₁ } 0 γ₀ H' (start N vs) H') :
    GFn2 P w K mg base (k + 1) f (PySem.W.fnOf name qual params body scope dV kV doc pm an cdv ct) ps sp okv := by
  refine ⟨len, fun X A s H args us vs hP hw hK hmg hb hr e0 bd r hok => ?_⟩
  subst hP hw hK hmg hb
  have hl := len _ hok
  have KX : X.K.In s.heap := e0.mod.kin.keeps fun b o e => (e0.bs b o e).1
  have hkind : ∀ y ∈ ps.zip us, scope.names.lookup y.1 = some .local ∨ (scope.names.lookup y.1 = some .cell ∧ ((cellsFrom (s.heap.objs.size + 1) scope.names []).lookup y.1).isSome = true) := fun ⟨z, v⟩ hy => by
    rcases S.par z (List.of_mem_zip hy).1 with q | q
    · exact .inl q
    · exact .inr ⟨q, PySem.W.cellsFrom_some _ _ _ (.inl q)⟩
  refine codeAny_call_generator hr.depth (KX _ _ lk) rfl S.co S.gen rfl (PySem.W.codeRec_of KX hcd) (bd _ _ _ _ ?_)
  refine wpAny_newFunctionEnv_cells S.kind hkind fun env he s1 x => ?_
  subst he
  have lim : s.heap.NoLimit := e0.mod.nolimit.keeps fun b o e => (e0.bs b o e).1
  refine ⟨lim.keeps x.toInCall.keep, ?_⟩
  have I1 : Inv (gcxOf X.prog X.w X.K X.mg X.base N qual scope f cdv A X.stack s H E0 []) [] (start N vs) H s1 := inv_startG S hr.hd e0 hl r x
  obtain ⟨h1, tk, es1, _⟩ := x.done
  have os1 : s1.os = s.os := by rw [es1]
  have gen1 : s1.gens = s.gens := by rw [es1]
  have lt1 : s.heap.objs.size < s1.heap.objs.size := x.toInCall.ns.lt
  obtain ⟨mL, ⟨oL, esL, epL, hL, dL, kL, fL⟩, _⟩ := id I1.loc
  have fin : ∀ (gob : Obj) (nm qn : Value) (tk2 : Nat), gob.cls = .type "generator" → gob.data = .fields #[.int s1.gens.size 0, nm, qn] → gob.slots = #[] → (∀ h : Heap, (h.push gob).get? h.objs.size = some gob) →
      Made2 X (k + 1) sp H s vs (.ref s1.heap.objs.size) { s1 with gens := s1.gens.push (.fresh (.func body (envOfC qual scope s.heap.objs.size f cdv))), toks := tk2, heap := s1.heap.push gob } := by
    intro gob nm qn tk2 q1 q2 q3 q4
    refine ⟨s1.heap.objs.size, s1.gens.size, _, gob, oL, N, qual, scope, f, cdv, start N vs, rfl, lt1, q4 _, fun h e => ⟨gob, nm, qn, e, q1, q2, q3⟩, (fun v z => by rw [q2] at z; cases z), Heap.get?_push_of_some _ hL, (fun v z => by rw [dL] at z; cases z), Array.getElem?_push_size .., os1, ?_, fun b o e => Heap.get?_push_of_some _ (x.toInCall.keep b o e), ?_⟩
    · exact AllBare.push (by rw [gen1]; exact e0.bare) rfl
    intro Aw hrw hfr pr γ₀ g hg
    have ncg : g.NoCells := by
      subst hg
      exact fun y => nc _ y
    refine ⟨ncg, fun hpr hsp s2 H2 w2 rl2 l2 n2 a2 na2 => ?_⟩
    have e2 := hpr.env _ _ _ _ w2
    subst hg
    obtain ⟨t, ht, hq⟩ := hbody s.heap.objs.size Aw X.stack [(s1.heap.objs.size, gob)] vs H pr γ₀ (hrw.deeper _) ncg hok hsp
    -- the frame as the call left it, in the first waking's context
    have fl : ∀ b ∈ frs X.stack, b < s.heap.objs.size := fun b hb => by
      obtain ⟨_, o, ho, _⟩ := Heap.FunFrames.mem e0.funs hb
      exact Heap.lt_size ho
    obtain ⟨_, _, loc⟩ := id I1.loc
    have I2 : Inv (GP.cx ⟨X.prog, X.w, X.K, X.mg, X.base, N, qual, scope, f, cdv, s.heap.objs.size, Aw, X.stack, [(s1.heap.objs.size, gob)]⟩ s2 H2) [] (start N vs) H2 s2 := by
      have sz : s.heap.objs.size < s2.heap.objs.size := Heap.lt_size l2
      refine ⟨⟨e2.mod, I1.ok.kind, I1.ok.glob, I1.ok.blt, below_le, I1.ok.inj, I1.ok.has, fun y c _ h => ?_, fun _ => hrw.hd, Around.frames_deeper e2.frames, .inr ⟨rfl, rfl⟩, (fun b hb => by cases hb), fun b o e => ?_, ?_, (fun _ _ _ hb => by cases hb), (fun b hb => by cases hb), ?_, e2.frf⟩,
        rfl, e2.bare, ⟨fun b o e _ _ _ => (below_of e).2, fun b o e _ _ _ => ⟨o.slots, (below_of e).2⟩, fun _ _ _ n _ => n, fun b o e _ => ⟨o, (below_of e).2⟩, fun _ _ e => e, fun _ _ _ e => e, fun b ps e => ⟨#[], by show H2 b = _; rw [show H2 b = some (.tbl ps) from e]; simp⟩⟩,
        ⟨mL, ⟨oL, esL, epL, l2, dL, kL, fL⟩, fun i y v e1 e2 e3 => ?_⟩, fun y c h => ?_, n2, fun y c h => ?_, fun p hp => ?_, e2.hok, I1.len⟩
      · exact no_look (nc _ y) h
      · obtain ⟨b1, b2⟩ := e2.bs b o e
        exact ⟨below_at (Nat.lt_of_lt_of_le (Heap.lt_size e) e0.bsz) b1, b2⟩
      · show X.base.objs.size ≤ (below s.heap.objs.size s2.heap).objs.size
        rw [below_size (Nat.le_of_lt sz)]
        exact e0.bsz
      · exact below_frames fl e2.funs
      · obtain ⟨m', hns, loc'⟩ := id I1.loc
        obtain ⟨o', es', ep', hL', dL', _, fL'⟩ := hns
        obtain ⟨u, ru, l⟩ := loc' i y v e1 e2 e3
        refine ⟨u, ru, ?_⟩
        rcases l with ⟨l1, l2'⟩ | ⟨_, c, hc, _⟩
        · refine .inl ⟨l1, ?_⟩
          have hL2 : s1.heap.get? s.heap.objs.size = some oL := hL
          have hL3 : s1.heap.get? s.heap.objs.size = some o' := hL'
          rw [hL2] at hL3
          cases hL3
          rw [dL] at dL'
          cases dL'
          rw [← fL y, fL' y]
          exact l2'
        · exact no_look (nc _ y) hc
      · exact no_look (nc _ y) h
      · exact no_look (nc _ y) h
      · rw [List.append_nil] at hp
        rw [List.mem_singleton.mp hp]
        refine ⟨a2, na2, ?_, fun hb => ?_, fun v z => by rw [q2] at z; cases z⟩
        · exact Nat.ne_of_gt lt1
        · exact absurd (Nat.lt_trans (fl _ hb) lt1) (Nat.lt_irrefl _)
    refine seg_func ?_
    refine ht.run pr [] sizeLine 0 γ₀ s2 s2 H2 H2 (start N vs) _ [] _ _ id id _ hpr ⟨fun p hp => ?_, over_func, rfl, rfl, rfl⟩ rfl (fun n i γ s₀ s' H₀ fl hn w' hs => ?_) w2 I2 (hq H2 (hpr.says _ _ _ _ w2) rl2)
    · rw [List.append_nil] at hp
      rw [List.mem_singleton.mp hp]
      exact Nat.le_of_lt lt1
    · match fl, hs with
      | .next, hs =>
        obtain ⟨σ', H', I', q⟩ := hs
        exact seg_end (.ok (.ret .none)) (.inl ⟨.inl rfl, i, γ, [], σ', H₀, H', w', I', q⟩)
      | .brk, hs => obtain ⟨_, _, _, q⟩ := hs; exact q.elim
      | .cont, hs => obtain ⟨_, _, _, q⟩ := hs; exact q.elim
      | .ret u, hs =>
        obtain ⟨v, σ', H', I', rv, rfl, q⟩ := hs
        obtain rfl : u = Value.none := rv
        exact seg_end (.ok (.ret .none)) (.inl ⟨.inl rfl, i, γ, [], σ', H₀, H', w', I', q⟩)
  exact fin _ _ _ _ rfl rfl rfl fun h => Heap.get?_push_size _ rfl
end Own

set_option Elab.async false
set_option maxRecDepth 100000
set_option maxHeartbeats 1000000
set_option linter.unusedVariables false
namespace Own
open PySem PySem.Spec PyProof.Rows GenW L2

/-! ### an expression whose value is a generator that has not begun -/
abbrev TGen2 := L2.St → Hp → (List V → Hp → Prop) → Prop
structure PGen2 {Γ : Type} (X : Cx) (k : Nat) (sp : SpF Γ) (e : Expr) (tg : TGen2) : Prop where
  run : ∀ (pins : List (Addr × Obj)) (s : Shared) (σ : L2.St) (H : Hp) (cont : List V → Hp → Prop), Inv X pins σ H s → tg σ H cont → wpAny (model X.prog X.w) X.A (eval e X.env)
    (fun u s' => ∃ vs H1 sc, Inv X pins σ H1 sc ∧ cont vs H1 ∧ Made2 X k sp H1 sc vs u s') X.xe s
section
variable {Γ : Type} {X : Cx} {k n : Nat} {C f : Addr} {fd : FuncData} {ps ks : List Str} {sp : SpF Γ} {okv : List V → Prop} {m : Str} {pos apos : Pos} {o e : Expr} {es : List Expr} {kws : List Keyword} {to : TE} {t tk : TA} {dvs : List V} {ds : List Value}
  {gf : List Value → List Value → List Value} {gV : List V → List V → List V} {pl : Sem Bool}
theorem run_g2 {pins : List (Addr × Obj)} {σ : L2.St} {H : Hp} {s : Shared} {us : List Value} {vs : List V} {cont : List V → Hp → Prop} {E1 : Value → Shared → Prop} (F : GFn2 X.prog X.w X.K X.mg X.base k f fd ps sp okv) (hr : Room k X.A) (hb : Binds X.K fd ps ds) (hd : Vals dvs ds)
    (I : Inv X pins σ H s) (r : Vals vs us) (h : okv (vs ++ dvs) ∧ cont (vs ++ dvs) H) :
    wpAny (model X.prog X.w) X.A (call (.ref f) us) (fun u s' => ∃ vs H1 sc, Inv X pins σ H1 sc ∧ cont vs H1 ∧ Made2 X k sp H1 sc vs u s') E1 s := by
  have r2 : Vals (vs ++ dvs) (us ++ ds) := r.append hd
  have hl2 : (us ++ ds).length = ps.length := by rw [← r2.length]; exact F.len _ h.1
  refine wpAny_call (codeAny_mono (F.run X X.A s H ⟨us, []⟩ (us ++ ds) (vs ++ dvs) rfl rfl rfl rfl rfl hr I.env0 (hb s us I.kIn hl2) r2 h.1) fun r s' hq => ?_)
  match r, hq with
  | .error e, hq => exact hq.elim
  | .ok (.ret u), hq => exact ⟨_, H, s, I, h.2, hq⟩
  | .ok .next, hq => exact hq.elim
  | .ok .brk, hq => exact hq.elim
  | .ok .cont, hq => exact hq.elim
theorem run_g2K {pins : List (Addr × Obj)} {σ : L2.St} {H : Hp} {s : Shared} {us ws : List Value} {vs zs : List V} {cont : List V → Hp → Prop} {E1 : Value → Shared → Prop} (F : GFn2 X.prog X.w X.K X.mg X.base k f fd ps sp okv) (hr : Room k X.A)
    (kb : KBn X.K fd ps n ks gf gV) (I : Inv X pins σ H s) (rv : Vals vs us) (rz : Vals zs ws) (l1 : vs.length = n) (l2 : zs.length = ks.length) (h : okv (gV vs zs) ∧ cont (gV vs zs) H) :
    wpAny (model X.prog X.w) X.A (call (.ref f) us (ks.zip ws)) (fun u s' => ∃ vs H1 sc, Inv X pins σ H1 sc ∧ cont vs H1 ∧ Made2 X k sp H1 sc vs u s') E1 s := by
  refine wpAny_call (codeAny_mono (F.run X X.A s H ⟨us, ks.zip ws⟩ (gf us ws) (gV vs zs) rfl rfl rfl rfl rfl hr I.env0 (kb.to s us ws I.kIn (rv.length.symm.trans l1) (rz.length.symm.trans l2)) (kb.rel rv rz) h.1) fun r s' hq => ?_)
  match r, hq with
  | .error e, hq => exact hq.elim
  | .ok (.ret u), hq => exact ⟨_, H, s, I, h.2, hq⟩
  | .ok .next, hq => exact hq.elim
  | .ok .brk, hq => exact hq.elim
  | .ok .cont, hq => exact hq.elim
def tMG2 (C : Addr) (m : Str) (okv : List V → Prop) (dvs : List V) (to : TE) (t : TA) : TGen2 := fun σ H cont => to σ H fun x H1 => ∃ a dx fs, x = .ref a ∧ H1 a = some (.ins C dx fs) ∧ fs.lookup m = none ∧
  t σ H1 fun vs H2 => okv (x :: (vs ++ dvs)) ∧ cont (x :: (vs ++ dvs)) H2
/-- o.m(e, ..), m a generator def -/
theorem pg2_meth (he : PE X o to) (c : Cls X.K C) (hm : Meth X.K C m f) (F : GFn2 X.prog X.w X.K X.mg X.base k f fd ps sp okv) (hr : Room k X.A) (hb : Binds X.K fd ps ds) (hd : Vals dvs ds) (pa : PA X (e :: es) t)
    (st : starEach (e :: es) X.env = (false, eval e X.env) :: starEach es X.env := by rfl) (pl' : (backTo pos (starEach es X.env)).any (·.1) = false := by rfl)
    (form : eval (.Call (.Attribute o m apos) (e :: es) [] pos) X.env = (do
      let ov ← eval o X.env
      standAt apos.atName
      let (f, first) ← holding [ov] (getMethod ov m pl)
      callWith pos f first (backTo pos (starEach (e :: es) X.env)) (backToKw pos (keywordEach [] X.env))) := by rfl) :
    PGen2 X k sp (.Call (.Attribute o m apos) (e :: es) [] pos) (tMG2 C m okv dvs to t) := by
  constructor
  intro pins s σ H cont I h
  refine PySem.W.methodCall_KW (pl := pl) (thn (he.run pins s σ H _ I h) fun u s1 ⟨x, H1, I1, rx, a, dx, fs, ex, ea, l, q⟩ => ?_) form
  subst ex
  obtain rfl : u = Value.ref a := rx
  refine getmeth_ok I1 ea c hm l ?_
  refine PySem.W.callWith_K (first := [.ref a]) (h₀ := X.base) I.ok.mod.kin hm.kp (thn (pa.run pos pins s1 σ H1 _ I1 q) fun us s2 ⟨vs, H2, I2, rv, q2⟩ => ⟨I2.kIn, ?_⟩) st pl'
  exact run_g2 (us := .ref a :: us) (vs := .ref a :: vs) F hr hb hd I2 (.cons rfl rv) q2
def tMG2K (C : Addr) (m : Str) (n mm : Nat) (okv : List V → Prop) (gV : List V → List V → List V) (to : TE) (t tk : TA) : TGen2 := fun σ H cont => to σ H fun x H1 => ∃ a dx fs, x = .ref a ∧ H1 a = some (.ins C dx fs) ∧ fs.lookup m = none ∧
  t σ H1 fun vs H2 => tk σ H2 fun zs H3 => (V.ref a :: vs).length = n ∧ zs.length = mm ∧ okv (gV (.ref a :: vs) zs) ∧ cont (gV (.ref a :: vs) zs) H3
/-- .. with keywords -/
theorem pg2_mk1 (he : PE X o to) (c : Cls X.K C) (hm : Meth X.K C m f) (F : GFn2 X.prog X.w X.K X.mg X.base k f fd ps sp okv) (hr : Room k X.A) (kb : KBn X.K fd ps n ks gf gV) (pa : PA X (e :: es) t) (pk : PK X kws tk)
    (all : (backToKw pos (keywordEach kws X.env)).all (·.1.isSome) = true := by rfl) (nm : (backToKw pos (keywordEach kws X.env)).filterMap (·.1) = ks := by rfl)
    (st : starEach (e :: es) X.env = (false, eval e X.env) :: starEach es X.env := by rfl)
    (pn : ((backTo pos (starEach (e :: es) X.env)).any (·.1) || (backToKw pos (keywordEach kws X.env)).any (·.1.isNone)) = false := by rfl)
    (form : eval (.Call (.Attribute o m apos) (e :: es) kws pos) X.env = (do
      let ov ← eval o X.env
      standAt apos.atName
      let (f, first) ← holding [ov] (getMethod ov m pl)
      callWith pos f first (backTo pos (starEach (e :: es) X.env)) (backToKw pos (keywordEach kws X.env))) := by rfl) :
    PGen2 X k sp (.Call (.Attribute o m apos) (e :: es) kws pos) (tMG2K C m n ks.length okv gV to t tk) := by
  constructor
  intro pins s σ H cont I h
  refine PySem.W.methodCall_KW (pl := pl) (thn (he.run pins s σ H _ I h) fun u s1 ⟨x, H1, I1, rx, a, dx, fs, ex, ea, l, q⟩ => ?_) form
  subst ex
  obtain rfl : u = Value.ref a := rx
  refine getmeth_ok I1 ea c hm l (PySem.W.callWith_KW (first := [.ref a]) (h₀ := X.base) I.ok.mod.kin hm.kp all (thn (pa.run pos pins s1 σ H1 _ I1 q) fun us s2 ⟨vs, H2, I2, rv, q2⟩ => ?_) pn st)
  refine thn (pk.run pos pins s2 σ H2 _ I2 q2) fun ws s3 ⟨zs, H3, I3, rz, l1, l2, q3⟩ => ⟨I3.kIn, ?_⟩
  rw [nm]
  exact run_g2K (us := .ref a :: us) (vs := .ref a :: vs) F hr kb I3 (.cons rfl rv) rz l1 l2 q3
end

/-! ### for x in g: -/
section
variable {X : Cx}
theorem inv_gens {pins : List (Addr × Obj)} {σ : L2.St} {H : Hp} {s : Shared} {G : Array GenState} (I : Inv X pins σ H s) (hg : AllBare G) : Inv X pins σ H { s with gens := G } :=
  ⟨I.ok, I.os, hg, I.base, I.loc, I.cell, I.free, I.freeC, I.pin, I.hok, I.len⟩
theorem inv_setG {pins : List (Addr × Obj)} {σ : L2.St} {H : Hp} {s : Shared} {g : Nat} {x : GenState} (I : Inv X pins σ H s) (hx : x.bare = true) : Inv X pins σ H (s.setGen g x) := inv_gens I (allBare_setGen I.bare hx)
theorem bare_trapped {s : Shared} (h : AllBare s.gens) : AllBare (trapped s).gens := fun y hy => by
  obtain ⟨x, hx, rfl⟩ := Array.mem_map.mp (show y ∈ s.gens.map trapS from hy)
  rw [trapS_bare]
  exact h x hx
theorem inv_twin {G : Array GenState} {s t : Shared} {pins : List (Addr × Obj)} {σ : L2.St} {H : Hp} (w : Twin G s t) (I : Inv X pins σ H t) : Inv X pins σ H s := by
  have e : s = { t with gens := s.gens } := by
    obtain ⟨h1, g1, d1, k1, o1⟩ := s
    obtain ⟨h2, g2, d2, k2, o2⟩ := t
    obtain ⟨a1, a2, a3, a4, _, _⟩ := w
    cases a1
    cases a2
    cases a3
    cases a4
    rfl
  rw [e]
  refine inv_gens I fun y hy => ?_
  obtain ⟨i, hi, rfl⟩ := Array.mem_iff_getElem.mp hy
  have ei : s.gens[i]? = some s.gens[i] := Array.getElem?_eq_getElem hi
  rcases w.gens i with ⟨x, _, _, a3, a4⟩ | ⟨_, b2, _⟩
  · rw [ei] at a3
    have q := I.bare _ (Array.mem_of_getElem? a4)
    rw [trapS_bare] at q
    rw [Option.some.inj a3]
    exact q
  · exact I.bare _ (Array.mem_of_getElem? (b2.trans ei))
theorem xe_twin {P : Program} {w : World} {K : PySem.W.Frag} {mg : Str → Option Value} {base : Heap} {N : List Str} {qual : Str} {scope : Scope} {f : Addr} {cd : Value} {A : Around} {outer : List Env} {s0 : Shared} {H : Hp} {E : XK} {G : Array GenState} {s t : Shared} {e : Value}
    (tw : Twin G s t) (h : (cxOf CX0 P w K mg base N qual scope f cd A outer s0 H E).xe e t) : (cxOf CX0 P w K mg base N qual scope f cd A outer s0 H E).xe e s :=
  wpAny_mono (twin_any tw h) (fun _ _ ⟨_, _, z⟩ => z.elim) fun _ _ ⟨_, _, z⟩ => z.elim
/-- the generator's objects are younger than all that the loop's frame has -/
structure Far (X : Cx) (pins : List (Addr × Obj)) (n : Nat) : Prop where
  h1 : X.s_0.heap.objs.size ≤ n
  h2 : X.env.locals < n
  h3 : ∀ x c, X.env.cells.lookup x = some c → c < n
  h4 : ∀ p ∈ X.pn ++ pins, p.1 < n
  h5 : ∀ b, n ≤ b → b ∉ X.fs
theorem far_of {pins : List (Addr × Obj)} {σ : L2.St} {H : Hp} {s : Shared} (I : Inv X pins σ H s) : Far X pins s.heap.objs.size :=
  ⟨I.sz, I.lt, fun x c h => by
    obtain ⟨v, o, ho, _⟩ := I.cell x c h
    exact Heap.lt_size ho, fun p hp => Heap.lt_size (I.pin p hp).1, fun b hb => I.nofs hb⟩
/-- behind one waking, seen by the loop -/
theorem after_woken {pins ip : List (Addr × Obj)} {σ σg : L2.St} {H₀ H₁ : Hp} {s₀ s₁ : Shared} {g : GP} (ho : g.outer = X.stack) (hP : g.P = X.prog) (hw : g.w = X.w) (F : Far X pins g.n) (I : Inv X pins σ H₀ s₀) (J : Inv (g.cx s₀ H₀) ip σg H₁ s₁) : Inv X pins σ H₁ s₁ := by
  have old : ∀ {b : Addr} {o : Obj}, s₀.heap.get? b = some o → b ∉ (List.range s₀.heap.objs.size).filter (fun b => decide (g.n ≤ b)) → b < g.n := fun {b o} e hb => by
    rcases Nat.lt_or_ge b g.n with l | l
    · exact l
    · exact absurd (List.mem_filter.mpr ⟨List.mem_range.mpr (Heap.lt_size e), decide_eq_true l⟩) hb
  have fe : (g.cx s₀ H₀).fs = frs X.stack := by
    show frs g.outer = _
    rw [ho]
  refine I.call' (ch := (List.range s₀.heap.objs.size).filter (fun b => decide (g.n ≤ b))) J.os ⟨fun b o e n hf hx => ?_, fun b o e n hf hx => ?_, fun b o e n hx => ?_, fun b o e hx => ?_, J.base.tups, J.base.frzs, J.base.tbls⟩ ?_ J.bare fun b hb => ?_
  · exact J.base.keep b o (below_at (old e hx) e) n (by rw [fe]; exact hf) (fun z => by cases z)
  · exact J.base.slot b o (below_at (old e hx) e) n (by rw [fe]; exact hf) (fun z => by cases z)
  · exact J.base.free b o (below_at (old e hx) e) n (fun z => by cases z)
  · exact J.base.there b o (below_at (old e hx) e) (fun z => by cases z)
  · have := J.hok
    rw [show (g.cx s₀ H₀).prog = X.prog from hP, show (g.cx s₀ H₀).w = X.w from hw] at this
    exact this
  · have l : g.n ≤ b := of_decide_eq_true (List.mem_filter.mp hb).2
    refine ⟨.inr (Nat.le_trans F.h1 l), Nat.ne_of_gt (Nat.lt_of_lt_of_le F.h2 l), fun x c h => Nat.ne_of_lt (Nat.lt_of_lt_of_le (F.h3 x c h) l), fun p hp => Nat.ne_of_lt (Nat.lt_of_lt_of_le (F.h4 p hp) l)⟩
def tForG {Γ : Type} (sp : SpF Γ) (tg : TGen2) (gt : TG) (tb : TS) : TS := fun D σ H => tg σ H fun vs H1 => ∃ (B : Nat → Γ → L2.St → Hp → Prop) (Rl : Hp → Hp → Prop) (Yd : Nat → Γ → V → Hp → Hp → Γ → Prop) (Dn : Nat → Γ → Hp → Hp → Prop) (γ₀ : Γ),
  B 0 γ₀ σ H1 ∧ Rl H1 H1 ∧ sp vs H1 (fun i γ H => ∃ σ, B i γ σ H) Rl Yd Dn γ₀ ∧
  (∀ i γ γ' x σ H₀ H₁, B i γ σ H₀ → Yd i γ x H₀ H₁ γ' → gt x σ H₁ fun σ2 H2 => tb { D with nx := fun σ' H' => B (i + 1) γ' σ' H' ∧ Rl H₁ H', ct := fun σ' H' => B (i + 1) γ' σ' H' ∧ Rl H₁ H', bk := D.nx } σ2 H2) ∧
  ∀ i γ σ H₀ H₁, B i γ σ H₀ → Dn i γ H₀ H₁ → D.nx σ H₁
theorem ps_forG {Γ : Type} {sp : SpF Γ} {k : Nat} {tg iter : Expr} {body : List Stmt} {te : TGen2} {gt : TG} {tb : TS} {pos : Pos} (hp : PassesOwn (model X.prog X.w) X.A X.env X.xe) (hc : X.calm = true) (hr : Room (k + 1) X.A) (hi : PGen2 X k sp iter te) (hg : PG X tg gt) (hb : PSs X body tb)
    (hx : ∀ {G : Array GenState} {s t : Shared} {e : Value}, Twin G s t → X.xe e t → X.xe e s)
    (hs : ∀ x, foldedSetIterable iter X.env x = pure x := by intro _; rfl) : PS X (.For tg iter body [] pos) (tForG sp te gt tb) := by
  refine ⟨fun pins s σ H D I h => ?_⟩
  refine wpAny_For (thn (hi.run pins s σ H _ I h) fun u s1 ⟨vs, H1, sc, I1, hrd, hM⟩ => ?_) hs
  obtain ⟨B, Rl, Yd, Dn, γ₀, b0, rl0, hsp, step, done⟩ := hrd
  obtain ⟨a, gi, c, go, oL, N, qual, scope, f, cd, _, rfl, lt_a, ha, isg, ncg, hL, ncL, hgi, os1, bare1, keep1, begin_⟩ := hM
  have F := far_of I1
  have In1 : Inv X pins σ H1 s1 := I1.call' (ch := []) os1 (Un.kept keep1) (I1.hok.kept keep1) bare1 fun b z => by simp at z
  refine wpAny_pyIter_gen (isg _ ha) ?_
  -- the words between the two
  let g : GP := ⟨X.prog, X.w, X.K, X.mg, X.base, N, qual, scope, f, cd, sc.heap.objs.size, X.A.in1, X.stack, [(a, go)]⟩
  let pr : Pr Γ := { W := fun i γ s H => ∃ σ, Inv X pins σ H s ∧ B i γ σ H, C := fun i γ H => ∃ σ, B i γ σ H, Rl := Rl, Yd := Yd, Dn := Dn }
  have prok : pr.Ok g := ⟨fun i γ s H ⟨σ, J, _⟩ => J.env0.in1, fun i γ s H ⟨σ, _, b⟩ => ⟨σ, b⟩⟩
  obtain ⟨nc, beg⟩ := begin_ X.A.in1 (hr.in1) I1.ok.frames pr γ₀ g rfl
  have hH : ∀ b, sc.heap.objs.size ≤ b → H1 b = none := fun b hb => I1.hok.fresh hb
  let Lp : Nat → Shared → Prop := fun n s' => ∃ (i : Nat) (γ : Γ) (σ' : L2.St) (H' : Hp) (gs : GenState), Inv X pins σ' H' s' ∧ s'.heap.get? a = some go ∧ s'.gens[gi]? = some gs ∧ gs.Goes (model X.prog X.w) X.A.in1 (R2 g pr) (Y2 g pr) n (.send .none) (s'.setGen gi .running)
  refine codeAny_forLoop_any Lp ?_ sizeLine ⟨0, γ₀, σ, H1, _, In1, ha, hgi, rfl, beg prok hsp _ H1 ⟨σ, inv_setG In1 rfl, b0⟩ rl0 hL (hH _ (Nat.le_refl _)) ha (hH _ (Nat.le_of_lt lt_a))⟩
  rintro n s3 ⟨i, γ, σ3, H3, gs, I3, ha3, hgs, goes⟩
  refine wpAny_passesOwn hp (next_own (I3.ok.hd hc) I3.nolimit (by have := hr.dp; omega) (isg _ ha3) hgs goes (fun v s₁ gs' hbare hsl hlt hy => ?_) fun s₁ hf h' hk => ?_)
  · -- an item
    obtain ⟨i2, γ2, γ', x, ip, σg, H₀, H₁, hn, ⟨σ2, J0, b2⟩, Jg, young, rv, hyd, wake⟩ := hy
    have J1 : Inv X pins σ2 H₁ s₁ := after_woken (g := g) rfl rfl rfl F J0 Jg
    have J2 := inv_setG (g := gi) J1 hbare
    obtain ⟨mL, ⟨oL2, es2, ep2, hL2, dL2, _⟩, _⟩ := id Jg.loc
    -- the generator's own objects, pinned
    have pinned : ∀ p ∈ (sc.heap.objs.size, oL2) :: ([(a, go)] ++ ip), (s₁.setGen gi gs').heap.get? p.1 = some p.2 ∧ H₁ p.1 = none ∧ p.1 ≠ X.env.locals ∧ p.1 ∉ X.fs ∧ ∀ v, p.2.data ≠ .cell v := fun p hp => by
      have q : s₁.heap.get? p.1 = some p.2 ∧ H₁ p.1 = none ∧ sc.heap.objs.size ≤ p.1 ∧ ∀ v, p.2.data ≠ .cell v := by
        rcases List.mem_cons.mp hp with rfl | hp
        · exact ⟨hL2, Jg.free, Nat.le_refl _, fun v z => by rw [dL2] at z; cases z⟩
        · obtain ⟨q1, q2, _, _, q5⟩ := Jg.pin p hp
          exact ⟨q1, q2, young p hp, q5⟩
      exact ⟨q.1, q.2.1, Nat.ne_of_gt (Nat.lt_of_lt_of_le F.h2 q.2.2.1), F.h5 _ q.2.2.1, q.2.2.2⟩
    have J3 : Inv X (pins ++ ((sc.heap.objs.size, oL2) :: ([(a, go)] ++ ip))) σ2 H₁ (s₁.setGen gi gs') := J2.pins_of fun p hp => by
      rcases List.mem_append.mp hp with z | z
      · exact J2.pin p (List.mem_append_right _ z)
      · exact pinned p z
    have here : (s₁.setGen gi gs').gens[gi]? = some gs' := setGen_at hlt
    have ga := pinned (a, go) (List.mem_cons_of_mem _ (List.mem_append_left _ List.mem_cons_self))
    obtain ⟨oa, na, qa, ea, ca, da, sa⟩ := isg _ ga.1
    refine wpAny_passesOwn hp (go_of ea ca da (by decide) ?_)
    -- the body, run where nobody can wake the generator
    have J4 : Inv X (pins ++ ((sc.heap.objs.size, oL2) :: ([(a, go)] ++ ip))) σ2 H₁ (trapped (s₁.setGen gi gs')) := inv_gens J3 (bare_trapped J3.bare)
    refine wpAny_passesOwn hp (wpAny_mono (twin_any (twin_start _) (hg.run _ _ σ2 H₁ x v _ J4 rv (step i2 γ2 γ' x σ2 H₀ H₁ b2 hyd))) (fun _ s6 ⟨t6, w6, σ6, H6, I6, q6⟩ => ?_) fun e s6 ⟨t6, w6, q6⟩ => ?_)
    · refine wpAny_passesOwn hp (wpAny_mono (twin_any w6 (hb.run _ t6 σ6 H6 _ I6 q6)) (fun fl s7 ⟨t7, w7, q7⟩ => ?_) fun e s7 ⟨t7, w7, q7⟩ => ?_)
      · have back : ∀ {σ7 : L2.St} {H7 : Hp}, Inv X (pins ++ ((sc.heap.objs.size, oL2) :: ([(a, go)] ++ ip))) σ7 H7 t7 → Inv X (pins ++ ((sc.heap.objs.size, oL2) :: ([(a, go)] ++ ip))) σ7 H7 s7 := fun {σ7 H7} I7 => inv_twin w7 I7
        have slept : s7.gens[gi]? = some gs' := w7.kept here hsl
        have again : ∀ {σ7 : L2.St} {H7 : Hp}, Inv X (pins ++ ((sc.heap.objs.size, oL2) :: ([(a, go)] ++ ip))) σ7 H7 t7 → B (i2 + 1) γ' σ7 H7 → Rl H₁ H7 → ∃ m, m < n ∧ Lp m s7 := fun {σ7 H7} I7 b7 r7 => by
          have K7 := back I7
          have kept : ∀ p ∈ (sc.heap.objs.size, oL2) :: ([(a, go)] ++ ip), s7.heap.get? p.1 = some p.2 ∧ H7 p.1 = none := fun p hp => by
            obtain ⟨q1, q2, _⟩ := K7.pin p (List.mem_append_right _ (List.mem_append_right _ hp))
            exact ⟨q1, q2⟩
          have sl : Slum g ip s₁ (s7.setGen gi .running) H7 := by
            refine ⟨fun o e => ?_, (kept _ List.mem_cons_self).2, fun p hp => kept p (List.mem_cons_of_mem _ hp)⟩
            have e2 : s₁.heap.get? sc.heap.objs.size = some o := e
            rw [show s₁.heap.get? sc.heap.objs.size = some oL2 from hL2] at e2
            cases e2
            exact (kept _ List.mem_cons_self).1
          have kp := wake (s7.setGen gi .running) H7 ⟨σ7, inv_setG K7.unpinned rfl, b7⟩ r7 sl
          match n, kp with
          | m + 1, kp => exact ⟨m, Nat.lt_succ_self m, i2 + 1, γ', σ7, H7, gs', K7.unpinned, (kept (a, go) (List.mem_cons_of_mem _ (List.mem_append_left _ List.mem_cons_self))).1, slept, kp⟩
        match fl, q7 with
        | .next, q7 =>
          obtain ⟨σ7, H7, I7, b7, r7⟩ := q7
          exact again I7 b7 r7
        | .cont, q7 =>
          obtain ⟨σ7, H7, I7, b7, r7⟩ := q7
          exact again I7 b7 r7
        | .brk, q7 =>
          obtain ⟨σ7, H7, I7, q⟩ := q7
          exact ⟨σ7, H7, (back I7).unpinned, q⟩
        | .ret v, q7 =>
          obtain ⟨x7, σ7, H7, I7, r7, q⟩ := q7
          exact ⟨x7, σ7, H7, (back I7).unpinned, r7, q⟩
      · exact hx w7 q7
    · exact hx w6 q6
  · obtain ⟨i2, γ2, ip, σg, H₀, H₁, ⟨σ2, J0, b2⟩, Jg, dn⟩ := hf
    have J1 : Inv X pins σ2 H₁ s₁ := after_woken (g := g) rfl rfl rfl F J0 Jg
    have J2 := (inv_setG (g := gi) (x := .finished) J1 rfl).kept (t' := s₁.toks) hk
    exact wpAny_execs_nil ⟨σ2, H₁, J2, done i2 γ2 σ2 H₀ H₁ b2 dn⟩
end
end Own

set_option Elab.async false
set_option maxRecDepth 100000
set_option maxHeartbeats 1000000
set_option linter.unusedVariables false
namespace K22
open PySem PySem.Spec PyProof.Rows L2 Own
-- steps
local macro_rules | `(tactic| walk_at "lk") => `(tactic| first
  | assumption | exact upd_same
  | ((with_reducible refine' lk_new ?e (by assumption)); (case e => walk_at "lk"))
  | ((with_reducible refine' lk_ext (by assumption) ?e); (case e => walk_at "lk"))
  | ((with_reducible refine' lk_same (by assumption) ?e); (case e => walk_at "lk")))
local macro_rules | `(tactic| walk_at "sq") => `(tactic| first | assumption | exact SqL.of (by walk_at "lk") | exact SqT.of (by walk_at "lk"))
local macro_rules | `(tactic| walk_at "r1") => `(tactic| first
  | with_reducible refine k_seq ?_ | with_reducible refine k_asg ?_ | with_reducible refine k_ret ?_ | with_reducible refine k_drop ?_ | with_reducible refine k_next ?_ | with_reducible refine k_ifS ?_
  | ((with_reducible refine' k_var ?e ?_); (case e => exact rfl)) | with_reducible refine k_c ?_ | with_reducible refine k_op ?_ | with_reducible refine k_un ?_ | with_reducible refine k_test ?_ | with_reducible refine k_B ?_
  | with_reducible refine k_and ?_ | with_reducible refine k_or ?_ | with_reducible refine k_not ?_ | with_reducible refine k_andV ?_ | with_reducible refine k_orV ?_ | with_reducible refine k_notV ?_ | with_reducible refine k_if ?_
  | with_reducible refine k_nil ?_ | with_reducible refine k_cons ?_ | with_reducible refine k_tup ?_ | with_reducible refine k_lst ?_ | with_reducible refine k_call ?_ | with_reducible refine k_cb ?_ | with_reducible refine k_ck ?_
  | with_reducible refine k_par ?_ | with_reducible refine k_par1 ?_ | with_reducible refine k_tr ?_ | with_reducible refine k_rI0 ?_ | with_reducible refine k_rU ?_
  | with_reducible refine k_gN ?_ | with_reducible refine k_gS ?_ | with_reducible refine k_gNil ?_ | with_reducible refine k_gCons ?_ | with_reducible refine k_bm0 ?_ | with_reducible refine k_bm ?_
  | with_reducible refine k_for ?_ | with_reducible refine k_iL ?_ | with_reducible refine k_iT ?_ | with_reducible refine k_iR1 ?_ | ((with_reducible refine k_iR1i ?e ?_); (case e => first | decide | exact ⟨by omega, by omega⟩))
  | with_reducible refine k_max ?_ | with_reducible refine k_isB ?_ | with_reducible refine k_sl ?_ | with_reducible refine k_noP ?_ | with_reducible refine k_part ?_ | with_reducible refine k_partI ?_ | with_reducible refine k_revL ?_
  | ((with_reducible refine' k_ixqT ?e ?f ?_); (case e => walk_at "sq"); (case f => first | exact rfl | exact atI_head))
  | ((with_reducible refine' k_ixqL ?e ?f ?_); (case e => walk_at "sq"); (case f => first | exact rfl | exact atI_head))
  | ((with_reducible refine' k_lenL ?e ?_); (case e => walk_at "sq"))
  | ((with_reducible refine' k_lenT ?e ?_); (case e => walk_at "sq"))
  | ((with_reducible refine' k_ixL ?e ?f ?_); (case e => walk_at "sq"); (case f => first | exact rfl | exact atI_head))
  | ((with_reducible refine' k_ixT ?e ?f ?_); (case e => walk_at "sq"); (case f => first | exact rfl | exact atI_head))
  | ((with_reducible refine k_eq ?e ?_); (case e => exact rfl)) | ((with_reducible refine k_ne ?e ?_); (case e => exact rfl))
  | ((with_reducible refine k_rI ?e ?_); (case e => first | assumption | omega | decide | exact ⟨by omega, by omega⟩ | exact .inl ⟨by omega, by omega⟩ | exact .inr ⟨by omega, by omega⟩)))
local macro_rules | `(tactic| walk_at "rd") => `(tactic| repeat walk_at "r1")
-- steps end
theorem k_then2 {Γ : Type} {t u : TG2 Γ} {pr : Pr Γ} {D : GE Γ} {i : Nat} {γ : Γ} {H₀ : Hp} {σ : L2.St} {H : Hp} (h : t pr { D with nx := fun i' γ' H₀' σ' H' => u pr D i' γ' H₀' σ' H' } i γ H₀ σ H) : tThen2 t u pr D i γ H₀ σ H := h
theorem k_plain2 {Γ : Type} {t : TS} {pr : Pr Γ} {D : GE Γ} {i : Nat} {γ : Γ} {H₀ : Hp} {σ : L2.St} {H : Hp} (h : t (D.at i γ H₀) σ H) : tP2 t pr D i γ H₀ σ H := h
section
variable {P : Program} {w : World} {K : PySem.W.Frag} {mg : Str → Option Value} {base : Heap} {C : Addr}
/-- a scan, told for a loop: the loop says at each waking how the table stands -/
def spScanF (C : Addr) : SpF (Option (List Int)) := fun vs H Cw Rl Yd Dn γ₀ => ∃ (p pt : Addr) (r : Str) (c : Nat) (lo hi : Option Int), vs = [.ref p, .ref pt, EndV lo, EndV hi] ∧ RoadAt H pt r c ∧ γ₀ = none ∧ (∀ H H', Rl H H' → Tups H H') ∧
  ∀ i γ H', Cw i γ H' → i < sizeLine ∧ ∃ (dx d : Addr) (m : Rows) (z : Int), TableAt C H' p dx d m z ∧ (∀ row ∈ m, HasCol r c row) ∧ (keysR m).Nodup ∧ m.length ≤ 1000 ∧
    (asked r c γ lo hi m = [] → ∀ H'', Same H' H'' → Dn i γ H' H'') ∧ ∀ row t H'', Least r c (asked r c γ lo hi m) row → row ∈ m → Same H' H'' → RowAt H'' t row → Yd i γ (.ref t) H' H'' (some (placeL r c row))
theorem ok_scanF {f : Addr} {oc kV doc pm cdv ct : Value} {dV : Value} {an od : Option Addr} {osl : Array (Option Value)} (lk : K.lookup f = some ⟨oc, od, .func (PySem.W.fnOf "scan" "LiveTable.scan" (defArgs s_LiveTable_scan) (defBody s_LiveTable_scan) (defScope s_LiveTable_scan) dV kV doc pm an cdv ct), osl⟩)
    (hcd : PySem.W.codeIn K cdv "LiveTable.scan" = true) (T : Nxt P w K mg base C) (C_place : CalF P w K mg base "place_of" 1 ["path", "row"] spPlace) :
    GFn2 P w K mg base 3 f (PySem.W.fnOf "scan" "LiveTable.scan" (defArgs s_LiveTable_scan) (defBody s_LiveTable_scan) (defScope s_LiveTable_scan) dV kV doc pm an cdv ct) ["self", "path", "least", "most"] (spScanF C) (fun vs => vs.length = 4) := by
  have nd := gsc_scan.nd
  obtain ⟨fn, fdn, mN, FN, kb2, kb3⟩ := T.nx
  refine gfn2_of lk hcd gsc_scan (fun vs h => h) (fun n x => by rfl) fun n A outer pn vs H pr γ₀ hr nc hl h => ?_
  obtain ⟨p, pt, r, c, lo, hi, rfl, hp, rfl, hRl, hC⟩ := h
  refine ⟨_, gss2_cons (gs2_ps (fun _ _ => by exact (ps_set (i := 4) nd rfl (.inl rfl) (pe_mk1 (E := fun _ => E0) (pv 0) T.tx.cl mN FN (hr.mono (by decide)) kb2 (fun σ => passA) (pa_cons (pv 1) pa_nil) (pk_cons (pv 2) (pk_cons (pv 3) pk_nil))))))
      (gss2_cons (gs2_while (fun _ _ => by exact (pt_cmp (pc_notN (pv 4))))
        (gss2_cons (gs2_ps (fun _ _ => by exact (ps_set (i := 5) nd rfl (.inl rfl) (pe_cf C_place (hr.mono (by decide)) (pa_cons (pv 1) (pa_cons (pv 4) pa_nil))))))
        (gss2_cons (gs2_yield nc (fun _ _ => by exact (pv 4)))
        (gss2_cons (gs2_ps (fun _ _ => by exact (ps_set (i := 4) nd rfl (.inl rfl) (pe_mk1 (E := fun _ => E0) (pv 0) T.tx.cl mN FN (hr.mono (by decide)) kb3 (fun σ => passA) (pa_cons (pv 1) (pa_cons (pv 5) pa_nil)) (pk_cons (pv 2) (pk_cons (pv 3) pk_nil))))))
        gss2_nil)))) gss2_nil), fun H' hC0 hRl0 => ?_⟩
  refine k_then2 (k_plain2 ?_)
  walk_at "rd"
  let Bv : Nat → Nat → Option (List Int) → Hp → L2.St → Hp → Prop := fun mm i γ H₀ σ H1 => ∃ (o5 : Option V) (rv : V), σ = [some (.ref p), some (.ref pt), some (EndV lo), some (EndV hi), some rv, o5] ∧ i < sizeLine ∧ mm = sizeLine - i ∧ RoadAt H1 pt r c ∧
    ((rv = .non ∧ pr.Dn i γ H₀ H1) ∨ ∃ row t, rv = .ref t ∧ RowAt H1 t row ∧ HasCol r c row ∧ ∀ H2, Same H1 H2 → pr.Yd i γ (.ref t) H₀ H2 (some (placeL r c row)))
  have ask : ∀ (i : Nat) (γ : Option (List Int)) (H₀ : Hp) (o5 : Option V), pr.C i γ H₀ → RoadAt H₀ pt r c → ∀ (pv : V) (Q' : VK), PlAt H₀ pv γ → (∀ rv H2, Bv (sizeLine - i) i γ H₀ [some (.ref p), some (.ref pt), some (EndV lo), some (EndV hi), some rv, o5] H2 → Q' rv H2) →
      spNext C [.ref p, .ref pt, pv, EndV lo, EndV hi] H₀ Q' E0 := by
    intro i γ H₀ o5 hc hrd pv Q' hpv q
    obtain ⟨hi', dx, d, m, z, hT, hcol, hnd, hlen, q1, q2⟩ := hC i γ H₀ hc
    refine ⟨p, pt, dx, d, m, z, r, c, pv, γ, lo, hi, rfl, hT, hrd, hpv, hcol, hnd, hlen, fun e H2 s2 => q _ _ ?_, fun row t H2 hle s2 hrt => q _ _ ?_⟩
    · exact ⟨o5, .non, rfl, hi', rfl, hrd.keep (Tups.same s2), .inl ⟨rfl, q1 e H2 s2⟩⟩
    · have hm : row ∈ m := (List.mem_filter.mp (asked_in.mp hle.1).1).1
      exact ⟨o5, .ref t, rfl, hi', rfl, hrd.keep (Tups.same s2), .inr ⟨row, t, rfl, hrt, hcol row hm, fun H3 s3 => q2 row t H3 hle hm (s2.trans s3) (hrt.keep (Tups.same s3))⟩⟩
  have inst : ∀ {i : Nat} {γ : Option (List Int)} {H₀ : Hp}, pr.C i γ H₀ → ∃ dx d z, H₀ p = some (.ins C dx (flds d z)) := fun {i γ H₀} h => by
    obtain ⟨_, dx, d, m, z, hT, _⟩ := hC i γ H₀ h
    exact ⟨dx, d, z, hT.1⟩
  have hp1 : RoadAt H' pt r c := hp.keep (hRl _ _ hRl0)
  obtain ⟨dx0, d0, z0, hp0⟩ := inst hC0
  refine ⟨_, rfl, p, dx0, _, rfl, hp0, flds_no _ _ (by decide +kernel) (by decide +kernel), ?_⟩
  walk_at "rd"
  refine ⟨rfl, rfl, ?_⟩
  refine ask 0 none H' none hC0 hp1 .non _ rfl fun rv H1 hI => ?_
  refine k_gN ?_
  dsimp only [GE.at]
  refine k_then2 ?_
  refine ⟨Bv, ⟨_, hI⟩, fun mm i γ H₀ σ H2 hb => ?_⟩
  obtain ⟨o5, rv2, rfl, hi2, rfl, hp2, hrv⟩ := hb
  refine k_B (k_notN ?_)
  walk_at "rd"
  rcases hrv with ⟨rfl, hdn⟩ | ⟨row, t, rfl, hrt, hc, hy⟩
  · refine iteF ?_
    exact hdn
  · refine iteT ?_
    refine ⟨fun i' γ' H₀' σ' H' => ∃ m', m' < sizeLine - i ∧ Bv m' i' γ' H₀' σ' H', fun _ _ _ _ _ h => h, ?_⟩
    refine k_then2 (k_plain2 ?_)
    walk_at "rd"
    refine ⟨pt, t, r, c, row, rfl, hp2, hrt, hc, fun q hq => ?_⟩
    refine k_gN ?_
    dsimp only [GE.at]
    refine k_then2 ⟨hi2, ?_⟩
    walk_at "rd"
    have s3 : Same H2 (upd H2 q (.tup ((placeL r c row).map V.int))) := Same.upd hq
    refine ⟨_, hy _ s3, fun H3 hc3 rl3 => ?_⟩
    have tu := hRl _ _ rl3
    have gq : H3 q = some (.tup ((placeL r c row).map V.int)) := tu _ _ upd_same
    have hp3 : RoadAt H3 pt r c := (hp2.keep (Tups.same s3)).keep tu
    dsimp only
    refine k_then2 (k_plain2 ?_)
    walk_at "rd"
    obtain ⟨dx1, d1, z1, hp31⟩ := inst hc3
    refine ⟨_, rfl, p, dx1, _, rfl, hp31, flds_no _ _ (by decide +kernel) (by decide +kernel), ?_⟩
    walk_at "rd"
    refine ⟨rfl, rfl, ?_⟩
    obtain ⟨hi3, _⟩ := hC _ _ _ hc3
    refine ask (i + 1) (some (placeL r c row)) H3 (some (.ref q)) hc3 hp3 (.ref q) _ ⟨q, rfl, gq⟩ fun rv H4 hI4 => ?_
    refine k_gN ?_
    dsimp only [GE.at, tN2]
    exact ⟨sizeLine - (i + 1), by omega, hI4⟩
end
end K22

set_option Elab.async false
set_option maxRecDepth 100000
set_option maxHeartbeats 1000000
set_option linter.unusedVariables false
namespace K22
open PySem PySem.Spec PyProof.Rows L2 Own
/-! ### how far a scan has come -/
theorem within_none (r : Str) (c : Nat) (row : Int × List Int) : within r c none none row = true := by
  unfold within
  simp
structure Went (r : Str) (c : Nat) (m dn : Rows) (γ : Option (List Int)) : Prop where
  turn : InTurn r c dn
  sub : ∀ x ∈ dn, x ∈ m
  pl : ∀ ys, γ = some ys → ∃ y : Int × List Int, ys = placeL r c y
  lt : ∀ x ∈ dn, ∀ y : Int × List Int, beyond r γ (placeL r c y) = true → first r (placeL r c x) (placeL r c y) = true
  all : ∀ x ∈ m, x ∈ dn ∨ beyond r γ (placeL r c x) = true
theorem Went.nil (r : Str) (c : Nat) (m : Rows) : Went r c m [] none := ⟨List.Pairwise.nil, (fun x h => by cases h), (fun ys e => by cases e), (fun x h => by cases h), fun x _ => .inr rfl⟩
theorem asked_none {r : Str} {c : Nat} {γ : Option (List Int)} {m : Rows} {x : Int × List Int} : x ∈ asked r c γ none none m ↔ x ∈ m ∧ beyond r γ (placeL r c x) = true := by
  rw [asked_in, List.mem_filter]
  exact ⟨fun h => ⟨h.1.1, h.2⟩, fun h => ⟨⟨h.1, within_none r c x⟩, h.2⟩⟩
theorem Went.snoc {r : Str} {c : Nat} {m dn : Rows} {γ : Option (List Int)} {row : Int × List Int} (w : Went r c m dn γ) (hnd : (keysR m).Nodup) (h : Least r c (asked r c γ none none m) row) : Went r c m (dn ++ [row]) (some (placeL r c row)) := by
  obtain ⟨ha, hl⟩ := h
  obtain ⟨hm, hb⟩ := asked_none.mp ha
  refine ⟨List.pairwise_append.mpr ⟨w.turn, List.pairwise_singleton _ _, fun a h1 b h2 => ?_⟩, fun x hx => ?_, fun ys e => ⟨row, (Option.some.inj e).symm⟩, fun x hx y hy => ?_, fun x hx => ?_⟩
  · rw [List.mem_singleton.mp h2]
    exact w.lt a h1 row hb
  · rcases List.mem_append.mp hx with h | h
    · exact w.sub x h
    · rw [List.mem_singleton.mp h]
      exact hm
  · rcases List.mem_append.mp hx with h | h
    · exact first_tr (w.lt x h row hb) hy place_len
    · rw [List.mem_singleton.mp h]
      exact hy
  · rcases w.all x hx with h | h
    · exact .inl (List.mem_append_left _ h)
    · by_cases e : x = row
      · exact .inl (List.mem_append_right _ (List.mem_singleton.mpr e))
      · refine .inr ?_
        show first r (placeL r c row) (placeL r c x) = true
        cases hf : first r (placeL r c row) (placeL r c x) with
        | true => rfl
        | false =>
          exfalso
          have z1 := first_tot place_len hf (hl x (asked_none.mpr ⟨hx, h⟩))
          exact e (row_eq hnd hx hm (place_num z1).symm)
theorem Went.done {r : Str} {c : Nat} {m dn : Rows} {γ : Option (List Int)} (w : Went r c m dn γ) (h : asked r c γ none none m = []) (x : Int × List Int) : x ∈ dn ↔ x ∈ m :=
  ⟨w.sub x, fun hx => (w.all x hx).resolve_right fun hb => by
    have z := asked_none.mpr ⟨hx, hb⟩
    rw [h] at z
    cases z⟩
/-- what is out is the beginning of all -/
theorem Went.pre {r : Str} {c : Nat} {m dn all : Rows} {γ : Option (List Int)} (w : Went r c m dn γ) (ha : InTurn r c all) (hm : ∀ x, x ∈ all ↔ x ∈ m) : dn = all.take dn.length := by
  have h2 : InTurn r c (dn ++ all.filter fun x => beyond r γ (placeL r c x)) := List.pairwise_append.mpr ⟨w.turn, ha.sublist List.filter_sublist, fun a h1 b h2 => w.lt a h1 b (List.mem_filter.mp h2).2⟩
  have e : dn ++ (all.filter fun x => beyond r γ (placeL r c x)) = all := turn_same h2 ha fun x => by
    rw [List.mem_append, List.mem_filter, hm]
    constructor
    · rintro (h | h)
      · exact w.sub x h
      · exact h.1
    · intro h
      rcases w.all x h with q | q
      · exact .inl q
      · exact .inr ⟨h, q⟩
  have := congrArg (List.take dn.length) e
  rw [List.take_left'] at this
  · exact this
  · rfl
theorem Went.full {r : Str} {c : Nat} {m dn all : Rows} {γ : Option (List Int)} (w : Went r c m dn γ) (h : asked r c γ none none m = []) (ha : InTurn r c all) (hm : ∀ x, x ∈ all ↔ x ∈ m) : dn = all :=
  turn_same w.turn ha fun x => (w.done h x).trans (hm x).symm
theorem sub_len : ∀ {xs ys : Rows}, xs.Nodup → (∀ x ∈ xs, x ∈ ys) → xs.length ≤ ys.length
  | [], _, _, _ => Nat.zero_le _
  | x :: xs, ys, nd, h => by
    obtain ⟨n1, n2⟩ := List.nodup_cons.mp nd
    have hx := h x List.mem_cons_self
    have ih := sub_len (xs := xs) (ys := ys.erase x) n2 fun y hy => (List.mem_erase_of_ne (fun (e : y = x) => n1 (by rw [← e]; exact hy))).mpr (h y (List.mem_cons_of_mem _ hy))
    have l := List.length_erase_of_mem hx
    have p := List.length_pos_of_mem hx
    rw [List.length_cons]
    omega
theorem Went.len {r : Str} {c : Nat} {m dn : Rows} {γ : Option (List Int)} (w : Went r c m dn γ) : dn.length ≤ m.length :=
  sub_len (w.turn.imp fun {a b} h e => by
    rw [e, first_irr] at h
    cases h) w.sub
end K22

set_option Elab.async false
set_option maxRecDepth 100000
set_option maxHeartbeats 1000000
set_option linter.unusedVariables false
namespace K22
open PySem PySem.Spec PyProof.Rows L2 Own
-- steps
local macro_rules | `(tactic| walk_at "lk") => `(tactic| first
  | assumption | exact upd_same
  | ((with_reducible refine' lk_new ?e (by assumption)); (case e => walk_at "lk"))
  | ((with_reducible refine' lk_ext (by assumption) ?e); (case e => walk_at "lk"))
  | ((with_reducible refine' lk_same (by assumption) ?e); (case e => walk_at "lk")))
local macro_rules | `(tactic| walk_at "sq") => `(tactic| first | assumption | exact SqL.of (by walk_at "lk") | exact SqT.of (by walk_at "lk"))
local macro_rules | `(tactic| walk_at "r1") => `(tactic| first
  | with_reducible refine k_seq ?_ | with_reducible refine k_asg ?_ | with_reducible refine k_ret ?_ | with_reducible refine k_drop ?_ | with_reducible refine k_next ?_ | with_reducible refine k_ifS ?_
  | ((with_reducible refine' k_var ?e ?_); (case e => exact rfl)) | with_reducible refine k_c ?_ | with_reducible refine k_op ?_ | with_reducible refine k_un ?_ | with_reducible refine k_test ?_ | with_reducible refine k_B ?_
  | with_reducible refine k_and ?_ | with_reducible refine k_or ?_ | with_reducible refine k_not ?_ | with_reducible refine k_andV ?_ | with_reducible refine k_orV ?_ | with_reducible refine k_notV ?_ | with_reducible refine k_if ?_
  | with_reducible refine k_nil ?_ | with_reducible refine k_cons ?_ | with_reducible refine k_tup ?_ | with_reducible refine k_lst ?_ | with_reducible refine k_call ?_ | with_reducible refine k_cb ?_ | with_reducible refine k_ck ?_
  | with_reducible refine k_par ?_ | with_reducible refine k_par1 ?_ | with_reducible refine k_tr ?_ | with_reducible refine k_rI0 ?_ | with_reducible refine k_rU ?_
  | with_reducible refine k_gN ?_ | with_reducible refine k_gS ?_ | with_reducible refine k_gNil ?_ | with_reducible refine k_gCons ?_ | with_reducible refine k_bm0 ?_ | with_reducible refine k_bm ?_
  | with_reducible refine k_for ?_ | with_reducible refine k_iL ?_ | with_reducible refine k_iT ?_ | with_reducible refine k_iR1 ?_ | ((with_reducible refine k_iR1i ?e ?_); (case e => first | decide | exact ⟨by omega, by omega⟩))
  | with_reducible refine k_max ?_ | with_reducible refine k_isB ?_ | with_reducible refine k_sl ?_ | with_reducible refine k_noP ?_ | with_reducible refine k_part ?_ | with_reducible refine k_partI ?_ | with_reducible refine k_revL ?_
  | ((with_reducible refine' k_ixqT ?e ?f ?_); (case e => walk_at "sq"); (case f => first | exact rfl | exact atI_head))
  | ((with_reducible refine' k_ixqL ?e ?f ?_); (case e => walk_at "sq"); (case f => first | exact rfl | exact atI_head))
  | ((with_reducible refine' k_lenL ?e ?_); (case e => walk_at "sq"))
  | ((with_reducible refine' k_lenT ?e ?_); (case e => walk_at "sq"))
  | ((with_reducible refine' k_ixL ?e ?f ?_); (case e => walk_at "sq"); (case f => first | exact rfl | exact atI_head))
  | ((with_reducible refine' k_ixT ?e ?f ?_); (case e => walk_at "sq"); (case f => first | exact rfl | exact atI_head))
  | ((with_reducible refine k_eq ?e ?_); (case e => exact rfl)) | ((with_reducible refine k_ne ?e ?_); (case e => exact rfl))
  | ((with_reducible refine k_rI ?e ?_); (case e => first | assumption | omega | decide | exact ⟨by omega, by omega⟩ | exact .inl ⟨by omega, by omega⟩ | exact .inr ⟨by omega, by omega⟩)))
local macro_rules | `(tactic| walk_at "rd") => `(tactic| repeat walk_at "r1")
-- steps end
theorem passN {X : Cx} : Passes (CX X.prog X.w) X E0 := fun _ _ _ _ _ _ _ h => by
  obtain ⟨_, _, _, _, _, _, _, _, _, _, _, _, z⟩ := h
  exact z.elim
/-- scan, as the law calls it -/
structure Scn (P : Program) (w : World) (K : PySem.W.Frag) (mg : Str → Option Value) (g0 : Heap) (C : Addr) : Prop where
  tx : Txt K C
  scan : ∃ f fd ds, Meth K C "scan" f ∧ Vals [V.non, V.non] ds ∧ Binds K fd ["self", "path", "least", "most"] ds ∧ GFn P w K mg g0 3 f fd ["self", "path", "least", "most"] (spScan C) ∧ GFn2 P w K mg g0 3 f fd ["self", "path", "least", "most"] (spScanF C) fun vs => vs.length = 4
section
variable {P : Program} {w : World} {K : PySem.W.Frag} {mg : Str → Option Value} {g0 : Heap} {C : Addr}
def spFirstL (C : Addr) : Sp := fun vs H Q _ => ∃ (p pt dx d : Addr) (m all : Rows) (z : Int) (r : Str) (c many : Nat), vs = [.ref p, .ref pt, .int many] ∧ TableAt C H p dx d m z ∧ RoadAt H pt r c ∧ (∀ row ∈ m, HasCol r c row) ∧ (keysR m).Nodup ∧ m.length ≤ 8 ∧ many ≤ 8 ∧ InTurn r c all ∧ (∀ x, x ∈ all ↔ x ∈ m) ∧
  ∀ (l : Addr) (ts : List Addr) (H' : Hp), Same H H' → H l = none → H' l = some (.lst (ts.map V.ref)) → Paired (RowAt H') ts (all.take many) → Q (.ref l) H'
theorem ok_firstL {f : Addr} {fd : FuncData} (F : Fun K "_law_first" "_law_first" s_first f fd) (T : Scn P w K mg g0 C) (z_len : mg "len" = none) : GOk P w K mg g0 CX0 5 f fd ["_law_table", "_law_road_here", "_law_many"] (spFirstL C) := by
  have nd := sc_first.nd
  obtain ⟨fs, fds, ds, mS, vS, bS, _, FS⟩ := T.scan
  refine okG F sc_first (fun vs H Q E h => ?_) (fun cdv A up s H vs Q E qt hr h => ?_)
  · obtain ⟨p, pt, dx, d, m, all, z, r, c, many, rfl, _⟩ := h
    rfl
  · obtain ⟨p, pt, dx, d, m, all, z, r, c, many, rfl, hT, hp, hcol, hnd, hlen, hmany, hin, hall, k⟩ := h
    refine ⟨_, pss_cons (ps_set (i := 3) nd rfl (.inl rfl) (pe_lst pa_nil))
      (pss_cons (ps_forG (sp := spScanF C) (k := 3) PassesOwn.never rfl (hr.mono (by decide)) (pg2_meth (pv 0) T.tx.cl mS FS (hr.mono (by decide)) bS vS (pa_cons (pv 1) pa_nil)) (pg_name (i := 4) nd rfl (.inl rfl))
        (pss_cons (ps_if (pt_cmpR op_eq (pe_callB c_len (by rfl) z_len (by decide +kernel) (pa_cons (pv 3) pa_nil)) (pv 2) (nomark _)) (pss_one ps_break) pss_nil)
        (pss_one (ps_expr (pe_bm PySem.F.plainAttrs_list PySem.F.slot_list_append PySem.F.type_list_append mt_append (pv 3) (pa_cons (pv 4) pa_nil))))) (fun _ h => h.elim))
      (pss_one (ps_ret (pv 3)))), ?_⟩
    walk_at "rd"
    refine ⟨k_sz rfl, fun L hL => ?_⟩
    have sL : Same H (upd H L (.lst [])) := Same.upd hL
    have gL : (upd H L (.lst [])) L = some (.lst []) := upd_same
    have nL : ∀ a o, H a = some o → a ≠ L := fun a o h => ne_of_none h hL
    generalize upd H L (.lst []) = HL at sL gL ⊢
    walk_at "rd"
    unfold tForG tMG2
    walk_at "rd"
    refine ⟨p, dx, _, rfl, sL _ _ hT.1, flds_no _ _ (by decide +kernel) (by decide +kernel), ?_⟩
    walk_at "rd"
    refine ⟨rfl, ?_⟩
    let B : Nat → Option (List Int) → L2.St → Hp → Prop := fun i γ σ H' => ∃ (o4 : Option V) (ts : List Addr) (dn : Rows), σ = [some (.ref p), some (.ref pt), some (.int many), some (.ref L), o4] ∧ Same H H' ∧ H' L = some (.lst (ts.map V.ref)) ∧ Paired (RowAt H') ts dn ∧ dn.length = i ∧ i ≤ many ∧ Went r c m dn γ
    refine ⟨B, fun H1 H2 => Tups H1 H2, fun i γ x H₀ H₁ γ' => Same H₀ H₁ ∧ ∃ row t, x = .ref t ∧ RowAt H₁ t row ∧ Least r c (asked r c γ none none m) row ∧ γ' = some (placeL r c row), fun i γ H₀ H₁ => Same H₀ H₁ ∧ asked r c γ none none m = [], none,
      ⟨none, [], [], rfl, sL, gL, .nil, rfl, Nat.zero_le _, Went.nil r c m⟩, fun _ _ h => h, ⟨p, pt, r, c, none, none, rfl, hp.keep (Tups.same sL), rfl, fun _ _ h => h, fun i γ H' ⟨σ, hB⟩ => ?_⟩, fun i γ γ' x σ H₀ H₁ hB hY => ?_, fun i γ σ H₀ H₁ hB hD => ?_⟩
    · obtain ⟨o4, ts, dn, rfl, s1, _, _, _, hi, _⟩ := hB
      exact ⟨Nat.lt_of_le_of_lt hi (Nat.lt_of_le_of_lt hmany (by decide)), dx, d, m, z, hT.keep (Tups.same s1) (fun o e => s1 _ _ e) (fun o e => s1 _ _ e), hcol, hnd, by omega, fun e H'' s => ⟨s, e⟩, fun row t H'' hle _ s hrt => ⟨s, row, t, rfl, hrt, hle, rfl⟩⟩
    · obtain ⟨o4, ts, dn, rfl, s1, h1, hps, hl, hi, hw⟩ := hB
      obtain ⟨s2, row, t, rfl, hrt, hle, rfl⟩ := hY
      have g1 := s2 _ _ h1
      have hps2 := Paired.mapP hps fun a b h => h.keep (Tups.same s2)
      have lts : ts.length = i := (Paired.length hps).trans hl
      walk_at "rd"
      rw [List.length_map]
      refine k_iteD (fun e => ?_) fun e => ?_
      · have e2 : ts.length = many := Int.ofNat.inj (V.int.inj e)
        show (L2.tRet (tVar 3) _) _ _
        walk_at "rd"
        refine k L ts H₁ (s1.trans s2) hL g1 ?_
        have ed := hw.pre hin hall
        rw [hl, ← lts, e2] at ed
        rw [← ed]
        exact hps2
      · have ne : i ≠ many := fun z => e (by rw [lts, z])
        walk_at "rd"
        refine ⟨k_tyL g1, ?_⟩
        walk_at "rd"
        refine k_app g1 (k_szL (by rw [List.length_map]; omega)) ?_
        have tu : Tups H₁ (upd H₁ L (.lst (ts.map V.ref ++ [V.ref t]))) := tups_upd g1 fun xs z => by cases z
        refine ⟨⟨_, ts ++ [t], dn ++ [row], rfl, same_off (s1.trans s2) hL, by rw [upd_same]; simp, Paired.snoc (Paired.mapP hps2 fun a b h => h.keep tu) (hrt.keep tu), by simp [hl], by omega, hw.snoc hnd hle⟩, tu⟩
    · obtain ⟨o4, ts, dn, rfl, s1, h1, hps, hl, hi, hw⟩ := hB
      obtain ⟨s2, e⟩ := hD
      walk_at "rd"
      have ed := hw.full e hin hall
      have el : dn.length ≤ many := by omega
      refine k L ts H₁ (s1.trans s2) hL (s2 _ _ h1) ?_
      rw [← ed, List.take_of_length_le el]
      exact Paired.mapP hps fun a b h => h.keep (Tups.same s2)
end
end K22

set_option Elab.async false
set_option maxRecDepth 100000
set_option maxHeartbeats 1000000
set_option linter.unusedVariables false
namespace K22
open PySem PySem.Spec PyProof.Rows L2 Own
-- steps
local macro_rules | `(tactic| walk_at "lk") => `(tactic| first
  | assumption | exact upd_same
  | ((with_reducible refine' lk_new ?e (by assumption)); (case e => walk_at "lk"))
  | ((with_reducible refine' lk_ext (by assumption) ?e); (case e => walk_at "lk"))
  | ((with_reducible refine' lk_same (by assumption) ?e); (case e => walk_at "lk")))
local macro_rules | `(tactic| walk_at "sq") => `(tactic| first | assumption | exact SqL.of (by walk_at "lk") | exact SqT.of (by walk_at "lk"))
local macro_rules | `(tactic| walk_at "r1") => `(tactic| first
  | with_reducible refine k_seq ?_ | with_reducible refine k_asg ?_ | with_reducible refine k_ret ?_ | with_reducible refine k_drop ?_ | with_reducible refine k_next ?_ | with_reducible refine k_ifS ?_
  | ((with_reducible refine' k_var ?e ?_); (case e => exact rfl)) | with_reducible refine k_c ?_ | with_reducible refine k_op ?_ | with_reducible refine k_un ?_ | with_reducible refine k_test ?_ | with_reducible refine k_B ?_
  | with_reducible refine k_and ?_ | with_reducible refine k_or ?_ | with_reducible refine k_not ?_ | with_reducible refine k_andV ?_ | with_reducible refine k_orV ?_ | with_reducible refine k_notV ?_ | with_reducible refine k_if ?_
  | with_reducible refine k_nil ?_ | with_reducible refine k_cons ?_ | with_reducible refine k_tup ?_ | with_reducible refine k_lst ?_ | with_reducible refine k_call ?_ | with_reducible refine k_cb ?_ | with_reducible refine k_ck ?_
  | with_reducible refine k_par ?_ | with_reducible refine k_par1 ?_ | with_reducible refine k_tr ?_ | with_reducible refine k_rI0 ?_ | with_reducible refine k_rU ?_
  | with_reducible refine k_gN ?_ | with_reducible refine k_gS ?_ | with_reducible refine k_gNil ?_ | with_reducible refine k_gCons ?_ | with_reducible refine k_bm0 ?_ | with_reducible refine k_bm ?_
  | with_reducible refine k_for ?_ | with_reducible refine k_iL ?_ | with_reducible refine k_iT ?_ | with_reducible refine k_iR1 ?_ | ((with_reducible refine k_iR1i ?e ?_); (case e => first | decide | exact ⟨by omega, by omega⟩))
  | with_reducible refine k_max ?_ | with_reducible refine k_isB ?_ | with_reducible refine k_sl ?_ | with_reducible refine k_noP ?_ | with_reducible refine k_part ?_ | with_reducible refine k_partI ?_ | with_reducible refine k_revL ?_
  | ((with_reducible refine' k_ixqT ?e ?f ?_); (case e => walk_at "sq"); (case f => first | exact rfl | exact atI_head))
  | ((with_reducible refine' k_ixqL ?e ?f ?_); (case e => walk_at "sq"); (case f => first | exact rfl | exact atI_head))
  | ((with_reducible refine' k_lenL ?e ?_); (case e => walk_at "sq"))
  | ((with_reducible refine' k_lenT ?e ?_); (case e => walk_at "sq"))
  | ((with_reducible refine' k_ixL ?e ?f ?_); (case e => walk_at "sq"); (case f => first | exact rfl | exact atI_head))
  | ((with_reducible refine' k_ixT ?e ?f ?_); (case e => walk_at "sq"); (case f => first | exact rfl | exact atI_head))
  | ((with_reducible refine k_eq ?e ?_); (case e => exact rfl)) | ((with_reducible refine k_ne ?e ?_); (case e => exact rfl))
  | ((with_reducible refine k_rI ?e ?_); (case e => first | assumption | omega | decide | exact ⟨by omega, by omega⟩ | exact .inl ⟨by omega, by omega⟩ | exact .inr ⟨by omega, by omega⟩)))
local macro_rules | `(tactic| walk_at "rd") => `(tactic| repeat walk_at "r1")
-- steps end
/-- a row beside a list of all -/
def TwAt (L : Addr) (other : Rows) (H : Hp) (f : Addr) (row : Int × List Int) : Prop := ∃ (t l2 : Addr) (ts2 : List Addr), H f = some (.tup [.ref t, .ref l2]) ∧ RowAt H t row ∧ H l2 = some (.lst (ts2.map V.ref)) ∧ Paired (RowAt H) ts2 other ∧ l2 ≠ L
def Sm (L : Addr) (H H' : Hp) : Prop := ∀ a o, a ≠ L → H a = some o → H' a = some o
theorem TwAt.keep {L : Addr} {other : Rows} {H H' : Hp} {f : Addr} {row : Int × List Int} (h : TwAt L other H f row) (x : Tups H H') (s : Sm L H H') : TwAt L other H' f row :=
  let ⟨t, l2, ts2, h1, h2, h3, h4, h5⟩ := h
  ⟨t, l2, ts2, x _ _ h1, h2.keep x, s _ _ h5 h3, Paired.mapP h4 fun a b h => h.keep x, h5⟩
theorem Sm.same {L : Addr} {H H' : Hp} (s : Same H H') : Sm L H H' := fun a o _ h => s a o h
section
variable {P : Program} {w : World} {K : PySem.W.Frag} {mg : Str → Option Value} {g0 : Heap} {C : Addr}
def spTwice (C : Addr) : Sp := fun vs H Q _ => ∃ (p pt pu dx d : Addr) (m all other : Rows) (z : Int) (r r2 : Str) (c c2 : Nat), vs = [.ref p, .ref pt, .ref pu] ∧ TableAt C H p dx d m z ∧ RoadAt H pt r c ∧ RoadAt H pu r2 c2 ∧ (∀ row ∈ m, HasCol r c row) ∧ (∀ row ∈ m, HasCol r2 c2 row) ∧ (keysR m).Nodup ∧ m.length ≤ 8 ∧
  InTurn r c all ∧ (∀ x, x ∈ all ↔ x ∈ m) ∧ InTurn r2 c2 other ∧ (∀ x, x ∈ other ↔ x ∈ m) ∧
  ∀ (l : Addr) (fs : List Addr) (H' : Hp), Same H H' → H l = none → H' l = some (.lst (fs.map V.ref)) → Paired (TwAt l other H') fs all → Q (.ref l) H'
theorem ok_twice {f : Addr} {fd : FuncData} (F : Fun K "_law_twice" "_law_twice" s_twice f fd) (T : Scn P w K mg g0 C) (z_list : mg "list" = none) : GOk P w K mg g0 CX0 7 f fd ["_law_table", "_law_road_here", "_law_further"] (spTwice C) := by
  have nd := sc_twice.nd
  obtain ⟨fs, fds, ds, mS, vS, bS, FG, FS⟩ := T.scan
  refine okG F sc_twice (fun vs H Q E h => ?_) (fun cdv A up s H vs Q E qt hr h => ?_)
  · obtain ⟨p, pt, pu, dx, d, m, all, other, z, r, r2, c, c2, rfl, _⟩ := h
    rfl
  · obtain ⟨p, pt, pu, dx, d, m, all, other, z, r, r2, c, c2, rfl, hT, hp, hu, hcol, hcol2, hnd, hlen, hin, hall, hin2, hall2, k⟩ := h
    refine ⟨_, pss_cons (ps_set (i := 3) nd rfl (.inl rfl) (pe_lst pa_nil))
      (pss_cons (ps_forG (sp := spScanF C) (k := 3) PassesOwn.never rfl (hr.mono (by decide)) (pg2_meth (pv 0) T.tx.cl mS FS (hr.mono (by decide)) bS vS (pa_cons (pv 1) pa_nil)) (pg_name (i := 4) nd rfl (.inl rfl))
        (pss_one (ps_expr (pe_bm PySem.F.plainAttrs_list PySem.F.slot_list_append PySem.F.type_list_append mt_append (pv 3) (pa_cons (pe_tup (pa_cons (pv 4) (pa_cons (pe_listG (E := E0) (pgen_meth (pv 0) T.tx.cl mS FG (hr.mono (by decide)) bS vS (pa_cons (pv 2) pa_nil)) passN (fun _ _ _ h => h.elim) (hr.mono (by decide)) (by rfl) z_list (by decide +kernel)) pa_nil))) pa_nil)))) (fun _ h => h.elim))
      (pss_one (ps_ret (pv 3)))), ?_⟩
    walk_at "rd"
    refine ⟨k_sz rfl, fun L hL => ?_⟩
    have sL : Same H (upd H L (.lst [])) := Same.upd hL
    have gL : (upd H L (.lst [])) L = some (.lst []) := upd_same
    generalize upd H L (.lst []) = HL at sL gL ⊢
    walk_at "rd"
    unfold tForG tMG2
    walk_at "rd"
    refine ⟨p, dx, _, rfl, sL _ _ hT.1, flds_no _ _ (by decide +kernel) (by decide +kernel), ?_⟩
    walk_at "rd"
    refine ⟨rfl, ?_⟩
    let B : Nat → Option (List Int) → L2.St → Hp → Prop := fun i γ σ H' => ∃ (o4 : Option V) (fs : List Addr) (dn : Rows), σ = [some (.ref p), some (.ref pt), some (.ref pu), some (.ref L), o4] ∧ Same H H' ∧ H' L = some (.lst (fs.map V.ref)) ∧ Paired (TwAt L other H') fs dn ∧ dn.length = i ∧ Went r c m dn γ
    refine ⟨B, fun H1 H2 => Tups H1 H2, fun i γ x H₀ H₁ γ' => Same H₀ H₁ ∧ ∃ row t, x = .ref t ∧ RowAt H₁ t row ∧ Least r c (asked r c γ none none m) row ∧ γ' = some (placeL r c row), fun i γ H₀ H₁ => Same H₀ H₁ ∧ asked r c γ none none m = [], none,
      ⟨none, [], [], rfl, sL, gL, .nil, rfl, Went.nil r c m⟩, fun _ _ h => h, ⟨p, pt, r, c, none, none, rfl, hp.keep (Tups.same sL), rfl, fun _ _ h => h, fun i γ H' ⟨σ, hB⟩ => ?_⟩, fun i γ γ' x σ H₀ H₁ hB hY => ?_, fun i γ σ H₀ H₁ hB hD => ?_⟩
    · obtain ⟨o4, fs, dn, rfl, s1, _, _, hi, hw⟩ := hB
      have := hw.len
      exact ⟨Nat.lt_of_le_of_lt (show i ≤ 8 by omega) (by decide), dx, d, m, z, hT.keep (Tups.same s1) (fun o e => s1 _ _ e) (fun o e => s1 _ _ e), hcol, hnd, by omega, fun e H'' s => ⟨s, e⟩, fun row t H'' hle _ s hrt => ⟨s, row, t, rfl, hrt, hle, rfl⟩⟩
    · obtain ⟨o4, fs, dn, rfl, s1, h1, hps, hl, hw⟩ := hB
      obtain ⟨s2, row, t, rfl, hrt, hle, rfl⟩ := hY
      have g1 := s2 _ _ h1
      have lts : fs.length = i := (Paired.length hps).trans hl
      have li := hw.len
      have s12 := s1.trans s2
      walk_at "rd"
      refine ⟨k_tyL g1, ?_⟩
      walk_at "rd"
      unfold tListG tMethG
      walk_at "rd"
      refine ⟨p, dx, _, rfl, s12 _ _ hT.1, flds_no _ _ (by decide +kernel) (by decide +kernel), ?_⟩
      walk_at "rd"
      refine ⟨p, pu, dx, d, m, z, r2, c2, none, none, rfl, hT.keep (Tups.same s12) (fun o e => s12 _ _ e) (fun o e => s12 _ _ e), hu.keep (Tups.same s12), hcol2, hnd, by omega, fun ts2 rows H2 s3 hp2 hin3 hm3 => ?_⟩
      intro l2 hl2
      have e2 : rows = other := turn_same hin3 hin2 fun x => by
        rw [hm3, hall2, List.mem_filter]
        exact ⟨fun h => h.1, fun h => ⟨h, within_none r2 c2 x⟩⟩
      subst e2
      have s4 : Same H₁ (upd H2 l2 (.lst (ts2.map V.ref))) := s3.trans (Same.upd hl2)
      have gl2 : (upd H2 l2 (.lst (ts2.map V.ref))) l2 = some (.lst (ts2.map V.ref)) := upd_same
      have nl2 : l2 ≠ L := fun z => by
        rw [z, s3 _ _ g1] at hl2
        cases hl2
      have hp4 := Paired.mapP hp2 fun a b h => RowAt.keep h (tups_new (o := .lst (ts2.map V.ref)) hl2)
      generalize upd H2 l2 (.lst (ts2.map V.ref)) = H3 at s4 gl2 hp4 ⊢
      walk_at "rd"
      refine ⟨k_sz rfl, fun q hq => ?_⟩
      have s5 : Same H₁ (upd H3 q (.tup [.ref t, .ref l2])) := s4.trans (Same.upd hq)
      have t5 : Tups H3 (upd H3 q (.tup [.ref t, .ref l2])) := tups_new hq
      have gq : (upd H3 q (.tup [.ref t, .ref l2])) q = some (.tup [.ref t, .ref l2]) := upd_same
      have gl5 := Same.upd (o := .tup [.ref t, .ref l2]) hq _ _ gl2
      have hp5 := Paired.mapP hp4 fun a b h => RowAt.keep h t5
      generalize upd H3 q (.tup [.ref t, .ref l2]) = H5 at s5 gq gl5 hp5 ⊢
      walk_at "rd"
      refine k_app (s5 _ _ g1) (k_szL (by rw [List.length_map]; omega)) ?_
      have tu : Tups H5 (upd H5 L (.lst (fs.map V.ref ++ [V.ref q]))) := tups_upd (s5 _ _ g1) fun xs z => by cases z
      have sm : Sm L H5 (upd H5 L (.lst (fs.map V.ref ++ [V.ref q]))) := fun a o n e => by rw [upd_ne n]; exact e
      have sm1 : Sm L H₀ (upd H5 L (.lst (fs.map V.ref ++ [V.ref q]))) := fun a o n e => sm a o n (s5 _ _ (s2 _ _ e))
      have tu1 : Tups H₀ (upd H5 L (.lst (fs.map V.ref ++ [V.ref q]))) := fun a xs e => tu _ _ (s5 _ _ (s2 _ _ e))
      have tu2 : Tups H₁ (upd H5 L (.lst (fs.map V.ref ++ [V.ref q]))) := fun a xs e => tu _ _ (s5 _ _ e)
      refine ⟨⟨_, fs ++ [q], dn ++ [row], rfl, same_off (s12.trans s5) hL, by rw [upd_same]; simp, Paired.snoc (Paired.mapP hps fun a b h => h.keep tu1 sm1) ⟨t, l2, ts2, tu _ _ gq, hrt.keep tu2, sm _ _ nl2 gl5, Paired.mapP hp5 fun a b h => h.keep tu, nl2⟩, by simp [hl], hw.snoc hnd hle⟩, tu2⟩
    · obtain ⟨o4, fs, dn, rfl, s1, h1, hps, hl, hw⟩ := hB
      obtain ⟨s2, e⟩ := hD
      walk_at "rd"
      have ed := hw.full e hin hall
      refine k L fs H₁ (s1.trans s2) hL (s2 _ _ h1) ?_
      rw [← ed]
      exact Paired.mapP hps fun a b h => h.keep (Tups.same s2) (Sm.same s2)
end
end K22

set_option Elab.async false
set_option maxRecDepth 100000
set_option maxHeartbeats 4000000
namespace K22
open PySem PySem.Spec PyProof.Rows L2 Own
-- steps
local macro_rules | `(tactic| walk_at "lk") => `(tactic| first
  | assumption | exact upd_same
  | ((with_reducible refine' lk_new ?e (by assumption)); (case e => walk_at "lk"))
  | ((with_reducible refine' lk_ext (by assumption) ?e); (case e => walk_at "lk"))
  | ((with_reducible refine' lk_same (by assumption) ?e); (case e => walk_at "lk")))
local macro_rules | `(tactic| walk_at "sq") => `(tactic| first | assumption | exact SqL.of (by walk_at "lk") | exact SqT.of (by walk_at "lk"))
local macro_rules | `(tactic| walk_at "r1") => `(tactic| first
  | with_reducible refine k_seq ?_ | with_reducible refine k_asg ?_ | with_reducible refine k_ret ?_ | with_reducible refine k_drop ?_ | with_reducible refine k_next ?_ | with_reducible refine k_ifS ?_
  | ((with_reducible refine' k_var ?e ?_); (case e => exact rfl)) | with_reducible refine k_c ?_ | with_reducible refine k_op ?_ | with_reducible refine k_un ?_ | with_reducible refine k_test ?_ | with_reducible refine k_B ?_
  | with_reducible refine k_and ?_ | with_reducible refine k_or ?_ | with_reducible refine k_not ?_ | with_reducible refine k_andV ?_ | with_reducible refine k_orV ?_ | with_reducible refine k_notV ?_ | with_reducible refine k_if ?_
  | with_reducible refine k_nil ?_ | with_reducible refine k_cons ?_ | with_reducible refine k_tup ?_ | with_reducible refine k_lst ?_ | with_reducible refine k_call ?_ | with_reducible refine k_cb ?_ | with_reducible refine k_ck ?_
  | with_reducible refine k_par ?_ | with_reducible refine k_par1 ?_ | with_reducible refine k_tr ?_ | with_reducible refine k_rI0 ?_ | with_reducible refine k_rU ?_
  | with_reducible refine k_gN ?_ | with_reducible refine k_gS ?_ | with_reducible refine k_gNil ?_ | with_reducible refine k_gCons ?_ | with_reducible refine k_bm0 ?_ | with_reducible refine k_bm ?_
  | with_reducible refine k_for ?_ | with_reducible refine k_iL ?_ | with_reducible refine k_iT ?_ | with_reducible refine k_iR1 ?_ | ((with_reducible refine k_iR1i ?e ?_); (case e => first | decide | exact ⟨by omega, by omega⟩))
  | with_reducible refine k_max ?_ | with_reducible refine k_isB ?_ | with_reducible refine k_sl ?_ | with_reducible refine k_noP ?_ | with_reducible refine k_part ?_ | with_reducible refine k_partI ?_ | with_reducible refine k_revL ?_
  | ((with_reducible refine' k_ixqT ?e ?f ?_); (case e => walk_at "sq"); (case f => first | exact rfl | exact atI_head))
  | ((with_reducible refine' k_ixqL ?e ?f ?_); (case e => walk_at "sq"); (case f => first | exact rfl | exact atI_head))
  | ((with_reducible refine' k_lenL ?e ?_); (case e => walk_at "sq"))
  | ((with_reducible refine' k_lenT ?e ?_); (case e => walk_at "sq"))
  | ((with_reducible refine' k_ixL ?e ?f ?_); (case e => walk_at "sq"); (case f => first | exact rfl | exact atI_head))
  | ((with_reducible refine' k_ixT ?e ?f ?_); (case e => walk_at "sq"); (case f => first | exact rfl | exact atI_head))
  | ((with_reducible refine k_eq ?e ?_); (case e => exact rfl)) | ((with_reducible refine k_ne ?e ?_); (case e => exact rfl))
  | ((with_reducible refine k_rI ?e ?_); (case e => first | assumption | omega | decide | exact ⟨by omega, by omega⟩ | exact .inl ⟨by omega, by omega⟩ | exact .inr ⟨by omega, by omega⟩)))
local macro_rules | `(tactic| walk_at "rd") => `(tactic| repeat walk_at "r1")
-- steps end
/-! ### what repr tells of rows -/
structure Fit (W D : Nat) (d : PyData) : Prop where
  sh : d.showable = true
  la : d.canLay0 = true
  is : d.intsShort 13 = true
  de : d.depth ≤ D
  we : d.weight ≤ W
structure FitA (W D : Nat) (ds : List PyData) : Prop where
  sh : PyData.showableAll ds = true
  la : PyData.canLayAll0 ds = true
  is : PyData.intsShortAll 13 ds = true
  de : PyData.depthAll ds ≤ D
  we : PyData.weightAll ds ≤ W
abbrev Num (v : Int) : Prop := -1000000000000 < v ∧ v < 1000000000000
theorem num_log {v : Int} (h : Num v) : v.natAbs.log2 < 41 := by
  by_cases e : v.natAbs = 0
  · rw [e]
    decide
  · rw [Nat.log2_lt e]
    have z : (2 : Nat) ^ 41 = 2199023255552 := by decide +kernel
    omega
theorem fit_int {v : Int} (h : Num v) : Fit 42 0 (.int v) := by
  have l := num_log h
  refine ⟨?_, rfl, ?_, Nat.le_refl _, ?_⟩
  · show decide _ = true
    exact decide_eq_true (by omega)
  · show decide _ = true
    refine decide_eq_true ?_
    rw [PyData.shown_int, PySem.ofString_length]
    exact int_text_length_le10 (k := 12) (by decide) (by have z : (10 : Nat) ^ 12 = 1000000000000 := by decide +kernel
                                                         omega)
  · show (if (v == 0) = true then 0 else v.natAbs.log2 + 1) ≤ 42
    split <;> omega
theorem fit_nil {D : Nat} : FitA 0 D [] := ⟨rfl, rfl, rfl, Nat.zero_le _, Nat.le_refl _⟩
theorem fit_cons {W W' D : Nat} {d : PyData} {ds : List PyData} (a : Fit W D d) (b : FitA W' D ds) : FitA (W + 1 + W') D (d :: ds) := by
  refine ⟨?_, ?_, ?_, ?_, ?_⟩
  · show (_ && _) = true
    rw [a.sh, b.sh]
    rfl
  · show (_ && _) = true
    rw [a.la, b.la]
    rfl
  · show (_ && _) = true
    rw [a.is, b.is]
    rfl
  · show max _ _ ≤ D
    exact Nat.max_le.mpr ⟨a.de, b.de⟩
  · show _ + 1 + _ ≤ _
    have := a.we
    have := b.we
    omega
theorem fit_tup {W D : Nat} {ds : List PyData} (a : FitA W D ds) : Fit W (D + 1) (.tuple ds) := ⟨a.sh, a.la, a.is, Nat.succ_le_succ a.de, a.we⟩
theorem Fit.mono {W W' D D' : Nat} {d : PyData} (a : Fit W D d) (h : W ≤ W') (h2 : D ≤ D') : Fit W' D' d := ⟨a.sh, a.la, a.is, Nat.le_trans a.de h2, Nat.le_trans a.we h⟩
theorem FitA.mono {W W' D D' : Nat} {d : List PyData} (a : FitA W D d) (h : W ≤ W') (h2 : D ≤ D') : FitA W' D' d := ⟨a.sh, a.la, a.is, Nat.le_trans a.de h2, Nat.le_trans a.we h⟩
theorem fit_ints : ∀ {vs : List Int}, (∀ v ∈ vs, Num v) → FitA (43 * vs.length) 0 (vs.map .int)
  | [], _ => fit_nil
  | v :: vs, h => (fit_cons (fit_int (h v List.mem_cons_self)) (fit_ints fun w k => h w (List.mem_cons_of_mem _ k))).mono (by simp only [List.length_cons]; omega) (Nat.le_refl _)
theorem fit_row {n : Int} {vs : List Int} (h : Num n) (l : vs.length ≤ 3) (hv : ∀ v ∈ vs, Num v) : Fit 180 2 (rowD n vs) :=
  (fit_tup (fit_cons ((fit_int h).mono (Nat.le_refl _) (Nat.zero_le 1)) (fit_cons (fit_tup (fit_ints hv)) fit_nil))).mono (by omega) (Nat.le_refl _)
theorem Fit.repr {W D : Nat} {d : PyData} (f : Fit W D d) (h : W ≤ 1000000) (h2 : D ≤ 60) : d.showable = true ∧ d.depth ≤ 60 ∧ d.shown.length ≤ sizeLine := by
  refine ⟨f.sh, Nat.le_trans f.de h2, ?_⟩
  have hl : d.layable0 = true := by
    show (_ && decide _ && decide _) = true
    have e : (2 : Nat) ^ 20 = 1048576 := by decide
    have := f.de
    have := f.we
    rw [f.la, decide_eq_true (show d.depth ≤ 64 by omega), decide_eq_true (show d.weight ≤ 2 ^ 20 by rw [e]; omega)]
    rfl
  have := PyProof.Rows.shown_le13 hl f.is
  rw [sizeLine_eq]
  omega
theorem dp_row {K : PySem.W.Frag} {H : Hp} {t : Addr} {r : Int × List Int} (h : RowAt H t r) : Dp K H (.ref t) (rowD r.1 r.2) := by
  obtain ⟨u, h1, h2⟩ := h
  exact .tup (SqT.of h1) (.cons (.int _) (.cons (.tup (SqT.of h2) (dpAll_ints _)) .nil))
def toldD (o : Option (Int × List Int)) : PyData := match o with | none => .none | some r => rowD r.1 r.2
theorem fit_told {o : Option (Int × List Int)} (h : ∀ r, o = some r → Num r.1 ∧ r.2.length ≤ 3 ∧ ∀ v ∈ r.2, Num v) : Fit 180 2 (toldD o) := by
  cases o with
  | none => exact ⟨rfl, rfl, rfl, Nat.zero_le _, by decide⟩
  | some r =>
    obtain ⟨a, b, c⟩ := h r rfl
    exact fit_row a b c
theorem fit_two {o : Option (Int × List Int)} (h : ∀ r, o = some r → Num r.1 ∧ r.2.length ≤ 3 ∧ ∀ v ∈ r.2, Num v) : Fit 400 3 (.list [toldD o, toldD o]) := by
  have f := (fit_cons (fit_told h) (fit_cons (fit_told h) fit_nil)).mono (W' := 400) (by omega) (Nat.le_refl _)
  exact ⟨f.sh, f.la, f.is, Nat.succ_le_succ f.de, f.we⟩
end K22

set_option Elab.async false
set_option maxRecDepth 100000
set_option maxHeartbeats 1000000
set_option linter.unusedVariables false
namespace K22
open PySem PySem.Spec PyProof.Rows L2 Own
-- steps
local macro_rules | `(tactic| walk_at "lk") => `(tactic| first
  | assumption | exact upd_same
  | ((with_reducible refine' lk_new ?e (by assumption)); (case e => walk_at "lk"))
  | ((with_reducible refine' lk_ext (by assumption) ?e); (case e => walk_at "lk"))
  | ((with_reducible refine' lk_same (by assumption) ?e); (case e => walk_at "lk")))
local macro_rules | `(tactic| walk_at "sq") => `(tactic| first | assumption | exact SqL.of (by walk_at "lk") | exact SqT.of (by walk_at "lk"))
local macro_rules | `(tactic| walk_at "r1") => `(tactic| first
  | with_reducible refine k_seq ?_ | with_reducible refine k_asg ?_ | with_reducible refine k_ret ?_ | with_reducible refine k_drop ?_ | with_reducible refine k_next ?_ | with_reducible refine k_ifS ?_
  | ((with_reducible refine' k_var ?e ?_); (case e => exact rfl)) | with_reducible refine k_c ?_ | with_reducible refine k_op ?_ | with_reducible refine k_un ?_ | with_reducible refine k_test ?_ | with_reducible refine k_B ?_
  | with_reducible refine k_and ?_ | with_reducible refine k_or ?_ | with_reducible refine k_not ?_ | with_reducible refine k_andV ?_ | with_reducible refine k_orV ?_ | with_reducible refine k_notV ?_ | with_reducible refine k_if ?_
  | with_reducible refine k_nil ?_ | with_reducible refine k_cons ?_ | with_reducible refine k_tup ?_ | with_reducible refine k_lst ?_ | with_reducible refine k_call ?_ | with_reducible refine k_cb ?_ | with_reducible refine k_ck ?_
  | with_reducible refine k_par ?_ | with_reducible refine k_par1 ?_ | with_reducible refine k_tr ?_ | with_reducible refine k_rI0 ?_ | with_reducible refine k_rU ?_
  | with_reducible refine k_gN ?_ | with_reducible refine k_gS ?_ | with_reducible refine k_gNil ?_ | with_reducible refine k_gCons ?_ | with_reducible refine k_bm0 ?_ | with_reducible refine k_bm ?_
  | with_reducible refine k_for ?_ | with_reducible refine k_iL ?_ | with_reducible refine k_iT ?_ | with_reducible refine k_iR1 ?_ | ((with_reducible refine k_iR1i ?e ?_); (case e => first | decide | exact ⟨by omega, by omega⟩))
  | with_reducible refine k_max ?_ | with_reducible refine k_isB ?_ | with_reducible refine k_sl ?_ | with_reducible refine k_noP ?_ | with_reducible refine k_part ?_ | with_reducible refine k_partI ?_ | with_reducible refine k_revL ?_
  | ((with_reducible refine' k_ixqT ?e ?f ?_); (case e => walk_at "sq"); (case f => first | exact rfl | exact atI_head))
  | ((with_reducible refine' k_ixqL ?e ?f ?_); (case e => walk_at "sq"); (case f => first | exact rfl | exact atI_head))
  | ((with_reducible refine' k_lenL ?e ?_); (case e => walk_at "sq"))
  | ((with_reducible refine' k_lenT ?e ?_); (case e => walk_at "sq"))
  | ((with_reducible refine' k_ixL ?e ?f ?_); (case e => walk_at "sq"); (case f => first | exact rfl | exact atI_head))
  | ((with_reducible refine' k_ixT ?e ?f ?_); (case e => walk_at "sq"); (case f => first | exact rfl | exact atI_head))
  | ((with_reducible refine k_eq ?e ?_); (case e => exact rfl)) | ((with_reducible refine k_ne ?e ?_); (case e => exact rfl))
  | ((with_reducible refine k_rI ?e ?_); (case e => first | assumption | omega | decide | exact ⟨by omega, by omega⟩ | exact .inl ⟨by omega, by omega⟩ | exact .inr ⟨by omega, by omega⟩)))
local macro_rules | `(tactic| walk_at "rd") => `(tactic| repeat walk_at "r1")
-- steps end
theorem ix_tupK {X : Cx} {K : PySem.W.Frag} (h : X.K = K) : IxR X (rIxT K) := by
  subst h
  exact ix_tup
section
variable {P : Program} {w : World} {K : PySem.W.Frag} {mg : Str → Option Value} {g0 : Heap} {C : Addr}
def spSpots : Sp := fun vs H Q _ => ∃ (d e pt l : Addr) (b : Int) (r : Str) (c : Nat) (ts : List Addr) (rows : Rows), vs = [.ref d, .ref pt, .ref l] ∧ Deck d e b H ∧ b ≤ 500000000 ∧ RoadAt H pt r c ∧ H l = some (.lst (ts.map V.ref)) ∧ ¬ Dk d e l ∧ Paired (RowAt H) ts rows ∧ rows.length ≤ 8 ∧ (∀ row ∈ rows, HasCol r c row) ∧
  ∀ (L : Addr) (ss : List Addr) (H' : Hp), H' L = some (.lst (ss.map V.ref)) → ¬ Dk d e L → ss.length ≤ 13 → (∀ t ∈ ss, ∃ ys : List Int, H' t = some (.tup (ys.map V.int))) → Deck d e (b + 10) H' → Ext (Dk d e) H H' → Q (.ref L) H'
theorem ok_spots {f : Addr} {fd : FuncData} (F : Fun K "_law_spots" "_law_spots" s_spots f fd) (z_range : mg "range" = none) (z_abs : mg "abs" = none)
    (C_draw : Cal P w K mg g0 "_law_draw" 1 ["_law_deck_here", "_law_many"] spDraw) (C_spot : Cal P w K mg g0 "_law_spot" 1 ["_law_road_here", "_law_row"] spPlace) : GOk P w K mg g0 CX0 2 f fd ["_law_deck_here", "_law_road_here", "_law_due"] spSpots := by
  have nd := sc_spots.nd
  refine okG F sc_spots (fun vs H Q E h => ?_) (fun cdv A up s H vs Q E qt hr h => ?_)
  · obtain ⟨d, e, pt, l, b, r, c, ts, rows, rfl, _⟩ := h
    rfl
  · obtain ⟨d, e, pt, l, b, r, c, ts, rows, rfl, D, hb, hp, hl, nl, hps, lr, hcol, k⟩ := h
    refine ⟨_, (pss_cons (ps_setLc (i := 3) (own := [("_law_row", 5)]) (g := (gName 5)) (tt := tYes) (te := (tCall _ [] E0 (tCons (tVar 1) (tCons (tVar 5) tNil)))) (by rfl) nd rfl rfl (sw_true rfl rfl rfl (by decide +kernel)) (pi_list (pv 2)) (blkOk_by (own := [("_law_row", 5)]) (N := ["_law_deck_here", "_law_road_here", "_law_due", "_law_found", "_law_k", "_law_row", "_law_number", "_law_value"]) (sc := defScope s_spots) (by decide +kernel)) (fun _ _ _ _ _ => by exact (pg_name (i := 5) nd rfl (Or.inl rfl))) (fun _ _ _ _ _ => by exact pts_nil) (fun _ _ _ _ _ => by exact (pe_c C_spot qt (hr.mono (by decide)) (pa_cons (pv 1) (pa_cons (pv 5) pa_nil)))))
        (pss_cons (ps_for PassesOwn.never rfl (pi_range1 (by rfl) z_range (pa_cons pe_int pa_nil)) (pg_name (i := 4) nd rfl (Or.inl rfl)) (pss_cons (ps_par (i := 6) (j := 7) (by rfl) nd rfl rfl (by decide) rfl rfl (pa_cons (pe_callB call_abs (by rfl) z_abs (by decide +kernel) (pa_cons (pe_op op_sub (pe_op op_add (pe_ix ix_seq (pe_op op_cat (pe_lc (own := [("_law_row", 5)]) (g := (gName 5)) (tt := tYes) (te := (tOp (rIxT K) (tVar 5) (tC (.int 0)))) (by rfl) nd (pi_list (pv 2)) (blkOk_by (own := [("_law_row", 5)]) (N := ["_law_deck_here", "_law_road_here", "_law_due", "_law_found", "_law_k", "_law_row", "_law_number", "_law_value"]) (sc := defScope s_spots) (by decide +kernel)) (fun _ _ _ _ _ => by exact (pg_name (i := 5) nd rfl (Or.inl rfl))) (fun _ _ _ _ _ => by exact pts_nil) (fun _ _ _ _ _ => by exact (pe_ix (ix_tupK (K := K) rfl) (pv 5) pe_int (fun _ _ => rfl)))) (pe_lst (pa_cons pe_int pa_nil))) pe_int (fun _ _ => rfl)) (pe_c C_draw qt (hr.mono (by decide)) (pa_cons (pv 0) (pa_cons pe_int pa_nil)))) pe_int) pa_nil)) (pa_cons (pe_op op_sub (pe_c C_draw qt (hr.mono (by decide)) (pa_cons (pv 0) (pa_cons pe_int pa_nil))) pe_int) pa_nil)) (by rfl))
        (pss_one (ps_expr (pe_bm PySem.F.plainAttrs_list PySem.F.slot_list_append PySem.F.type_list_append mt_append (pv 3) (pa_cons (pe_ifExp (pt_cmpR op_eq (pe_ix ix_seq (pv 1) pe_int (fun _ _ => rfl)) pe_str (nomark _)) (pe_tup (pa_cons (pv 6) pa_nil)) (pe_tup (pa_cons (pv 7) (pa_cons (pv 6) pa_nil)))) pa_nil))))))
        (pss_one (ps_ret (pv 3))))), ?_⟩
    obtain ⟨rest, hp0⟩ := hp.head
    have lts := Paired.length hps
    walk_at "rd"
    try unfold tLc
    try walk_at "rd"
    refine ⟨l, rfl, ⟨_, SqL.of hl⟩, fun B hB => ?_⟩
    refine lc_list (xs := ts.map V.ref) (fun j H' => Same H H' ∧ ∃ ss : List Addr, H' B = some (.lst (ss.map V.ref)) ∧ ss.length ≤ j ∧ ∀ t ∈ ss, ∃ ys : List Int, H' t = some (.tup (ys.map V.int))) ⟨Same.upd hB, [], upd_same, Nat.le_refl _, fun t h => by simp at h⟩ (fun j H' _ h => SqL.of (h.1 _ _ hl)) (fun j x H1 hx h => ?_) (fun H1 h => ?_)
    · obtain ⟨s1, ss, hB1, lss, hss⟩ := h
      rw [List.getElem?_map] at hx
      obtain ⟨t, ht, rfl⟩ := Option.map_eq_some_iff.mp hx
      obtain ⟨row, hrow, hr0⟩ := pget hps ht
      have hj : j < ts.length := (List.getElem?_eq_some_iff.mp ht).1
      walk_at "rd"
      refine ⟨rfl, k_yes ?_⟩
      walk_at "rd"
      refine ⟨pt, t, r, c, row, rfl, hp.keep (Tups.same s1), hr0.keep (Tups.same s1), hcol row (List.mem_of_getElem? hrow), fun q hq => ?_⟩
      have x1 : Tups H1 (upd H1 q (.tup ((placeL r c row).map V.int))) := tups_new hq
      have hB2 := lk_new (o := .tup ((placeL r c row).map V.int)) hB1 hq
      have x2 : Tups (upd H1 q (.tup ((placeL r c row).map V.int))) (upd (upd H1 q (.tup ((placeL r c row).map V.int))) B (.lst (ss.map V.ref ++ [V.ref q]))) := tups_upd hB2 fun xs z => by cases z
      refine ⟨ss.map V.ref, hB2, k_szL (by rw [List.length_map]; omega), same_off (s1.trans (Same.upd hq)) hB, ss ++ [q], by rw [upd_same]; simp, by simp [lss], fun u hu => ?_⟩
      rcases List.mem_append.mp hu with h | h
      · obtain ⟨ys, e⟩ := hss u h
        exact ⟨ys, x2 _ _ (x1 _ _ e)⟩
      · rw [List.mem_singleton.mp h]
        exact ⟨_, x2 _ _ upd_same⟩
    obtain ⟨s1, ss, hB1, lss, hss⟩ := h
    rw [List.length_map] at lss
    have nB : ¬ Dk d e B := D.off hB
    walk_at "rd"
    let Pv : Nat → L2.St → Hp → Prop := fun i σ H' => ∃ (o4 o5 o6 o7 : Option V) (ss : List Addr), σ = [some (.ref d), some (.ref pt), some (.ref l), some (.ref B), o4, o5, o6, o7] ∧ H' B = some (.lst (ss.map V.ref)) ∧ ss.length ≤ 8 + i ∧ (∀ t ∈ ss, ∃ ys : List Int, H' t = some (.tup (ys.map V.int))) ∧ Deck d e (b + 2 * i) H' ∧ Ext (Dk d e) H H'
    refine ⟨5, rfl, by decide, by decide, for_range (lo := 0) (n := 5) Pv ⟨_, _, _, _, ss, rfl, hB1, by omega, hss, by simpa using D.same s1, Same.ext s1⟩ (fun i σ H2 hi h => ?_) (fun σ H2 h => ?_)⟩
    · obtain ⟨o4, o5, o6, o7, ss, rfl, hB2, lss2, hss2, D2, x2⟩ := h
      have hl2 := x2.2 _ _ nl hl
      have hps2 := Paired.mapP hps fun a b h => RowAt.keep h x2.1
      walk_at "rd"
      try unfold tLc
      try walk_at "rd"
      refine ⟨l, rfl, ⟨_, SqL.of hl2⟩, fun M hM => ?_⟩
      refine lc_list (xs := ts.map V.ref) (fun j H' => Same H2 H' ∧ ∃ ns : List Int, H' M = some (.lst (ns.map V.int)) ∧ ns.length ≤ j) ⟨Same.upd hM, [], upd_same, Nat.le_refl _⟩ (fun j H' _ h => SqL.of (h.1 _ _ hl2)) (fun j x H3 hx h => ?_) (fun H3 h => ?_)
      · obtain ⟨s3, ns, hM3, lns⟩ := h
        rw [List.getElem?_map] at hx
        obtain ⟨t, ht, rfl⟩ := Option.map_eq_some_iff.mp hx
        obtain ⟨row, hrow, u, h1, h2⟩ := pget hps2 ht
        have hj : j < ts.length := (List.getElem?_eq_some_iff.mp ht).1
        have h3 := s3 _ _ h1
        walk_at "rd"
        refine ⟨rfl, k_yes ?_⟩
        walk_at "rd"
        exact ⟨_, hM3, k_szL (by rw [List.length_map]; omega), same_off s3 hM, ns ++ [row.1], by rw [upd_same]; simp, by simp [lns]⟩
      · obtain ⟨s3, ns, hM3, lns⟩ := h
        rw [List.length_map] at lns
        have nM : ¬ Dk d e M := D2.off hM
        walk_at "rd"
        refine ⟨k_sz rfl, fun N hN => ?_⟩
        have s4 := s3.trans (Same.upd (o := .lst [.int 0]) hN)
        have gN : (upd H3 N (.lst [.int 0])) N = some (.lst [.int 0]) := upd_same
        have gM := Same.upd (o := .lst [.int 0]) hN _ _ hM3
        generalize upd H3 N (.lst [.int 0]) = H4 at s4 gN gM ⊢
        walk_at "rd"
        refine ⟨M, N, ns.map V.int, [.int 0], rfl, rfl, gM, gN, by rw [List.length_map, sizeLine_eq]; show ns.length + 1 ≤ _; omega, fun O hO => ?_⟩
        have s5 := s4.trans (Same.upd (o := .lst (ns.map V.int ++ [.int 0])) hO)
        have gO : (upd H4 O (.lst (ns.map V.int ++ [.int 0]))) O = some (.lst (ns.map V.int ++ [.int 0])) := upd_same
        generalize upd H4 O (.lst (ns.map V.int ++ [.int 0])) = H5 at s5 gO ⊢
        obtain ⟨n0, en⟩ : ∃ n0 : Int, atI (ns.map V.int ++ [V.int 0]) 0 = some (.int n0) := by
          cases ns with
          | nil => exact ⟨0, rfl⟩
          | cons n ns => exact ⟨n, atI_head⟩
        walk_at "rd"
        refine k_ixqL (SqL.of gO) en ?_
        walk_at "rd"
        refine ⟨d, e, _, _, rfl, D2.same s5, by omega, by decide, by decide, fun q1 H6 _ _ D6 x6 => ?_⟩
        walk_at "rd"
        refine ⟨_, rfl, ?_⟩
        generalize (if n0 + q1 - 8 < 0 then -(n0 + q1 - 8) else n0 + q1 - 8) = nb
        walk_at "rd"
        refine ⟨d, e, _, _, rfl, D6, by omega, by decide, by decide, fun q2 H7 _ _ D7 x7 => ?_⟩
        walk_at "rd"
        have y27 : Ext (Dk d e) H2 H7 := (Same.ext s5).trans (x6.trans x7)
        have yH := x2.trans y27
        have gB7 := y27.2 _ _ nB hB2
        have hp7 := yH.1 _ _ hp0
        have hss7 : ∀ t ∈ ss, ∃ ys : List Int, H7 t = some (.tup (ys.map V.int)) := fun t ht => by
          obtain ⟨ys, e⟩ := hss2 t ht
          exact ⟨ys, y27.1 _ _ e⟩
        have D7' : Deck d e (b + 2 * ((i : Nat) + 1 : Nat)) H7 := D7.mono (by omega)
        have app : ∀ (q : Addr) (zs : List Int) (s4 s5 s6 s7 : Option V), H7 q = none → Pv (i + 1) [some (.ref d), some (.ref pt), some (.ref l), some (.ref B), s4, s5, s6, s7] (upd (upd H7 q (.tup (zs.map V.int))) B (.lst (ss.map V.ref ++ [V.ref q]))) := fun q zs s4 s5 s6 s7 hq => by
          have hL5 := lk_new (o := .tup (zs.map V.int)) gB7 hq
          have u1 : Tups H7 (upd H7 q (.tup (zs.map V.int))) := tups_new hq
          have u2 : Tups (upd H7 q (.tup (zs.map V.int))) (upd (upd H7 q (.tup (zs.map V.int))) B (.lst (ss.map V.ref ++ [V.ref q]))) := tups_upd hL5 fun xs z => by cases z
          refine ⟨_, _, _, _, ss ++ [q], rfl, by rw [upd_same]; simp, by simp; omega, fun u hu => ?_, (D7'.new hq).offL (H := H) nB, ext_off (yH.trans (ext_new hq)) hB⟩
          rcases List.mem_append.mp hu with h | h
          · obtain ⟨ys, e⟩ := hss7 u h
            exact ⟨ys, u2 _ _ (u1 _ _ e)⟩
          · rw [List.mem_singleton.mp h]
            exact ⟨zs, u2 _ _ upd_same⟩
        refine ⟨k_tyL gB7, ?_⟩
        walk_at "rd"
        refine k_iteD (fun e1 => ?_) fun e1 => ?_
        · walk_at "rd"
          refine ⟨k_sz rfl, fun q hq => ?_⟩
          walk_at "rd"
          refine k_app (lk_new gB7 hq) (k_szL (by rw [List.length_map]; omega)) ?_
          exact app q [nb] _ _ _ _ hq
        · walk_at "rd"
          refine ⟨k_sz rfl, fun q hq => ?_⟩
          walk_at "rd"
          refine k_app (lk_new gB7 hq) (k_szL (by rw [List.length_map]; omega)) ?_
          exact app q [q2 - 4, nb] _ _ _ _ hq
    · obtain ⟨o4, o5, o6, o7, ss, rfl, hB2, lss2, hss2, D2, x2⟩ := h
      walk_at "rd"
      exact k B ss H2 hB2 nB (by omega) hss2 (D2.mono (by omega)) x2
end
end K22

set_option Elab.async false
set_option maxRecDepth 100000
set_option maxHeartbeats 1000000
set_option linter.unusedVariables false
namespace K22
open PySem PySem.Spec PyProof.Rows L2 Own
-- steps
local macro_rules | `(tactic| walk_at "lk") => `(tactic| first
  | assumption | exact upd_same
  | ((with_reducible refine' lk_new ?e (by assumption)); (case e => walk_at "lk"))
  | ((with_reducible refine' lk_ext (by assumption) ?e); (case e => walk_at "lk"))
  | ((with_reducible refine' lk_same (by assumption) ?e); (case e => walk_at "lk")))
local macro_rules | `(tactic| walk_at "sq") => `(tactic| first | assumption | exact SqL.of (by walk_at "lk") | exact SqT.of (by walk_at "lk"))
local macro_rules | `(tactic| walk_at "r1") => `(tactic| first
  | with_reducible refine k_seq ?_ | with_reducible refine k_asg ?_ | with_reducible refine k_ret ?_ | with_reducible refine k_drop ?_ | with_reducible refine k_next ?_ | with_reducible refine k_ifS ?_
  | ((with_reducible refine' k_var ?e ?_); (case e => exact rfl)) | with_reducible refine k_c ?_ | with_reducible refine k_op ?_ | with_reducible refine k_un ?_ | with_reducible refine k_test ?_ | with_reducible refine k_B ?_
  | with_reducible refine k_and ?_ | with_reducible refine k_or ?_ | with_reducible refine k_not ?_ | with_reducible refine k_andV ?_ | with_reducible refine k_orV ?_ | with_reducible refine k_notV ?_ | with_reducible refine k_if ?_
  | with_reducible refine k_nil ?_ | with_reducible refine k_cons ?_ | with_reducible refine k_tup ?_ | with_reducible refine k_lst ?_ | with_reducible refine k_call ?_ | with_reducible refine k_cb ?_ | with_reducible refine k_ck ?_
  | with_reducible refine k_par ?_ | with_reducible refine k_par1 ?_ | with_reducible refine k_tr ?_ | with_reducible refine k_rI0 ?_ | with_reducible refine k_rU ?_
  | with_reducible refine k_gN ?_ | with_reducible refine k_gS ?_ | with_reducible refine k_gNil ?_ | with_reducible refine k_gCons ?_ | with_reducible refine k_bm0 ?_ | with_reducible refine k_bm ?_
  | with_reducible refine k_for ?_ | with_reducible refine k_iL ?_ | with_reducible refine k_iT ?_ | with_reducible refine k_iR1 ?_ | ((with_reducible refine k_iR1i ?e ?_); (case e => first | decide | exact ⟨by omega, by omega⟩))
  | with_reducible refine k_max ?_ | with_reducible refine k_isB ?_ | with_reducible refine k_sl ?_ | with_reducible refine k_noP ?_ | with_reducible refine k_part ?_ | with_reducible refine k_partI ?_ | with_reducible refine k_revL ?_
  | ((with_reducible refine' k_ixqT ?e ?f ?_); (case e => walk_at "sq"); (case f => first | exact rfl | exact atI_head))
  | ((with_reducible refine' k_ixqL ?e ?f ?_); (case e => walk_at "sq"); (case f => first | exact rfl | exact atI_head))
  | ((with_reducible refine' k_lenL ?e ?_); (case e => walk_at "sq"))
  | ((with_reducible refine' k_lenT ?e ?_); (case e => walk_at "sq"))
  | ((with_reducible refine' k_ixL ?e ?f ?_); (case e => walk_at "sq"); (case f => first | exact rfl | exact atI_head))
  | ((with_reducible refine' k_ixT ?e ?f ?_); (case e => walk_at "sq"); (case f => first | exact rfl | exact atI_head))
  | ((with_reducible refine k_eq ?e ?_); (case e => exact rfl)) | ((with_reducible refine k_ne ?e ?_); (case e => exact rfl))
  | ((with_reducible refine k_rI ?e ?_); (case e => first | assumption | omega | decide | exact ⟨by omega, by omega⟩ | exact .inl ⟨by omega, by omega⟩ | exact .inr ⟨by omega, by omega⟩)))
local macro_rules | `(tactic| walk_at "rd") => `(tactic| repeat walk_at "r1")
-- steps end
def gPN : List Value → List Value → List Value := fun us ws => us ++ (match ws with | [a, b] => [b, a, .none, .none] | _ => [])
def gPV : List V → List V → List V := fun us ws => us ++ (match ws with | [a, b] => [b, a, .non, .non] | _ => [])
def gQN : List Value → List Value → List Value := fun us ws => us ++ (ws ++ [.none, .none, .none])
def gQV : List V → List V → List V := fun us ws => us ++ (ws ++ [.non, .non, .non])
abbrev nxPs : List Str := ["self", "path", "place", "least", "most"]
/-- next_row, as the law calls it -/
structure Nxt2 (P : Program) (w : World) (K : PySem.W.Frag) (mg : Str → Option Value) (base : Heap) (C : Addr) : Prop where
  tx : Txt K C
  nx : ∃ f fd ds2 ds3, Meth K C "next_row" f ∧ FnOk P w K mg base CX0 2 f fd ["self", "path", "place", "least", "most"] (spNext C) ∧ Vals [V.non, V.non] ds2 ∧ Binds K fd nxPs ds2 ∧ Vals [V.non, V.non, V.non] ds3 ∧ Binds K fd nxPs ds3 ∧ KBn K fd nxPs 1 ["place", "path"] gPN gPV ∧ KBn K fd nxPs 1 ["path"] gQN gQV
/-- what a look at one row tells -/
def Told (H : Hp) (v : V) (o : Option (Int × List Int)) : Prop := match o with | none => v = .non | some row => ∃ t, v = .ref t ∧ RowAt H t row
theorem Told.same {H H' : Hp} {v : V} {o : Option (Int × List Int)} (h : Told H v o) (s : Same H H') : Told H' v o := by
  cases o with
  | none => exact h
  | some row => exact let ⟨t, e, h⟩ := h; ⟨t, e, h.keep (Tups.same s)⟩
theorem Told.keep {H H' : Hp} {v : V} {o : Option (Int × List Int)} (h : Told H v o) (s : Tups H H') : Told H' v o := by
  cases o with
  | none => exact h
  | some row => exact let ⟨t, e, h⟩ := h; ⟨t, e, h.keep s⟩
theorem Told.dp {K : PySem.W.Frag} {H : Hp} {v : V} {o : Option (Int × List Int)} (h : Told H v o) : Dp K H v (toldD o) := by
  cases o with
  | none => rw [show v = .non from h]; exact .non
  | some row =>
    obtain ⟨t, rfl, h⟩ := h
    exact dp_row h
theorem told_head {H : Hp} {us : List Addr} {ls : Rows} (h : Paired (RowAt H) us ls) : ∃ v, atI (us.map V.ref ++ [V.non]) 0 = some v ∧ Told H v ls.head? := by
  cases h with
  | nil => exact ⟨.non, rfl, rfl⟩
  | cons a b =>
    exact ⟨_, atI_head, _, rfl, a⟩
theorem rr_two {K : PySem.W.Frag} {H : Hp} {Q : VK} {l : Addr} {v u : V} {o : Option (Int × List Int)} (hl : H l = some (.lst [v, u])) (h1 : Told H v o) (h2 : Told H u o) (h : ∀ r, o = some r → Num r.1 ∧ r.2.length ≤ 3 ∧ ∀ v ∈ r.2, Num v) (q : Q (.str (PyData.list [toldD o, toldD o]).shown) H) : rRepr K [.ref l] H Q := by
  obtain ⟨a, b, c⟩ := (fit_two h).repr (by decide) (by decide)
  exact ⟨_, _, rfl, .lst (SqL.of hl) (.cons h1.dp (.cons h2.dp .nil)), a, b, c, q⟩
theorem later_in {r : Str} {c : Nat} {pl : Option (List Int)} {lo hi : Option Int} {m rows : Rows} (hmem : ∀ x, x ∈ rows ↔ x ∈ m.filter (within r c lo hi)) (x : Int × List Int) : x ∈ rows.filter (fun x => beyond r pl (placeL r c x)) ↔ x ∈ asked r c pl lo hi m := by
  rw [List.mem_filter, asked_in, hmem]
theorem head_none {r : Str} {c : Nat} {pl : Option (List Int)} {lo hi : Option Int} {m rows : Rows} (hmem : ∀ x, x ∈ rows ↔ x ∈ m.filter (within r c lo hi)) (e : asked r c pl lo hi m = []) : (rows.filter (fun x => beyond r pl (placeL r c x))).head? = none := by
  rw [List.head?_eq_none_iff]
  refine List.eq_nil_iff_forall_not_mem.mpr fun x hx => ?_
  have z := (later_in hmem x).mp hx
  rw [e] at z
  cases z
theorem head_least {r : Str} {c : Nat} {pl : Option (List Int)} {lo hi : Option Int} {m rows : Rows} {row : Int × List Int} (it : InTurn r c rows) (hmem : ∀ x, x ∈ rows ↔ x ∈ m.filter (within r c lo hi)) (h : Least r c (asked r c pl lo hi m) row) :
    (rows.filter (fun x => beyond r pl (placeL r c x))).head? = some row := by
  have h1 := (later_in (pl := pl) hmem row).mpr h.1
  have h2 : InTurn r c (rows.filter (fun x => beyond r pl (placeL r c x))) := List.Pairwise.filter _ it
  have h3 := fun x hx => h.2 x ((later_in (pl := pl) hmem x).mp hx)
  generalize rows.filter (fun x => beyond r pl (placeL r c x)) = ls at h1 h2 h3
  cases ls with
  | nil => cases h1
  | cons a as =>
    rcases List.mem_cons.mp h1 with rfl | h1
    · rfl
    · have z1 := (List.pairwise_cons.mp h2).1 row h1
      have z2 := h3 a List.mem_cons_self
      rw [z1] at z2
      cases z2
theorem PlAt.same {H H' : Hp} {v : V} {pl : Option (List Int)} (h : PlAt H v pl) (s : Same H H') : PlAt H' v pl := by
  cases pl with
  | none => exact h
  | some ys => exact let ⟨a, e, h⟩ := h; ⟨a, e, s _ _ h⟩
section
variable {P : Program} {w : World} {K : PySem.W.Frag} {mg : Str → Option Value} {g0 : Heap} {C : Addr}
def spNR (C : Addr) : Sp := fun vs H Q _ => ∃ (p pt l sp dx dT : Addr) (r : Str) (c : Nat) (m : Rows) (z : Int) (ts : List Addr) (rows : Rows) (ys : List Int), vs = [.ref p, .ref pt, .ref l, .ref sp] ∧ RoadAt H pt r c ∧ TableAt C H p dx dT m z ∧ H sp = some (.tup (ys.map V.int)) ∧
  H l = some (.lst (ts.map V.ref)) ∧ Paired (RowAt H) ts rows ∧ InTurn r c rows ∧ (∀ x, x ∈ rows ↔ x ∈ m) ∧ (∀ row ∈ m, HasCol r c row) ∧ (keysR m).Nodup ∧ m.length ≤ 8 ∧ (∀ row ∈ m, Num row.1 ∧ row.2.length ≤ 3 ∧ ∀ v ∈ row.2, Num v) ∧ ∀ H', Same H H' → Q (.bl true) H'
theorem ok_nr {f : Addr} {fd : FuncData} (F : Fun K "_law_next_right" "_law_next_right" s_next_right f fd) (T : Nxt2 P w K mg g0 C) (z_repr : mg "repr" = none)
    (C_spot : Cal P w K mg g0 "_law_spot" 1 ["_law_road_here", "_law_row"] spPlace) (C_beyond : Cal P w K mg g0 "_law_beyond" 1 ["_law_road_here", "_law_last", "_law_spot_here"] spBeyond) :
    GOk P w K mg g0 CX0 3 f fd ["_law_table", "_law_road_here", "_law_due", "_law_spot_here"] (spNR C) := by
  have nd := sc_next_right.nd
  obtain ⟨fn, fdn, ds2, ds3, mN, FN, vN2, bN2, vN3, bN3, kbP, kbQ⟩ := T.nx
  refine okG F sc_next_right (fun vs H Q E h => ?_) (fun cdv A up s H vs Q E qt hr h => ?_)
  · obtain ⟨p, pt, l, sp, dx, dT, r, c, m, z, ts, rows, ys, rfl, _⟩ := h
    rfl
  · obtain ⟨p, pt, l, sp, dx, dT, r, c, m, z, ts, rows, ys, rfl, hp, T0, hsp, hl, hps, it, hm0, hcol, hnd, hlen, hnum, k⟩ := h
    refine ⟨_, (pss_cons (ps_setLc (i := 4) (own := [("_law_row", 6)]) (g := (gName 6)) (tt := (tB (tCall _ [] E0 (tCons (tVar 1) (tCons (tVar 3) (tCons (tCall _ [] E0 (tCons (tVar 1) (tCons (tVar 6) tNil))) tNil)))))) (te := (tVar 6)) (by rfl) nd rfl rfl (sw_true rfl rfl rfl (by decide +kernel)) (pi_list (pv 2)) (blkOk_by (own := [("_law_row", 6)]) (N := ["_law_table", "_law_road_here", "_law_due", "_law_spot_here", "_law_later", "_law_told", "_law_row"]) (sc := defScope s_next_right) (by decide +kernel)) (fun _ _ _ _ _ => by exact (pg_name (i := 6) nd rfl (Or.inl rfl))) (fun _ _ _ _ _ => by exact (pts_one (pt_val (pe_c C_beyond qt (hr.mono (by decide)) (pa_cons (pv 1) (pa_cons (pv 3) (pa_cons (pe_c C_spot qt (hr.mono (by decide)) (pa_cons (pv 1) (pa_cons (pv 6) pa_nil))) pa_nil))))))) (fun _ _ _ _ _ => by exact (pv 6)))
        (pss_cons (ps_set (i := 5) nd rfl (Or.inl rfl) (pe_lst (pa_cons (pe_meth (pv 0) T.tx.cl mN FN (hr.mono (by decide)) bN2 vN2 pass0 (pa_cons (pv 1) (pa_cons (pv 3) pa_nil))) (pa_cons (pe_mk0 (E := fun _ => E0) (pv 0) T.tx.cl mN FN (hr.mono (by decide)) kbP (fun σ => passA) (pk_cons (pv 3) (pk_cons (pv 1) pk_nil))) pa_nil))))
        (pss_one (ps_ret (pe_cmpR op_eq (pe_callB (call_repr qt hr.units) (by rfl) z_repr (by decide +kernel) (pa_cons (pv 5) pa_nil)) (pe_callB (call_repr qt hr.units) (by rfl) z_repr (by decide +kernel) (pa_cons (pe_op op_rep (pe_lst (pa_cons (pe_ix ix_seq (pe_op op_cat (pv 4) (pe_lst (pa_cons pe_non pa_nil))) pe_int (fun _ _ => rfl)) pa_nil)) pe_int) pa_nil)) (nomark _)))))), ?_⟩
    have hmem : ∀ x, x ∈ rows ↔ x ∈ m.filter (within r c none none) := fun x => by
      rw [hm0, List.mem_filter]
      exact ⟨fun h => ⟨h, within_none r c x⟩, fun h => h.1⟩
    have lr : rows.length ≤ 8 := by
      have nd2 : rows.Nodup := it.imp fun {a b} h e => by
        rw [e, first_irr] at h
        cases h
      have := sub_len nd2 fun x hx => (hm0 x).mp hx
      omega
    have lts := Paired.length hps
    have hpl : PlAt H (.ref sp) (some ys) := ⟨sp, rfl, hsp⟩
    walk_at "rd"
    try unfold tLc
    try walk_at "rd"
    refine ⟨l, rfl, ⟨_, SqL.of hl⟩, fun B hB => ?_⟩
    refine lc_list (xs := ts.map V.ref) (fun j H' => Same H H' ∧ ∃ us : List Addr, H' B = some (.lst (us.map V.ref)) ∧ us.length ≤ j ∧ Paired (RowAt H) us ((rows.take j).filter (fun x => beyond r (some ys) (placeL r c x)))) ⟨Same.upd hB, [], upd_same, Nat.le_refl _, .nil⟩ (fun j H' _ h => SqL.of (h.1 _ _ hl)) (fun j x1 H9 hx1 h => ?_) (fun H9 h => ?_)
    · obtain ⟨s9, us, hB9, lus, hpu⟩ := h
      rw [List.getElem?_map] at hx1
      obtain ⟨t, ht, rfl⟩ := Option.map_eq_some_iff.mp hx1
      obtain ⟨row, hrow, hr0⟩ := pget hps ht
      have hj : j < ts.length := (List.getElem?_eq_some_iff.mp ht).1
      have hrm := (hm0 row).mp (List.mem_of_getElem? hrow)
      have tk' : List.filter (fun x => beyond r (some ys) (placeL r c x)) (rows.take (j + 1)) = List.filter (fun x => beyond r (some ys) (placeL r c x)) (rows.take j) ++ (if beyond r (some ys) (placeL r c row) = true then [row] else []) := by
        rw [List.take_add_one, hrow, List.filter_append]
        congr 1
        show List.filter (fun x => beyond r (some ys) (placeL r c x)) [row] = _
        rw [List.filter_cons]
        rfl
      walk_at "rd"
      refine ⟨rfl, ?_⟩
      walk_at "rd"
      refine ⟨pt, t, r, c, row, rfl, hp.keep (Tups.same s9), hr0.keep (Tups.same s9), hcol row hrm, fun q hq => ?_⟩
      walk_at "rd"
      have sA : Same H (upd H9 q (.tup ((placeL r c row).map V.int))) := s9.trans (Same.upd hq)
      have hBA := lk_new (o := .tup ((placeL r c row).map V.int)) hB9 hq
      refine ⟨pt, q, r, c, .ref sp, some ys, _, rfl, hp.keep (Tups.same sA), hpl.same sA, upd_same, ?_⟩
      walk_at "rd"
      cases hw : beyond r (some ys) (placeL r c row) with
      | false =>
        refine iteF ?_
        rw [hw, if_neg Bool.false_ne_true, List.append_nil] at tk'
        refine ⟨sA, us, hBA, Nat.le_succ_of_le lus, ?_⟩
        rw [tk']
        exact hpu
      | true =>
        refine iteT ?_
        rw [hw, if_pos rfl] at tk'
        walk_at "rd"
        refine ⟨us.map V.ref, hBA, k_szL (by rw [List.length_map]; omega), same_off sA hB, us ++ [t], by rw [upd_same]; simp, by simp [lus], ?_⟩
        rw [tk']
        exact Paired.snoc hpu hr0
    obtain ⟨s9, us, hB9, lus, hpu⟩ := h
    rw [List.length_map, lts, List.take_length] at hpu
    rw [List.length_map] at lus
    walk_at "rd"
    have call : ∀ (H' : Hp) (Q' : VK), Same H H' → (∀ (rv : V) (H2 : Hp), Same H H2 → Same H' H2 → Told H2 rv ((rows.filter (fun x => beyond r (some ys) (placeL r c x))).head?) → Q' rv H2) → spNext C [.ref p, .ref pt, .ref sp, .non, .non] H' Q' E0 := by
      intro H' Q' s1 q
      refine ⟨p, pt, dx, dT, m, z, r, c, .ref sp, some ys, none, none, rfl, T0.keep (Tups.same s1) (fun o e => s1 _ _ e) (fun o e => s1 _ _ e), hp.keep (Tups.same s1), hpl.same s1, hcol, hnd, by omega, fun e H2 s2 => q _ _ (s1.trans s2) s2 ?_, fun row t H2 hle s2 hrt => q _ _ (s1.trans s2) s2 ?_⟩
      · rw [head_none hmem e]
        rfl
      · rw [head_least it hmem hle]
        exact ⟨t, rfl, hrt⟩
    have hnl : ∀ row, (rows.filter (fun x => beyond r (some ys) (placeL r c x))).head? = some row → Num row.1 ∧ row.2.length ≤ 3 ∧ ∀ v ∈ row.2, Num v := fun row e => by
      have z1 := List.mem_of_mem_head? e
      exact hnum row ((hm0 row).mp (List.mem_filter.mp z1).1)
    unfold tMeth
    walk_at "rd"
    refine ⟨p, dx, _, rfl, s9 _ _ T0.1, flds_no _ _ (by decide +kernel) (by decide +kernel), ?_⟩
    walk_at "rd"
    refine call H9 _ s9 fun rv HA sA sA' tA => ?_
    walk_at "rd"
    refine ⟨_, rfl, p, dx, _, rfl, sA _ _ T0.1, flds_no _ _ (by decide +kernel) (by decide +kernel), ?_⟩
    walk_at "rd"
    refine ⟨rfl, rfl, call HA _ sA fun rv2 HB sB sB' tB => ?_⟩
    walk_at "rd"
    refine ⟨k_sz rfl, fun N hN => ?_⟩
    have hBB : HB B = some (.lst (us.map V.ref)) := sB' _ _ (sA' _ _ hB9)
    have sC : Same H (upd HB N (.lst [rv, rv2])) := sB.trans (Same.upd hN)
    have gN : (upd HB N (.lst [rv, rv2])) N = some (.lst [rv, rv2]) := upd_same
    have tC1 := (tA.same sB').same (Same.upd (o := .lst [rv, rv2]) hN)
    have tC2 := tB.same (Same.upd (o := .lst [rv, rv2]) hN)
    have hBC := Same.upd (o := .lst [rv, rv2]) hN _ _ hBB
    generalize upd HB N (.lst [rv, rv2]) = HD at sC gN tC1 tC2 hBC ⊢
    walk_at "rd"
    refine rr_two gN tC1 tC2 hnl ?_
    walk_at "rd"
    refine ⟨k_sz rfl, fun p1 h1 => ?_⟩
    have sE : Same HD (upd HD p1 (.lst [.non])) := Same.upd h1
    have hE1 : upd HD p1 (.lst [.non]) p1 = some (.lst [.non]) := upd_same
    generalize upd HD p1 (.lst [.non]) = HE at sE hE1 ⊢
    walk_at "rd"
    refine ⟨B, p1, us.map V.ref, [.non], rfl, rfl, sE _ _ hBC, hE1, by rw [List.length_map, sizeLine_eq]; show us.length + 1 ≤ _; omega, fun p2 h2 => ?_⟩
    have sF : Same HD (upd HE p2 (.lst (us.map V.ref ++ [.non]))) := sE.trans (Same.upd h2)
    have hF2 : upd HE p2 (.lst (us.map V.ref ++ [.non])) p2 = some (.lst (us.map V.ref ++ [.non])) := upd_same
    generalize upd HE p2 (.lst (us.map V.ref ++ [.non])) = HF at sF hF2 ⊢
    obtain ⟨v, av, tv⟩ := told_head hpu
    walk_at "rd"
    refine k_ixqL (SqL.of hF2) av ?_
    walk_at "rd"
    refine ⟨k_sz rfl, fun p3 h3 => ?_⟩
    have sG : Same HD (upd HF p3 (.lst [v])) := sF.trans (Same.upd h3)
    have hG3 : upd HF p3 (.lst [v]) p3 = some (.lst [v]) := upd_same
    generalize upd HF p3 (.lst [v]) = HG at sG hG3 ⊢
    walk_at "rd"
    refine ⟨p3, 2, [v], rfl, rfl, hG3, by decide, by decide, by rw [sizeLine_eq]; show 1 * 2 ≤ _; omega, fun p4 h4 => ?_⟩
    have sH : Same H (upd HG p4 (.lst (List.replicate (2 : Int).toNat [v]).flatten)) := sC.trans (sG.trans (Same.upd h4))
    have hH4 : upd HG p4 (.lst (List.replicate (2 : Int).toNat [v]).flatten) p4 = some (.lst [v, v]) := upd_same
    generalize upd HG p4 (.lst (List.replicate (2 : Int).toNat [v]).flatten) = HH at sH hH4 ⊢
    walk_at "rd"
    refine rr_two hH4 (tv.same sH) (tv.same sH) hnl ?_
    walk_at "rd"
    rw [decide_eq_true rfl]
    exact k _ sH
end
end K22

set_option Elab.async false
set_option maxRecDepth 100000
set_option maxHeartbeats 4000000
namespace K22
open PySem PySem.Spec PyProof.Rows L2 Own
-- steps
local macro_rules | `(tactic| walk_at "lk") => `(tactic| first
  | assumption | exact upd_same
  | ((with_reducible refine' lk_new ?e (by assumption)); (case e => walk_at "lk"))
  | ((with_reducible refine' lk_ext (by assumption) ?e); (case e => walk_at "lk"))
  | ((with_reducible refine' lk_same (by assumption) ?e); (case e => walk_at "lk")))
local macro_rules | `(tactic| walk_at "sq") => `(tactic| first | assumption | exact SqL.of (by walk_at "lk") | exact SqT.of (by walk_at "lk"))
local macro_rules | `(tactic| walk_at "r1") => `(tactic| first
  | with_reducible refine k_seq ?_ | with_reducible refine k_asg ?_ | with_reducible refine k_ret ?_ | with_reducible refine k_drop ?_ | with_reducible refine k_next ?_ | with_reducible refine k_ifS ?_
  | ((with_reducible refine' k_var ?e ?_); (case e => exact rfl)) | with_reducible refine k_c ?_ | with_reducible refine k_op ?_ | with_reducible refine k_un ?_ | with_reducible refine k_test ?_ | with_reducible refine k_B ?_
  | with_reducible refine k_and ?_ | with_reducible refine k_or ?_ | with_reducible refine k_not ?_ | with_reducible refine k_andV ?_ | with_reducible refine k_orV ?_ | with_reducible refine k_notV ?_ | with_reducible refine k_if ?_
  | with_reducible refine k_nil ?_ | with_reducible refine k_cons ?_ | with_reducible refine k_tup ?_ | with_reducible refine k_lst ?_ | with_reducible refine k_call ?_ | with_reducible refine k_cb ?_ | with_reducible refine k_ck ?_
  | with_reducible refine k_par ?_ | with_reducible refine k_par1 ?_ | with_reducible refine k_tr ?_ | with_reducible refine k_rI0 ?_ | with_reducible refine k_rU ?_
  | with_reducible refine k_gN ?_ | with_reducible refine k_gS ?_ | with_reducible refine k_gNil ?_ | with_reducible refine k_gCons ?_ | with_reducible refine k_bm0 ?_ | with_reducible refine k_bm ?_
  | with_reducible refine k_for ?_ | with_reducible refine k_iL ?_ | with_reducible refine k_iT ?_ | with_reducible refine k_iR1 ?_ | ((with_reducible refine k_iR1i ?e ?_); (case e => first | decide | exact ⟨by omega, by omega⟩))
  | with_reducible refine k_max ?_ | with_reducible refine k_isB ?_ | with_reducible refine k_sl ?_ | with_reducible refine k_noP ?_ | with_reducible refine k_part ?_ | with_reducible refine k_partI ?_ | with_reducible refine k_revL ?_
  | ((with_reducible refine' k_ixqT ?e ?f ?_); (case e => walk_at "sq"); (case f => first | exact rfl | exact atI_head))
  | ((with_reducible refine' k_ixqL ?e ?f ?_); (case e => walk_at "sq"); (case f => first | exact rfl | exact atI_head))
  | ((with_reducible refine' k_lenL ?e ?_); (case e => walk_at "sq"))
  | ((with_reducible refine' k_lenT ?e ?_); (case e => walk_at "sq"))
  | ((with_reducible refine' k_ixL ?e ?f ?_); (case e => walk_at "sq"); (case f => first | exact rfl | exact atI_head))
  | ((with_reducible refine' k_ixT ?e ?f ?_); (case e => walk_at "sq"); (case f => first | exact rfl | exact atI_head))
  | ((with_reducible refine k_eq ?e ?_); (case e => exact rfl)) | ((with_reducible refine k_ne ?e ?_); (case e => exact rfl))
  | ((with_reducible refine k_rI ?e ?_); (case e => first | assumption | omega | decide | exact ⟨by omega, by omega⟩ | exact .inl ⟨by omega, by omega⟩ | exact .inr ⟨by omega, by omega⟩)))
local macro_rules | `(tactic| walk_at "rd") => `(tactic| repeat walk_at "r1")
-- steps end
/-- the rows that are told: those of these numbers -/
def OutAt (H : Hp) (q : Addr) (m : Rows) (ns : List Int) : Prop := ∃ ts : List Addr, H q = some (.tup (ts.map V.ref)) ∧ Paired (RowAt H) ts (ns.map fun n => (n, getR m n))
def Asc (ns : List Int) (m : Rows) : Prop := ns.Pairwise (· < ·) ∧ ∀ k, k ∈ ns ↔ k ∈ keysR m
section
variable {P : Program} {w : World} {K : PySem.W.Frag} {mg : Str → Option Value} {base : Heap} {C : Addr}
def spLen (C : Addr) : Sp := fun vs H Q _ => ∃ (p dx d : Addr) (m : Rows) (z : Int), vs = [.ref p] ∧ TableAt C H p dx d m z ∧ Q (.int m.length) H
theorem ok_len {f : Addr} {fd : FuncData} (F : Fun K "__len__" "LiveTable.__len__" s_LiveTable___len__ f fd) (T : Txt K C) (z_len : mg "len" = none) :
    FnOk P w K mg base CX0 1 f fd ["self"] (spLen C) := by
  refine F.ok sc_LiveTable___len__ (fun vs H Q E h => ?_) (fun cdv A up s H vs Q E hr h => ?_)
  · obtain ⟨p, dx, d, m, z, rfl, _⟩ := h
    rfl
  · obtain ⟨p, dx, d, m, z, rfl, ⟨hp, kvs, hd, he⟩, k⟩ := h
    refine ⟨_, pss_one (ps_ret (pe_callB call_lenD (by rfl) z_len (by decide +kernel) (pa_cons (pe_fld (pv 0) rfl) pa_nil))), ?_⟩
    refine ⟨_, rfl, p, C, dx, _, _, rfl, hp, T.cl, T.nR, flds_rows _ _, d, kvs, rfl, hd, ?_⟩
    rw [he.length]
    exact k
/-! ### rows -/
def spRows (C : Addr) : Sp := fun vs H Q _ => ∃ (p dx d : Addr) (m : Rows) (z : Int), vs = [.ref p] ∧ TableAt C H p dx d m z ∧ (keysR m).Nodup ∧ m.length < 64 ∧
  ∀ (ns : List Int) (q : Addr) (H' : Hp), Asc ns m → Same H H' → OutAt H' q m ns → Q (.ref q) H'
theorem ok_rows {f : Addr} {fd : FuncData} (F : Fun K "rows" "LiveTable.rows" s_LiveTable_rows f fd) (T : Txt K C) (z_tuple : mg "tuple" = none) (z_sorted : mg "sorted" = none) :
    FnOk P w K mg base CX0 1 f fd ["self"] (spRows C) := by
  have nd := sc_LiveTable_rows.nd
  refine F.ok sc_LiveTable_rows (fun vs H Q E h => ?_) (fun cdv A up s H vs Q E hr h => ?_)
  · obtain ⟨p, dx, d, m, z, rfl, _⟩ := h
    rfl
  · obtain ⟨p, dx, d, m, z, rfl, T0, hnd, hl, k⟩ := h
    obtain ⟨hp, kvs, hd, he⟩ := id T0
    have hu := hu_of hr
    refine ⟨_, pss_one (ps_ret (pe_callTy call_tuple_of (by rfl) z_tuple (by decide +kernel) (pa_cons (pe_lc (own := [("number", 1)]) (te := tTup (tCons (tVar 1) (tCons (tDGet (tFld K (tVar 0) "_rows") (tVar 1)) tNil))) (by rfl) nd
      (pi_list (pe_callB (call_sortedDI rfl) (by rfl) z_sorted (by decide +kernel) (pa_cons (pe_fld (pv 0) rfl) pa_nil)))
      (blkOk_by (own := [("number", 1)]) (N := ["self", "number"]) (sc := defScope s_LiveTable_rows) (by decide +kernel))
      (fun _ _ _ _ _ => pg_name (i := 1) nd rfl (.inl rfl)) (fun _ _ _ _ _ => pts_nil)
      (fun _ _ _ _ _ => by exact (pe_tup (pa_cons (pv 1) (pa_cons (pe_dget hu (pe_fld (pv 0) rfl) (pv 1) (fun _ _ => rfl)) pa_nil))))) pa_nil))), ?_⟩
    refine ⟨_, rfl, p, C, dx, _, _, rfl, hp, T.cl, T.nR, flds_rows _ _, d, kvs, keysR m, rfl, .inl hd, he.keys, by unfold keysR; rw [List.length_map]; exact hl, fun ns l pm srt hlf => ?_⟩
    have asc : Asc ns m := ⟨asc_of pm srt hnd, fun k => pm.mem_iff⟩
    have lns : ns.length = m.length := by
      have := pm.length_eq
      unfold keysR at this
      rw [List.length_map] at this
      exact this
    have s1 : Same H (upd H l (.lst (ns.map V.int))) := Same.upd hlf
    have hl1 : upd H l (.lst (ns.map V.int)) l = some (.lst (ns.map V.int)) := upd_same
    generalize upd H l (.lst (ns.map V.int)) = H1 at s1 hl1 ⊢
    refine ⟨l, rfl, ⟨_, SqL.of hl1⟩, fun D hD => ?_⟩
    have hD0 : H D = none := same_free s1 hD
    refine lc_list (xs := ns.map V.int) (fun i H' => Same H1 H' ∧ ∃ ts : List Addr, ts.length = i ∧ H' D = some (.lst (ts.map V.ref)) ∧ Paired (RowAt H') ts ((ns.take i).map fun n => (n, getR m n)))
      ⟨Same.upd hD, [], rfl, upd_same, .nil⟩ (fun i H' _ h => SqL.of (h.1 _ _ hl1)) (fun i x H' hx h => ?_) (fun H' h => ?_)
    · obtain ⟨s2, ts, hts, hDl, hpr⟩ := h
      rw [List.getElem?_map] at hx
      obtain ⟨n, hn, rfl⟩ := Option.map_eq_some_iff.mp hx
      have s3 := s1.trans s2
      have hh : hasR m n = true := hasR_iff.mpr ((asc.2 n).mp (List.mem_of_getElem? hn))
      obtain ⟨t, hv, ht⟩ := he.get hh
      refine ⟨rfl, k_yes ?_⟩
      have hg : DGet H' d (V.int n) (some (V.ref t)) := by
        have z := DGet.k (k := Sum.inl n) (s3 _ _ hd)
        rw [hv] at z
        exact z
      refine ⟨_, rfl, _, rfl, p, C, dx, _, _, rfl, s3 _ _ hp, T.cl, T.nR, flds_rows _ _, _, rfl, d, V.ref t, rfl, hg, ?_⟩
      refine ⟨k_sz rfl, fun q hq => ?_⟩
      have x4 : Tups H' (upd H' q (.tup [V.int n, V.ref t])) := tups_new hq
      have lD : (upd H' q (.tup [V.int n, V.ref t])) D = some (.lst (ts.map V.ref)) := lk_new hDl hq
      have hi : i < ns.length := (List.getElem?_eq_some_iff.mp hn).1
      have x5 : Tups (upd H' q (.tup [V.int n, V.ref t])) (upd (upd H' q (.tup [V.int n, V.ref t])) D (.lst ((ts ++ [q]).map V.ref))) := tups_upd lD fun xs z => by cases z
      refine ⟨ts.map V.ref, lD, k_szL (by rw [List.length_map, hts]; omega), ?_⟩
      have e1 : ts.map V.ref ++ [V.ref q] = (ts ++ [q]).map V.ref := by simp
      rw [e1]
      refine ⟨same_off (s2.trans (Same.upd hq)) hD, ts ++ [q], by simp [hts], upd_same, ?_⟩
      rw [List.take_add_one, hn]
      rw [show some n = ([n] : List Int)[0]? from rfl, show (([n] : List Int)[0]?).toList = [n] from rfl, show (List.take i ns ++ [n]).map (fun n => (n, getR m n)) = (List.take i ns).map (fun n => (n, getR m n)) ++ [(n, getR m n)] from by simp]
      refine Paired.snoc (Paired.mapP hpr fun a b h => h.keep (x4.trans x5)) ⟨t, ?_, ?_⟩
      · exact x5 _ _ upd_same
      · exact x5 _ _ (x4 _ _ ((s3 _ _ ht)))
    · obtain ⟨s2, ts, hts, hDl, hpr⟩ := h
      rw [List.length_map, List.take_length] at hpr
      refine ⟨D, _, rfl, .inl ⟨SqL.of hDl, fun q hq => ?_⟩⟩
      have x6 : Tups H' (upd H' q (.tup (ts.map V.ref))) := tups_new hq
      exact k ns q _ asc ((s1.trans s2).trans (Same.upd hq)) ⟨ts, upd_same, Paired.mapP hpr fun a b h => h.keep x6⟩
end
end K22

set_option Elab.async false
set_option maxRecDepth 100000
set_option maxHeartbeats 1000000
namespace K22
open PySem PySem.Spec PyProof.Rows L2 Own
-- steps
local macro_rules | `(tactic| walk_at "lk") => `(tactic| first
  | assumption | exact upd_same
  | ((with_reducible refine' lk_new ?e (by assumption)); (case e => walk_at "lk"))
  | ((with_reducible refine' lk_ext (by assumption) ?e); (case e => walk_at "lk"))
  | ((with_reducible refine' lk_same (by assumption) ?e); (case e => walk_at "lk")))
local macro_rules | `(tactic| walk_at "sq") => `(tactic| first | assumption | exact SqL.of (by walk_at "lk") | exact SqT.of (by walk_at "lk"))
local macro_rules | `(tactic| walk_at "r1") => `(tactic| first
  | with_reducible refine k_seq ?_ | with_reducible refine k_asg ?_ | with_reducible refine k_ret ?_ | with_reducible refine k_drop ?_ | with_reducible refine k_next ?_ | with_reducible refine k_ifS ?_
  | ((with_reducible refine' k_var ?e ?_); (case e => exact rfl)) | with_reducible refine k_c ?_ | with_reducible refine k_op ?_ | with_reducible refine k_un ?_ | with_reducible refine k_test ?_ | with_reducible refine k_B ?_
  | with_reducible refine k_and ?_ | with_reducible refine k_or ?_ | with_reducible refine k_not ?_ | with_reducible refine k_andV ?_ | with_reducible refine k_orV ?_ | with_reducible refine k_notV ?_ | with_reducible refine k_if ?_
  | with_reducible refine k_nil ?_ | with_reducible refine k_cons ?_ | with_reducible refine k_tup ?_ | with_reducible refine k_lst ?_ | with_reducible refine k_call ?_ | with_reducible refine k_cb ?_ | with_reducible refine k_ck ?_
  | with_reducible refine k_par ?_ | with_reducible refine k_par1 ?_ | with_reducible refine k_tr ?_ | with_reducible refine k_rI0 ?_ | with_reducible refine k_rU ?_
  | with_reducible refine k_gN ?_ | with_reducible refine k_gS ?_ | with_reducible refine k_gNil ?_ | with_reducible refine k_gCons ?_ | with_reducible refine k_bm0 ?_ | with_reducible refine k_bm ?_
  | with_reducible refine k_for ?_ | with_reducible refine k_iL ?_ | with_reducible refine k_iT ?_ | with_reducible refine k_iR1 ?_ | ((with_reducible refine k_iR1i ?e ?_); (case e => first | decide | exact ⟨by omega, by omega⟩))
  | with_reducible refine k_max ?_ | with_reducible refine k_isB ?_ | with_reducible refine k_sl ?_ | with_reducible refine k_noP ?_ | with_reducible refine k_part ?_ | with_reducible refine k_partI ?_ | with_reducible refine k_revL ?_
  | ((with_reducible refine' k_ixqT ?e ?f ?_); (case e => walk_at "sq"); (case f => first | exact rfl | exact atI_head))
  | ((with_reducible refine' k_ixqL ?e ?f ?_); (case e => walk_at "sq"); (case f => first | exact rfl | exact atI_head))
  | ((with_reducible refine' k_lenL ?e ?_); (case e => walk_at "sq"))
  | ((with_reducible refine' k_lenT ?e ?_); (case e => walk_at "sq"))
  | ((with_reducible refine' k_ixL ?e ?f ?_); (case e => walk_at "sq"); (case f => first | exact rfl | exact atI_head))
  | ((with_reducible refine' k_ixT ?e ?f ?_); (case e => walk_at "sq"); (case f => first | exact rfl | exact atI_head))
  | ((with_reducible refine k_eq ?e ?_); (case e => exact rfl)) | ((with_reducible refine k_ne ?e ?_); (case e => exact rfl))
  | ((with_reducible refine k_rI ?e ?_); (case e => first | assumption | omega | decide | exact ⟨by omega, by omega⟩ | exact .inl ⟨by omega, by omega⟩ | exact .inr ⟨by omega, by omega⟩)))
local macro_rules | `(tactic| walk_at "rd") => `(tactic| repeat walk_at "r1")
-- steps end
/-! ### what the table tells of its rows is what it was made of -/
def pairsD (ps : List (Int × List Int)) : List PyData := ps.map fun r => rowD r.1 r.2
theorem out_same {m : Rows} {ns : List Int} (a : Asc ns m) (g : (keysR m).Pairwise (· < ·)) : ns.map (fun n => (n, getR m n)) = m := by
  have e : ns = keysR m := asc_same a.1 g a.2
  have nd : (keysR m).Nodup := g.imp fun h => Int.ne_of_lt h
  rw [e]
  unfold keysR
  rw [List.map_map]
  refine Eq.trans (List.map_congr_left (g := id) fun row hr => ?_) (List.map_id m)
  show (row.1, getR m row.1) = row
  rw [get_of nd hr]
theorem good_num {m : Rows} {next many : Int} (g : Good m next many) (hn : next ≤ 1000000) (hm : many ≤ 3) : ∀ r ∈ m, Num r.1 ∧ r.2.length ≤ 3 ∧ ∀ v ∈ r.2, Num v := by
  intro r hr
  have h1 := g.lt r.1 (List.mem_map.mpr ⟨r, hr, rfl⟩)
  obtain ⟨h2, h3⟩ := g.ok r hr
  refine ⟨⟨by omega, by omega⟩, by omega, fun v hv => ?_⟩
  have := h3 v hv
  exact ⟨by omega, by omega⟩
theorem fit_pairs : ∀ {ps : List (Int × List Int)}, (∀ r ∈ ps, Num r.1 ∧ r.2.length ≤ 3 ∧ ∀ v ∈ r.2, Num v) → FitA (181 * ps.length) 2 (pairsD ps)
  | [], _ => fit_nil
  | r :: ps, h => by
    obtain ⟨a, b, c⟩ := h r List.mem_cons_self
    exact (fit_cons (fit_row a b c) (fit_pairs fun w k => h w (List.mem_cons_of_mem _ k))).mono (by simp only [List.length_cons]; omega) (Nat.le_refl _)
theorem dp_rows {K : PySem.W.Frag} {H : Hp} : ∀ {ts : List Addr} {ps : List (Int × List Int)}, Paired (RowAt H) ts ps → DpAll K H (ts.map V.ref) (pairsD ps)
  | _, _, .nil => .nil
  | _, _, .cons a b => .cons (dp_row a) (dp_rows b)
theorem rr_rows {K : PySem.W.Frag} {H : Hp} {Q : VK} {b : Addr} {m : Rows} (h : RowsT H b m) (l : m.length ≤ 1000) (f : ∀ r ∈ m, Num r.1 ∧ r.2.length ≤ 3 ∧ ∀ v ∈ r.2, Num v) (q : Q (.str (PyData.tuple (pairsD m)).shown) H) : rRepr K [.ref b] H Q := by
  obtain ⟨a, b, c⟩ := (fit_tup (fit_pairs f)).repr (by omega) (by decide)
  obtain ⟨ts, h1, h2⟩ := h
  exact ⟨_, _, rfl, .tup (SqT.of h1) (dp_rows h2), a, b, c, q⟩
/-- a list of rows -/
theorem rr_found {K : PySem.W.Frag} {H : Hp} {Q : VK} {l : Addr} {ts : List Addr} {m : Rows} (hl : H l = some (.lst (ts.map V.ref))) (h : Paired (RowAt H) ts m) (lm : m.length ≤ 1000) (f : ∀ r ∈ m, Num r.1 ∧ r.2.length ≤ 3 ∧ ∀ v ∈ r.2, Num v) (q : Q (.str (PyData.list (pairsD m)).shown) H) : rRepr K [.ref l] H Q := by
  have g := fit_pairs f
  have g' : Fit (181 * m.length) 3 (.list (pairsD m)) := ⟨g.sh, g.la, g.is, Nat.succ_le_succ g.de, g.we⟩
  obtain ⟨a, b, c⟩ := g'.repr (by omega) (by decide)
  exact ⟨_, _, rfl, .lst (SqL.of hl) (dp_rows h), a, b, c, q⟩
end K22

set_option Elab.async false
set_option maxRecDepth 100000
set_option maxHeartbeats 1000000
set_option linter.unusedVariables false
namespace K22
open PySem PySem.Spec PyProof.Rows L2 Own
-- steps
local macro_rules | `(tactic| walk_at "lk") => `(tactic| first
  | assumption | exact upd_same
  | ((with_reducible refine' lk_new ?e (by assumption)); (case e => walk_at "lk"))
  | ((with_reducible refine' lk_ext (by assumption) ?e); (case e => walk_at "lk"))
  | ((with_reducible refine' lk_same (by assumption) ?e); (case e => walk_at "lk")))
local macro_rules | `(tactic| walk_at "sq") => `(tactic| first | assumption | exact SqL.of (by walk_at "lk") | exact SqT.of (by walk_at "lk"))
local macro_rules | `(tactic| walk_at "r1") => `(tactic| first
  | with_reducible refine k_seq ?_ | with_reducible refine k_asg ?_ | with_reducible refine k_ret ?_ | with_reducible refine k_drop ?_ | with_reducible refine k_next ?_ | with_reducible refine k_ifS ?_
  | ((with_reducible refine' k_var ?e ?_); (case e => exact rfl)) | with_reducible refine k_c ?_ | with_reducible refine k_op ?_ | with_reducible refine k_un ?_ | with_reducible refine k_test ?_ | with_reducible refine k_B ?_
  | with_reducible refine k_and ?_ | with_reducible refine k_or ?_ | with_reducible refine k_not ?_ | with_reducible refine k_andV ?_ | with_reducible refine k_orV ?_ | with_reducible refine k_notV ?_ | with_reducible refine k_if ?_
  | with_reducible refine k_nil ?_ | with_reducible refine k_cons ?_ | with_reducible refine k_tup ?_ | with_reducible refine k_lst ?_ | with_reducible refine k_call ?_ | with_reducible refine k_cb ?_ | with_reducible refine k_ck ?_
  | with_reducible refine k_par ?_ | with_reducible refine k_par1 ?_ | with_reducible refine k_tr ?_ | with_reducible refine k_rI0 ?_ | with_reducible refine k_rU ?_
  | with_reducible refine k_gN ?_ | with_reducible refine k_gS ?_ | with_reducible refine k_gNil ?_ | with_reducible refine k_gCons ?_ | with_reducible refine k_bm0 ?_ | with_reducible refine k_bm ?_
  | with_reducible refine k_for ?_ | with_reducible refine k_iL ?_ | with_reducible refine k_iT ?_ | with_reducible refine k_iR1 ?_ | ((with_reducible refine k_iR1i ?e ?_); (case e => first | decide | exact ⟨by omega, by omega⟩))
  | with_reducible refine k_max ?_ | with_reducible refine k_isB ?_ | with_reducible refine k_sl ?_ | with_reducible refine k_noP ?_ | with_reducible refine k_part ?_ | with_reducible refine k_partI ?_ | with_reducible refine k_revL ?_
  | ((with_reducible refine' k_ixqT ?e ?f ?_); (case e => walk_at "sq"); (case f => first | exact rfl | exact atI_head))
  | ((with_reducible refine' k_ixqL ?e ?f ?_); (case e => walk_at "sq"); (case f => first | exact rfl | exact atI_head))
  | ((with_reducible refine' k_lenL ?e ?_); (case e => walk_at "sq"))
  | ((with_reducible refine' k_lenT ?e ?_); (case e => walk_at "sq"))
  | ((with_reducible refine' k_ixL ?e ?f ?_); (case e => walk_at "sq"); (case f => first | exact rfl | exact atI_head))
  | ((with_reducible refine' k_ixT ?e ?f ?_); (case e => walk_at "sq"); (case f => first | exact rfl | exact atI_head))
  | ((with_reducible refine k_eq ?e ?_); (case e => exact rfl)) | ((with_reducible refine k_ne ?e ?_); (case e => exact rfl))
  | ((with_reducible refine k_rI ?e ?_); (case e => first | assumption | omega | decide | exact ⟨by omega, by omega⟩ | exact .inl ⟨by omega, by omega⟩ | exact .inr ⟨by omega, by omega⟩)))
local macro_rules | `(tactic| walk_at "rd") => `(tactic| repeat walk_at "r1")
-- steps end
theorem scan_of {C : Addr} {H : Hp} {p pt dx dT : Addr} {m rows : Rows} {z : Int} {r : Str} {c : Nat} {lo hi : Option Int} {cont : List V → Hp → Prop} {E : XK} {vs : List V} (hv : vs = [.ref p, .ref pt, EndV lo, EndV hi]) (T : TableAt C H p dx dT m z) (hpt : RoadAt H pt r c) (hcol : ∀ row ∈ m, HasCol r c row) (nd : (keysR m).Nodup) (l : m.length ≤ 1000)
    (it : InTurn r c rows) (mem : ∀ x, x ∈ rows ↔ x ∈ m.filter (within r c lo hi)) (k : ∀ ts H', Same H H' → Paired (RowAt H') ts rows → cont (ts.map V.ref) H') :
    spScan C vs H cont E :=
  ⟨p, pt, dx, dT, m, z, r, c, lo, hi, hv, T, hpt, hcol, nd, l, fun ts rows' H' s ps it' mem' => by
    obtain rfl : rows' = rows := turn_same it' it fun x => (mem' x).trans (mem x).symm
    exact k ts _ s ps⟩
theorem told_new {H H' : Hp} {q : Addr} {ts : List Addr} {rows : Rows} (s : Same H H') (ps : Paired (RowAt H') ts rows) (hq : H' q = none) :
    ∃ H2, H2 = upd H' q (.lst (ts.map V.ref)) ∧ Same H H2 ∧ H q = none ∧ H2 q = some (.lst (ts.map V.ref)) ∧ Paired (RowAt H2) ts rows :=
  ⟨_, rfl, s.trans (Same.upd hq), same_free s hq, upd_same, Paired.mapP ps fun a b h => h.keep (tups_new hq)⟩
/-- the lists that were told -/
def Tls (H0 : Hp) (rows : Rows) (tl : Addr) (n : Nat) (H : Hp) : Prop := ∃ qs : List Addr, H0 tl = none ∧ Same H0 H ∧ H tl = some (.lst (qs.map V.ref)) ∧ qs.length ≤ n ∧ ∀ q ∈ qs, q ≠ tl ∧ ∃ ts : List Addr, H q = some (.lst (ts.map V.ref)) ∧ Paired (RowAt H) ts rows
theorem tls_one {H0 H : Hp} {rows : Rows} {q tl : Addr} {ts : List Addr} (s : Same H0 H) (hq : H q = some (.lst (ts.map V.ref))) (ps : Paired (RowAt H) ts rows) (htl : H tl = none) : Tls H0 rows tl 1 (upd H tl (.lst [.ref q])) :=
  ⟨[q], same_free s htl, s.trans (Same.upd htl), upd_same, Nat.le_refl _, fun q' hq' => by
    rw [List.mem_singleton.mp hq']
    exact ⟨ne_of_none hq htl, ts, lk_new hq htl, Paired.mapP ps fun a b h => h.keep (tups_new htl)⟩⟩
theorem Tls.app {H0 H H' : Hp} {rows : Rows} {q tl : Addr} {n : Nat} {ts : List Addr} (h : Tls H0 rows tl n H) (s : Same H H') (hq0 : H q = none) (hq : H' q = some (.lst (ts.map V.ref))) (ps : Paired (RowAt H') ts rows) (l : n < 90000)
    {Q : VK} (k : ∀ H2, Tls H0 rows tl (n + 1) H2 → Q .non H2) : rAppend (.ref tl) [.ref q] H' Q := by
  obtain ⟨qs, h0, s0, ht, hl, hqs⟩ := h
  have ht' := s _ _ ht
  have nt : q ≠ tl := fun e => by
    rw [e, ht] at hq0
    cases hq0
  have tp : Tups H' (upd H' tl (.lst (qs.map V.ref ++ [.ref q]))) := tups_upd ht' fun xs z => by cases z
  refine k_app ht' (k_szL (by rw [List.length_map]; omega)) (k _ ⟨qs ++ [q], h0, same_off (s0.trans s) h0, by rw [upd_same]; simp, by simp; omega, fun u hu => ?_⟩)
  rcases List.mem_append.mp hu with h | h
  · obtain ⟨n1, us, u1, u2⟩ := hqs u h
    exact ⟨n1, us, by rw [upd_ne n1]; exact s _ _ u1, Paired.mapP u2 fun a b h => (h.keep (Tups.same s)).keep tp⟩
  · rw [List.mem_singleton.mp h]
    exact ⟨nt, ts, by rw [upd_ne nt]; exact hq, Paired.mapP ps fun a b h => h.keep tp⟩
theorem Tls.sm {H0 H : Hp} {rows : Rows} {tl : Addr} {n : Nat} (h : Tls H0 rows tl n H) : Same H0 H := let ⟨_, _, s, _⟩ := h; s
theorem Tls.ty {H0 H : Hp} {rows : Rows} {tl : Addr} {n : Nat} (h : Tls H0 rows tl n H) : ∃ xs, H tl = some (.lst xs) := let ⟨qs, _, _, h, _⟩ := h; ⟨_, h⟩
theorem ne_lst0 {K : PySem.W.Frag} {H : Hp} {Q : VK} {a b : Addr} (ha : H a = some (.lst [])) (hb : H b = some (.lst [])) (q : Q (.bl false) H) : rNeD K (.ref a) (.ref b) H Q :=
  ⟨.list [], .list [], .lst (SqL.of ha) .nil, .lst (SqL.of hb) .nil, by decide +kernel, by decide +kernel, by exact q⟩
/-! ### lists of lists of rows -/
def rowsL (m : Rows) : PyData := .list (pairsD m)
theorem fit_lst {W D : Nat} {ds : List PyData} (a : FitA W D ds) : Fit W (D + 1) (.list ds) := ⟨a.sh, a.la, a.is, Nat.succ_le_succ a.de, a.we⟩
theorem fit_rowsL {m : Rows} (f : ∀ r ∈ m, Num r.1 ∧ r.2.length ≤ 3 ∧ ∀ v ∈ r.2, Num v) : Fit (181 * m.length) 3 (rowsL m) := fit_lst (fit_pairs f)
theorem dp_rowsL {K : PySem.W.Frag} {H : Hp} {l : Addr} {ts : List Addr} {m : Rows} (hl : H l = some (.lst (ts.map V.ref))) (h : Paired (RowAt H) ts m) : Dp K H (.ref l) (rowsL m) := .lst (SqL.of hl) (dp_rows h)
theorem rr_pair {K : PySem.W.Frag} {H : Hp} {Q : VK} {l q1 q2 : Addr} {ts1 ts2 : List Addr} {m : Rows} (hl : H l = some (.lst [.ref q1, .ref q2])) (h1 : H q1 = some (.lst (ts1.map V.ref))) (p1 : Paired (RowAt H) ts1 m) (h2 : H q2 = some (.lst (ts2.map V.ref))) (p2 : Paired (RowAt H) ts2 m) (lm : m.length ≤ 8)
    (f : ∀ r ∈ m, Num r.1 ∧ r.2.length ≤ 3 ∧ ∀ v ∈ r.2, Num v) (q : Q (.str (PyData.list [rowsL m, rowsL m]).shown) H) : rRepr K [.ref l] H Q := by
  have g : Fit 4000 4 (.list [rowsL m, rowsL m]) := (fit_lst (fit_cons (fit_rowsL f) (fit_cons (fit_rowsL f) fit_nil))).mono (by omega) (Nat.le_refl _)
  obtain ⟨a, b, c⟩ := g.repr (by omega) (by decide)
  exact ⟨_, _, rfl, .lst (SqL.of hl) (.cons (dp_rowsL h1 p1) (.cons (dp_rowsL h2 p2) .nil)), a, b, c, q⟩
def twD (other : Rows) (r : Int × List Int) : PyData := .tuple [rowD r.1 r.2, rowsL other]
theorem fit_tw {other : Rows} {r : Int × List Int} (lo : other.length ≤ 8) (fo : ∀ r ∈ other, Num r.1 ∧ r.2.length ≤ 3 ∧ ∀ v ∈ r.2, Num v) (h : Num r.1 ∧ r.2.length ≤ 3 ∧ ∀ v ∈ r.2, Num v) : Fit 2000 4 (twD other r) :=
  (fit_tup (fit_cons ((fit_row h.1 h.2.1 h.2.2).mono (Nat.le_refl _) (by decide : 2 ≤ 3)) (fit_cons (fit_rowsL fo) fit_nil))).mono (by omega) (Nat.le_refl _)
theorem fit_tws {other : Rows} (lo : other.length ≤ 8) (fo : ∀ r ∈ other, Num r.1 ∧ r.2.length ≤ 3 ∧ ∀ v ∈ r.2, Num v) : ∀ {ps : Rows}, (∀ r ∈ ps, Num r.1 ∧ r.2.length ≤ 3 ∧ ∀ v ∈ r.2, Num v) → FitA (2001 * ps.length) 4 (ps.map (twD other))
  | [], _ => fit_nil
  | r :: ps, h => (fit_cons (fit_tw lo fo (h r List.mem_cons_self)) (fit_tws lo fo fun w k => h w (List.mem_cons_of_mem _ k))).mono (by simp only [List.length_cons]; omega) (Nat.le_refl _)
theorem dp_tws {K : PySem.W.Frag} {L : Addr} {H : Hp} {other : Rows} : ∀ {fs : List Addr} {ps : Rows}, Paired (TwAt L other H) fs ps → DpAll K H (fs.map V.ref) (ps.map (twD other))
  | _, _, .nil => .nil
  | _, _, .cons a b => .cons (by
      obtain ⟨t, l2, ts2, h1, h2, h3, h4, _⟩ := a
      exact .tup (SqT.of h1) (.cons (dp_row h2) (.cons (dp_rowsL h3 h4) .nil))) (dp_tws b)
theorem rr_tw {K : PySem.W.Frag} {H : Hp} {Q : VK} {l L : Addr} {fs : List Addr} {other all : Rows} (hl : H l = some (.lst (fs.map V.ref))) (h : Paired (TwAt L other H) fs all) (la : all.length ≤ 8) (lo : other.length ≤ 8) (fo : ∀ r ∈ other, Num r.1 ∧ r.2.length ≤ 3 ∧ ∀ v ∈ r.2, Num v)
    (fa : ∀ r ∈ all, Num r.1 ∧ r.2.length ≤ 3 ∧ ∀ v ∈ r.2, Num v) (q : Q (.str (PyData.list (all.map (twD other))).shown) H) : rRepr K [.ref l] H Q := by
  have g : Fit 20000 5 (.list (all.map (twD other))) := (fit_lst (fit_tws lo fo fa)).mono (by omega) (Nat.le_refl _)
  obtain ⟨a, b, c⟩ := g.repr (by omega) (by decide)
  exact ⟨_, _, rfl, .lst (SqL.of hl) (dp_tws h), a, b, c, q⟩
theorem cut_upto {xs : List V} {k : Nat} : cutV xs none (some (k : Int)) = xs.take k := by
  unfold cutV
  rw [HT.sIx_nat, HT.sIx_none, List.drop_zero, Nat.sub_zero]
  by_cases h : k ≤ xs.length
  · rw [Nat.min_eq_left h]
  · rw [Nat.min_eq_right (by omega), List.take_length, List.take_of_length_le (by omega)]
theorem paired_take {α β : Type} {F : α → β → Prop} : ∀ {xs : List α} {ys : List β}, Paired F xs ys → ∀ n : Nat, Paired F (xs.take n) (ys.take n)
  | _, _, .nil, n => by rw [List.take_nil, List.take_nil]; exact .nil
  | _, _, .cons a r, 0 => .nil
  | _, _, .cons a r, n + 1 => .cons a (paired_take r n)
end K22

set_option Elab.async false
set_option maxRecDepth 100000
/-! what keywords bind; defs as they stand behind the top -/
namespace Own
open PySem PySem.Spec PyProof.Rows L2
theorem kb_of {K : PySem.W.Frag} {x qual : Str} {st : Stmt} {f : Addr} {fd : FuncData} {ps ks : List Str} {n : Nat} {g : List Value → List Value → List Value} {gV : List V → List V → List V} (F : Fun K x qual st f fd)
    (rel : ∀ {vs : List V} {us : List Value} {zs : List V} {ws : List Value}, Vals vs us → Vals zs ws → Vals (gV vs zs) (g us ws))
    (h : ∀ (kV doc pm : Value) (an : Option Addr) (cdv ct : Value) (us ws : List Value), us.length = n → ws.length = ks.length →
      bindArgs (PySem.W.fnOf x qual (defArgs st) (defBody st) (defScope st) .none kV doc pm an cdv ct) ⟨us, ks.zip ws⟩ = pure (ps.zip (g us ws))) : KBn K fd ps n ks g gV := by
  obtain ⟨oc, od, kV, doc, pm, an, cdv, ct, osl, rfl, _, _⟩ := F.ex
  exact ⟨fun s us ws _ l1 l2 => BindsTo.of_eq (h kV doc pm an cdv ct us ws l1 l2), rel⟩
/-- keywords for a def with defaults, none of which is needed -/
theorem kb_def {K : PySem.W.Frag} {x qual : Str} {params : Arguments} {body : List Stmt} {scope : Scope} {kws : List (Str × V)} {dvs : List V} {f : Addr} {fd : FuncData} {ps ks : List Str} {n : Nat} {g : List Value → List Value → List Value} {gV : List V → List V → List V}
    (F : FunD K x qual params body scope dvs kws f fd) (hd : dvs ≠ [])
    (rel : ∀ {vs : List V} {us : List Value} {zs : List V} {ws : List Value}, Vals vs us → Vals zs ws → Vals (gV vs zs) (g us ws))
    (h : ∀ (T : Addr) (kV doc pm : Value) (an : Option Addr) (cdv ct : Value) (us its ws : List Value), us.length = n → Vals dvs its → ws.length = ks.length →
      ∃ k, bindArgs (PySem.W.fnOf x qual params body scope (.ref T) kV doc pm an cdv ct) ⟨us, ks.zip ws⟩ = seqItems? (.ref T) >>= k ∧ k (some its.toArray) = pure (ps.zip (g us ws))) : KBn K fd ps n ks g gV := by
  obtain ⟨oc, od, dV, kV, doc, pm, an, cdv, ct, osl, rfl, lk, hcd, hD, hK⟩ := F.ex
  rcases hD with ⟨e, _⟩ | ⟨_, T, o, its, m, rfl, lT, oT, rT⟩
  · exact absurd e hd
  · refine ⟨fun s us ws X l1 l2 => ?_, rel⟩
    obtain ⟨k, e1, e2⟩ := h T kV doc pm an cdv ct us its ws l1 rT l2
    refine BindsTo.of_looks fun M => ?_
    rw [e1]
    exact looks_items X lT oT (.of_pure e2)
/-- keywords for a def whose defaults are keyword-only; ms: those that lack -/
theorem kb_kw {K : PySem.W.Frag} {x qual : Str} {params : Arguments} {body : List Stmt} {scope : Scope} {kws ms : List (Str × V)} {f : Addr} {fd : FuncData} {ps ks : List Str} {n : Nat} {g : List Value → List Value → List Value} {gV : List V → List V → List V}
    (F : FunD K x qual params body scope [] kws f fd) (hk : kws ≠ []) (hms : ∀ q ∈ ms, q ∈ kws)
    (rel : ∀ {vs : List V} {us : List Value} {zs : List V} {ws : List Value}, Vals vs us → Vals zs ws → Vals (gV vs zs) (g us ws))
    (h : ∀ (D : Addr) (doc pm : Value) (an : Option Addr) (cdv ct : Value) (us mv ws : List Value), us.length = n → Vals (ms.map (·.2)) mv → ws.length = ks.length →
      KwChain D ((ms.map (·.1)).zip mv) (bindArgs (PySem.W.fnOf x qual params body scope .none (.ref D) doc pm an cdv ct) ⟨us, ks.zip ws⟩) (ps.zip (g us ws))) : KBn K fd ps n ks g gV := by
  obtain ⟨oc, od, dV, kV, doc, pm, an, cdv, ct, osl, rfl, lk, hcd, hD, hK⟩ := F.ex
  rcases hD with ⟨_, rfl⟩ | ⟨e, _⟩
  · rcases hK with e | ⟨D, rfl, hq⟩
    · exact absurd e hk
    · obtain ⟨mv, hl, rk, hks⟩ := kwd_vals (ms := ms) fun q hm => hq q (hms q hm)
      exact ⟨fun s us ws X l1 l2 => BindsTo.of_looks fun M => KwChain.looks X hks (h D doc pm an cdv ct us mv ws l1 rk l2), rel⟩
  · exact absurd rfl e
theorem vals_rev : ∀ {zs : List V} {ws : List Value}, Vals zs ws → Vals zs.reverse ws.reverse
  | _, _, .nil => .nil
  | _, _, .cons h t => by
    rw [List.reverse_cons, List.reverse_cons]
    exact (vals_rev t).append (.cons h .nil)
theorem raw0 {P : Program} {w : World} {K : PySem.W.Frag} {mg : Str → Option Value} {g0 : Heap} {k : Nat} {f : Addr} {fd : FuncData} {ps : List Str} {sp : Sp} (F : FnOk P w K mg g0 CX0 k f fd ps sp) (b : Binds K fd ps []) : FnR P w K mg g0 CX0 k f sp :=
  (F.raw b .nil).imp fun vs H Q E h => by rw [List.append_nil]; exact h
/-- a def whose defaults are keyword-only, as the top leaves it -/
theorem funK_mk {K : PySem.W.Frag} {x qual : Str} {params : Arguments} {body : List Stmt} {scope : Scope} {kws : List (Str × V)} {f D : Addr} {oc doc pm cdv ct : Value} {od an : Option Addr} {osl : Array (Option Value)}
    (l : K.lookup f = some ⟨oc, od, .func (PySem.W.fnOf x qual params body scope .none (.ref D) doc pm an cdv ct), osl⟩) (c : PySem.W.codeIn K cdv qual = true) (k : PySem.W.keepIn K (.ref f) = true)
    (hq : ∀ q ∈ kws, ∃ u, PySem.W.nsIn K D q.1 = some (some u) ∧ RelV q.2 u) : FunD K x qual params body scope [] kws f (PySem.W.fnOf x qual params body scope .none (.ref D) doc pm an cdv ct) :=
  ⟨⟨_, _, _, _, _, _, _, _, _, _, rfl, l, c, .inl ⟨rfl, rfl⟩, .inr ⟨D, rfl, hq⟩⟩, k⟩
end Own

set_option Elab.async false
set_option maxRecDepth 100000
set_option maxHeartbeats 1000000
set_option linter.unusedVariables false
namespace K22
open PySem PySem.Spec PyProof.Rows L2 Own
-- steps
local macro_rules | `(tactic| walk_at "lk") => `(tactic| first
  | assumption | exact upd_same
  | ((with_reducible refine' lk_new ?e (by assumption)); (case e => walk_at "lk"))
  | ((with_reducible refine' lk_ext (by assumption) ?e); (case e => walk_at "lk"))
  | ((with_reducible refine' lk_same (by assumption) ?e); (case e => walk_at "lk")))
local macro_rules | `(tactic| walk_at "sq") => `(tactic| first | assumption | exact SqL.of (by walk_at "lk") | exact SqT.of (by walk_at "lk"))
local macro_rules | `(tactic| walk_at "r1") => `(tactic| first
  | with_reducible refine k_seq ?_ | with_reducible refine k_asg ?_ | with_reducible refine k_ret ?_ | with_reducible refine k_drop ?_ | with_reducible refine k_next ?_ | with_reducible refine k_ifS ?_
  | ((with_reducible refine' k_var ?e ?_); (case e => exact rfl)) | with_reducible refine k_c ?_ | with_reducible refine k_op ?_ | with_reducible refine k_un ?_ | with_reducible refine k_test ?_ | with_reducible refine k_B ?_
  | with_reducible refine k_and ?_ | with_reducible refine k_or ?_ | with_reducible refine k_not ?_ | with_reducible refine k_andV ?_ | with_reducible refine k_orV ?_ | with_reducible refine k_notV ?_ | with_reducible refine k_if ?_
  | with_reducible refine k_nil ?_ | with_reducible refine k_cons ?_ | with_reducible refine k_tup ?_ | with_reducible refine k_lst ?_ | with_reducible refine k_call ?_ | with_reducible refine k_cb ?_ | with_reducible refine k_ck ?_
  | with_reducible refine k_par ?_ | with_reducible refine k_par1 ?_ | with_reducible refine k_tr ?_ | with_reducible refine k_rI0 ?_ | with_reducible refine k_rU ?_
  | with_reducible refine k_gN ?_ | with_reducible refine k_gS ?_ | with_reducible refine k_gNil ?_ | with_reducible refine k_gCons ?_ | with_reducible refine k_bm0 ?_ | with_reducible refine k_bm ?_
  | with_reducible refine k_for ?_ | with_reducible refine k_iL ?_ | with_reducible refine k_iT ?_ | with_reducible refine k_iR1 ?_ | ((with_reducible refine k_iR1i ?e ?_); (case e => first | decide | exact ⟨by omega, by omega⟩))
  | with_reducible refine k_max ?_ | with_reducible refine k_isB ?_ | with_reducible refine k_sl ?_ | with_reducible refine k_noP ?_ | with_reducible refine k_part ?_ | with_reducible refine k_partI ?_ | with_reducible refine k_revL ?_
  | ((with_reducible refine' k_ixqT ?e ?f ?_); (case e => walk_at "sq"); (case f => first | exact rfl | exact atI_head))
  | ((with_reducible refine' k_ixqL ?e ?f ?_); (case e => walk_at "sq"); (case f => first | exact rfl | exact atI_head))
  | ((with_reducible refine' k_lenL ?e ?_); (case e => walk_at "sq"))
  | ((with_reducible refine' k_lenT ?e ?_); (case e => walk_at "sq"))
  | ((with_reducible refine' k_ixL ?e ?f ?_); (case e => walk_at "sq"); (case f => first | exact rfl | exact atI_head))
  | ((with_reducible refine' k_ixT ?e ?f ?_); (case e => walk_at "sq"); (case f => first | exact rfl | exact atI_head))
  | ((with_reducible refine k_eq ?e ?_); (case e => exact rfl)) | ((with_reducible refine k_ne ?e ?_); (case e => exact rfl))
  | ((with_reducible refine k_rI ?e ?_); (case e => first | assumption | omega | decide | exact ⟨by omega, by omega⟩ | exact .inl ⟨by omega, by omega⟩ | exact .inr ⟨by omega, by omega⟩)))
local macro_rules | `(tactic| walk_at "rd") => `(tactic| repeat walk_at "r1")
-- steps end
def gRN : List Value → List Value → List Value := fun us ws => us ++ (ws ++ [.none, .none])
def gRV : List V → List V → List V := fun us ws => us ++ (ws ++ [.non, .non])
abbrev scanPs : List Str := ["self", "path", "least", "most"]
structure Lw (P : Program) (w : World) (K : PySem.W.Frag) (mg : Str → Option Value) (g0 : Heap) (C : Addr) : Prop where
  tx : Txt K C
  gC : mg "LiveTable" = some (.ref C)
  make : ∃ f fd, Mk K C f ∧ FnOk P w K mg g0 CX0 1 f fd ["self", "rows", "following"] (spInit K C) ∧ Binds K fd ["self", "rows", "following"] []
  len : ∃ f, PySem.W.findIn K (.ref C) "__len__" = some (some (.ref f)) ∧ PySem.W.typeIn K (.ref f) = some (.type "function") ∧ FnR P w K mg g0 CX0 1 f (spLen C)
  rows : ∃ pr f fd, PropOf K C "rows" pr f ∧ FnOk P w K mg g0 CX0 1 f fd ["self"] (spRows C) ∧ Binds K fd ["self"] []
  scan : ∃ f fd ds, Meth K C "scan" f ∧ Vals [V.non, V.non] ds ∧ Binds K fd scanPs ds ∧ GFn P w K mg g0 3 f fd ["self", "path", "least", "most"] (spScan C) ∧ KBn K fd scanPs 1 ["path"] gRN gRV
  nx : Nxt2 P w K mg g0 C
section
variable {P : Program} {w : World} {K : PySem.W.Frag} {mg : Str → Option Value} {g0 : Heap} {C : Addr}
def spLaw (K : PySem.W.Frag) : Sp := fun vs H Q _ => ∃ (a : Addr) (ns : List Int), vs = [.ref a] ∧ SqL K H a (ns.map V.int) ∧ ns.length ≤ 63 ∧ ∀ H', Q (.bl true) H'
theorem init_same {C : Addr} {H H' : Hp} {p dx : Addr} (hp : H p = none) (hdx : H dx = none) (ne : dx ≠ p) (fr : ∀ a o, a ≠ p → upd (upd H dx (.own p)) p (.ins C dx []) a = some o → H' a = some o) : Same H H' := fun a o e => by
  have n1 := ne_of_none e hp
  have n2 := ne_of_none e hdx
  refine fr a o n1 ?_
  rw [upd_ne n1, upd_ne n2]
  exact e
theorem init_up {C : Addr} {H : Hp} {p dx : Addr} (hp : H p = none) (hdx : H dx = none) (ne : dx ≠ p) : Same H (upd (upd H dx (.own p)) p (.ins C dx [])) :=
  (Same.upd hdx).trans (Same.upd (by rw [upd_ne ne.symm]; exact hp))
theorem init_of {K : PySem.W.Frag} {C : Addr} {H : Hp} {p dx b : Addr} {m : Rows} {z : Int} {Q : VK} {E : XK} (hp : H p = none) (hdx : H dx = none) (ne : dx ≠ p) (hb : BegunAt K (upd (upd H dx (.own p)) p (.ins C dx [])) b m) (nd : (keysR m).Nodup) (l : m.length ≤ 1000)
    (k : ∀ dT H', H dT = none → Same H H' → TableAt C H' p dx dT m z → Q .non H') : spInit K C [.ref p, .ref b, .int z] (upd (upd H dx (.own p)) p (.ins C dx [])) Q E :=
  ⟨p, dx, b, m, z, rfl, upd_same, hb, nd, l, fun dT H' hdT T fr => k dT H' (same_free (init_up hp hdx ne) hdT) (init_same hp hdx ne fr) T⟩
theorem tMake_of {C : Addr} {sp : Sp} {dvs : List V} {E : XK} {t : TA} {σ : L2.St} {H : Hp} {Q : VK} (h : t σ H fun vs H1 => ∀ x dx, H1 x = none → H1 dx = none → dx ≠ x →
    sp (.ref x :: (vs ++ dvs)) (upd (upd H1 dx (.own x)) x (.ins C dx [])) (fun v H2 => v = .non ∧ Q (.ref x) H2) E) : tMake C sp dvs E t σ H Q := h
theorem ok_law {f : Addr} {fd : FuncData} (F : Fun K "law" "law" s_law f fd) (T : Lw P w K mg g0 C) (z_range : mg "range" = none) (z_repr : mg "repr" = none) (z_list : mg "list" = none) (z_len : mg "len" = none)
    (C_deck : Cal P w K mg g0 "_law_deck" 1 ["_law_script"] (spDeck K)) (C_draw : Cal P w K mg g0 "_law_draw" 1 ["_law_deck_here", "_law_many"] spDraw)
    (C_rows : Cal P w K mg g0 "_law_rows" 3 ["_law_deck_here", "_law_many", "_law_most_rows"] spRowsL) (C_road : Cal P w K mg g0 "_law_road" 2 ["_law_deck_here", "_law_many"] spRoad)
    (C_ordered : Cal P w K mg g0 "_law_ordered" 2 ["_law_road_here", "_law_rows_here"] spOrdered) (C_twice : Cal P w K mg g0 "_law_twice" 7 ["_law_table", "_law_road_here", "_law_further"] (spTwice C))
    (C_first : Cal P w K mg g0 "_law_first" 5 ["_law_table", "_law_road_here", "_law_many"] (spFirstL C)) (C_spots : Cal P w K mg g0 "_law_spots" 2 ["_law_deck_here", "_law_road_here", "_law_due"] spSpots)
    (C_next_right : Cal P w K mg g0 "_law_next_right" 3 ["_law_table", "_law_road_here", "_law_due", "_law_spot_here"] (spNR C)) :
    GOk P w K mg g0 CX0 8 f fd ["_law_script"] (spLaw K) := by
  have nd := sc_law.nd
  obtain ⟨fl, j1, j2, FL⟩ := T.len
  obtain ⟨pr, fr, fdr, pR, FR, bR⟩ := T.rows
  obtain ⟨fm, fdm, M, FM, bM⟩ := T.make
  obtain ⟨fs, fds, ds, mS, vS, bS, FG, kbS⟩ := T.scan
  obtain ⟨fn, fdn, ds2, ds3, mN, FN, vN2, bN2, vN3, bN3, kbP, kbQ⟩ := T.nx.nx
  refine okG F sc_law (fun vs H Q E h => ?_) (fun cdv A up s H vs Q E qt hr h => ?_)
  · obtain ⟨a, ns, rfl, _⟩ := h
    rfl
  · obtain ⟨a, ns, rfl, hS, hl, k⟩ := h
    have hu := hu_of hr
    refine ⟨_, (pss_cons (ps_set (i := 1) nd rfl (Or.inl rfl) (pe_c C_deck qt (hr.mono (by decide)) (pa_cons (pv 0) pa_nil)))
        (pss_cons (ps_for PassesOwn.never rfl (pi_range1 (by rfl) z_range (pa_cons pe_int pa_nil)) (pg_name (i := 2) nd rfl (Or.inl rfl)) (pss_cons (ps_set (i := 3) nd rfl (Or.inl rfl) (pe_op op_add pe_int (pe_c C_draw qt (hr.mono (by decide)) (pa_cons (pv 1) (pa_cons pe_int pa_nil)))))
        (pss_cons (ps_asg (pe_c C_rows qt (hr.mono (by decide)) (pa_cons (pv 1) (pa_cons (pv 3) (pa_cons pe_int pa_nil)))) (pg_tup rfl (pgs_cons (pg_name (i := 5) nd rfl (Or.inl rfl)) (pgs_cons (pg_name (i := 6) nd rfl (Or.inl rfl)) pgs_nil))))
        (pss_cons (ps_asg (pe_tup (pa_cons (pe_make M FM (hr.mono (by decide)) (by rfl) T.gC bM .nil pass0 (pa_cons (pv 5) (pa_cons (pv 6) pa_nil))) (pa_cons (pe_c C_road qt (hr.mono (by decide)) (pa_cons (pv 1) (pa_cons (pv 3) pa_nil))) (pa_cons (pe_c C_road qt (hr.mono (by decide)) (pa_cons (pv 1) (pa_cons (pv 3) pa_nil))) pa_nil)))) (pg_tup rfl (pgs_cons (pg_name (i := 7) nd rfl (Or.inr rfl)) (pgs_cons (pg_name (i := 8) nd rfl (Or.inr rfl)) (pgs_cons (pg_name (i := 9) nd rfl (Or.inl rfl)) pgs_nil)))))
        (pss_cons (ps_asg (pe_tup (pa_cons (pe_c C_ordered qt (hr.mono (by decide)) (pa_cons (pv 8) (pa_cons (pv 5) pa_nil))) (pa_cons (pe_c C_ordered qt (hr.mono (by decide)) (pa_cons (pv 9) (pa_cons (pv 5) pa_nil))) pa_nil))) (pg_tup rfl (pgs_cons (pg_name (i := 10) nd rfl (Or.inr rfl)) (pgs_cons (pg_name (i := 11) nd rfl (Or.inr rfl)) pgs_nil))))
        (pss_cons (ps_if (pt_cmpR op_ne (pe_callB (call_repr qt hr.units) (by rfl) z_repr (by decide +kernel) (pa_cons (pe_lst (pa_cons (pe_listG (E := E0) (pgen_meth (pv 7) T.tx.cl mS FG (hr.mono (by decide)) bS vS (pa_cons (pv 8) pa_nil)) passN (fun _ _ _ h => h.elim) (hr.mono (by decide)) (by rfl) z_list (by decide +kernel)) (pa_cons (pe_listG (E := E0) (pgen_mk0 (pv 7) T.tx.cl mS FG (hr.mono (by decide)) kbS (pk_cons (pv 8) pk_nil)) passN (fun _ _ _ h => h.elim) (hr.mono (by decide)) (by rfl) z_list (by decide +kernel)) pa_nil))) pa_nil)) (pe_callB (call_repr qt hr.units) (by rfl) z_repr (by decide +kernel) (pa_cons (pe_lst (pa_cons (pv 10) (pa_cons (pv 10) pa_nil))) pa_nil)) (nomark _)) (pss_one (ps_ret pe_bl)) pss_nil)
        (pss_cons (ps_if (pt_cmpR op_ne (pe_callB (call_repr qt hr.units) (by rfl) z_repr (by decide +kernel) (pa_cons (pe_c C_twice qt (hr.mono (by decide)) (pa_cons (pv 7) (pa_cons (pv 8) (pa_cons (pv 9) pa_nil)))) pa_nil)) (pe_callB (call_repr qt hr.units) (by rfl) z_repr (by decide +kernel) (pa_cons (pe_lc (own := [("_law_row", 13)]) (g := (gName 13)) (tt := tYes) (te := (tTup (tCons (tVar 13) (tCons (tVar 11) tNil)))) (by rfl) nd (pi_list (pv 10)) (blkOk_by (own := [("_law_row", 13)]) (N := ["_law_script", "_law_deck_here", "_law_turn", "_law_many", "_law_early", "_law_begun", "_law_after", "_law_table", "_law_road_here", "_law_further", "_law_due", "_law_other", "_law_spot_here", "_law_row"]) (sc := defScope s_law) (by decide +kernel)) (fun _ _ _ _ _ => by exact (pg_name (i := 13) nd rfl (Or.inl rfl))) (fun _ _ _ _ _ => by exact pts_nil) (fun _ _ _ _ _ => by exact (pe_tup (pa_cons (pv 13) (pa_cons (pv 11) pa_nil))))) pa_nil)) (nomark _)) (pss_one (ps_ret pe_bl)) pss_nil)
        (pss_cons (ps_set (i := 4) nd rfl (Or.inl rfl) (pe_c C_draw qt (hr.mono (by decide)) (pa_cons (pv 1) (pa_cons (pe_op op_add (pe_callB c_len (by rfl) z_len (by decide +kernel) (pa_cons (pv 10) pa_nil)) pe_int) pa_nil))))
        (pss_cons (ps_if (pt_cmpR op_ne (pe_callB (call_repr qt hr.units) (by rfl) z_repr (by decide +kernel) (pa_cons (pe_c C_first qt (hr.mono (by decide)) (pa_cons (pv 7) (pa_cons (pv 8) (pa_cons (pv 4) pa_nil)))) pa_nil)) (pe_callB (call_repr qt hr.units) (by rfl) z_repr (by decide +kernel) (pa_cons (pe_slice sl_list (pv 10) po_none (po_some (pv 4))) pa_nil)) (nomark _)) (pss_one (ps_ret pe_bl)) pss_nil)
        (pss_cons (ps_if (pt_cmpR op_ne (pe_callB (call_repr qt hr.units) (by rfl) z_repr (by decide +kernel) (pa_cons (pe_lst (pa_cons (pe_meth (pv 7) T.tx.cl mN FN (hr.mono (by decide)) bN3 vN3 pass0 (pa_cons (pv 8) pa_nil)) (pa_cons (pe_mk0 (E := fun _ => E0) (pv 7) T.tx.cl mN FN (hr.mono (by decide)) kbQ (fun σ => passA) (pk_cons (pv 8) pk_nil)) pa_nil))) pa_nil)) (pe_callB (call_repr qt hr.units) (by rfl) z_repr (by decide +kernel) (pa_cons (pe_op op_rep (pe_lst (pa_cons (pe_ix ix_seq (pe_op op_cat (pv 10) (pe_lst (pa_cons pe_non pa_nil))) pe_int (fun _ _ => rfl)) pa_nil)) pe_int) pa_nil)) (nomark _)) (pss_one (ps_ret pe_bl)) pss_nil)
        (pss_cons (ps_if (pt_cmpR (op_neD hr.units) (pe_lc (own := [("_law_spot_here", 12)]) (g := (gName 12)) (tt := (tNot (tB (tCall _ [] E0 (tCons (tVar 7) (tCons (tVar 8) (tCons (tVar 10) (tCons (tVar 12) tNil)))))))) (te := (tC (.int 1))) (by rfl) nd (pi_list (pe_c C_spots qt (hr.mono (by decide)) (pa_cons (pv 1) (pa_cons (pv 8) (pa_cons (pv 10) pa_nil))))) (blkOk_by (own := [("_law_spot_here", 12)]) (N := ["_law_script", "_law_deck_here", "_law_turn", "_law_many", "_law_early", "_law_begun", "_law_after", "_law_table", "_law_road_here", "_law_further", "_law_due", "_law_other", "_law_spot_here", "_law_row"]) (sc := defScope s_law) (by decide +kernel)) (fun _ _ _ _ _ => by exact (pg_name (i := 12) nd rfl (Or.inl rfl))) (fun _ _ _ _ _ => by exact (pts_one (pt_not (pt_val (pe_c C_next_right qt (hr.mono (by decide)) (pa_cons (pv 7) (pa_cons (pv 8) (pa_cons (pv 10) (pa_cons (pv 12) pa_nil))))))))) (fun _ _ _ _ _ => by exact pe_int)) (pe_lst pa_nil) (nomark _)) (pss_one (ps_ret pe_bl)) pss_nil)
        (pss_one (ps_if (PW.pt (pw_or (pt_cmpR op_ne (pe_callB (call_repr qt hr.units) (by rfl) z_repr (by decide +kernel) (pa_cons (pe_prop (pv 7) T.tx.cl pR FR (hr.mono (by decide)) bR .nil pass0 rfl) pa_nil)) (pe_callB (call_repr qt hr.units) (by rfl) z_repr (by decide +kernel) (pa_cons (pv 5) pa_nil)) (nomark _)) (pw_or1 (pt_cmpR op_ne (pe_callB (call_lenO j1 j2 FL (hr.mono (by decide)) pass0) (by rfl) z_len (by decide +kernel) (pa_cons (pv 7) pa_nil)) (pe_callB c_len (by rfl) z_len (by decide +kernel) (pa_cons (pv 5) pa_nil)) (nomark _))))) (pss_one (ps_ret pe_bl)) pss_nil)))))))))))))
        (pss_one (ps_ret pe_bl)))), ?_⟩
    walk_at "rd"
    refine ⟨a, ns, rfl, hS, hl, fun d e H1 _ _ D1 s1 => ?_⟩
    walk_at "rd"
    let Pv : Nat → L2.St → Hp → Prop := fun i σ H' => ∃ o2 o3 o4 o5 o6 o7 o8 o9 oa ob : Option V, σ = [some (.ref a), some (.ref d), o2, o3, o4, o5, o6, o7, o8, o9, oa, ob, none, none] ∧ Deck d e (2000 * i) H'
    refine ⟨8, rfl, by decide, by decide, for_range (lo := 0) (n := 8) Pv ⟨_, _, _, _, _, _, _, _, _, _, rfl, D1⟩ (fun i σ Hs hi h => ?_) (fun σ Hs h => ?_)⟩
    · obtain ⟨o2, o3, o4, o5, o6, o7, o8, o9, oa, ob, rfl, Ds⟩ := h
      walk_at "rd"
      refine ⟨d, e, _, _, rfl, Ds, by omega, by decide, by decide, fun r0 Hd r1 r2 Dd xd => ?_⟩
      walk_at "rd"
      refine ⟨d, e, _, _, _, rfl, Dd, by omega, by omega, by omega, by decide, by decide, fun r bt after m H3 hr3 rT g ga gk a0 a1 lm D3 x3 => ?_⟩
      walk_at "rd"
      refine k_gTup (SqT.of hr3) rfl ?_
      walk_at "rd"
      have bg : ∀ p dx, H3 p = none → H3 dx = none → dx ≠ p → BegunAt K (upd (upd H3 dx (.own p)) p (.ins C dx [])) bt m := fun p dx hp hdx ne => by
        obtain ⟨us, h1, h2⟩ := rT.keep (Tups.same (init_up hp hdx ne))
        exact ⟨us, SqT.of h1, h2⟩
      refine tMake_of ?_
      walk_at "rd"
      intro p dx hp hdx ne
      refine init_of hp hdx ne (bg p dx hp hdx ne) g.nd (by omega) fun dT H4 hdT s4 T4 => ⟨rfl, ?_⟩
      walk_at "rd"
      refine ⟨d, e, _, _, rfl, D3.same s4, by omega, by omega, by omega, fun pt rd c H5 hpt hc D5 x5 => ?_⟩
      walk_at "rd"
      refine ⟨d, e, _, _, rfl, D5, by omega, by omega, by omega, fun pu rd2 c2 H6 hpu hc2 D6 x6 => ?_⟩
      walk_at "rd"
      have x56 := x5.trans x6
      have T6 : TableAt C H6 p dx dT m after := T4.keep (Ext.tups x56) (fun o z => x56.2 _ _ (D3.off hdT) z) fun o z => x56.2 _ _ (D3.off hp) z
      have rT6 : RowsT H6 bt m := (rT.keep (Tups.same s4)).keep (Ext.tups x56)
      have hpt6 := hpt.keep (Ext.tups x6)
      refine ⟨k_sz rfl, fun tq htq => ?_⟩
      have s7 := Same.upd (o := .tup [.ref p, .ref pt, .ref pu]) htq
      have gtq : (upd H6 tq (.tup [.ref p, .ref pt, .ref pu])) tq = some (.tup [.ref p, .ref pt, .ref pu]) := upd_same
      generalize upd H6 tq (.tup [.ref p, .ref pt, .ref pu]) = H7 at s7 gtq ⊢
      refine k_gTup (SqT.of gtq) rfl ?_
      have T7 : TableAt C H7 p dx dT m after := T6.keep (Tups.same s7) (fun o z => s7 _ _ z) fun o z => s7 _ _ z
      have rT7 := rT6.keep (Tups.same s7)
      have hpt7 := hpt6.keep (Tups.same s7)
      have hpu7 := hpu.keep (Tups.same s7)
      have D7 := D6.same s7
      have hcol : ∀ row ∈ m, HasCol rd c row := fun row hr => by
        have := (g.ok row hr).1
        exact .inr (by omega)
      have hcol2 : ∀ row ∈ m, HasCol rd2 c2 row := fun row hr => by
        have := (g.ok row hr).1
        exact .inr (by omega)
      have hnum : ∀ row ∈ m, Num row.1 ∧ row.2.length ≤ 3 ∧ ∀ v ∈ row.2, Num v := fun row hr => by
        have h1 := g.lt row.1 (List.mem_map.mpr ⟨row, hr, rfl⟩)
        have h2 := gk row.1 (List.mem_map.mpr ⟨row, hr, rfl⟩)
        obtain ⟨h3, h4⟩ := g.ok row hr
        refine ⟨⟨by omega, by omega⟩, by omega, fun v hv => ?_⟩
        have := h4 v hv
        exact ⟨by omega, by omega⟩
      have nDT : ¬ Dk d e dT := D3.off hdT
      have nP : ¬ Dk d e p := D3.off hp
      clear x56 x5 x6 T6 rT6 hpt6 gtq T4 s4 bg D3 x3 D5 D6 Dd xd Ds hpt hpu rT hr3 hdT hdx hp
      walk_at "rd"
      refine ⟨pt, bt, rd, c, m, rfl, hpt7, rT7, hcol, g.nd, lm, fun l1 ts1 all H8 s8 f8 g8 ps8 it8 mem8 => ?_⟩
      walk_at "rd"
      refine ⟨pu, bt, rd2, c2, m, rfl, hpu7.keep (Tups.same s8), rT7.keep (Tups.same s8), hcol2, g.nd, lm, fun l2 ts2 other H9 s9 f9 g9 ps9 it9 mem9 => ?_⟩
      walk_at "rd"
      refine ⟨k_sz rfl, fun tu htu => ?_⟩
      have s10 := s9.trans (Same.upd (o := .tup [.ref l1, .ref l2]) htu)
      have gtu : (upd H9 tu (.tup [.ref l1, .ref l2])) tu = some (.tup [.ref l1, .ref l2]) := upd_same
      have g10 := Same.upd (o := .tup [.ref l1, .ref l2]) htu _ _ g9
      have ps10 := Paired.mapP ps9 fun a b h => RowAt.keep h (tups_new (o := .tup [.ref l1, .ref l2]) htu)
      generalize upd H9 tu (.tup [.ref l1, .ref l2]) = H10 at s10 gtu g10 ps10 ⊢
      refine k_gTup (SqT.of gtu) rfl ?_
      have g81 := s10 _ _ g8
      have ps81 := Paired.mapP ps8 fun a b h => RowAt.keep h (Tups.same s10)
      have s710 := s8.trans s10
      have T10 : TableAt C H10 p dx dT m after := T7.keep (Tups.same s710) (fun o z => s710 _ _ z) fun o z => s710 _ _ z
      have rT10 := rT7.keep (Tups.same s710)
      have hpt10 := hpt7.keep (Tups.same s710)
      have hpu10 := hpu7.keep (Tups.same s710)
      have D10 := D7.same s710
      have n1 : ¬ Dk d e l1 := D7.off f8
      have la : all.length ≤ 8 := by
        have nd2 : all.Nodup := it8.imp fun {a b} h e => by
          rw [e, first_irr] at h
          cases h
        have := sub_len nd2 fun x hx => (mem8 x).mp hx
        omega
      have lo : other.length ≤ 8 := by
        have nd2 : other.Nodup := it9.imp fun {a b} h e => by
          rw [e, first_irr] at h
          cases h
        have := sub_len nd2 fun x hx => (mem9 x).mp hx
        omega
      have numA : ∀ r ∈ all, Num r.1 ∧ r.2.length ≤ 3 ∧ ∀ v ∈ r.2, Num v := fun r hr => hnum r ((mem8 r).mp hr)
      have numO : ∀ r ∈ other, Num r.1 ∧ r.2.length ≤ 3 ∧ ∀ v ∈ r.2, Num v := fun r hr => hnum r ((mem9 r).mp hr)
      have mem8w : ∀ x, x ∈ all ↔ x ∈ m.filter (within rd c none none) := fun x => by
        rw [mem8, List.mem_filter]
        exact ⟨fun h => ⟨h, within_none rd c x⟩, fun h => h.1⟩
      clear s8 s9 s10 g8 ps8 g9 ps9 gtu s710 T7 rT7 hpt7 hpu7 D7 f8 f9 htu s7 htq
      walk_at "rd"
      unfold tListG tMethG
      walk_at "rd"
      refine ⟨p, dx, _, rfl, T10.1, flds_no _ _ (by decide +kernel) (by decide +kernel), ?_⟩
      walk_at "rd"
      refine scan_of (by rfl) T10 hpt10 hcol g.nd (by omega) it8 mem8w fun ts3 H11 s11 ps11 q3 hq3 => ?_
      have s12 := s11.trans (Same.upd (o := .lst (ts3.map V.ref)) hq3)
      have g12 : (upd H11 q3 (.lst (ts3.map V.ref))) q3 = some (.lst (ts3.map V.ref)) := upd_same
      have ps12 := Paired.mapP ps11 fun a b h => RowAt.keep h (tups_new (o := .lst (ts3.map V.ref)) hq3)
      generalize upd H11 q3 (.lst (ts3.map V.ref)) = H12 at s12 g12 ps12 ⊢
      have T12 : TableAt C H12 p dx dT m after := T10.keep (Tups.same s12) (fun o z => s12 _ _ z) fun o z => s12 _ _ z
      walk_at "rd"
      refine ⟨_, rfl, p, dx, _, rfl, T12.1, flds_no _ _ (by decide +kernel) (by decide +kernel), ?_⟩
      walk_at "rd"
      refine ⟨rfl, rfl, ?_⟩
      refine scan_of (by rfl) T12 (hpt10.keep (Tups.same s12)) hcol g.nd (by omega) it8 mem8w fun ts4 H13 s13 ps13 q4 hq4 => ?_
      have s14 := s13.trans (Same.upd (o := .lst (ts4.map V.ref)) hq4)
      have g14 : (upd H13 q4 (.lst (ts4.map V.ref))) q4 = some (.lst (ts4.map V.ref)) := upd_same
      have ps14 := Paired.mapP ps13 fun a b h => RowAt.keep h (tups_new (o := .lst (ts4.map V.ref)) hq4)
      generalize upd H13 q4 (.lst (ts4.map V.ref)) = H14 at s14 g14 ps14 ⊢
      walk_at "rd"
      refine ⟨k_sz rfl, fun lp hlp => ?_⟩
      have s15 := Same.upd (o := .lst [.ref q3, .ref q4]) hlp
      have g15 : (upd H14 lp (.lst [.ref q3, .ref q4])) lp = some (.lst [.ref q3, .ref q4]) := upd_same
      generalize upd H14 lp (.lst [.ref q3, .ref q4]) = H15 at s15 g15 ⊢
      have s125 := s14.trans s15
      walk_at "rd"
      refine rr_pair g15 (s125 _ _ g12) (Paired.mapP ps12 fun a b h => RowAt.keep h (Tups.same s125)) (s15 _ _ g14) (Paired.mapP ps14 fun a b h => RowAt.keep h (Tups.same s15)) la numA ?_
      have s105 := s12.trans s125
      walk_at "rd"
      refine ⟨k_sz rfl, fun lq hlq => ?_⟩
      have s16 := s105.trans (Same.upd (o := .lst [.ref l1, .ref l1]) hlq)
      have g16 : (upd H15 lq (.lst [.ref l1, .ref l1])) lq = some (.lst [.ref l1, .ref l1]) := upd_same
      generalize upd H15 lq (.lst [.ref l1, .ref l1]) = H16 at s16 g16 ⊢
      have ps16 := Paired.mapP ps81 fun a b h => RowAt.keep h (Tups.same s16)
      walk_at "rd"
      refine rr_pair g16 (s16 _ _ g81) ps16 (s16 _ _ g81) ps16 la numA ?_
      walk_at "rd"
      rw [decide_eq_true rfl, Bool.not_true]
      refine iteF ?_
      have T16 : TableAt C H16 p dx dT m after := T10.keep (Tups.same s16) (fun o z => s16 _ _ z) fun o z => s16 _ _ z
      have hpt16 := hpt10.keep (Tups.same s16)
      have hpu16 := hpu10.keep (Tups.same s16)
      have g116 := s16 _ _ g81
      have g216 := s16 _ _ g10
      have ps216 := Paired.mapP ps10 fun a b h => RowAt.keep h (Tups.same s16)
      have rT16 := rT10.keep (Tups.same s16)
      have D16 := D10.same s16
      clear s11 s12 s13 s14 s15 s125 s105 s16 g12 g14 g15 g16 ps11 ps12 ps13 ps14 T12 T10 hpt10 hpu10 g81 g10 ps81 ps10 rT10 D10 hq3 hq4 hlp hlq
      walk_at "rd"
      refine ⟨p, pt, pu, dx, dT, m, all, other, after, rd, rd2, c, c2, rfl, T16, hpt16, hpu16, hcol, hcol2, g.nd, lm, it8, mem8, it9, mem9, fun l3 fs3 H17 s17 _ g17 ps17 => ?_⟩
      walk_at "rd"
      refine rr_tw g17 ps17 la lo numO numA ?_
      have g117 := s17 _ _ g116
      have g217 := s17 _ _ g216
      have ps117 := Paired.mapP ps16 fun a b h => RowAt.keep h (Tups.same s17)
      have ps217 := Paired.mapP ps216 fun a b h => RowAt.keep h (Tups.same s17)
      have ltA : ts1.length = all.length := Paired.length ps117
      walk_at "rd"
      try unfold tLc
      try walk_at "rd"
      refine ⟨l1, rfl, ⟨_, SqL.of g117⟩, fun B hB => ?_⟩
      have nB2 : l2 ≠ B := ne_of_none g217 hB
      refine lc_list (xs := ts1.map V.ref) (fun j H' => Same H17 H' ∧ ∃ fs : List Addr, H' B = some (.lst (fs.map V.ref)) ∧ fs.length ≤ j ∧ Paired (TwAt B other H') fs (all.take j)) ⟨Same.upd hB, [], upd_same, Nat.le_refl _, .nil⟩ (fun j H' _ h => SqL.of (h.1 _ _ g117)) (fun j x H18 hx h => ?_) (fun H18 h => ?_)
      · obtain ⟨s18, fs, hB18, lfs, hpf⟩ := h
        rw [List.getElem?_map] at hx
        obtain ⟨t, ht, rfl⟩ := Option.map_eq_some_iff.mp hx
        obtain ⟨row, hrow, hr0⟩ := pget ps117 ht
        have hj : j < ts1.length := (List.getElem?_eq_some_iff.mp ht).1
        walk_at "rd"
        refine ⟨rfl, k_yes ?_⟩
        walk_at "rd"
        refine ⟨k_sz rfl, fun q hq => ?_⟩
        have hB19 := lk_new (o := .tup [.ref t, .ref l2]) hB18 hq
        have u1 : Tups H18 (upd H18 q (.tup [.ref t, .ref l2])) := tups_new hq
        have u2 : Tups (upd H18 q (.tup [.ref t, .ref l2])) (upd (upd H18 q (.tup [.ref t, .ref l2])) B (.lst (fs.map V.ref ++ [V.ref q]))) := tups_upd hB19 fun xs z => by cases z
        have gq : (upd H18 q (.tup [.ref t, .ref l2])) q = some (.tup [.ref t, .ref l2]) := upd_same
        have m1 : Sm B H18 (upd (upd H18 q (.tup [.ref t, .ref l2])) B (.lst (fs.map V.ref ++ [V.ref q]))) := fun a o n e => by
          rw [upd_ne n]
          exact lk_new e hq
        have u12 : Tups H18 (upd (upd H18 q (.tup [.ref t, .ref l2])) B (.lst (fs.map V.ref ++ [V.ref q]))) := fun a xs e => u2 _ _ (u1 _ _ e)
        have u17 : Tups H17 (upd (upd H18 q (.tup [.ref t, .ref l2])) B (.lst (fs.map V.ref ++ [V.ref q]))) := fun a xs e => u12 _ _ (s18 _ _ e)
        refine ⟨fs.map V.ref, hB19, k_szL (by rw [List.length_map]; omega), same_off (s18.trans (Same.upd hq)) hB, fs ++ [q], by rw [upd_same]; simp, by simp [lfs], ?_⟩
        rw [List.take_add_one, hrow]
        exact Paired.snoc (Paired.mapP hpf fun a b h => h.keep u12 m1) ⟨t, l2, ts2, u2 _ _ gq, hr0.keep u17, m1 _ _ nB2 (s18 _ _ g217), Paired.mapP ps217 fun a b h => h.keep u17, nB2⟩
      obtain ⟨s18, fs, hB18, lfs, hpf⟩ := h
      rw [List.length_map, ltA, List.take_length] at hpf
      walk_at "rd"
      refine rr_tw hB18 hpf la lo numO numA ?_
      walk_at "rd"
      rw [decide_eq_true rfl, Bool.not_true]
      refine iteF ?_
      have s1618 := s17.trans s18
      have T18 : TableAt C H18 p dx dT m after := T16.keep (Tups.same s1618) (fun o z => s1618 _ _ z) fun o z => s1618 _ _ z
      have hpt18 := hpt16.keep (Tups.same s1618)
      have g118 := s1618 _ _ g116
      have ps118 := Paired.mapP ps16 fun a b h => RowAt.keep h (Tups.same s1618)
      have rT18 := rT16.keep (Tups.same s1618)
      have D18 := D16.same s1618
      clear s17 s18 s1618 g17 ps17 g117 g217 ps117 ps217 hB18 hpf hB nB2 T16 hpt16 hpu16 g116 g216 ps16 ps216 rT16 D16 lfs
      walk_at "rd"
      refine ⟨d, e, _, _, rfl, D18, by omega, by rw [List.length_map]; omega, by rw [List.length_map]; omega, fun er H19 er0 er1 D19 x19 => ?_⟩
      rw [List.length_map, ltA] at er1
      obtain ⟨er, rfl⟩ := Int.eq_ofNat_of_zero_le er0
      have T19 : TableAt C H19 p dx dT m after := T18.keep (Ext.tups x19) (fun o z => x19.2 _ _ nDT z) fun o z => x19.2 _ _ nP z
      have hpt19 := hpt18.keep (Ext.tups x19)
      have g119 := x19.2 _ _ n1 g118
      have ps119 := Paired.mapP ps118 fun a b h => RowAt.keep h (Ext.tups x19)
      have rT19 := rT18.keep (Ext.tups x19)
      clear T18 hpt18 g118 ps118 rT18 D18 x19
      walk_at "rd"
      refine ⟨p, pt, dx, dT, m, all, after, rd, c, er, rfl, T19, hpt19, hcol, g.nd, lm, by omega, it8, mem8, fun l4 ts5 H20 s20 _ g20 ps20 => ?_⟩
      walk_at "rd"
      have numT : ∀ r ∈ all.take er, Num r.1 ∧ r.2.length ≤ 3 ∧ ∀ v ∈ r.2, Num v := fun r hr => numA r (List.mem_of_mem_take hr)
      have lT : (all.take er).length ≤ 1000 := by
        rw [List.length_take]
        omega
      refine rr_found g20 ps20 lT numT ?_
      have g120 := s20 _ _ g119
      have ps120 := Paired.mapP ps119 fun a b h => RowAt.keep h (Tups.same s20)
      walk_at "rd"
      refine ⟨l1, _, rfl, SqL.of g120, fun lt hlt => ?_⟩
      rw [cut_upto, ← List.map_take]
      have s21 := s20.trans (Same.upd (o := .lst ((ts1.take er).map V.ref)) hlt)
      have g21 : (upd H20 lt (.lst ((ts1.take er).map V.ref))) lt = some (.lst ((ts1.take er).map V.ref)) := upd_same
      have ps21 := Paired.mapP (paired_take ps120 er) fun a b h => RowAt.keep h (tups_new (o := .lst ((ts1.take er).map V.ref)) hlt)
      generalize upd H20 lt (.lst ((ts1.take er).map V.ref)) = H21 at s21 g21 ps21 ⊢
      walk_at "rd"
      refine rr_found g21 ps21 lT numT ?_
      walk_at "rd"
      rw [decide_eq_true rfl, Bool.not_true]
      refine iteF ?_
      have T21 : TableAt C H21 p dx dT m after := T19.keep (Tups.same s21) (fun o z => s21 _ _ z) fun o z => s21 _ _ z
      have hpt21 := hpt19.keep (Tups.same s21)
      have g121 := s21 _ _ g119
      have ps121 := Paired.mapP ps119 fun a b h => RowAt.keep h (Tups.same s21)
      have rT21 := rT19.keep (Tups.same s21)
      have D21 := D19.same s21
      clear T19 hpt19 g119 ps119 rT19 D19 s20 s21 g20 g21 ps20 ps21 g120 ps120
      have call : ∀ (H' : Hp) (Q' : VK), Same H21 H' → (∀ (rv : V) (H2 : Hp), Same H21 H2 → Same H' H2 → Told H2 rv all.head? → Q' rv H2) → spNext C [.ref p, .ref pt, .non, .non, .non] H' Q' E0 := by
        intro H' Q' s1 q
        have nb : (all.filter (fun x => beyond rd none (placeL rd c x))) = all := List.filter_eq_self.mpr fun _ _ => rfl
        refine ⟨p, pt, dx, dT, m, after, rd, c, .non, none, none, none, rfl, T21.keep (Tups.same s1) (fun o e => s1 _ _ e) (fun o e => s1 _ _ e), hpt21.keep (Tups.same s1), rfl, hcol, g.nd, by omega, fun e H2 s2 => q _ _ (s1.trans s2) s2 ?_, fun row t H2 hle s2 hrt => q _ _ (s1.trans s2) s2 ?_⟩
        · have := head_none (pl := none) mem8w e
          rw [nb] at this
          rw [this]
          rfl
        · have := head_least (pl := none) it8 mem8w hle
          rw [nb] at this
          rw [this]
          exact ⟨t, rfl, hrt⟩
      have hnl : ∀ row, all.head? = some row → Num row.1 ∧ row.2.length ≤ 3 ∧ ∀ v ∈ row.2, Num v := fun row e => numA row (List.mem_of_mem_head? e)
      walk_at "rd"
      unfold tMeth
      walk_at "rd"
      refine ⟨p, dx, _, rfl, T21.1, flds_no _ _ (by decide +kernel) (by decide +kernel), ?_⟩
      walk_at "rd"
      refine call H21 _ (Same.refl _) fun rv HA sA _ tA => ?_
      walk_at "rd"
      refine ⟨_, rfl, p, dx, _, rfl, sA _ _ T21.1, flds_no _ _ (by decide +kernel) (by decide +kernel), ?_⟩
      walk_at "rd"
      refine ⟨rfl, rfl, call HA _ sA fun rv2 HB sB sB' tB => ?_⟩
      walk_at "rd"
      refine ⟨k_sz rfl, fun N hN => ?_⟩
      have sC : Same H21 (upd HB N (.lst [rv, rv2])) := sB.trans (Same.upd hN)
      have gN : (upd HB N (.lst [rv, rv2])) N = some (.lst [rv, rv2]) := upd_same
      have tC1 := (tA.same sB').same (Same.upd (o := .lst [rv, rv2]) hN)
      have tC2 := tB.same (Same.upd (o := .lst [rv, rv2]) hN)
      generalize upd HB N (.lst [rv, rv2]) = HD at sC gN tC1 tC2 ⊢
      walk_at "rd"
      refine rr_two gN tC1 tC2 hnl ?_
      walk_at "rd"
      refine ⟨k_sz rfl, fun p1 h1 => ?_⟩
      have sE : Same H21 (upd HD p1 (.lst [.non])) := sC.trans (Same.upd h1)
      have hE1 : upd HD p1 (.lst [.non]) p1 = some (.lst [.non]) := upd_same
      generalize upd HD p1 (.lst [.non]) = HE at sE hE1 ⊢
      walk_at "rd"
      refine ⟨l1, p1, ts1.map V.ref, [.non], rfl, rfl, sE _ _ g121, hE1, by rw [List.length_map, sizeLine_eq]; show ts1.length + 1 ≤ _; omega, fun p2 h2 => ?_⟩
      have sF : Same H21 (upd HE p2 (.lst (ts1.map V.ref ++ [.non]))) := sE.trans (Same.upd h2)
      have hF2 : upd HE p2 (.lst (ts1.map V.ref ++ [.non])) p2 = some (.lst (ts1.map V.ref ++ [.non])) := upd_same
      generalize upd HE p2 (.lst (ts1.map V.ref ++ [.non])) = HF at sF hF2 ⊢
      obtain ⟨v, av, tv⟩ := told_head ps121
      walk_at "rd"
      refine k_ixqL (SqL.of hF2) av ?_
      walk_at "rd"
      refine ⟨k_sz rfl, fun p3 h3 => ?_⟩
      have sG : Same H21 (upd HF p3 (.lst [v])) := sF.trans (Same.upd h3)
      have hG3 : upd HF p3 (.lst [v]) p3 = some (.lst [v]) := upd_same
      generalize upd HF p3 (.lst [v]) = HG at sG hG3 ⊢
      walk_at "rd"
      refine ⟨p3, 2, [v], rfl, rfl, hG3, by decide, by decide, by rw [sizeLine_eq]; show 1 * 2 ≤ _; omega, fun p4 h4 => ?_⟩
      have sH : Same H21 (upd HG p4 (.lst (List.replicate (2 : Int).toNat [v]).flatten)) := sG.trans (Same.upd h4)
      have hH4 : upd HG p4 (.lst (List.replicate (2 : Int).toNat [v]).flatten) p4 = some (.lst [v, v]) := upd_same
      generalize upd HG p4 (.lst (List.replicate (2 : Int).toNat [v]).flatten) = HH at sH hH4 ⊢
      walk_at "rd"
      refine rr_two hH4 (tv.same sH) (tv.same sH) hnl ?_
      walk_at "rd"
      rw [decide_eq_true rfl, Bool.not_true]
      refine iteF ?_
      have T22 : TableAt C HH p dx dT m after := T21.keep (Tups.same sH) (fun o z => sH _ _ z) fun o z => sH _ _ z
      have hpt22 := hpt21.keep (Tups.same sH)
      have g122 := sH _ _ g121
      have ps122 := Paired.mapP ps121 fun a b h => RowAt.keep h (Tups.same sH)
      have rT22 := rT21.keep (Tups.same sH)
      have D22 := D21.same sH
      clear T21 hpt21 g121 ps121 rT21 D21 sA sB sB' sC sE sF sG sH tA tB tC1 tC2 gN hE1 hF2 hG3 hH4 tv av call
      walk_at "rd"
      have colA : ∀ row ∈ all, HasCol rd c row := fun row hr => hcol row ((mem8 row).mp hr)
      refine ⟨d, e, pt, l1, _, rd, c, ts1, all, rfl, D22, by omega, hpt22, g122, n1, ps122, la, colA, fun L ss H23 hL nLd lss hss D23 x23 => ?_⟩
      have T23 : TableAt C H23 p dx dT m after := T22.keep (Ext.tups x23) (fun o z => x23.2 _ _ nDT z) fun o z => x23.2 _ _ nP z
      have hpt23 := hpt22.keep (Ext.tups x23)
      have g123 := x23.2 _ _ n1 g122
      have ps123 := Paired.mapP ps122 fun a b h => RowAt.keep h (Ext.tups x23)
      have rT23 := rT22.keep (Ext.tups x23)
      walk_at "rd"
      try unfold tLc
      try walk_at "rd"
      refine ⟨L, rfl, ⟨_, SqL.of hL⟩, fun B hB => ?_⟩
      refine lc_list (xs := ss.map V.ref) (fun j H' => Same H23 H' ∧ H' B = some (.lst [])) ⟨Same.upd hB, upd_same⟩ (fun j H' _ h => SqL.of (h.1 _ _ hL)) (fun j x H1 hx h => ?_) (fun H24 h => ?_)
      · obtain ⟨s1, hB1⟩ := h
        rw [List.getElem?_map] at hx
        obtain ⟨q, hq, rfl⟩ := Option.map_eq_some_iff.mp hx
        obtain ⟨ys, u1⟩ := hss q (List.mem_of_getElem? hq)
        walk_at "rd"
        refine ⟨rfl, ?_⟩
        walk_at "rd"
        refine ⟨p, pt, l1, q, dx, dT, rd, c, m, after, ts1, all, ys, rfl, hpt23.keep (Tups.same s1), T23.keep (Tups.same s1) (fun o z => s1 _ _ z) (fun o z => s1 _ _ z), s1 _ _ u1, s1 _ _ g123, Paired.mapP ps123 (fun a b h => RowAt.keep h (Tups.same s1)), it8, mem8, hcol, g.nd, lm, hnum, fun H' s2 => ?_⟩
        walk_at "rd"
        rw [Bool.not_true]
        refine iteF ?_
        exact ⟨s1.trans s2, s2 _ _ hB1⟩
      obtain ⟨s24, hB24⟩ := h
      walk_at "rd"
      refine ⟨k_sz rfl, fun N hN => ?_⟩
      refine ne_lst0 (lk_new hB24 hN) upd_same ?_
      walk_at "rd"
      refine iteF ?_
      have s25 : Same H23 (upd H24 N (.lst [])) := s24.trans (Same.upd hN)
      generalize upd H24 N (.lst []) = H25 at s25 ⊢
      have T25 : TableAt C H25 p dx dT m after := T23.keep (Tups.same s25) (fun o z => s25 _ _ z) fun o z => s25 _ _ z
      have rT25 := rT23.keep (Tups.same s25)
      have D25 := D23.same s25
      walk_at "rd"
      refine ⟨_, rfl, p, dx, _, rfl, T25.1, p, dx, dT, m, after, rfl, T25, g.nd, by omega, fun ms q H26 asc s26 out => ?_⟩
      have rQ26 : RowsT H26 q m := by
        obtain ⟨us, u1, u2⟩ := out
        rw [out_same asc ga] at u2
        exact ⟨us, u1, u2⟩
      have T26 : TableAt C H26 p dx dT m after := T25.keep (Tups.same s26) (fun o z => s26 _ _ z) fun o z => s26 _ _ z
      have rB26 := rT25.keep (Tups.same s26)
      walk_at "rd"
      refine rr_rows rQ26 (by omega) hnum ?_
      walk_at "rd"
      refine rr_rows rB26 (by omega) hnum ?_
      walk_at "rd"
      rw [decide_eq_true rfl, Bool.not_true]
      refine iteF ?_
      walk_at "rd"
      refine ⟨p, dx, _, rfl, T26.1, p, dx, dT, m, after, rfl, T26, m.length, rfl, by rw [sizeLine_eq]; omega, ?_⟩
      walk_at "rd"
      obtain ⟨us, u1, u2⟩ := rB26
      refine ⟨bt, _, rfl, .inr (SqT.of u1), ?_⟩
      rw [List.length_map, Paired.length u2]
      walk_at "rd"
      rw [decide_eq_true rfl, Bool.not_true]
      refine iteF ?_
      exact ⟨_, _, _, _, _, _, _, _, _, _, rfl, (D25.same s26).mono (by omega)⟩
    · obtain ⟨o2, o3, o4, o5, o6, o7, o8, o9, oa, ob, rfl, Ds⟩ := h
      walk_at "rd"
      exact k _
end
end K22

set_option Elab.async false
set_option maxRecDepth 100000
set_option maxHeartbeats 4000000
set_option linter.unusedVariables false
namespace K22
open PySem PySem.Spec PyProof.Rows L2 Own
/-- keywords for a def with defaults of both kinds; ms: the keyword-only ones that lack -/
theorem kb_both {K : PySem.W.Frag} {x qual : Str} {params : Arguments} {body : List Stmt} {scope : Scope} {kws ms : List (Str × V)} {dvs : List V} {f : Addr} {fd : FuncData} {ps ks : List Str} {n : Nat} {g : List Value → List Value → List Value} {gV : List V → List V → List V}
    (F : FunD K x qual params body scope dvs kws f fd) (hd : dvs ≠ []) (hk : kws ≠ []) (hms : ∀ q ∈ ms, q ∈ kws)
    (rel : ∀ {vs : List V} {us : List Value} {zs : List V} {ws : List Value}, Vals vs us → Vals zs ws → Vals (gV vs zs) (g us ws))
    (h : ∀ (T D : Addr) (doc pm : Value) (an : Option Addr) (cdv ct : Value) (us its mv ws : List Value), us.length = n → Vals dvs its → Vals (ms.map (·.2)) mv → ws.length = ks.length →
      ∃ k, bindArgs (PySem.W.fnOf x qual params body scope (.ref T) (.ref D) doc pm an cdv ct) ⟨us, ks.zip ws⟩ = seqItems? (.ref T) >>= k ∧ KwChain D ((ms.map (·.1)).zip mv) (k (some its.toArray)) (ps.zip (g us ws))) : KBn K fd ps n ks g gV := by
  obtain ⟨oc, od, dV, kV, doc, pm, an, cdv, ct, osl, rfl, lk, hcd, hD, hK⟩ := F.ex
  rcases hD with ⟨e, _⟩ | ⟨_, T, o, its, m, rfl, lT, oT, rT⟩
  · exact absurd e hd
  · rcases hK with e | ⟨D, rfl, hq⟩
    · exact absurd e hk
    · obtain ⟨mv, hl, rk, hks⟩ := kwd_vals (ms := ms) fun q hm => hq q (hms q hm)
      refine ⟨fun s us ws X l1 l2 => ?_, rel⟩
      obtain ⟨k, e1, e2⟩ := h T D doc pm an cdv ct us its mv ws l1 rT rk l2
      refine BindsTo.of_looks fun M => ?_
      rw [e1]
      exact looks_items X lT oT (KwChain.looks X hks e2)
theorem relN2 {vs zs : List V} {us ws : List Value} (a : Vals vs us) (b : Vals zs ws) : Vals (gN2V vs zs) (gN2 us ws) := a.append (.cons rfl b)
theorem relN3 {vs zs : List V} {us ws : List Value} (a : Vals vs us) (b : Vals zs ws) : Vals (gN3V vs zs) (gN3 us ws) := a.append b
theorem relQN {vs zs : List V} {us ws : List Value} (a : Vals vs us) (b : Vals zs ws) : Vals (gQV vs zs) (gQN us ws) := a.append (b.append (.cons rfl (.cons rfl (.cons rfl .nil))))
theorem relRN {vs zs : List V} {us ws : List Value} (a : Vals vs us) (b : Vals zs ws) : Vals (gRV vs zs) (gRN us ws) := a.append (b.append (.cons rfl (.cons rfl .nil)))
theorem relPN {vs zs : List V} {us ws : List Value} (a : Vals vs us) (b : Vals zs ws) : Vals (gPV vs zs) (gPN us ws) := by
  unfold gPV gPN
  refine a.append ?_
  rcases b with _ | ⟨b1, _ | ⟨b2, _ | ⟨b3, b4⟩⟩⟩
  · exact .nil
  · exact .nil
  · exact .cons b2 (.cons b1 (.cons rfl (.cons rfl .nil)))
  · exact .nil
theorem all_mk {l : PySem.W.OpenLaw} {w : World} {K : PySem.W.Frag} {h : Heap} {mg : Str → Option Value} {fa C T0 T1 D1 D2 e0 pr : Addr} (X : K.In h) (G : h.Ns mainGlobals mg) (hfa : mg "law" = some (.ref fa))
    {fI : Addr} {odI anI : Option Addr} {slI : Array (Option Value)} {ocI kVI dcI pmI cdI ctI : Value}
    {flen : Addr} {odlen anlen : Option Addr} {sllen : Array (Option Value)} {oclen kVlen dclen pmlen cdlen ctlen : Value}
    {fnext : Addr} {odnext annext : Option Addr} {slnext : Array (Option Value)} {ocnext dcnext pmnext cdnext ctnext : Value}
    {fscan : Addr} {odscan anscan : Option Addr} {slscan : Array (Option Value)} {ocscan dcscan pmscan cdscan ctscan : Value}
    {frows : Addr} {odrows anrows : Option Addr} {slrows : Array (Option Value)} {ocrows kVrows dcrows pmrows cdrows ctrows : Value}
    {ocT ocT1 : Value} {odT odT1 : Option Addr} {slT slT1 : Array (Option Value)} {nT nT1 : Nat} {restP : List Value} {tk0 : Tok}
    (aC : PySem.W.nsIn K mainGlobals "LiveTable" = some (some (.ref C)))
    (pg : PySem.W.plainGet K C Str.empty = true)
    (hd : PySem.W.hasDictIn K C = true)
    (po : PySem.W.plainOver K C = true)
    (sa : PySem.W.findIn K (.ref C) "__setattr__" = some (some (.builtin "object.__setattr__")))
    (nR : PySem.W.findIn K (.ref C) "_rows" = some none)
    (nF : PySem.W.findIn K (.ref C) "_following" = some none)
    (mki : PySem.W.makesIn K C = true)
    (kC : PySem.W.keepIn K (.ref C) = true)
    (aI : PySem.W.findIn K (.ref C) "__init__" = some (some (.ref fI)))
    (iI : PySem.W.isFn K (.ref fI) = true)
    (lI : K.lookup fI = some ⟨ocI, odI, .func (PySem.W.fnOf "__init__" "LiveTable.__init__" (defArgs s_LiveTable___init__) (defBody s_LiveTable___init__) (defScope s_LiveTable___init__) (.ref T0) kVI dcI pmI anI cdI ctI), slI⟩)
    (cI : PySem.W.codeIn K cdI "LiveTable.__init__" = true)
    (kI : PySem.W.keepIn K (.ref fI) = true)
    (lT : K.lookup T0 = some ⟨ocT, odT, .seq #[.ref e0, .int 0 tk0] nT, slT⟩)
    (alen : PySem.W.findIn K (.ref C) "__len__" = some (some (.ref flen)))
    (ilen : PySem.W.isFn K (.ref flen) = true)
    (llen : K.lookup flen = some ⟨oclen, odlen, .func (PySem.W.fnOf "__len__" "LiveTable.__len__" (defArgs s_LiveTable___len__) (defBody s_LiveTable___len__) (defScope s_LiveTable___len__) .none kVlen dclen pmlen anlen cdlen ctlen), sllen⟩)
    (clen : PySem.W.codeIn K cdlen "LiveTable.__len__" = true)
    (klen : PySem.W.keepIn K (.ref flen) = true)
    (anext : PySem.W.findIn K (.ref C) "next_row" = some (some (.ref fnext)))
    (inext : PySem.W.isFn K (.ref fnext) = true)
    (lnext : K.lookup fnext = some ⟨ocnext, odnext, .func (PySem.W.fnOf "next_row" "LiveTable.next_row" (defArgs s_LiveTable_next_row) (defBody s_LiveTable_next_row) (defScope s_LiveTable_next_row) (.ref T1) (.ref D1) dcnext pmnext annext cdnext ctnext), slnext⟩)
    (cnext : PySem.W.codeIn K cdnext "LiveTable.next_row" = true)
    (knext : PySem.W.keepIn K (.ref fnext) = true)
    (lT1 : K.lookup T1 = some ⟨ocT1, odT1, .seq #[.none] nT1, slT1⟩)
    (dnl : PySem.W.nsIn K D1 "least" = some (some .none))
    (dnm : PySem.W.nsIn K D1 "most" = some (some .none))
    (ascan : PySem.W.findIn K (.ref C) "scan" = some (some (.ref fscan)))
    (iscan : PySem.W.isFn K (.ref fscan) = true)
    (lscan : K.lookup fscan = some ⟨ocscan, odscan, .func (PySem.W.fnOf "scan" "LiveTable.scan" (defArgs s_LiveTable_scan) (defBody s_LiveTable_scan) (defScope s_LiveTable_scan) .none (.ref D2) dcscan pmscan anscan cdscan ctscan), slscan⟩)
    (cscan : PySem.W.codeIn K cdscan "LiveTable.scan" = true)
    (kscan : PySem.W.keepIn K (.ref fscan) = true)
    (dl : PySem.W.nsIn K D2 "least" = some (some .none))
    (dm : PySem.W.nsIn K D2 "most" = some (some .none))
    (aP : PySem.W.findIn K (.ref C) "rows" = some (some (.ref pr)))
    (gP : PySem.W.specialIn K (.ref pr) "__get__" = some (some (.builtin "property.__get__")))
    (tP : PySem.W.takesIn K (.ref pr) = some true)
    (rP : PySem.W.recIn K pr "property" = some (.ref frows :: restP))
    (lrows : K.lookup frows = some ⟨ocrows, odrows, .func (PySem.W.fnOf "rows" "LiveTable.rows" (defArgs s_LiveTable_rows) (defBody s_LiveTable_rows) (defScope s_LiveTable_rows) .none kVrows dcrows pmrows anrows cdrows ctrows), slrows⟩)
    (crows : PySem.W.codeIn K cdrows "LiveTable.rows" = true)
    (krows : PySem.W.keepIn K (.ref frows) = true)
    {f1 : Addr} {od1 an1 : Option Addr} {sl1 : Array (Option Value)} {oc1 kV1 dc1 pm1 cd1 ct1 : Value}
    (a1 : PySem.W.nsIn K mainGlobals "place_of" = some (some (.ref f1))) (l1 : K.lookup f1 = some ⟨oc1, od1, .func (PySem.W.fnOf "place_of" "place_of" (defArgs s_place_of) (defBody s_place_of) (defScope s_place_of) .none kV1 dc1 pm1 an1 cd1 ct1), sl1⟩)
    (c1 : PySem.W.codeIn K cd1 "place_of" = true) (k1 : PySem.W.keepIn K (.ref f1) = true)
    {f2 : Addr} {od2 an2 : Option Addr} {sl2 : Array (Option Value)} {oc2 kV2 dc2 pm2 cd2 ct2 : Value}
    (a2 : PySem.W.nsIn K mainGlobals "comes_first" = some (some (.ref f2))) (l2 : K.lookup f2 = some ⟨oc2, od2, .func (PySem.W.fnOf "comes_first" "comes_first" (defArgs s_comes_first) (defBody s_comes_first) (defScope s_comes_first) .none kV2 dc2 pm2 an2 cd2 ct2), sl2⟩)
    (c2 : PySem.W.codeIn K cd2 "comes_first" = true) (k2 : PySem.W.keepIn K (.ref f2) = true)
    {f3 : Addr} {od3 an3 : Option Addr} {sl3 : Array (Option Value)} {oc3 kV3 dc3 pm3 cd3 ct3 : Value}
    (a3 : PySem.W.nsIn K mainGlobals "_is_within" = some (some (.ref f3))) (l3 : K.lookup f3 = some ⟨oc3, od3, .func (PySem.W.fnOf "_is_within" "_is_within" (defArgs s__is_within) (defBody s__is_within) (defScope s__is_within) .none kV3 dc3 pm3 an3 cd3 ct3), sl3⟩)
    (c3 : PySem.W.codeIn K cd3 "_is_within" = true) (k3 : PySem.W.keepIn K (.ref f3) = true)
    {f4 : Addr} {od4 an4 : Option Addr} {sl4 : Array (Option Value)} {oc4 kV4 dc4 pm4 cd4 ct4 : Value}
    (a4 : PySem.W.nsIn K mainGlobals "_law_deck" = some (some (.ref f4))) (l4 : K.lookup f4 = some ⟨oc4, od4, .func (PySem.W.fnOf "_law_deck" "_law_deck" (defArgs s_deck) (defBody s_deck) (defScope s_deck) .none kV4 dc4 pm4 an4 cd4 ct4), sl4⟩)
    (c4 : PySem.W.codeIn K cd4 "_law_deck" = true) (k4 : PySem.W.keepIn K (.ref f4) = true)
    {f5 : Addr} {od5 an5 : Option Addr} {sl5 : Array (Option Value)} {oc5 kV5 dc5 pm5 cd5 ct5 : Value}
    (a5 : PySem.W.nsIn K mainGlobals "_law_draw" = some (some (.ref f5))) (l5 : K.lookup f5 = some ⟨oc5, od5, .func (PySem.W.fnOf "_law_draw" "_law_draw" (defArgs s_draw) (defBody s_draw) (defScope s_draw) .none kV5 dc5 pm5 an5 cd5 ct5), sl5⟩)
    (c5 : PySem.W.codeIn K cd5 "_law_draw" = true) (k5 : PySem.W.keepIn K (.ref f5) = true)
    {f6 : Addr} {od6 an6 : Option Addr} {sl6 : Array (Option Value)} {oc6 kV6 dc6 pm6 cd6 ct6 : Value}
    (a6 : PySem.W.nsIn K mainGlobals "_law_pick" = some (some (.ref f6))) (l6 : K.lookup f6 = some ⟨oc6, od6, .func (PySem.W.fnOf "_law_pick" "_law_pick" (defArgs s_pick) (defBody s_pick) (defScope s_pick) .none kV6 dc6 pm6 an6 cd6 ct6), sl6⟩)
    (c6 : PySem.W.codeIn K cd6 "_law_pick" = true) (k6 : PySem.W.keepIn K (.ref f6) = true)
    {f7 : Addr} {od7 an7 : Option Addr} {sl7 : Array (Option Value)} {oc7 kV7 dc7 pm7 cd7 ct7 : Value}
    (a7 : PySem.W.nsIn K mainGlobals "_law_rows" = some (some (.ref f7))) (l7 : K.lookup f7 = some ⟨oc7, od7, .func (PySem.W.fnOf "_law_rows" "_law_rows" (defArgs s_rows) (defBody s_rows) (defScope s_rows) .none kV7 dc7 pm7 an7 cd7 ct7), sl7⟩)
    (c7 : PySem.W.codeIn K cd7 "_law_rows" = true) (k7 : PySem.W.keepIn K (.ref f7) = true)
    {f8 : Addr} {od8 an8 : Option Addr} {sl8 : Array (Option Value)} {oc8 kV8 dc8 pm8 cd8 ct8 : Value}
    (a8 : PySem.W.nsIn K mainGlobals "_law_road" = some (some (.ref f8))) (l8 : K.lookup f8 = some ⟨oc8, od8, .func (PySem.W.fnOf "_law_road" "_law_road" (defArgs s_road) (defBody s_road) (defScope s_road) .none kV8 dc8 pm8 an8 cd8 ct8), sl8⟩)
    (c8 : PySem.W.codeIn K cd8 "_law_road" = true) (k8 : PySem.W.keepIn K (.ref f8) = true)
    {f9 : Addr} {od9 an9 : Option Addr} {sl9 : Array (Option Value)} {oc9 kV9 dc9 pm9 cd9 ct9 : Value}
    (a9 : PySem.W.nsIn K mainGlobals "_law_spot" = some (some (.ref f9))) (l9 : K.lookup f9 = some ⟨oc9, od9, .func (PySem.W.fnOf "_law_spot" "_law_spot" (defArgs s_spot) (defBody s_spot) (defScope s_spot) .none kV9 dc9 pm9 an9 cd9 ct9), sl9⟩)
    (c9 : PySem.W.codeIn K cd9 "_law_spot" = true) (k9 : PySem.W.keepIn K (.ref f9) = true)
    {f10 : Addr} {od10 an10 : Option Addr} {sl10 : Array (Option Value)} {oc10 kV10 dc10 pm10 cd10 ct10 : Value}
    (a10 : PySem.W.nsIn K mainGlobals "_law_beyond" = some (some (.ref f10))) (l10 : K.lookup f10 = some ⟨oc10, od10, .func (PySem.W.fnOf "_law_beyond" "_law_beyond" (defArgs s_beyond) (defBody s_beyond) (defScope s_beyond) .none kV10 dc10 pm10 an10 cd10 ct10), sl10⟩)
    (c10 : PySem.W.codeIn K cd10 "_law_beyond" = true) (k10 : PySem.W.keepIn K (.ref f10) = true)
    {f11 : Addr} {od11 an11 : Option Addr} {sl11 : Array (Option Value)} {oc11 kV11 dc11 pm11 cd11 ct11 : Value}
    (a11 : PySem.W.nsIn K mainGlobals "_law_ordered" = some (some (.ref f11))) (l11 : K.lookup f11 = some ⟨oc11, od11, .func (PySem.W.fnOf "_law_ordered" "_law_ordered" (defArgs s_ordered) (defBody s_ordered) (defScope s_ordered) .none kV11 dc11 pm11 an11 cd11 ct11), sl11⟩)
    (c11 : PySem.W.codeIn K cd11 "_law_ordered" = true) (k11 : PySem.W.keepIn K (.ref f11) = true)
    {f12 : Addr} {od12 an12 : Option Addr} {sl12 : Array (Option Value)} {oc12 kV12 dc12 pm12 cd12 ct12 : Value}
    (a12 : PySem.W.nsIn K mainGlobals "_law_first" = some (some (.ref f12))) (l12 : K.lookup f12 = some ⟨oc12, od12, .func (PySem.W.fnOf "_law_first" "_law_first" (defArgs s_first) (defBody s_first) (defScope s_first) .none kV12 dc12 pm12 an12 cd12 ct12), sl12⟩)
    (c12 : PySem.W.codeIn K cd12 "_law_first" = true) (k12 : PySem.W.keepIn K (.ref f12) = true)
    {f13 : Addr} {od13 an13 : Option Addr} {sl13 : Array (Option Value)} {oc13 kV13 dc13 pm13 cd13 ct13 : Value}
    (a13 : PySem.W.nsIn K mainGlobals "_law_twice" = some (some (.ref f13))) (l13 : K.lookup f13 = some ⟨oc13, od13, .func (PySem.W.fnOf "_law_twice" "_law_twice" (defArgs s_twice) (defBody s_twice) (defScope s_twice) .none kV13 dc13 pm13 an13 cd13 ct13), sl13⟩)
    (c13 : PySem.W.codeIn K cd13 "_law_twice" = true) (k13 : PySem.W.keepIn K (.ref f13) = true)
    {f14 : Addr} {od14 an14 : Option Addr} {sl14 : Array (Option Value)} {oc14 kV14 dc14 pm14 cd14 ct14 : Value}
    (a14 : PySem.W.nsIn K mainGlobals "_law_spots" = some (some (.ref f14))) (l14 : K.lookup f14 = some ⟨oc14, od14, .func (PySem.W.fnOf "_law_spots" "_law_spots" (defArgs s_spots) (defBody s_spots) (defScope s_spots) .none kV14 dc14 pm14 an14 cd14 ct14), sl14⟩)
    (c14 : PySem.W.codeIn K cd14 "_law_spots" = true) (k14 : PySem.W.keepIn K (.ref f14) = true)
    {f15 : Addr} {od15 an15 : Option Addr} {sl15 : Array (Option Value)} {oc15 kV15 dc15 pm15 cd15 ct15 : Value}
    (a15 : PySem.W.nsIn K mainGlobals "_law_next_right" = some (some (.ref f15))) (l15 : K.lookup f15 = some ⟨oc15, od15, .func (PySem.W.fnOf "_law_next_right" "_law_next_right" (defArgs s_next_right) (defBody s_next_right) (defScope s_next_right) .none kV15 dc15 pm15 an15 cd15 ct15), sl15⟩)
    (c15 : PySem.W.codeIn K cd15 "_law_next_right" = true) (k15 : PySem.W.keepIn K (.ref f15) = true)
    {f16 : Addr} {od16 an16 : Option Addr} {sl16 : Array (Option Value)} {oc16 kV16 dc16 pm16 cd16 ct16 : Value}
    (a16 : PySem.W.nsIn K mainGlobals "law" = some (some (.ref f16))) (l16 : K.lookup f16 = some ⟨oc16, od16, .func (PySem.W.fnOf "law" "law" (defArgs s_law) (defBody s_law) (defScope s_law) .none kV16 dc16 pm16 an16 cd16 ct16), sl16⟩)
    (c16 : PySem.W.codeIn K cd16 "law" = true) (k16 : PySem.W.keepIn K (.ref f16) = true)
    (z_list : PySem.W.nsIn K mainGlobals "list" = some none)
    (z_len : PySem.W.nsIn K mainGlobals "len" = some none)
    (z_tuple : PySem.W.nsIn K mainGlobals "tuple" = some none)
    (z_range : PySem.W.nsIn K mainGlobals "range" = some none)
    (z_repr : PySem.W.nsIn K mainGlobals "repr" = some none)
    (z_sorted : PySem.W.nsIn K mainGlobals "sorted" = some none)
    (z_max : PySem.W.nsIn K mainGlobals "max" = some none)
    (z_min : PySem.W.nsIn K mainGlobals "min" = some none)
    (z_abs : PySem.W.nsIn K mainGlobals "abs" = some none) :
    ∃ fd : FuncData, (∀ (s : Shared) (v : Value), BindsTo s fd ⟨[v], []⟩ [("_law_script", v)]) ∧
      ∀ g0 : Heap, K.In g0 → g0.Ns mainGlobals mg → GOk l.prog w K mg g0 CX0 8 fa fd ["_law_script"] (spLaw K) := by
  have e := hfa.symm.trans (PySem.W.mg_of X G a16)
  cases e
  have F1 := fun_mk (st := s_place_of) l1 c1 k1
  have b1 := F1.binds (ps := ["path", "row"]) fun _ _ _ _ _ _ us hl => match us, hl with | [_, _], _ => rfl
  have F2 := fun_mk (st := s_comes_first) l2 c2 k2
  have b2 := F2.binds (ps := ["path", "place", "other"]) fun _ _ _ _ _ _ us hl => match us, hl with | [_, _, _], _ => rfl
  have F3 := fun_mk (st := s__is_within) l3 c3 k3
  have b3 := F3.binds (ps := ["path", "row", "least", "most"]) fun _ _ _ _ _ _ us hl => match us, hl with | [_, _, _, _], _ => rfl
  have F4 := fun_mk (st := s_deck) l4 c4 k4
  have b4 := F4.binds (ps := ["_law_script"]) fun _ _ _ _ _ _ us hl => match us, hl with | [_], _ => rfl
  have F5 := fun_mk (st := s_draw) l5 c5 k5
  have b5 := F5.binds (ps := ["_law_deck_here", "_law_many"]) fun _ _ _ _ _ _ us hl => match us, hl with | [_, _], _ => rfl
  have F6 := fun_mk (st := s_pick) l6 c6 k6
  have b6 := F6.binds (ps := ["_law_deck_here", "_law_some"]) fun _ _ _ _ _ _ us hl => match us, hl with | [_, _], _ => rfl
  have F7 := fun_mk (st := s_rows) l7 c7 k7
  have b7 := F7.binds (ps := ["_law_deck_here", "_law_many", "_law_most_rows"]) fun _ _ _ _ _ _ us hl => match us, hl with | [_, _, _], _ => rfl
  have F8 := fun_mk (st := s_road) l8 c8 k8
  have b8 := F8.binds (ps := ["_law_deck_here", "_law_many"]) fun _ _ _ _ _ _ us hl => match us, hl with | [_, _], _ => rfl
  have F9 := fun_mk (st := s_spot) l9 c9 k9
  have b9 := F9.binds (ps := ["_law_road_here", "_law_row"]) fun _ _ _ _ _ _ us hl => match us, hl with | [_, _], _ => rfl
  have F10 := fun_mk (st := s_beyond) l10 c10 k10
  have b10 := F10.binds (ps := ["_law_road_here", "_law_last", "_law_spot_here"]) fun _ _ _ _ _ _ us hl => match us, hl with | [_, _, _], _ => rfl
  have F11 := fun_mk (st := s_ordered) l11 c11 k11
  have b11 := F11.binds (ps := ["_law_road_here", "_law_rows_here"]) fun _ _ _ _ _ _ us hl => match us, hl with | [_, _], _ => rfl
  have F12 := fun_mk (st := s_first) l12 c12 k12
  have b12 := F12.binds (ps := ["_law_table", "_law_road_here", "_law_many"]) fun _ _ _ _ _ _ us hl => match us, hl with | [_, _, _], _ => rfl
  have F13 := fun_mk (st := s_twice) l13 c13 k13
  have b13 := F13.binds (ps := ["_law_table", "_law_road_here", "_law_further"]) fun _ _ _ _ _ _ us hl => match us, hl with | [_, _, _], _ => rfl
  have F14 := fun_mk (st := s_spots) l14 c14 k14
  have b14 := F14.binds (ps := ["_law_deck_here", "_law_road_here", "_law_due"]) fun _ _ _ _ _ _ us hl => match us, hl with | [_, _, _], _ => rfl
  have F15 := fun_mk (st := s_next_right) l15 c15 k15
  have b15 := F15.binds (ps := ["_law_table", "_law_road_here", "_law_due", "_law_spot_here"]) fun _ _ _ _ _ _ us hl => match us, hl with | [_, _, _, _], _ => rfl
  have Flen := fun_mk (st := s_LiveTable___len__) llen clen klen
  have Frows := fun_mk (st := s_LiveTable_rows) lrows crows krows
  have Fscan := fun_mk (st := s_LiveTable_scan) lscan cscan kscan
  have blen := Flen.binds (ps := ["self"]) fun _ _ _ _ _ _ us hl => match us, hl with | [_], _ => rfl
  have brows := Frows.binds (ps := ["self"]) fun _ _ _ _ _ _ us hl => match us, hl with | [_], _ => rfl
  have y_list := PySem.W.mg_none_of X G z_list
  have y_len := PySem.W.mg_none_of X G z_len
  have y_tuple := PySem.W.mg_none_of X G z_tuple
  have y_range := PySem.W.mg_none_of X G z_range
  have y_repr := PySem.W.mg_none_of X G z_repr
  have y_sorted := PySem.W.mg_none_of X G z_sorted
  have y_max := PySem.W.mg_none_of X G z_max
  have y_min := PySem.W.mg_none_of X G z_min
  have y_abs := PySem.W.mg_none_of X G z_abs
  have FI : FunD K "__init__" "LiveTable.__init__" (defArgs s_LiveTable___init__) (defBody s_LiveTable___init__) (defScope s_LiveTable___init__) [V.ref e0, V.int 0] [] fI _ :=
    ⟨⟨_, _, _, _, _, _, _, _, _, _, rfl, lI, cI, .inr ⟨by simp, T0, _, [.ref e0, .int 0 tk0], nT, rfl, lT, rfl, .cons rfl (.cons ⟨_, rfl⟩ .nil)⟩, .inl rfl⟩, kI⟩
  obtain ⟨ds3, v3, bI3⟩ := FI.binds1 (ps := ["self", "rows", "following"]) 3 2 (by simp) rfl fun _ _ _ _ _ _ _ us its h1 h2 => match us, h1, its, h2 with | [_, _, _], _, [_, _], _ => ⟨_, rfl, rfl⟩
  cases v3
  have FN : FunD K "next_row" "LiveTable.next_row" (defArgs s_LiveTable_next_row) (defBody s_LiveTable_next_row) (defScope s_LiveTable_next_row) [V.non] [] fnext _ :=
    ⟨⟨_, _, _, _, _, _, _, _, _, _, rfl, lnext, cnext, .inr ⟨by simp, T1, _, [.none], nT1, rfl, lT1, rfl, .cons rfl .nil⟩, .inl rfl⟩, knext⟩
  have kn2 : KBn K _ ["self", "path", "place", "least", "most"] 2 ["least", "most"] gN2 gN2V := kb_def FN (by simp) relN2 fun _ _ _ _ _ _ _ us its ws h1 h2 h3 => match us, h1, its, h2, ws, h3 with | [_, _], _, [_], .cons rfl .nil, [_, _], _ => ⟨_, rfl, rfl⟩
  have kn3 : KBn K _ ["self", "path", "place", "least", "most"] 3 ["least", "most"] gN3 gN3V := kb_def FN (by simp) relN3 fun _ _ _ _ _ _ _ us its ws h1 h2 h3 => match us, h1, its, h2, ws, h3 with | [_, _, _], _, [_], .cons rfl .nil, [_, _], _ => ⟨_, rfl, rfl⟩
  have FN2 : FunD K "next_row" "LiveTable.next_row" (defArgs s_LiveTable_next_row) (defBody s_LiveTable_next_row) (defScope s_LiveTable_next_row) [V.non] [("least", V.non), ("most", V.non)] fnext _ :=
    ⟨⟨_, _, _, _, _, _, _, _, _, _, rfl, lnext, cnext, .inr ⟨by simp, T1, _, [.none], nT1, rfl, lT1, rfl, .cons rfl .nil⟩, .inr ⟨D1, rfl, fun q hq => by
      rcases List.mem_cons.mp hq with e | hq
      · rw [e]
        exact ⟨_, dnl, rfl⟩
      · rw [List.mem_singleton.mp hq]
        exact ⟨_, dnm, rfl⟩⟩⟩, knext⟩
  obtain ⟨dsa, va, bna⟩ := FN2.binds (ps := ["self", "path", "place", "least", "most"]) 3 1 (by simp) rfl (fun _ _ _ _ _ _ _ us its ks h1 h2 h3 => match us, h1, its, h2, ks, h3 with | [_, _, _], _, [_], _, [_, _], _ => ⟨_, rfl, _, _, _, _, _, _, rfl, rfl, _, _, _, _, _, _, rfl, rfl, rfl⟩) (by simp)
  obtain ⟨dsb, vb, bnb⟩ := FN2.binds (ps := ["self", "path", "place", "least", "most"]) 2 0 (by simp) rfl (fun _ _ _ _ _ _ _ us its ks h1 h2 h3 => match us, h1, its, h2, ks, h3 with | [_, _], _, [_], _, [_, _], _ => ⟨_, rfl, _, _, _, _, _, _, rfl, rfl, _, _, _, _, _, _, rfl, rfl, rfl⟩) (by simp)
  have knp : KBn K _ ["self", "path", "place", "least", "most"] 1 ["place", "path"] gPN gPV := kb_both FN2 (ms := [("least", V.non), ("most", V.non)]) (by simp) (by simp) (fun q h => h) relPN fun _ _ _ _ _ _ _ us its mv ws h1 h2 h3 h4 => match us, h1, its, h2, mv, h3, ws, h4 with
    | [_], _, [_], .cons rfl .nil, [_, _], .cons rfl (.cons rfl .nil), [_, _], _ => ⟨_, rfl, _, _, _, _, _, _, rfl, rfl, _, _, _, _, _, _, rfl, rfl, rfl⟩
  have knq : KBn K _ ["self", "path", "place", "least", "most"] 1 ["path"] gQN gQV := kb_both FN2 (ms := [("least", V.non), ("most", V.non)]) (by simp) (by simp) (fun q h => h) relQN fun _ _ _ _ _ _ _ us its mv ws h1 h2 h3 h4 => match us, h1, its, h2, mv, h3, ws, h4 with
    | [_], _, [_], .cons rfl .nil, [_, _], .cons rfl (.cons rfl .nil), [_], _ => ⟨_, rfl, _, _, _, _, _, _, rfl, rfl, _, _, _, _, _, _, rfl, rfl, rfl⟩
  have FK : FunD K "scan" "LiveTable.scan" (defArgs s_LiveTable_scan) (defBody s_LiveTable_scan) (defScope s_LiveTable_scan) [] [("least", V.non), ("most", V.non)] fscan _ := funK_mk lscan cscan kscan fun q hq => by
    rcases List.mem_cons.mp hq with e | hq
    · rw [e]
      exact ⟨_, dl, rfl⟩
    · rw [List.mem_singleton.mp hq]
      exact ⟨_, dm, rfl⟩
  obtain ⟨dsk, vk, bk⟩ := FK.binds0 (ps := ["self", "path", "least", "most"]) 2 (by simp) rfl fun _ _ _ _ _ _ us ks h1 h2 => match us, h1, ks, h2 with | [_, _], _, [_, _], _ => ⟨_, _, _, _, _, _, rfl, rfl, _, _, _, _, _, _, rfl, rfl, rfl⟩
  have kss : KBn K _ ["self", "path", "least", "most"] 1 ["path"] gRN gRV := kb_kw FK (ms := [("least", V.non), ("most", V.non)]) (by simp) (fun q h => h) relRN fun _ _ _ _ _ _ us mv ws h1 h2 h3 => match us, h1, mv, h2, ws, h3 with
    | [_], _, [_, _], .cons rfl (.cons rfl .nil), [_], _ => ⟨_, _, _, _, _, _, rfl, rfl, _, _, _, _, _, _, rfl, rfl, rfl⟩
  refine ⟨PySem.W.fnOf "law" "law" (defArgs s_law) (defBody s_law) (defScope s_law) .none kV16 dc16 pm16 an16 cd16 ct16, fun s v => .of_eq rfl, fun g0 _ _ => ?_⟩
  have tx : Txt K C := ⟨⟨pg, hd, po, sa⟩, nR, nF⟩
  have C1 : CalF l.prog w K mg g0 "place_of" 1 ["path", "row"] (spPlace) := ⟨_, _, ok_place F1, b1, PySem.W.mg_of X G a1, k1⟩
  have C2 : CalF l.prog w K mg g0 "comes_first" 1 ["path", "place", "other"] (spFirst) := ⟨_, _, ok_first F2, b2, PySem.W.mg_of X G a2, k2⟩
  have C3 : CalF l.prog w K mg g0 "_is_within" 1 ["path", "row", "least", "most"] (spWithin) := ⟨_, _, ok_within F3, b3, PySem.W.mg_of X G a3, k3⟩
  have okN := ok_next (P := l.prog) (w := w) (mg := mg) (base := g0) FN tx y_max y_min C1 C2 C3
  have N : Nxt l.prog w K mg g0 C := ⟨tx, _, _, ⟨anext, inext, knext⟩, okN, kn2, kn3⟩
  have N5 : Nxt2 l.prog w K mg g0 C := ⟨tx, _, _, _, _, ⟨anext, inext, knext⟩, okN, va, bna, vb, bnb, knp, knq⟩
  have GS := ok_scan lscan cscan N C1
  have Sc : Scn l.prog w K mg g0 C := ⟨tx, _, _, _, ⟨ascan, iscan, kscan⟩, vk, bk, GS, ok_scanF lscan cscan N C1⟩
  have C4 : Cal l.prog w K mg g0 "_law_deck" 1 ["_law_script"] (spDeck K) := ⟨_, _, ok_deck F4 y_list, b4, PySem.W.mg_of X G a4, k4⟩
  have C5 : Cal l.prog w K mg g0 "_law_draw" 1 ["_law_deck_here", "_law_many"] (spDraw) := ⟨_, _, ok_draw F5, b5, PySem.W.mg_of X G a5, k5⟩
  have C6 : Cal l.prog w K mg g0 "_law_pick" 2 ["_law_deck_here", "_law_some"] (spPick) := ⟨_, _, ok_pick F6 y_len C5, b6, PySem.W.mg_of X G a6, k6⟩
  have C7 : Cal l.prog w K mg g0 "_law_rows" 3 ["_law_deck_here", "_law_many", "_law_most_rows"] (spRowsL) := ⟨_, _, ok_rowsL F7 y_tuple y_range C5 C6, b7, PySem.W.mg_of X G a7, k7⟩
  have C8 : Cal l.prog w K mg g0 "_law_road" 2 ["_law_deck_here", "_law_many"] (spRoad) := ⟨_, _, ok_road F8 C5, b8, PySem.W.mg_of X G a8, k8⟩
  have C9 : Cal l.prog w K mg g0 "_law_spot" 1 ["_law_road_here", "_law_row"] (spPlace) := ⟨_, _, ok_spot F9, b9, PySem.W.mg_of X G a9, k9⟩
  have C10 : Cal l.prog w K mg g0 "_law_beyond" 1 ["_law_road_here", "_law_last", "_law_spot_here"] (spBeyond) := ⟨_, _, ok_beyond F10, b10, PySem.W.mg_of X G a10, k10⟩
  have C11 : Cal l.prog w K mg g0 "_law_ordered" 2 ["_law_road_here", "_law_rows_here"] (spOrdered) := ⟨_, _, ok_ordered F11 y_sorted C9, b11, PySem.W.mg_of X G a11, k11⟩
  have C12 : Cal l.prog w K mg g0 "_law_first" 5 ["_law_table", "_law_road_here", "_law_many"] (spFirstL C) := ⟨_, _, ok_firstL F12 Sc y_len, b12, PySem.W.mg_of X G a12, k12⟩
  have C13 : Cal l.prog w K mg g0 "_law_twice" 7 ["_law_table", "_law_road_here", "_law_further"] (spTwice C) := ⟨_, _, ok_twice F13 Sc y_list, b13, PySem.W.mg_of X G a13, k13⟩
  have C14 : Cal l.prog w K mg g0 "_law_spots" 2 ["_law_deck_here", "_law_road_here", "_law_due"] (spSpots) := ⟨_, _, ok_spots F14 y_range y_abs C5 C9, b14, PySem.W.mg_of X G a14, k14⟩
  have C15 : Cal l.prog w K mg g0 "_law_next_right" 3 ["_law_table", "_law_road_here", "_law_due", "_law_spot_here"] (spNR C) := ⟨_, _, ok_nr F15 N5 y_repr C9 C10, b15, PySem.W.mg_of X G a15, k15⟩
  have FlenR : FnR l.prog w K mg g0 CX0 1 flen (spLen C) := raw0 (ok_len Flen tx y_len) blen
  have T : Lw l.prog w K mg g0 C := ⟨tx, PySem.W.mg_of X G aC, ⟨_, _, ⟨mki, aI, iI, kC⟩, ok_init FI tx, bI3⟩, ⟨_, alen, beq_iff_eq.mp ilen, FlenR⟩, ⟨_, _, _, ⟨aP, gP, tP, ⟨_, rP⟩⟩, ok_rows Frows tx y_tuple y_sorted, brows⟩,
    ⟨_, _, _, ⟨ascan, iscan, kscan⟩, vk, bk, GS, kss⟩, N5⟩
  exact ok_law (fun_mk (st := s_law) l16 c16 k16) T y_range y_repr y_list y_len C4 C5 C7 C8 C11 C13 C12 C14 C15
end K22

open PySem PySem.W PyProof.Rows in
set_option maxRecDepth 100000 in
set_option maxHeartbeats 0 in
theorem PySem.Challenge.cw_ownwake_k22_scans_of_a_still_table_holds : PySem.Challenge.rw_ownwake_k22_scans_of_a_still_table.Holds := by
  w_on; o_law; k_head; (case hw => w_witness2)
  k_fill
  refine Own.walkG (l := PySem.Challenge.rw_ownwake_k22_scans_of_a_still_table) (n := 63) (k := 8) (x := "_law_script") (sp := fun w => K22.spLaw _) rfl (by decide) rfl ⟨rfl, by decide, by decide⟩ (fun w h Y => PySem.W.kIn_of Y) ?F
    (fun _ _ a ns hl _ hS => ⟨a, ns, rfl, hS, hl, fun _ => rfl⟩)
  case F =>
    intro w mg fa h KX G hmg
    refine' K22.all_mk KX G hmg ?aC ?pg ?hd ?po ?sa ?nR ?nF ?mki ?kC ?aI ?iI ?lI ?cI ?kI ?lT ?alen ?ilen ?llen ?clen ?klen ?anext ?inext ?lnext ?cnext ?knext ?lT1 ?dnl ?dnm ?ascan ?iscan ?lscan ?cscan ?kscan ?dl ?dm ?aP ?gP ?tP ?rP ?lrows ?crows ?krows ?a1 ?l1 ?c1 ?k1 ?a2 ?l2 ?c2 ?k2 ?a3 ?l3 ?c3 ?k3 ?a4 ?l4 ?c4 ?k4 ?a5 ?l5 ?c5 ?k5 ?a6 ?l6 ?c6 ?k6 ?a7 ?l7 ?c7 ?k7 ?a8 ?l8 ?c8 ?k8 ?a9 ?l9 ?c9 ?k9 ?a10 ?l10 ?c10 ?k10 ?a11 ?l11 ?c11 ?k11 ?a12 ?l12 ?c12 ?k12 ?a13 ?l13 ?c13 ?k13 ?a14 ?l14 ?c14 ?k14 ?a15 ?l15 ?c15 ?k15 ?a16 ?l16 ?c16 ?k16 ?z_list ?z_len ?z_tuple ?z_range ?z_repr ?z_sorted ?z_max ?z_min ?z_abs
    (case a1 => k_is)
    (case l1 => k_is)
    (case c1 => k_is)
    (case k1 => k_is)
    (case a2 => k_is)
    (case l2 => k_is)
    (case c2 => k_is)
    (case k2 => k_is)
    (case a3 => k_is)
    (case l3 => k_is)
    (case c3 => k_is)
    (case k3 => k_is)
    (case a4 => k_is)
    (case l4 => k_is)
    (case c4 => k_is)
    (case k4 => k_is)
    (case a5 => k_is)
    (case l5 => k_is)
    (case c5 => k_is)
    (case k5 => k_is)
    (case a6 => k_is)
    (case l6 => k_is)
    (case c6 => k_is)
    (case k6 => k_is)
    (case a7 => k_is)
    (case l7 => k_is)
    (case c7 => k_is)
    (case k7 => k_is)
    (case a8 => k_is)
    (case l8 => k_is)
    (case c8 => k_is)
    (case k8 => k_is)
    (case a9 => k_is)
    (case l9 => k_is)
    (case c9 => k_is)
    (case k9 => k_is)
    (case a10 => k_is)
    (case l10 => k_is)
    (case c10 => k_is)
    (case k10 => k_is)
    (case a11 => k_is)
    (case l11 => k_is)
    (case c11 => k_is)
    (case k11 => k_is)
    (case a12 => k_is)
    (case l12 => k_is)
    (case c12 => k_is)
    (case k12 => k_is)
    (case a13 => k_is)
    (case l13 => k_is)
    (case c13 => k_is)
    (case k13 => k_is)
    (case a14 => k_is)
    (case l14 => k_is)
    (case c14 => k_is)
    (case k14 => k_is)
    (case a15 => k_is)
    (case l15 => k_is)
    (case c15 => k_is)
    (case k15 => k_is)
    (case a16 => k_is)
    (case l16 => k_is)
    (case c16 => k_is)
    (case k16 => k_is)
    (case z_list => k_is)
    (case z_len => k_is)
    (case z_tuple => k_is)
    (case z_range => k_is)
    (case z_repr => k_is)
    (case z_sorted => k_is)
    (case z_max => k_is)
    (case z_min => k_is)
    (case z_abs => k_is)
    (case aC => k_is)
    (case pg => k_is)
    (case hd => k_is)
    (case po => k_is)
    (case sa => k_is)
    (case nR => k_is)
    (case nF => k_is)
    (case mki => k_is)
    (case kC => k_is)
    (case aI => k_is)
    (case iI => k_is)
    (case lI => k_is)
    (case cI => k_is)
    (case kI => k_is)
    (case lT => k_is)
    (case alen => k_is)
    (case ilen => k_is)
    (case llen => k_is)
    (case clen => k_is)
    (case klen => k_is)
    (case anext => k_is)
    (case inext => k_is)
    (case lnext => k_is)
    (case cnext => k_is)
    (case knext => k_is)
    (case lT1 => k_is)
    (case dnl => k_is)
    (case dnm => k_is)
    (case ascan => k_is)
    (case iscan => k_is)
    (case lscan => k_is)
    (case cscan => k_is)
    (case kscan => k_is)
    (case dl => k_is)
    (case dm => k_is)
    (case aP => k_is)
    (case gP => k_is)
    (case tP => k_is)
    (case rP => k_is)
    (case lrows => k_is)
    (case crows => k_is)
    (case krows => k_is)
