import PyProof.Rows.All
import Wide.All
import OpenK.AllK
import Wide.FinOn
import KE.KStateDown
import HandS.ExcInit
import HandS.ExcField
import HandS.ExcIs
import HandS.ForMost
import HandS.ForExc
import HandS.DictComp
import HandS.IsInst
import HandS.Lambda
import HandS.Walk
import HandS.Zip
import HandS.NoneIn
import HandS.TupAny
import HandS.Conv
import HandS.Style
import HandS.Ends
import HandS.OwnEq
import HandS.NamedTup0
import HandS.MakeKwOnly
import KE.KExcIs
import HandS.ExcValue
import KE.KEqDict
import HandS.TupMul
import HandS.TryMany
import HandS.Codes
import HandS.EndTab
import HandS.More
import KE.GoesMore
import PyProof.Draws
import PyProof.EnumMake
import HandS.Head0
import HandS.Head1
import HandS.Head2
import HandS.Head3
import HandS.HeadHook1
import HandS.HeadHook2
import HandS.HeadHook3
import HandS.HeadHook4
import HandS.HeadNt
import HandS.HeadWalk
import PySem.Challenge.RW_repeatnets_k41_boxes_refused
set_option Elab.async false
set_option linter.all false
set_option maxRecDepth 100000
set_option maxHeartbeats 4000000
/-! VH0: what the end wants, each by a Bool -/
namespace VL
open PySem PySem.Spec PyProof.Rows L2
open He (ga ma codeOf tabOf cT)
section
variable {K : PySem.W.Frag} {h : Heap}
theorem bo {a b : Option (Option Value)} (e : He.eqO a b = true) : a = b := He.eqO_ok e
def mroB (K : PySem.W.Frag) (C : Addr) (m : List Value) : Bool := match PySem.W.clsIn K C with
  | some cd => decide (cd.mro = m)
  | none => false
theorem mroB_ok {C : Addr} {m : List Value} (e : mroB K C m = true) : ∃ cd, PySem.W.clsIn K C = some cd ∧ cd.mro = m := by
  unfold mroB at e
  cases q : PySem.W.clsIn K C with
  | none => rw [q] at e; cases e
  | some cd => rw [q] at e; exact ⟨cd, rfl, of_decide_eq_true e⟩
def oexB (K : PySem.W.Frag) (C : Addr) : Bool := match K.lookup C with
  | some ⟨.type "type", _, .cls cd, sl⟩ => (match cd.mro, sl.toList with
    | .ref C' :: bm, [_, _, _, _, some (.builtin n), _] => C' == C && n == "ValueError.__new__" && !cd.hasDel && cd.hasDict && PySem.HandSPX.refsVE bm
    | _, _ => false)
  | _ => false
theorem oexB_ok {C : Addr} (q : oexB K C = true) : ∃ nm q N bs bm sn sub ab col dd k0 k1 k2 k3 k5, K.lookup C = some (excClassObj nm q C N bs bm true sn sub ab col dd k0 k1 k2 k3 k5 "ValueError.__new__") ∧ PySem.HandSPX.refsVE bm = true := by
  unfold oexB at q
  split at q
  · rename_i dd cd sl ho
    split at q
    · rename_i C' bm k0 k1 k2 k3 n k5 hm hs
      simp only [Bool.and_eq_true, beq_iff_eq, Bool.not_eq_true'] at q
      obtain ⟨⟨⟨⟨rfl, rfl⟩, hdel⟩, hd⟩, ht⟩ := q
      obtain ⟨nm, bs, mro, ns, qn, hd', sn, sub, ab, col, del⟩ := cd
      dsimp only at hm hdel hd
      subst hm hdel hd
      have hsl : sl = #[k0, k1, k2, k3, some (.builtin "ValueError.__new__"), k5] := by
        obtain ⟨l⟩ := sl
        simp only at hs
        rw [hs]
      subst hsl
      exact ⟨nm, qn, ns, bs, bm, sn, sub, ab, col, dd, k0, k1, k2, k3, k5, ho, ht⟩
    · cases q
  · cases q
def strB (K : PySem.W.Frag) (x z : Str) : Bool := match PySem.W.nsIn K mainGlobals x with
  | some (some (.str y _)) => decide (y = z)
  | _ => false
theorem strB_ok {x z : Str} (e : strB K x z = true) : ∃ s t, PySem.W.nsIn K mainGlobals x = some (some (.str s t)) ∧ s = z := by
  unfold strB at e
  split at e
  · rename_i y t q
    exact ⟨y, t, q, of_decide_eq_true e⟩
  · cases e
def intB (K : PySem.W.Frag) (x : Str) (i : Int) : Bool := match PySem.W.nsIn K mainGlobals x with
  | some (some (.int j _)) => decide (j = i)
  | _ => false
theorem intB_ok {x : Str} {i : Int} (e : intB K x i = true) : ∃ t, PySem.W.nsIn K mainGlobals x = some (some (.int i t)) := by
  unfold intB at e
  split at e
  · rename_i j t q
    have := of_decide_eq_true e
    subst this
    exact ⟨t, q⟩
  · cases e
end
/-- three looks at one thing -/
theorem three {α β γ : Type} {δ : Type _} {o : Option α} {f : α → β} {g : α → γ} {h : α → δ} {b : β} {c : γ} {d : δ} (e1 : o.map f = some b) (e2 : o.map g = some c) (e3 : o.map h = some d) : o.map (fun x => (f x, g x, h x)) = some (b, c, d) := by
  cases o with
  | none => cases e1
  | some x =>
    have e1 : some (f x) = some b := e1
    have e2 : some (g x) = some c := e2
    have e3 : some (h x) = some d := e3
    show some (f x, g x, h x) = some (b, c, d)
    rw [Option.some.inj e1, Option.some.inj e2, Option.some.inj e3]
end VL

namespace H41
open PySem PySem.Spec PyProof.Rows L2 VL
def top (i : Nat) : Stmt := PySem.Challenge.pw_repeatnets_k41_boxes_refused.main.body.getD i (.Pass ⟨0, 0, 0, 0⟩)
def dH0 : He.DefD := ⟨("NoTie", some "__init__"), "__init__", "NoTie.__init__", defArgs (inClass (top 7) 0), defBody (inClass (top 7) 0), defScope (inClass (top 7) 0), [], []⟩
def dH1 : He.DefD := ⟨("BadNumber", some "__init__"), "__init__", "BadNumber.__init__", defArgs (inClass (top 10) 0), defBody (inClass (top 10) 0), defScope (inClass (top 10) 0), [], []⟩
def dH2 : He.DefD := ⟨("NoAxis", some "__init__"), "__init__", "NoAxis.__init__", defArgs (inClass (top 11) 0), defBody (inClass (top 11) 0), defScope (inClass (top 11) 0), [], []⟩
def dH3 : He.DefD := ⟨("BadSizes", some "__init__"), "__init__", "BadSizes.__init__", defArgs (inClass (top 12) 0), defBody (inClass (top 12) 0), defScope (inClass (top 12) 0), [], []⟩
def dH4 : He.DefD := ⟨("_law_start", none), "_law_start", "_law_start", defArgs (top 85), defBody (top 85), defScope (top 85), [], []⟩
def dH5 : He.DefD := ⟨("_law_draw", none), "_law_draw", "_law_draw", defArgs (top 86), defBody (top 86), defScope (top 86), [], []⟩
def dH6 : He.DefD := ⟨("_law_pick", none), "_law_pick", "_law_pick", defArgs (top 87), defBody (top 87), defScope (top 87), [], []⟩
def dH7 : He.DefD := ⟨("_law_n_words", none), "_law_n_words", "_law_n_words", defArgs (top 82), defBody (top 82), defScope (top 82), [], []⟩
def dH8 : He.DefD := ⟨("_law_n_plan", none), "_law_n_plan", "_law_n_plan", defArgs (top 83), defBody (top 83), defScope (top 83), [], []⟩
def dH9 : He.DefD := ⟨("is_whole", none), "is_whole", "is_whole", defArgs (top 15), defBody (top 15), defScope (top 15), [], []⟩
def dH10 : He.DefD := ⟨("is_between", none), "is_between", "is_between", defArgs (top 16), defBody (top 16), defScope (top 16), [], []⟩
def dH11 : He.DefD := ⟨("is_list", none), "is_list", "is_list", defArgs (top 17), defBody (top 17), defScope (top 17), [], []⟩
def dH12 : He.DefD := ⟨("is_name", none), "is_name", "is_name", defArgs (top 18), defBody (top 18), defScope (top 18), [], []⟩
def dH13 : He.DefD := ⟨("are_rooms", none), "are_rooms", "are_rooms", defArgs (top 34), defBody (top 34), defScope (top 34), [], []⟩
def dH14 : He.DefD := ⟨("is_key", none), "is_key", "is_key", defArgs (top 19), defBody (top 19), defScope (top 19), [], []⟩
def dH15 : He.DefD := ⟨("are_whole", none), "are_whole", "are_whole", defArgs (top 20), defBody (top 20), defScope (top 20), [], []⟩
def dH16 : He.DefD := ⟨("is_tie", none), "is_tie", "is_tie", defArgs (top 35), defBody (top 35), defScope (top 35), [], []⟩
def dH17 : He.DefD := ⟨("first_no_tie", none), "first_no_tie", "first_no_tie", defArgs (top 36), defBody (top 36), defScope (top 36), [], []⟩
def dH18 : He.DefD := ⟨("Net", some "__init__"), "__init__", "Net.__init__", defArgs (inClass (top 37) 0), defBody (inClass (top 37) 0), defScope (inClass (top 37) 0), [], []⟩
def dH19 : He.DefD := ⟨("_law_n_made", none), "_law_n_made", "_law_n_made", defArgs (top 84), defBody (top 84), defScope (top 84), [], []⟩
def dH20 : He.DefD := ⟨("_law_tried", none), "_law_tried", "_law_tried", defArgs (top 90), defBody (top 90), defScope (top 90), [], []⟩
def dH21 : He.DefD := ⟨("are_counts", none), "are_counts", "are_counts", defArgs (top 21), defBody (top 21), defScope (top 21), [], []⟩
def dH22 : He.DefD := ⟨("ask_sizes", none), "ask_sizes", "ask_sizes", defArgs (top 26), defBody (top 26), defScope (top 26), [], []⟩
def dH23 : He.DefD := ⟨("box_way", none), "box_way", "box_way", defArgs (top 67), defBody (top 67), defScope (top 67), [], []⟩
def dH24 : He.DefD := ⟨("is_box_way", none), "is_box_way", "is_box_way", defArgs (top 68), defBody (top 68), defScope (top 68), [], []⟩
def dH25 : He.DefD := ⟨("longest_way", none), "longest_way", "longest_way", defArgs (top 69), defBody (top 69), defScope (top 69), [], []⟩
def dH26 : He.DefD := ⟨("_law_same", none), "_law_same", "_law_same", defArgs (top 88), defBody (top 88), defScope (top 88), [], []⟩
def dH27 : He.DefD := ⟨("_law_frozen", none), "_law_frozen", "_law_frozen", defArgs (top 89), defBody (top 89), defScope (top 89), [], []⟩
def dH28 : He.DefD := ⟨("ask_axis", none), "ask_axis", "ask_axis", defArgs (top 24), defBody (top 24), defScope (top 24), [], []⟩
def dH29 : He.DefD := ⟨("ask_cells", none), "ask_cells", "ask_cells", defArgs (top 25), defBody (top 25), defScope (top 25), [], []⟩
def dH30 : He.DefD := ⟨("boxed", none), "boxed", "boxed", defArgs (top 70), defBody (top 70), defScope (top 70), [], []⟩
def dH31 : He.DefD := ⟨("Net", some "__contains__"), "__contains__", "Net.__contains__", defArgs (inClass (top 37) 9), defBody (inClass (top 37) 9), defScope (inClass (top 37) 9), [], []⟩
def dH32 : He.DefD := ⟨("ask_unlike_names", none), "ask_unlike_names", "ask_unlike_names", defArgs (top 74), defBody (top 74), defScope (top 74), [], []⟩
def dH33 : He.DefD := ⟨("cuts", none), "cuts", "cuts", defArgs (top 73), defBody (top 73), defScope (top 73), [], []⟩
def dH34 : He.DefD := ⟨("Net", some "ties"), "ties", "Net.ties", defArgs (inClass (top 37) 2), defBody (inClass (top 37) 2), defScope (inClass (top 37) 2), [], []⟩
def dH35 : He.DefD := ⟨("law", none), "law", "law", defArgs (top 91), defBody (top 91), defScope (top 91), [], []⟩
def fnH : List He.DefD := [dH0, dH1, dH2, dH3, dH4, dH5, dH6, dH7, dH8, dH9, dH10, dH11, dH12, dH13, dH14, dH15, dH16, dH17, dH18, dH19, dH20, dH21, dH22, dH23, dH24, dH25, dH26, dH27, dH28, dH29, dH30, dH31, dH32, dH33, dH34, dH35]
def tfH : List He.Defn := [("law", none)]
def exL (K : PySem.W.Frag) : List Bool := [He.eqO (PySem.W.nsIn K mainGlobals "NoTie") (some (some (.ref (He.ga K "NoTie")))),
  decide (PySem.W.typeIn K (.ref (He.ga K "NoTie")) = some (.type "type")),
  mroB K (He.ga K "NoTie") (.ref (He.ga K "NoTie") :: .ref (He.ga K "NetError") :: [.type "ValueError", .type "Exception", .type "BaseException", .type "object"]),
  decide (PySem.W.subIn K (.ref (He.ga K "NoTie")) (.type "BaseException") = some true),
  He.eqO (PySem.W.findIn K (.ref (He.ga K "NoTie")) "__getattribute__") (some (some (.builtin "BaseException.__getattribute__"))),
  He.eqO (PySem.W.findIn K (.ref (He.ga K "NoTie")) "__getattr__") (some none),
  PySem.W.hasDictIn K (He.ga K "NoTie"),
  He.eqO (PySem.W.findIn K (.ref (He.ga K "NoTie")) "name") (some none),
  PySem.W.keepIn K (.ref (He.ga K "NoTie")),
  oexB K (He.ga K "NoTie"),
  He.eqO (PySem.W.findIn K (.ref (He.ga K "NoTie")) "__setattr__") (some (some (.builtin "object.__setattr__"))),
  He.eqO (PySem.W.findIn K (.ref (He.ga K "NoTie")) "__init__") (some (some (.ref (He.fAd K ("NoTie", some "__init__"))))),
  decide (PySem.W.typeIn K (.ref (He.fAd K ("NoTie", some "__init__"))) = some (.type "function")),
  He.eqO (PySem.W.nsIn K mainGlobals "BadNumber") (some (some (.ref (He.ga K "BadNumber")))),
  decide (PySem.W.typeIn K (.ref (He.ga K "BadNumber")) = some (.type "type")),
  mroB K (He.ga K "BadNumber") (.ref (He.ga K "BadNumber") :: .ref (He.ga K "NetError") :: [.type "ValueError", .type "Exception", .type "BaseException", .type "object"]),
  decide (PySem.W.subIn K (.ref (He.ga K "BadNumber")) (.type "BaseException") = some true),
  He.eqO (PySem.W.findIn K (.ref (He.ga K "BadNumber")) "__getattribute__") (some (some (.builtin "BaseException.__getattribute__"))),
  He.eqO (PySem.W.findIn K (.ref (He.ga K "BadNumber")) "__getattr__") (some none),
  PySem.W.hasDictIn K (He.ga K "BadNumber"),
  He.eqO (PySem.W.findIn K (.ref (He.ga K "BadNumber")) "number") (some none),
  PySem.W.keepIn K (.ref (He.ga K "BadNumber")),
  oexB K (He.ga K "BadNumber"),
  He.eqO (PySem.W.findIn K (.ref (He.ga K "BadNumber")) "__setattr__") (some (some (.builtin "object.__setattr__"))),
  He.eqO (PySem.W.findIn K (.ref (He.ga K "BadNumber")) "__init__") (some (some (.ref (He.fAd K ("BadNumber", some "__init__"))))),
  decide (PySem.W.typeIn K (.ref (He.fAd K ("BadNumber", some "__init__"))) = some (.type "function")),
  He.eqO (PySem.W.nsIn K mainGlobals "NoAxis") (some (some (.ref (He.ga K "NoAxis")))),
  decide (PySem.W.typeIn K (.ref (He.ga K "NoAxis")) = some (.type "type")),
  mroB K (He.ga K "NoAxis") (.ref (He.ga K "NoAxis") :: .ref (He.ga K "NetError") :: [.type "ValueError", .type "Exception", .type "BaseException", .type "object"]),
  decide (PySem.W.subIn K (.ref (He.ga K "NoAxis")) (.type "BaseException") = some true),
  He.eqO (PySem.W.findIn K (.ref (He.ga K "NoAxis")) "__getattribute__") (some (some (.builtin "BaseException.__getattribute__"))),
  He.eqO (PySem.W.findIn K (.ref (He.ga K "NoAxis")) "__getattr__") (some none),
  PySem.W.hasDictIn K (He.ga K "NoAxis"),
  He.eqO (PySem.W.findIn K (.ref (He.ga K "NoAxis")) "axis") (some none),
  PySem.W.keepIn K (.ref (He.ga K "NoAxis")),
  oexB K (He.ga K "NoAxis"),
  He.eqO (PySem.W.findIn K (.ref (He.ga K "NoAxis")) "__setattr__") (some (some (.builtin "object.__setattr__"))),
  He.eqO (PySem.W.findIn K (.ref (He.ga K "NoAxis")) "__init__") (some (some (.ref (He.fAd K ("NoAxis", some "__init__"))))),
  decide (PySem.W.typeIn K (.ref (He.fAd K ("NoAxis", some "__init__"))) = some (.type "function")),
  He.eqO (PySem.W.nsIn K mainGlobals "BadSizes") (some (some (.ref (He.ga K "BadSizes")))),
  decide (PySem.W.typeIn K (.ref (He.ga K "BadSizes")) = some (.type "type")),
  mroB K (He.ga K "BadSizes") (.ref (He.ga K "BadSizes") :: .ref (He.ga K "NetError") :: [.type "ValueError", .type "Exception", .type "BaseException", .type "object"]),
  decide (PySem.W.subIn K (.ref (He.ga K "BadSizes")) (.type "BaseException") = some true),
  He.eqO (PySem.W.findIn K (.ref (He.ga K "BadSizes")) "__getattribute__") (some (some (.builtin "BaseException.__getattribute__"))),
  He.eqO (PySem.W.findIn K (.ref (He.ga K "BadSizes")) "__getattr__") (some none),
  PySem.W.hasDictIn K (He.ga K "BadSizes"),
  He.eqO (PySem.W.findIn K (.ref (He.ga K "BadSizes")) "sizes") (some none),
  PySem.W.keepIn K (.ref (He.ga K "BadSizes")),
  oexB K (He.ga K "BadSizes"),
  He.eqO (PySem.W.findIn K (.ref (He.ga K "BadSizes")) "__setattr__") (some (some (.builtin "object.__setattr__"))),
  He.eqO (PySem.W.findIn K (.ref (He.ga K "BadSizes")) "__init__") (some (some (.ref (He.fAd K ("BadSizes", some "__init__"))))),
  decide (PySem.W.typeIn K (.ref (He.fAd K ("BadSizes", some "__init__"))) = some (.type "function")),
  decide ([(He.ga K "NetError"), (He.ga K "NoTie"), (He.ga K "BadNumber"), (He.ga K "NoAxis"), (He.ga K "BadSizes")].Nodup),
  He.eqO (PySem.W.nsIn K mainGlobals "Net") (some (some (.ref (He.ga K "Net")))),
  He.eqO (PySem.W.nsIn K mainGlobals "_law_start") (some (some (.ref (He.fAd K ("_law_start", none))))),
  He.eqO (PySem.W.nsIn K mainGlobals "_law_draw") (some (some (.ref (He.fAd K ("_law_draw", none))))),
  He.eqO (PySem.W.nsIn K mainGlobals "_law_pick") (some (some (.ref (He.fAd K ("_law_pick", none))))),
  He.eqO (PySem.W.nsIn K mainGlobals "_law_n_words") (some (some (.ref (He.fAd K ("_law_n_words", none))))),
  He.eqO (PySem.W.nsIn K mainGlobals "_law_n_plan") (some (some (.ref (He.fAd K ("_law_n_plan", none))))),
  He.eqO (PySem.W.nsIn K mainGlobals "is_whole") (some (some (.ref (He.fAd K ("is_whole", none))))),
  He.eqO (PySem.W.nsIn K mainGlobals "is_between") (some (some (.ref (He.fAd K ("is_between", none))))),
  He.eqO (PySem.W.nsIn K mainGlobals "is_list") (some (some (.ref (He.fAd K ("is_list", none))))),
  He.eqO (PySem.W.nsIn K mainGlobals "is_name") (some (some (.ref (He.fAd K ("is_name", none))))),
  He.eqO (PySem.W.nsIn K mainGlobals "are_rooms") (some (some (.ref (He.fAd K ("are_rooms", none))))),
  He.eqO (PySem.W.nsIn K mainGlobals "is_key") (some (some (.ref (He.fAd K ("is_key", none))))),
  He.eqO (PySem.W.nsIn K mainGlobals "are_whole") (some (some (.ref (He.fAd K ("are_whole", none))))),
  He.eqO (PySem.W.nsIn K mainGlobals "is_tie") (some (some (.ref (He.fAd K ("is_tie", none))))),
  He.eqO (PySem.W.nsIn K mainGlobals "first_no_tie") (some (some (.ref (He.fAd K ("first_no_tie", none))))),
  He.eqO (PySem.W.findIn K (.ref (He.ga K "Net")) "__init__") (some (some (.ref (He.fAd K ("Net", some "__init__"))))),
  PySem.W.isFn K (.ref (He.fAd K ("Net", some "__init__"))),
  He.eqO (PySem.W.nsIn K mainGlobals "_law_n_made") (some (some (.ref (He.fAd K ("_law_n_made", none))))),
  He.eqO (PySem.W.nsIn K mainGlobals "_law_tried") (some (some (.ref (He.fAd K ("_law_tried", none))))),
  He.eqO (PySem.W.nsIn K mainGlobals "are_counts") (some (some (.ref (He.fAd K ("are_counts", none))))),
  He.eqO (PySem.W.nsIn K mainGlobals "ask_sizes") (some (some (.ref (He.fAd K ("ask_sizes", none))))),
  He.eqO (PySem.W.nsIn K mainGlobals "box_way") (some (some (.ref (He.fAd K ("box_way", none))))),
  He.eqO (PySem.W.nsIn K mainGlobals "is_box_way") (some (some (.ref (He.fAd K ("is_box_way", none))))),
  He.eqO (PySem.W.nsIn K mainGlobals "longest_way") (some (some (.ref (He.fAd K ("longest_way", none))))),
  He.eqO (PySem.W.nsIn K mainGlobals "_law_same") (some (some (.ref (He.fAd K ("_law_same", none))))),
  He.eqO (PySem.W.nsIn K mainGlobals "_law_frozen") (some (some (.ref (He.fAd K ("_law_frozen", none))))),
  He.eqO (PySem.W.nsIn K mainGlobals "ask_axis") (some (some (.ref (He.fAd K ("ask_axis", none))))),
  He.eqO (PySem.W.nsIn K mainGlobals "ask_cells") (some (some (.ref (He.fAd K ("ask_cells", none))))),
  He.eqO (PySem.W.nsIn K mainGlobals "boxed") (some (some (.ref (He.fAd K ("boxed", none))))),
  He.eqO (PySem.W.findIn K (.ref (He.ga K "Net")) "__contains__") (some (some (.ref (He.fAd K ("Net", some "__contains__"))))),
  PySem.W.isFn K (.ref (He.fAd K ("Net", some "__contains__"))),
  He.eqO (PySem.W.nsIn K mainGlobals "ask_unlike_names") (some (some (.ref (He.fAd K ("ask_unlike_names", none))))),
  He.eqO (PySem.W.nsIn K mainGlobals "cuts") (some (some (.ref (He.fAd K ("cuts", none))))),
  He.eqO (PySem.W.findIn K (.ref (He.ga K "Net")) "ties") (some (some (.ref (He.fAd K ("Net", some "ties"))))),
  PySem.W.isFn K (.ref (He.fAd K ("Net", some "ties"))),
  He.eqO (PySem.W.nsIn K mainGlobals "law") (some (some (.ref (He.fAd K ("law", none))))),
  PySem.W.plainGet K (He.ga K "Net") Str.empty,
  PySem.W.hasDictIn K (He.ga K "Net"),
  PySem.W.plainOver K (He.ga K "Net"),
  He.eqO (PySem.W.findIn K (.ref (He.ga K "Net")) "__setattr__") (some (some (.builtin "object.__setattr__"))),
  PySem.W.makesIn K (He.ga K "Net"),
  PySem.W.keepIn K (.ref (He.ga K "Net")),
  He.eqO (PySem.W.findIn K (.ref (He.ga K "Net")) "_named") (some none),
  He.eqO (PySem.W.findIn K (.ref (He.ga K "Net")) "_rooms") (some none),
  He.eqO (PySem.W.findIn K (.ref (He.ga K "Net")) "_ties") (some none),
  He.eqO (PySem.W.findIn K (.ref (He.ga K "Net")) "axes") (some none),
  He.eqO (PySem.W.nsIn K mainGlobals "all") (some none),
  He.eqO (PySem.W.nsIn K mainGlobals "bool") (some none),
  He.eqO (PySem.W.nsIn K mainGlobals "dict") (some none),
  He.eqO (PySem.W.nsIn K mainGlobals "enumerate") (some none),
  He.eqO (PySem.W.nsIn K mainGlobals "int") (some none),
  He.eqO (PySem.W.nsIn K mainGlobals "isinstance") (some none),
  He.eqO (PySem.W.nsIn K mainGlobals "len") (some none),
  He.eqO (PySem.W.nsIn K mainGlobals "list") (some none),
  He.eqO (PySem.W.nsIn K mainGlobals "range") (some none),
  He.eqO (PySem.W.nsIn K mainGlobals "str") (some none),
  He.eqO (PySem.W.nsIn K mainGlobals "tuple") (some none),
  He.eqO (PySem.W.nsIn K mainGlobals "zip") (some none),
  strB K "SIGNS" "abcdefghijklmnopqrstuvwxyz0123456789.",
  intB K "MOST_CELLS" 40,
  intB K "MOST_AXES" 4,
  decide ([(He.tabOf K (He.codeOf K ("law", none)))].Nodup)]
def exH (K : PySem.W.Frag) : Bool := (exL K).all id
abbrev R : PySem.W.OpenRow := PySem.W.OpenLaw.row PySem.Challenge.rw_repeatnets_k41_boxes_refused
abbrev qv : Program := PySem.W.view R.prog [0, 91]
def loose0 : List PySem.Str := ["_wall", "__name__", "NetError", "BadAxes", "BadRooms", "BadTie", "NoTie", "TieTaken", "UnlikeAxes", "BadNumber", "NoAxis", "BadSizes", "SIGNS", "is_whole", "is_between", "is_list", "is_name", "is_key", "are_whole", "are_counts", "MOST_CELLS", "ask_axis", "ask_cells", "ask_sizes", "lies_in", "starts_within", "place_of", "Box", "MOST_AXES", "are_rooms"]
def loose1 : List PySem.Str := ["is_tie", "first_no_tie", "Net", "neighbours", "reached", "parts_along", "hang_together", "Climb", "along", "shortened", "cleared", "first_filled", "with_lead", "Cone", "Rings", "direction_by", "Piece", "pieces", "pieces_of", "cores_in", "first_core", "round_of", "round_in", "length_of", "box_way", "is_box_way", "longest_way", "boxed", "rows_along", "cuts"]
def loose2 : List PySem.Str := ["ask_unlike_names", "least_cuts", "least_hits", "has_any", "has_all", "in_order", "length_ahead", "_law_n_words", "_law_n_plan", "_law_n_made", "_law_start", "_law_draw", "_law_pick", "_law_same", "_law_frozen", "_law_tried"]
def looseH : List PySem.Str := loose0 ++ loose1 ++ loose2
abbrev hk : PySem.W.Hook := He.hookX 4 [] fnH [] tfH exH
def ob (s : PySem.W.SharedT) : He.AlX := He.obsX 4 [] fnH [] tfH exH (HandSHeadRun.getT s)
theorem ob_eq (s : PySem.W.SharedT) : ob s = hk.obs s.abs := He.obsX_eq (HandSHeadRun.getT_eq s)
set_option maxHeartbeats 0 in
theorem runL (w : World) : (HandSHeadRun.wholeF (fun p => HandSHeadRun.stepQ (HandSHeadRun.denQ HandSHeadRun.tabQ) p w) HandSHeadRun.fenceQ 9000 R.prog).map (fun x => HandSHeadRun.looksF R.prog x.1.heap x.2.abs) = some true := by
  kernel_rfl
set_option maxHeartbeats 0 in
theorem runS (w : World) : (HandSHeadRun.wholeF (fun p => HandSHeadRun.stepQ (HandSHeadRun.denQ HandSHeadRun.tabQ) p w) HandSHeadRun.fenceQ 9000 R.prog).map (fun x => HandSHeadRun.seenQ qv looseH (importedModules R.prog.main.body) (fun s => PySem.W.xlAt qv [] s && PySem.W.recOk R.toRowW.records s) x.2.abs) = some (PySem.W.openGood qv looseH) := by
  kernel_rfl
set_option maxHeartbeats 0 in
theorem runO (w : World) : (HandSHeadRun.wholeF (fun p => HandSHeadRun.stepQ (HandSHeadRun.denQ HandSHeadRun.tabQ) p w) HandSHeadRun.fenceQ 9000 R.prog).map (fun x => ob x.2) = some (hk.val w) := by
  kernel_rfl
theorem run (w : World) : HandSHeadRun.RunEqI R qv hk ob 9000 looseH w := by
  unfold HandSHeadRun.RunEqI
  exact VL.three (runL w) (runS w) (runO w)
end H41

namespace VL
open PySem PySem.W PySem.Calls PyProof.Rows PySem.HandSPX
/-- what stands above an error of a value -/
abbrev overV : List Value := [.type "ValueError", .type "Exception", .type "BaseException", .type "object"]
/-- a class of errors of values, as it lies in the heap -/
structure Lies (h : Heap) (C : Addr) (up : List Value) : Prop where
  all : ∀ X : String, up.contains (.type X) = overV.contains (.type X)
  at_ : ∃ (nm q : Str) (N : Addr) (bs : List Value) (hd : Bool) (sn : List Str) (sub : List Value) (ab : Bool) (col : Option Bool) (dd : Option Addr) (k0 k1 k2 k3 k5 : Option Value),
    h.get? C = some (excClassObj nm q C N bs up hd sn sub ab col dd k0 k1 k2 k3 k5 "ValueError.__new__")
theorem Lies.has {h : Heap} {C : Addr} {up : List Value} (l : Lies h C up) {T : String} {b : Bool} (e : overV.contains (.type T) = b) : (.ref C :: up : List Value).contains (.type T) = b := by
  rw [← e, ← l.all T]
  rfl
theorem Lies.self {C : Addr} {up : List Value} : (.ref C :: up : List Value).contains (.ref C) = true := List.contains_iff_mem.mpr List.mem_cons_self
section
variable {P : Program} {w : World} {a : Around} {x : Value → Shared → Prop} {H : Heap} {gs : Array GenState} {dr : Drawn} {tk : Nat} {o : OsState}
variable {C : Addr} {up : List Value} {kw : List (Str × Value)}
/-- names may be told: the class's own making looks at none of them -/
theorem Lies.asked (l : Lies H C up) {k : Unit → Shared → Prop} (z : k () ⟨H, gs, dr, tk, o⟩) : wpAny (model P w) a (checkBuiltinCall "ValueError.__new__" ⟨[.ref C], kw⟩) k x ⟨H, gs, dr, tk, o⟩ := by
  obtain ⟨_, _, _, _, _, _, _, _, _, _, _, _, _, _, _, at_⟩ := l.at_
  have v := l.has (T := "ValueError") (b := true) (by decide +kernel)
  have V := PySem.F.excBase_ValueError
  have star := V.noStar
  unfold checkBuiltinCall
  simp only [V.newRow, V.newSplit, V.newKind]
  repeat
    first
    | refine wpAny_madeBy_exc at_ ?_
    | refine wpAny_staticBase_exc at_ ?_
    | refine wpAny_loadPart_at at_ ?_
    | (refine wpAny_isSubtype_exc at_ ?_; rw [v])
    | simp only [Bool.false_eq_true, bne_self_eq_false, if_false]
    | wp_step
  exact z
/-- the heap with a bare error of the class at its end, its things told by place -/
abbrev bareL (H : Heap) (us : List Value) (C : Addr) : Heap := (H.push (W.kdv_tup us)).push (excO C H.objs.size)
abbrev bare (H : Heap) (C : Addr) : Heap := bareL H [] C
theorem bare_old {us : List Value} {b : Addr} {u : Obj} (e : H.get? b = some u) : (bareL H us C).get? b = some u := by
  have e1 : (H.push (W.kdv_tup us)).get? b = some u := Heap.get?_push_of_some _ e
  exact Heap.get?_push_of_some _ e1
theorem bare_me {us : List Value} : (bareL H us C).get? (H.objs.size + 1) = some (excO C H.objs.size) := by
  unfold bareL
  heap_get
theorem Lies.born (l : Lies H C up) {R : Result → Shared → Prop} (z : R (.ok (.ret (.ref (H.objs.size + 1)))) ⟨bare H C, gs, dr, tk, o⟩) :
    codeAny (model P w) a (.builtin "ValueError.__new__" ⟨[.ref C], kw⟩) R ⟨H, gs, dr, tk, o⟩ := by
  obtain ⟨_, _, _, _, _, _, _, _, _, _, _, _, _, _, _, at_⟩ := l.at_
  have v1 := l.has (T := "ValueError") (b := true) (by decide +kernel)
  have v2 := l.has (T := "AttributeError") (b := false) (by decide +kernel)
  have v3 := l.has (T := "NameError") (b := false) (by decide +kernel)
  have V := PySem.F.excBase_ValueError
  have ends := V.ends
  have small : ([] : List Value).length ≤ sizeLine := Nat.zero_le _
  apply codeAny_builtinAt V.entry
  delta Builtin.«BaseException.__new__»
  refine PySem.wpAt_bind ?_
  change PySem.wpAt _ _ _ (stack >>= _) _ _ _
  refine PySem.wpAt_bind ?_
  refine PySem.wpAt_stack ?_
  intro p below
  refine PySem.wpAt_of_wpAny ?_
  wp_walk
  refine PySem.wpAt_of_wpAny ?_
  rw [V.owner]
  repeat
    first
    | with_reducible refine wpAny_loadPart_at at_ ?_
    | with_reducible refine wpAny_madeHere_exc V.canon at_ ?_
    | (with_reducible refine wpAny_isSubtype_exc at_ ?_; first | rw [v1] | rw [v2] | rw [v3])
    | wp_step
  have e : (H.push (W.kdv_tup [])).objs.size = H.objs.size + 1 := Heap.size_push ..
  show R (.ok (.ret (.ref (H.push (W.kdv_tup [])).objs.size))) _
  rw [e]
  exact z
/-- type's own __call__: made bare, then the class's __init__ with the names -/
theorem Lies.typed (l : Lies H C up) {i : Addr} {k : Fin → Shared → Prop} (iL : W.Looks (model P w) H (typeLookup (.ref C) "__init__") (some (.ref i))) (iB : ∀ v, W.Looks (model P w) H (bindSpecial (.ref i) v) (.ref i, [v]))
    (z : codeAny (model P w) a (.call (.ref i) ⟨[.ref (H.objs.size + 1)], kw⟩) (W.InitBack (H.objs.size + 1) fun r s => match r with
      | .ok f => k (.done f) s
      | .error e => x e s) ⟨bare H C, gs, dr, tk, o⟩) :
    wpAny (model P w) a (Builtin.«type.__call__» ⟨[.ref C], kw⟩) k x ⟨H, gs, dr, tk, o⟩ := by
  obtain ⟨_, _, _, _, _, _, _, _, _, _, _, _, _, _, _, at_⟩ := l.at_
  have V := PySem.F.excBase_ValueError
  repeat
    first
    | with_reducible refine wpAny_madeBy_exc at_ ?_
    | with_reducible refine wpAny_loadPart_at at_ ?_
    | wp_step
  apply codeAny_call_builtin_code (Code.quiet_builtin _ V.quiet) (l.asked ?_)
  apply l.born
  have up1 : ∀ b u, H.get? b = some u → (bare H C).get? b = some u := fun _ _ => bare_old
  have at1 := up1 _ _ at_
  have me := bare_me (H := H) (us := []) (C := C)
  have iL1 := iL.keeps up1
  have iB1 := (iB (.ref (H.objs.size + 1))).keeps up1
  change wpAny _ _ _ _ _ _
  unfold isInstance
  repeat
    first
    | with_reducible refine wpAny_loadPart_at me ?_
    | (with_reducible refine wpAny_isSubtype_exc at1 ?_; rw [Lies.self])
    | wp_step
  change wpAny _ _ (typeLookup _ "__init__") _ _ _
  apply iL1.at
  refine wpAny_holding (wpAny_bind ?_)
  apply iB1.at
  apply wpAny_bind
  apply wpAny_call
  refine codeAny_mono z ?_
  intro r s q
  cases r with
  | error e => exact q
  | ok f =>
    cases f with
    | ret v =>
      obtain ⟨rfl, q⟩ := q
      wp_walk
      exact q
    | _ => exact q.elim
/-- C(name=thing) -/
theorem Lies.called (l : Lies H C up) {i : Addr} {R : Result → Shared → Prop} (iL : W.Looks (model P w) H (typeLookup (.ref C) "__init__") (some (.ref i))) (iB : ∀ v, W.Looks (model P w) H (bindSpecial (.ref i) v) (.ref i, [v]))
    (z : codeAny (model P w) (a.under (.builtin "type.__call__" ⟨[.ref C], kw⟩)) (.call (.ref i) ⟨[.ref (H.objs.size + 1)], kw⟩) (W.InitBack (H.objs.size + 1) R) ⟨bare H C, gs, dr, tk, o⟩) :
    codeAny (model P w) a (.call (.ref C) ⟨[], kw⟩) R ⟨H, gs, dr, tk, o⟩ := by
  have l' := l
  obtain ⟨_, _, _, _, _, _, _, _, _, _, _, _, _, _, _, at_⟩ := l'.at_
  have ty : (⟨H, gs, dr, tk, o⟩ : Shared).TypeIs (.ref C) "type" := ⟨_, at_, rfl⟩
  have tl := tc_lookup
  have tb := tc_bind (.ref C)
  apply codeAny_of_tree
  change wpAny _ _ (callAny (.ref C) ⟨[], kw⟩) _ _ _
  repeat
    any_goals
      first
      | assumption
      | with_reducible refine wpAny_loadPart_at at_ ?_
      | wp_step
  refine ⟨rfl, codeAny_call_builtin_at (Code.quiet_builtin _ (by decide +kernel)) entry_typeCall (wpAny_check_type_call_sub at_ (l.typed iL iB ?_))⟩
  refine codeAny_mono z ?_
  intro r s q
  cases r with
  | error e => exact q
  | ok f => cases f <;> exact q
/-- C(thing) or C(name=thing) -/
theorem Lies.either (l : Lies H C up) {us : List Value} (one : us.length ≤ 1) (or : kw = [] ∨ us = []) {i : Addr} {R : Result → Shared → Prop} (iL : W.Looks (model P w) H (typeLookup (.ref C) "__init__") (some (.ref i))) (iB : ∀ v, W.Looks (model P w) H (bindSpecial (.ref i) v) (.ref i, [v]))
    (z : codeAny (model P w) (a.under (.builtin "type.__call__" ⟨.ref C :: us, kw⟩)) (.call (.ref i) ⟨.ref (H.objs.size + 1) :: us, kw⟩) (W.InitBack (H.objs.size + 1) R) ⟨bareL H us C, gs, dr, tk, o⟩) :
    codeAny (model P w) a (.call (.ref C) ⟨us, kw⟩) R ⟨H, gs, dr, tk, o⟩ := by
  rcases or with rfl | rfl
  · obtain ⟨_, _, _, _, _, _, _, _, _, _, _, _, _, _, _, at_⟩ := l.at_
    exact call_own PySem.F.excBase_ValueError l.all at_ iL iB (by rw [sizeLine_eq]; omega) z
  · exact l.called iL iB z
end
end VL

/-! VL: values as trees over the hand layer: what a def computes as a plain function of trees and of few changing objects. -/
namespace VL
open PySem PySem.Spec PyProof.Rows L2
abbrev Sl := L2.St
/-- the classes of the text, by numbers -/
abbrev Cn := Nat → Addr

/-- a value: a tree that stands still, or a changing object by its number -/
inductive D where
  | non | bl (b : Bool) | int (i : Int) | str (s : Str)
  | lst (xs : List D) | tup (xs : List D)
  | dct (ks : List Key) (vs : List D)
  | obj (c : Nat) (ns : List Str) (vs : List D)
  | scr (xs : List Int)
  | ref (n : Nat)
  | ty (n : String) | cls (c : Nat)
  | exc (c : Nat) (ns : List Str) (vs : List D)
  | lam (f c : Addr) (q : Str)

/-- a changing object -/
inductive MO where
  | lst (xs : List D)
  | dct (ks : List Key) (vs : List D)
  | dctL (ks : List Key) (vs : List D)
  | lstL (xs : List D)
  | tab (i : Nat) (q : Str)
  | obj (c : Nat) (ns : List Str) (vs : List D)

abbrev VH := List (Option MO)
abbrev Rho := List (Option D)

mutual
inductive Rep (cl : Cn) (F : Hp) (m : List Addr) : V → D → Prop
  | non : Rep cl F m .non .non
  | bl (b : Bool) : Rep cl F m (.bl b) (.bl b)
  | int (i : Int) : Rep cl F m (.int i) (.int i)
  | str (s : Str) : Rep cl F m (.str s) (.str s)
  | lst {a : Addr} {us : List V} {ds : List D} : F a = some (.lst us) → Reps cl F m us ds → Rep cl F m (.ref a) (.lst ds)
  | tup {a : Addr} {us : List V} {ds : List D} : F a = some (.tup us) → Reps cl F m us ds → Rep cl F m (.ref a) (.tup ds)
  | dct {a : Addr} {kvs : List (Key × V)} {ds : List D} : F a = some (.dK kvs) → Reps cl F m (kvs.map (·.2)) ds → Rep cl F m (.ref a) (.dct (kvs.map (·.1)) ds)
  | obj {a dx : Addr} {c : Nat} {fs : List (Str × V)} {ds : List D} : F a = some (.ins (cl c) dx fs) → Reps cl F m (fs.map (·.2)) ds → Rep cl F m (.ref a) (.obj c (fs.map (·.1)) ds)
  | scr {a : Addr} {o : Obj} {ns : List Int} : F a = some (.frz o (.lst (ns.map V.int))) → Rep cl F m (.ref a) (.scr ns)
  | ref {n : Nat} {a : Addr} : m[n]? = some a → Rep cl F m (.ref a) (.ref n)
  | ty (n : String) : Rep cl F m (.ty n) (.ty n)
  | cls (c : Nat) : Rep cl F m (.ref (cl c)) (.cls c)
  | exc {a dx : Addr} {c : Nat} {fs : List (Str × V)} {ds : List D} : F a = some (exo a (cl c) (some dx)) → F dx = some (exd dx fs) → Reps cl F m (fs.map (·.2)) ds → Rep cl F m (.ref a) (.exc c (fs.map (·.1)) ds)
  | exc0 {a : Addr} {c : Nat} : F a = some (exo a (cl c) none) → Rep cl F m (.ref a) (.exc c [] [])
  | lam {f c : Addr} {q : Str} : F c = some (LamX.CodeO c q) → Rep cl F m (.ref f) (.lam f c q)
inductive Reps (cl : Cn) (F : Hp) (m : List Addr) : List V → List D → Prop
  | nil : Reps cl F m [] []
  | cons {v : V} {vs : List V} {d : D} {ds : List D} : Rep cl F m v d → Reps cl F m vs ds → Reps cl F m (v :: vs) (d :: ds)
end

section
variable {cl : Cn} {K : PySem.W.Frag} {F F' F1 F2 : Hp} {m m' m1 m2 : List Addr} {H H' H1 H2 : Hp}

theorem Reps.length : ∀ {vs : List V} {ds : List D}, Reps cl F m vs ds → vs.length = ds.length
  | _, _, .nil => rfl
  | _, _, .cons _ t => by simp [Reps.length t]
theorem Reps.get : ∀ {vs : List V} {ds : List D} {i : Nat} {d : D}, Reps cl F m vs ds → ds[i]? = some d → ∃ v, vs[i]? = some v ∧ Rep cl F m v d
  | _, _, _, _, .nil, e => by simp at e
  | _, _, 0, _, .cons r _, e => by simp at e; subst e; exact ⟨_, rfl, r⟩
  | _, _, i + 1, d, .cons _ t, e => by
    obtain ⟨u, h1, h2⟩ := Reps.get (i := i) (d := d) t (by simpa using e)
    exact ⟨u, by simpa using h1, h2⟩
theorem Reps.get' : ∀ {vs : List V} {ds : List D} {i : Nat} {v : V}, Reps cl F m vs ds → vs[i]? = some v → ∃ d, ds[i]? = some d ∧ Rep cl F m v d
  | _, _, _, _, .nil, e => by simp at e
  | _, _, 0, _, .cons r _, e => by simp at e; subst e; exact ⟨_, rfl, r⟩
  | _, _, i + 1, d, .cons _ t, e => by
    obtain ⟨u, h1, h2⟩ := Reps.get' (i := i) (v := d) t (by simpa using e)
    exact ⟨u, by simpa using h1, h2⟩
theorem Reps.append : ∀ {vs us : List V} {ds es : List D}, Reps cl F m vs ds → Reps cl F m us es → Reps cl F m (vs ++ us) (ds ++ es)
  | _, _, _, _, .nil, s => s
  | _, _, _, _, .cons r t, s => .cons r (Reps.append t s)
theorem Reps.take : ∀ {vs : List V} {ds : List D} (n : Nat), Reps cl F m vs ds → Reps cl F m (vs.take n) (ds.take n)
  | _, _, 0, _ => .nil
  | _, _, _ + 1, .nil => .nil
  | _, _, n + 1, .cons r t => .cons r (Reps.take n t)
theorem Reps.drop : ∀ {vs : List V} {ds : List D} (n : Nat), Reps cl F m vs ds → Reps cl F m (vs.drop n) (ds.drop n)
  | _, _, 0, r => r
  | _, _, _ + 1, .nil => .nil
  | _, _, n + 1, .cons _ t => Reps.drop n t
theorem Reps.set {v : V} {d : D} (r : Rep cl F m v d) : ∀ {vs : List V} {ds : List D} (i : Nat), Reps cl F m vs ds → Reps cl F m (vs.set i v) (ds.set i d)
  | _, _, _, .nil => .nil
  | _, _, 0, .cons _ t => .cons r t
  | _, _, i + 1, .cons q t => .cons q (Reps.set r i t)
theorem Reps.eraseIdx : ∀ {vs : List V} {ds : List D} (i : Nat), Reps cl F m vs ds → Reps cl F m (vs.eraseIdx i) (ds.eraseIdx i)
  | _, _, _, .nil => .nil
  | _, _, 0, .cons _ t => t
  | _, _, i + 1, .cons q t => .cons q (Reps.eraseIdx i t)
theorem Reps.reverse : ∀ {vs : List V} {ds : List D}, Reps cl F m vs ds → Reps cl F m vs.reverse ds.reverse
  | _, _, .nil => .nil
  | _, _, .cons r t => by simpa using Reps.append (Reps.reverse t) (.cons r .nil)
theorem Reps.ints : ∀ {vs : List V} {ns : List Int}, Reps cl F m vs (ns.map D.int) → vs = ns.map V.int
  | _, [], .nil => rfl
  | _, n :: ns, .cons r t => by cases r; rw [Reps.ints t]; rfl
theorem Reps.of_ints : ∀ (ns : List Int), Reps cl F m (ns.map V.int) (ns.map D.int)
  | [] => .nil
  | n :: ns => .cons (.int n) (Reps.of_ints ns)
theorem Reps.bls : ∀ {vs : List V} {ns : List Bool}, Reps cl F m vs (ns.map D.bl) → vs = ns.map V.bl
  | _, [], .nil => rfl
  | _, n :: ns, .cons r t => by cases r; rw [Reps.bls t]; rfl
theorem Reps.strs : ∀ {vs : List V} {ns : List Str}, Reps cl F m vs (ns.map D.str) → vs = ns.map V.str
  | _, [], .nil => rfl
  | _, n :: ns, .cons r t => by cases r; rw [Reps.strs t]; rfl
theorem Reps.of_strs : ∀ (ns : List Str), Reps cl F m (ns.map V.str) (ns.map D.str)
  | [] => .nil
  | n :: ns => .cons (.str n) (Reps.of_strs ns)

/-- the ground has grown -/
structure Gr (F : Hp) (m : List Addr) (F' : Hp) (m' : List Addr) : Prop where
  ext : ∀ a o, F a = some o → F' a = some o
  pre : ∀ (n : Nat) a, m[n]? = some a → m'[n]? = some a
theorem Gr.refl : Gr F m F m := ⟨fun _ _ h => h, fun _ _ h => h⟩
theorem Gr.trans (g : Gr F m F1 m1) (g' : Gr F1 m1 F2 m2) : Gr F m F2 m2 := ⟨fun a o h => g'.ext a o (g.ext a o h), fun n a h => g'.pre n a (g.pre n a h)⟩
mutual
theorem Rep.mono (g : Gr F m F' m') : ∀ {v : V} {d : D}, Rep cl F m v d → Rep cl F' m' v d
  | _, _, .non => .non
  | _, _, .bl b => .bl b
  | _, _, .int b => .int b
  | _, _, .str b => .str b
  | _, _, .lst h r => .lst (g.ext _ _ h) (r.mono g)
  | _, _, .tup h r => .tup (g.ext _ _ h) (r.mono g)
  | _, _, .dct h r => .dct (g.ext _ _ h) (r.mono g)
  | _, _, .obj h r => .obj (g.ext _ _ h) (r.mono g)
  | _, _, .scr h => .scr (g.ext _ _ h)
  | _, _, .ref h => .ref (g.pre _ _ h)
  | _, _, .ty n => .ty n
  | _, _, .cls n => .cls n
  | _, _, .exc h h2 r => .exc (g.ext _ _ h) (g.ext _ _ h2) (r.mono g)
  | _, _, .exc0 h => .exc0 (g.ext _ _ h)
  | _, _, .lam h => .lam (g.ext _ _ h)
theorem Reps.mono (g : Gr F m F' m') : ∀ {v : List V} {d : List D}, Reps cl F m v d → Reps cl F' m' v d
  | _, _, .nil => .nil
  | _, _, .cons r t => .cons (r.mono g) (t.mono g)
end

/-- a changing object as it stands at a -/
def RepO (cl : Cn) (F : Hp) (m : List Addr) (H : Hp) (a : Addr) : MO → Prop
  | .lst ds => ∃ us, H a = some (.lst us) ∧ Reps cl F m us ds
  | .dct ks ds => ∃ kvs : List (Key × V), H a = some (.dK kvs) ∧ kvs.map (·.1) = ks ∧ Reps cl F m (kvs.map (·.2)) ds
  | .lstL ds => ∃ ob, ∃ us, H a = some (.frz ob (.lst us)) ∧ Reps cl F m us ds
  | .dctL ks ds => ∃ ob, ∃ kvs : List (Key × V), H a = some (.frz ob (.dK kvs)) ∧ kvs.map (·.1) = ks ∧ Reps cl F m (kvs.map (·.2)) ds
  | .obj C ns ds => ∃ dx fs, H a = some (.ins (cl C) dx fs) ∧ fs.map (·.1) = ns ∧ Reps cl F m (fs.map (·.2)) ds
  | .tab i q => a = cl i ∧ ∃ ps : Array Value, H a = some (.tbl ps) ∧ TriplesOk ps.toList ∧ ∀ (pos : Pos) (cv : Value), codeAmong pos ps.toList = some cv → ∃ c, cv = .ref c ∧ F c = some (LamX.CodeO c q)

/-- the world: the ground F stands in H, the changing objects are as vh says -/
structure Wd (cl : Cn) (F : Hp) (m : List Addr) (vh : VH) (H : Hp) : Prop where
  ext0 : ∀ a o, F a = some o → H a = some o ∨ ∃ ob kvs, o = .dK kvs ∧ H a = some (.frz ob o)
  len : m.length = vh.length
  nd : m.Nodup
  used : ∀ a, a ∈ m → H a ≠ none
  live : ∀ (n : Nat) (a : Addr) (o : MO), m[n]? = some a → vh[n]? = some (some o) → F a = none ∧ RepO cl F m H a o
  ntb : ∀ a ps, F a ≠ some (.tbl ps)
  tbm : ∀ a ps, a ∈ m → H a = some (.tbl ps) → ∃ i, i < 8 ∧ a = cl (200 + i)

theorem Wd.ext {vh : VH} (w : Wd cl F m vh H) (a : Addr) (o : HO) (h : F a = some o) (hd : ∀ kvs, o ≠ .dK kvs := by intro kvs z; cases z) : H a = some o :=
  (w.ext0 a o h).elim (fun h => h) fun ⟨_, kvs, e, _⟩ => absurd e (hd kvs)
theorem Wd.there {vh : VH} (w : Wd cl F m vh H) {a : Addr} {o : HO} (h : F a = some o) : H a ≠ none :=
  (w.ext0 a o h).elim (fun h z => by rw [h] at z; cases z) fun ⟨_, _, _, h⟩ z => by rw [h] at z; cases z
theorem Wd.freeF {vh : VH} (w : Wd cl F m vh H) {p : Addr} (hp : H p = none) : F p = none := by
  cases e : F p with
  | none => rfl
  | some u => exact absurd hp (w.there e)
/-- what has become of the world -/
structure Post (F : Hp) (m : List Addr) (H : Hp) (F' : Hp) (m' : List Addr) (H' : Hp) : Prop where
  gr : Gr F m F' m'
  fr : ∀ a o, H a = some o → (∀ ps, o ≠ .tbl ps) → a ∉ m → H' a = some o ∧ ((∀ φ, o ≠ .ext φ) → F' a = F a) ∧ a ∉ m'
  frz : ∀ a o u, H a = some (.frz o u) → H' a = some (.frz o u)
theorem Post.refl : Post F m H F m H := ⟨.refl, fun _ _ h _ n => ⟨h, fun _ => rfl, n⟩, fun _ _ _ h => h⟩
theorem Post.frn (p : Post F m H F' m' H') (a : Addr) (o : HO) (h : H a = some o) (n : a ∉ m) (x : ∀ φ, o ≠ .ext φ := by intro _ z; cases z) (y : ∀ ps, o ≠ .tbl ps := by intro _ z; cases z) : H' a = some o ∧ F' a = F a ∧ a ∉ m' :=
  let ⟨h1, h2, h3⟩ := p.fr a o h y n
  ⟨h1, h2 x, h3⟩
theorem Post.trans (p : Post F m H F1 m1 H1) (q : Post F1 m1 H1 F2 m2 H2) : Post F m H F2 m2 H2 :=
  ⟨p.gr.trans q.gr, fun a o h t n => by
    obtain ⟨h1, e1, n1⟩ := p.fr a o h t n
    obtain ⟨h2, e2, n2⟩ := q.fr a o h1 t n1
    exact ⟨h2, fun x => (e2 x).trans (e1 x), n2⟩, fun a o u h => q.frz a o u (p.frz a o u h)⟩

theorem RepO.mono {a : Addr} {o : MO} (r : RepO cl F m H a o) (p : Post F m H F' m' H') (hH : H' a = H a) : RepO cl F' m' H' a o := by
  cases o with
  | lst ds =>
    obtain ⟨us, h, rs⟩ := r
    exact ⟨us, hH.trans h, rs.mono p.gr⟩
  | dct ks ds =>
    obtain ⟨kvs, h, e, rs⟩ := r
    exact ⟨kvs, hH.trans h, e, rs.mono p.gr⟩
  | lstL ds =>
    obtain ⟨ob, us, h, rs⟩ := r
    exact ⟨ob, us, hH.trans h, rs.mono p.gr⟩
  | dctL ks ds =>
    obtain ⟨ob, kvs, h, e, rs⟩ := r
    exact ⟨ob, kvs, hH.trans h, e, rs.mono p.gr⟩
  | obj C ns ds =>
    obtain ⟨dx, fs, h, e, rs⟩ := r
    exact ⟨dx, fs, hH.trans h, e, rs.mono p.gr⟩
  | tab i q =>
    obtain ⟨ea, ps, h, ht, hc⟩ := r
    exact ⟨ea, ps, hH.trans h, ht, fun pos cv z => let ⟨c, e1, e2⟩ := hc pos cv z; ⟨c, e1, p.gr.ext _ _ e2⟩⟩

/-- a run that must come to an end -/
abbrev M (α : Type) := VH → Option (α × VH)
def ret {α : Type} (a : α) : M α := fun vh => some (a, vh)
def fail {α : Type} : M α := fun _ => none
def bind {α β : Type} (c : M α) (k : α → M β) : M β := fun vh => match c vh with
  | some (a, vh') => k a vh'
  | none => none
/-- what is wanted behind -/
abbrev Kn (α : Type) := Hp → List Addr → VH → Hp → α → Prop
def Run {α : Type} (cl : Cn) (F : Hp) (m : List Addr) (H : Hp) (r : Option (α × VH)) (k : Kn α) : Prop := match r with
  | none => False
  | some (a, vh') => ∀ F' m' H', Post F m H F' m' H' → Wd cl F' m' vh' H' → k F' m' vh' H' a

theorem Run.mono {α : Type} {r : Option (α × VH)} {k k' : Kn α} (h : Run cl F m H r k) (hk : ∀ F' m' vh' H' a, Post F m H F' m' H' → Wd cl F' m' vh' H' → k F' m' vh' H' a → k' F' m' vh' H' a) : Run cl F m H r k' := by
  cases r with
  | none => exact h
  | some p =>
    obtain ⟨a, vh'⟩ := p
    exact fun F' m' H' p w => hk F' m' vh' H' a p w (h F' m' H' p w)
theorem Run.pre {α : Type} {r : Option (α × VH)} {k : Kn α} (h : Run cl F m H r k) (p : Post F m H F1 m1 H1) : Run cl F1 m1 H1 r k := by
  cases r with
  | none => exact h
  | some q =>
    obtain ⟨a, vh'⟩ := q
    exact fun F' m' H' q w => h F' m' H' (p.trans q) w
theorem Run.bind {α β : Type} {c : M α} {g : α → M β} {vh : VH} {k : Kn β} (h : Run cl F m H (VL.bind c g vh) k) :
    Run cl F m H (c vh) (fun F1 m1 vh1 H1 a => Run cl F1 m1 H1 (g a vh1) k) := by
  unfold VL.bind at h
  cases e : c vh with
  | none =>
    rw [e] at h
    exact h
  | some p =>
    obtain ⟨a, vh1⟩ := p
    rw [e] at h
    intro F1 m1 H1 p w
    exact Run.pre h p
theorem Run.ret {α : Type} {a : α} {vh : VH} {k : Kn α} (h : Run cl F m H (VL.ret a vh) k) (w : Wd cl F m vh H) : k F m vh H a := h F m H .refl w
theorem Run.fail {α : Type} {vh : VH} {k : Kn α} (h : Run cl F m H (VL.fail vh) k) : False := h

/-- the slots -/
structure RS (cl : Cn) (F : Hp) (m : List Addr) (σ : Sl) (ρ : Rho) : Prop where
  len : σ.length = ρ.length
  at_ : ∀ (i : Nat) d, ρ[i]? = some (some d) → ∃ v, σ[i]? = some (some v) ∧ Rep cl F m v d
theorem RS.mono {σ : Sl} {ρ : Rho} (r : RS cl F m σ ρ) (g : Gr F m F' m') : RS cl F' m' σ ρ := ⟨r.len, fun i d h => let ⟨v, e, q⟩ := r.at_ i d h; ⟨v, e, q.mono g⟩⟩
theorem RS.set {σ : Sl} {ρ : Rho} (r : RS cl F m σ ρ) {v : V} {d : D} (q : Rep cl F m v d) (i : Nat) : RS cl F m (σ.set i (some v)) (ρ.set i (some d)) := by
  refine ⟨by simp [r.len], fun j e h => ?_⟩
  by_cases hj : i = j
  · subst hj
    have hl : i < ρ.length := by
      have := (List.getElem?_eq_some_iff.mp h).1
      simpa using this
    rw [List.getElem?_set_self hl] at h
    cases h
    exact ⟨v, List.getElem?_set_self (by rw [r.len]; exact hl), q⟩
  · rw [List.getElem?_set_ne hj] at h
    obtain ⟨u, e1, q1⟩ := r.at_ j e h
    exact ⟨u, by rw [List.getElem?_set_ne hj]; exact e1, q1⟩
theorem RS.forget {σ : Sl} {ρ : Rho} (r : RS cl F m σ ρ) (i : Nat) : RS cl F m σ (ρ.set i none) := by
  refine ⟨by simp [r.len], fun j e h => ?_⟩
  by_cases hj : i = j
  · subst hj
    have hl : i < ρ.length := by
      have := (List.getElem?_eq_some_iff.mp h).1
      simpa using this
    rw [List.getElem?_set_self hl] at h
    cases h
  · rw [List.getElem?_set_ne hj] at h
    exact r.at_ j e h

/-! ### new objects -/
theorem Wd.frozen {vh : VH} {p : Addr} {o : HO} (w : Wd cl F m vh H) (hp : H p = none) (ho : ∀ ps, o ≠ .tbl ps := by intro _ z; cases z) : Wd cl (upd F p o) m vh (upd H p o) ∧ Post F m H (upd F p o) m (upd H p o) := by
  have hF : F p = none := w.freeF hp
  have hm : p ∉ m := fun h => w.used p h hp
  have P : Post F m H (upd F p o) m (upd H p o) := by
    refine ⟨⟨fun a u e => by rw [upd_ne (ne_of_none e hF)]; exact e, fun _ _ h => h⟩, fun a u e _ n => ?_, fun a o u e => by rw [upd_ne (ne_of_none e hp)]; exact e⟩
    have := ne_of_none e hp
    exact ⟨by rw [upd_ne this]; exact e, fun _ => by rw [upd_ne this], n⟩
  refine ⟨⟨fun a u e => ?_, w.len, w.nd, fun a h => ?_, fun n a mo h1 h2 => ?_, fun a ps e => ?_, fun a ps ha e => ?_⟩, P⟩
  · by_cases h : a = p
    · subst h
      rw [upd_same] at e ⊢
      exact Or.inl e
    · rw [upd_ne h] at e ⊢
      exact w.ext0 _ _ e
  · have : a ≠ p := fun e => by subst e; exact hm h
    rw [upd_ne this]
    exact w.used a h
  · obtain ⟨h3, h4⟩ := w.live n a mo h1 h2
    have hne : a ≠ p := fun e => by subst e; exact hm (List.mem_of_getElem? h1)
    refine ⟨by rw [upd_ne hne]; exact h3, h4.mono P (by rw [upd_ne hne])⟩
  · by_cases h : a = p
    · subst h
      rw [upd_same] at e
      exact ho ps (Option.some.inj e)
    · rw [upd_ne h] at e
      exact w.ntb a ps e
  · by_cases h : a = p
    · subst h
      rw [upd_same] at e
      exact absurd (Option.some.inj e) (ho ps)
    · rw [upd_ne h] at e
      exact w.tbm a ps ha e
theorem Run.frozen {α : Type} {a : α} {vh : VH} {k : Kn α} {p : Addr} {o : HO} (h : Run cl F m H (VL.ret a vh) k) (w : Wd cl F m vh H) (hp : H p = none) (ho : ∀ ps, o ≠ .tbl ps := by intro _ z; cases z) : k (upd F p o) m vh (upd H p o) a :=
  h _ _ _ (w.frozen hp ho).2 (w.frozen hp ho).1

theorem nodup_snoc {m : List Addr} {p : Addr} (h : m.Nodup) (hp : p ∉ m) : (m ++ [p]).Nodup := by
  rw [List.nodup_append]
  refine ⟨h, by simp, fun a ha b hb => ?_⟩
  simp at hb
  subst hb
  exact fun e => hp (e ▸ ha)

/-- a new changing object -/
theorem Wd.grown {vh : VH} {p : Addr} {u : HO} {o : MO} (w : Wd cl F m vh H) (hp : H p = none)
    (hr : Post F m H F (m ++ [p]) (upd H p u) → RepO cl F (m ++ [p]) (upd H p u) p o) (hu : ∀ ps, u ≠ .tbl ps := by intro _ z; cases z) : Wd cl F (m ++ [p]) (vh ++ [some o]) (upd H p u) ∧ Post F m H F (m ++ [p]) (upd H p u) := by
  have hF : F p = none := w.freeF hp
  have hm : p ∉ m := fun h => w.used p h hp
  have P : Post F m H F (m ++ [p]) (upd H p u) := by
    refine ⟨⟨fun a u e => e, fun n a h => ?_⟩, fun a u e _ n => ?_, fun a o u e => by rw [upd_ne (ne_of_none e hp)]; exact e⟩
    · rw [List.getElem?_append_left (List.getElem?_eq_some_iff.mp h).1]
      exact h
    · have := ne_of_none e hp
      exact ⟨by rw [upd_ne this]; exact e, fun _ => rfl, by simp [n, this]⟩
  refine ⟨⟨fun a v e => ?_, by simp [w.len], nodup_snoc w.nd hm, fun a h => ?_, fun n a mo h1 h2 => ?_, w.ntb, fun a ps ha e => ?_⟩, P⟩
  · have : a ≠ p := fun z => by subst z; rw [hF] at e; cases e
    rw [upd_ne this]
    exact w.ext0 _ _ e
  · by_cases hap : a = p
    · subst hap
      rw [upd_same]
      exact fun e => nomatch e
    · rw [upd_ne hap]
      have : a ∈ m := by simpa [hap] using h
      exact w.used a this
  · by_cases hn : n < m.length
    · rw [List.getElem?_append_left hn] at h1
      rw [List.getElem?_append_left (by rw [← w.len]; exact hn)] at h2
      obtain ⟨h3, h4⟩ := w.live n a mo h1 h2
      have hne : a ≠ p := fun e => by subst e; exact hm (List.mem_of_getElem? h1)
      exact ⟨h3, h4.mono P (by rw [upd_ne hne])⟩
    · have hn1 : n = m.length := by
        have := (List.getElem?_eq_some_iff.mp h1).1
        simp at this
        omega
      subst hn1
      rw [List.getElem?_append_right (Nat.le_refl _)] at h1
      rw [w.len, List.getElem?_append_right (Nat.le_refl _)] at h2
      simp at h1 h2
      subst h1; subst h2
      exact ⟨hF, hr P⟩
  · by_cases h : a = p
    · subst h
      rw [upd_same] at e
      exact absurd (Option.some.inj e) (hu ps)
    · rw [upd_ne h] at e
      exact w.tbm a ps (by simpa [h] using ha) e
def new (o : MO) : M D := fun vh => some (.ref vh.length, vh ++ [some o])
/-- writing a changing object -/
def wr {α : Type} (a : α) (n : Nat) (o : MO) : M α := fun vh => some (a, vh.set n (some o))
theorem Wd.written {vh : VH} {n : Nat} {p : Addr} {u : HO} {o o' : MO} (w : Wd cl F m vh H) (h1 : m[n]? = some p) (h2 : vh[n]? = some (some o)) (hz : ∀ ob v, H p ≠ some (.frz ob v))
    (hr : Post F m H F m (upd H p u) → RepO cl F m (upd H p u) p o') (hu : ∀ ps, u ≠ .tbl ps := by intro _ z; cases z) : Wd cl F m (vh.set n (some o')) (upd H p u) ∧ Post F m H F m (upd H p u) := by
  obtain ⟨hF, _⟩ := w.live n p o h1 h2
  have hm : p ∈ m := List.mem_of_getElem? h1
  have P : Post F m H F m (upd H p u) := ⟨.refl, fun a v e _ na => by
    have : a ≠ p := fun z => by subst z; exact na hm
    exact ⟨by rw [upd_ne this]; exact e, fun _ => rfl, na⟩, fun a ob v e => by
    have : a ≠ p := fun z => by subst z; exact hz _ _ e
    rw [upd_ne this]; exact e⟩
  refine ⟨⟨fun a v e => ?_, by simp [w.len], w.nd, fun a h => ?_, fun k a mo g1 g2 => ?_, w.ntb, fun a ps ha e => ?_⟩, P⟩
  · have : a ≠ p := fun z => by subst z; rw [hF] at e; cases e
    rw [upd_ne this]
    exact w.ext0 _ _ e
  · by_cases hap : a = p
    · subst hap
      rw [upd_same]
      exact fun e => nomatch e
    · rw [upd_ne hap]
      exact w.used a h
  · by_cases hk : n = k
    · subst hk
      rw [h1] at g1
      cases g1
      have hl : n < vh.length := (List.getElem?_eq_some_iff.mp h2).1
      rw [List.getElem?_set_self hl] at g2
      cases g2
      exact ⟨hF, hr P⟩
    · rw [List.getElem?_set_ne hk] at g2
      obtain ⟨g3, g4⟩ := w.live k a mo g1 g2
      have hne : a ≠ p := fun e => by
        subst e
        obtain ⟨l1, e1⟩ := List.getElem?_eq_some_iff.mp h1
        obtain ⟨l2, e2⟩ := List.getElem?_eq_some_iff.mp g1
        exact hk ((List.getElem_inj w.nd).mp (e1.trans e2.symm))
      exact ⟨g3, g4.mono P (by rw [upd_ne hne])⟩
  · by_cases h : a = p
    · subst h
      rw [upd_same] at e
      exact absurd (Option.some.inj e) (hu ps)
    · rw [upd_ne h] at e
      exact w.tbm a ps ha e

/-! ### standing still from now on -/
def stillO : MO → Option D
  | .lst xs => some (.lst xs)
  | .dct ks vs => some (.dct ks vs)
  | .dctL _ _ => none
  | .lstL _ => none
  | .tab _ _ => none
  | .obj C ns vs => some (.obj C ns vs)
/-- a changing object as a tree; it changes no more -/
def still (d : D) : M D := fun vh => match d with
  | .ref n => match vh[n]? with
    | some (some o) => (stillO o).map fun d => (d, vh.set n none)
    | _ => none
  | d => some (d, vh)
theorem Wd.stilled {vh : VH} {n : Nat} {p : Addr} {o : MO} {d : D} (w : Wd cl F m vh H) (h1 : m[n]? = some p) (h2 : vh[n]? = some (some o)) (h3 : stillO o = some d) :
    ∃ F', Wd cl F' m (vh.set n none) H ∧ Post F m H F' m H ∧ Rep cl F' m (.ref p) d := by
  obtain ⟨hF, hr⟩ := w.live n p o h1 h2
  have hm : p ∈ m := List.mem_of_getElem? h1
  have main : ∀ F', (∀ a o, F a = some o → F' a = some o) → (∀ a o, F' a = some o → H a = some o ∨ ∃ ob kvs, o = .dK kvs ∧ H a = some (.frz ob o)) → (∀ a, F a = none → F' a ≠ none → a = p) → (∀ a ps, F' a ≠ some (.tbl ps)) → Wd cl F' m (vh.set n none) H ∧ Post F m H F' m H := by
    intro F' e1 e2 e3 e4
    have P : Post F m H F' m H := ⟨⟨e1, fun _ _ h => h⟩, fun a v e _ na => ⟨e, fun _ => by
      cases q : F a with
      | some u => exact e1 _ _ q
      | none =>
        cases q' : F' a with
        | none => rfl
        | some u =>
          have := e3 a q (by rw [q']; exact fun z => nomatch z)
          subst this
          exact absurd hm na, na⟩, fun _ _ _ h => h⟩
    refine ⟨⟨e2, by simp [w.len], w.nd, w.used, fun k a mo g1 g2 => ?_, e4, w.tbm⟩, P⟩
    by_cases hk : n = k
    · subst hk
      have hl : n < vh.length := (List.getElem?_eq_some_iff.mp h2).1
      rw [List.getElem?_set_self hl] at g2
      cases g2
    · rw [List.getElem?_set_ne hk] at g2
      obtain ⟨g3, g4⟩ := w.live k a mo g1 g2
      have hne : a ≠ p := fun e => by
        subst e
        obtain ⟨l1, e1⟩ := List.getElem?_eq_some_iff.mp h1
        obtain ⟨l2, e2⟩ := List.getElem?_eq_some_iff.mp g1
        exact hk ((List.getElem_inj w.nd).mp (e1.trans e2.symm))
      refine ⟨?_, g4.mono P rfl⟩
      cases q' : F' a with
      | none => rfl
      | some u => exact absurd (e3 a g3 (by rw [q']; exact fun z => nomatch z)) hne
  cases o with
  | dctL ks ds => cases h3
  | lstL ds => cases h3
  | tab i q => cases h3
  | lst ds =>
    cases h3
    obtain ⟨us, h, rs⟩ := hr
    obtain ⟨W', P'⟩ := main (upd F p (.lst us)) (fun a o e => by rw [upd_ne (ne_of_none e hF)]; exact e) (fun a o e => by
      by_cases ha : a = p
      · subst ha; rw [upd_same] at e; cases e; exact Or.inl h
      · rw [upd_ne ha] at e; exact w.ext0 _ _ e) (fun a e1 e2 => by
      by_cases ha : a = p
      · exact ha
      · rw [upd_ne ha, e1] at e2; exact absurd rfl e2) (fun a ps e => by
      by_cases ha : a = p
      · subst ha; rw [upd_same] at e; cases e
      · rw [upd_ne ha] at e; exact w.ntb _ _ e)
    exact ⟨_, W', P', .lst upd_same (rs.mono P'.gr)⟩
  | dct ks ds =>
    cases h3
    obtain ⟨kvs, h, ek, rs⟩ := hr
    obtain ⟨W', P'⟩ := main (upd F p (.dK kvs)) (fun a o e => by rw [upd_ne (ne_of_none e hF)]; exact e) (fun a o e => by
      by_cases ha : a = p
      · subst ha; rw [upd_same] at e; cases e; exact Or.inl h
      · rw [upd_ne ha] at e; exact w.ext0 _ _ e) (fun a e1 e2 => by
      by_cases ha : a = p
      · exact ha
      · rw [upd_ne ha, e1] at e2; exact absurd rfl e2) (fun a ps e => by
      by_cases ha : a = p
      · subst ha; rw [upd_same] at e; cases e
      · rw [upd_ne ha] at e; exact w.ntb _ _ e)
    subst ek
    exact ⟨_, W', P', .dct upd_same (rs.mono P'.gr)⟩
  | obj C ns ds =>
    cases h3
    obtain ⟨dx, fs, h, ek, rs⟩ := hr
    obtain ⟨W', P'⟩ := main (upd F p (.ins (cl C) dx fs)) (fun a o e => by rw [upd_ne (ne_of_none e hF)]; exact e) (fun a o e => by
      by_cases ha : a = p
      · subst ha; rw [upd_same] at e; cases e; exact Or.inl h
      · rw [upd_ne ha] at e; exact w.ext0 _ _ e) (fun a e1 e2 => by
      by_cases ha : a = p
      · exact ha
      · rw [upd_ne ha, e1] at e2; exact absurd rfl e2) (fun a ps e => by
      by_cases ha : a = p
      · subst ha; rw [upd_same] at e; cases e
      · rw [upd_ne ha] at e; exact w.ntb _ _ e)
    subst ek
    exact ⟨_, W', P', .obj upd_same (rs.mono P'.gr)⟩
end
end VL

namespace VL
open PySem PySem.Spec PyProof.Rows L2

/-! ### judgements -/
section
variable {X : Cx} {cl : Cn} {K : PySem.W.Frag} {F F' F1 F2 : Hp} {m m' m1 m2 : List Addr} {H H' H1 H2 : Hp} {vh vh1 : VH} {ρ : Rho} {σ : Sl}
theorem PEw {e : Expr} {t t' : TE} (h : PE X e t) (w : ∀ σ H Q, t' σ H Q → t σ H Q) : PE X e t' := ⟨fun pins s σ H Q I q => h.run pins s σ H Q I (w σ H Q q)⟩
theorem PTw {e : Expr} {t t' : TT} (h : PT X e t) (w : ∀ σ H Q, t' σ H Q → t σ H Q) : PT X e t' := ⟨fun pins s σ H Q I q => h.run pins s σ H Q I (w σ H Q q)⟩
theorem PWw {e : Expr} {t t' : TT} (h : PW X e t) (w : ∀ σ H Q, t' σ H Q → t σ H Q) : PW X e t' := ⟨fun wh pins s σ H Q I q => h.run wh pins s σ H Q I (w σ H Q q)⟩
theorem PAw {e : List Expr} {t t' : TA} (h : PA X e t) (w : ∀ σ H Q, t' σ H Q → t σ H Q) : PA X e t' := ⟨fun pos pins s σ H Q I q => h.run pos pins s σ H Q I (w σ H Q q)⟩
theorem PSw {e : Stmt} {t t' : TS} (h : PS X e t) (w : ∀ D σ H, t' D σ H → t D σ H) : PS X e t' := ⟨fun pins s σ H D I q => h.run pins s σ H D I (w D σ H q)⟩
theorem PSsw {e : List Stmt} {t t' : TS} (h : PSs X e t) (w : ∀ D σ H, t' D σ H → t D σ H) : PSs X e t' := ⟨fun pins s σ H D I q => h.run pins s σ H D I (w D σ H q)⟩
theorem PIw {tg e : Expr} {t t' : TI} (h : PI X tg e t) (w : ∀ σ H R, t' σ H R → t σ H R) : PI X tg e t' := ⟨fun pins s σ H R I q => h.run pins s σ H R I (w σ H R q)⟩

/-- a value is wanted -/
abbrev kV' (cl : Cn) (Q : VK) : Kn D := fun F' m' _ H' d => ∀ v, Rep cl F' m' v d → Q v H'
abbrev kVs (cl : Cn) (Q : List V → Hp → Prop) : Kn (List D) := fun F' m' _ H' ds => ∀ vs, Reps cl F' m' vs ds → Q vs H'
abbrev kB (Q : Bool → Hp → Prop) : Kn Bool := fun _ _ _ H' b => Q b H'
def tD (cl : Cn) (f : Rho → M D) : TE := fun σ H Q => ∃ F m vh ρ, Wd cl F m vh H ∧ RS cl F m σ ρ ∧ Run cl F m H (f ρ vh) (kV' cl Q)
def tDs (cl : Cn) (f : Rho → M (List D)) : TA := fun σ H Q => ∃ F m vh ρ, Wd cl F m vh H ∧ RS cl F m σ ρ ∧ Run cl F m H (f ρ vh) (kVs cl Q)
def tT (cl : Cn) (f : Rho → M Bool) : TT := fun σ H Q => ∃ F m vh ρ, Wd cl F m vh H ∧ RS cl F m σ ρ ∧ Run cl F m H (f ρ vh) (kB Q)
abbrev DE (cl : Cn) (X : Cx) (e : Expr) (f : Rho → M D) : Prop := PE X e (tD cl f)
abbrev DA (cl : Cn) (X : Cx) (es : List Expr) (f : Rho → M (List D)) : Prop := PA X es (tDs cl f)
abbrev DT (cl : Cn) (X : Cx) (e : Expr) (f : Rho → M Bool) : Prop := PT X e (tT cl f)
abbrev DW (cl : Cn) (X : Cx) (e : Expr) (f : Rho → M Bool) : Prop := PW X e (tT cl f)

theorem tD_bind {α : Type} {f : Rho → M D} {g : D → M α} {k : Kn α} {Q : VK} (w : Wd cl F m vh H) (r : RS cl F m σ ρ) (h : Run cl F m H (bind (f ρ) g vh) k)
    (hq : ∀ F1 m1 vh1 H1 a v, Wd cl F1 m1 vh1 H1 → RS cl F1 m1 σ ρ → Gr F m F1 m1 → Rep cl F1 m1 v a → Run cl F1 m1 H1 (g a vh1) k → Q v H1) : tD cl f σ H Q :=
  ⟨F, m, vh, ρ, w, r, (Run.bind h).mono fun F1 m1 vh1 H1 a p w1 q v rv => hq F1 m1 vh1 H1 a v w1 (r.mono p.gr) p.gr rv q⟩
theorem tDs_bind {α : Type} {f : Rho → M (List D)} {g : List D → M α} {k : Kn α} {Q : List V → Hp → Prop} (w : Wd cl F m vh H) (r : RS cl F m σ ρ) (h : Run cl F m H (bind (f ρ) g vh) k)
    (hq : ∀ F1 m1 vh1 H1 a v, Wd cl F1 m1 vh1 H1 → RS cl F1 m1 σ ρ → Gr F m F1 m1 → Reps cl F1 m1 v a → Run cl F1 m1 H1 (g a vh1) k → Q v H1) : tDs cl f σ H Q :=
  ⟨F, m, vh, ρ, w, r, (Run.bind h).mono fun F1 m1 vh1 H1 a p w1 q v rv => hq F1 m1 vh1 H1 a v w1 (r.mono p.gr) p.gr rv q⟩
theorem tT_bind {α : Type} {f : Rho → M Bool} {g : Bool → M α} {k : Kn α} {Q : Bool → Hp → Prop} (w : Wd cl F m vh H) (r : RS cl F m σ ρ) (h : Run cl F m H (bind (f ρ) g vh) k)
    (hq : ∀ F1 m1 vh1 H1 a, Wd cl F1 m1 vh1 H1 → RS cl F1 m1 σ ρ → Gr F m F1 m1 → Run cl F1 m1 H1 (g a vh1) k → Q a H1) : tT cl f σ H Q :=
  ⟨F, m, vh, ρ, w, r, (Run.bind h).mono fun F1 m1 vh1 H1 a p w1 q => hq F1 m1 vh1 H1 a w1 (r.mono p.gr) p.gr q⟩

/-! ### names and constants -/
def var (i : Nat) (ρ : Rho) : M D := match ρ[i]? with
  | some (some d) => ret d
  | _ => fail
theorem de_var {i : Nat} {x : Str} {pos : Pos} (h : PE X (.Name x pos) (tVar i)) : DE cl X (.Name x pos) (var i) := PEw h fun σ H Q ⟨F, m, vh, ρ, w, r, q⟩ => by
  unfold var at q
  cases e : ρ[i]? with
  | none =>
    rw [e] at q
    exact False.elim q
  | some o =>
    cases o with
    | none =>
      rw [e] at q
      exact False.elim q
    | some d =>
      rw [e] at q
      obtain ⟨v, e1, rv⟩ := r.at_ i d e
      exact ⟨v, e1, Run.ret q w v rv⟩
theorem de_c {e : Expr} {v : V} {d : D} (h : PE X e (tC v)) (r : ∀ F m, Rep cl F m v d) : DE cl X e (fun _ => ret d) := PEw h fun σ H Q ⟨F, m, vh, ρ, w, _, q⟩ => Run.ret q w v (r F m)
theorem de_int {i j pos} : DE cl X (.Constant (.int i) j pos) (fun _ => ret (.int i)) := de_c pe_int fun _ _ => .int _
theorem de_bl {i j pos} : DE cl X (.Constant (.bool i) j pos) (fun _ => ret (.bl i)) := de_c pe_bl fun _ _ => .bl _
theorem de_str {i j pos} : DE cl X (.Constant (.str i) j pos) (fun _ => ret (.str i)) := de_c pe_str fun _ _ => .str _
theorem de_non {j pos} : DE cl X (.Constant .none j pos) (fun _ => ret .non) := de_c pe_non fun _ _ => .non

/-! ### operators, by values -/
def rD1 (cl : Cn) (o : D → M D) : V → Hp → VK → Prop := fun x H Q => ∃ F m vh a, Wd cl F m vh H ∧ Rep cl F m x a ∧ Run cl F m H (o a vh) (kV' cl Q)
def rD2 (cl : Cn) (o : D → D → M D) : R2 := fun x y H Q => ∃ F m vh a b, Wd cl F m vh H ∧ Rep cl F m x a ∧ Rep cl F m y b ∧ Run cl F m H (o a b vh) (kV' cl Q)
def rDs (cl : Cn) (o : List D → M D) : List V → Hp → VK → Prop := fun xs H Q => ∃ F m vh as, Wd cl F m vh H ∧ Reps cl F m xs as ∧ Run cl F m H (o as vh) (kV' cl Q)
def rDm (cl : Cn) (o : D → List D → M D) : V → List V → Hp → VK → Prop := fun x xs H Q => ∃ F m vh a as, Wd cl F m vh H ∧ Rep cl F m x a ∧ Reps cl F m xs as ∧ Run cl F m H (o a as vh) (kV' cl Q)
abbrev den2 (o : D → D → M D) (fa fb : Rho → M D) : Rho → M D := fun ρ => bind (fa ρ) fun a => bind (fb ρ) fun b => o a b
abbrev den1 (o : D → M D) (fa : Rho → M D) : Rho → M D := fun ρ => bind (fa ρ) fun a => o a
theorem tOpD {o : D → D → M D} {fa fb : Rho → M D} {Q : VK} (h : tD cl (den2 o fa fb) σ H Q) : tOp (rD2 cl o) (tD cl fa) (tD cl fb) σ H Q := by
  obtain ⟨F, m, vh, ρ, w, r, q⟩ := h
  refine tD_bind w r q fun F1 m1 vh1 H1 a v w1 r1 g1 rv q1 => ?_
  refine tD_bind w1 r1 q1 fun F2 m2 vh2 H2 b u w2 r2 g2 ru q2 => ?_
  exact ⟨F2, m2, vh2, a, b, w2, rv.mono g2, ru, q2⟩
theorem de_op {a b : Expr} {op : Operator} {pos : Pos} {o : D → D → M D} {fa fb : Rho → M D} (ho : OpR X (binaryOp op) (rD2 cl o)) (ha : DE cl X a fa) (hb : DE cl X b fb) : DE cl X (.BinOp a op b pos) (den2 o fa fb) :=
  PEw (pe_op ho ha hb) fun σ H Q h => tOpD h
theorem de_cmp {a b : Expr} {op : CmpOp} {pos : Pos} {o : D → D → M D} {fa fb : Rho → M D} (ho : OpR X (compareOp op) (rD2 cl o)) (ha : DE cl X a fa) (hb : DE cl X b fb) (hm : behindInMarks op b = false) : DE cl X (.Compare a [op] [b] pos) (den2 o fa fb) :=
  PEw (pe_cmpR ho ha hb hm) fun σ H Q h => tOpD h
theorem de_un {a : Expr} {op : UnaryOp} {pos : Pos} {o : D → M D} {fa : Rho → M D} (ho : UnR X (unaryOp op) (rD1 cl o)) (ha : DE cl X a fa) : DE cl X (.UnaryOp op a pos) (den1 o fa) :=
  PEw (pe_un ho ha) fun σ H Q ⟨F, m, vh, ρ, w, r, q⟩ => tD_bind w r q fun F1 m1 vh1 H1 a v w1 r1 g1 rv q1 => ⟨F1, m1, vh1, a, w1, rv, q1⟩
theorem de_ix {a b : Expr} {pos : Pos} {o : D → D → M D} {fa fb : Rho → M D} (ho : IxR X (rD2 cl o)) (ha : DE cl X a fa) (hb : DE cl X b fb) (hs : PlainIx b) : DE cl X (.Subscript a b pos) (den2 o fa fb) :=
  PEw (pe_ix ho ha hb hs) fun σ H Q h => tOpD h

/-! ### tests -/
def toB : D → M Bool
  | .bl b => ret b
  | _ => fail
theorem rep_bl {v : V} {b : Bool} (h : Rep cl F m v (.bl b)) : v = .bl b := by cases h; rfl
theorem dt_val {e : Expr} {f : Rho → M D} (h : DE cl X e f) (hv : ∀ {t : TE}, PE X e t → PT X e (tB t) := by exact fun h => pt_val h) : DT cl X e (fun ρ => bind (f ρ) toB) :=
  PTw (hv h) fun σ H Q ⟨F, m, vh, ρ, w, r, q⟩ => tD_bind w r q fun F1 m1 vh1 H1 a v w1 r1 g1 rv q1 => by
    cases a with
    | bl b =>
      exact ⟨b, rep_bl rv, Run.ret q1 w1⟩
    | _ => exact False.elim q1
theorem dt_cmp {a b : Expr} {op : CmpOp} {pos : Pos} {o : D → D → M D} {fa fb : Rho → M D} (ho : OpR X (compareOp op) (rD2 cl o)) (ha : DE cl X a fa) (hb : DE cl X b fb) (hm : behindInMarks op b = false) :
    DT cl X (.Compare a [op] [b] pos) (fun ρ => bind (den2 o fa fb ρ) toB) :=
  PTw (pt_cmpR ho ha hb hm) fun σ H Q ⟨F, m, vh, ρ, w, r, q⟩ => by
    refine tOpD (o := o) ⟨F, m, vh, ρ, w, r, (Run.bind q).mono fun F1 m1 vh1 H1 a p w1 q1 v rv => ?_⟩
    cases a with
    | bl b =>
      exact ⟨b, rep_bl rv, Run.ret q1 w1⟩
    | _ => exact False.elim q1
def andB (f g : Rho → M Bool) : Rho → M Bool := fun ρ => bind (f ρ) fun b => if b then g ρ else ret false
def orB (f g : Rho → M Bool) : Rho → M Bool := fun ρ => bind (f ρ) fun b => if b then ret true else g ρ
def notB (f : Rho → M Bool) : Rho → M Bool := fun ρ => bind (f ρ) fun b => ret (!b)
theorem dt_not {a : Expr} {pos : Pos} {f : Rho → M Bool} (h : DT cl X a f) : DT cl X (.UnaryOp .Not a pos) (notB f) :=
  PTw (pt_not h) fun σ H Q ⟨F, m, vh, ρ, w, r, q⟩ => tT_bind w r q fun F1 m1 vh1 H1 b w1 r1 g1 q1 => Run.ret q1 w1
theorem tAndD {f g : Rho → M Bool} {Q : Bool → Hp → Prop} (h : tT cl (andB f g) σ H Q) : tAnd (tT cl f) (tT cl g) σ H Q := by
  obtain ⟨F, m, vh, ρ, w, r, q⟩ := h
  refine tT_bind w r q fun F1 m1 vh1 H1 b w1 r1 g1 q1 => ?_
  cases b with
  | true => exact iteT ⟨F1, m1, vh1, ρ, w1, r1, q1⟩
  | false => exact iteF (Run.ret q1 w1)
theorem tOrD {f g : Rho → M Bool} {Q : Bool → Hp → Prop} (h : tT cl (orB f g) σ H Q) : tOr (tT cl f) (tT cl g) σ H Q := by
  obtain ⟨F, m, vh, ρ, w, r, q⟩ := h
  refine tT_bind w r q fun F1 m1 vh1 H1 b w1 r1 g1 q1 => ?_
  cases b with
  | true => exact iteT (Run.ret q1 w1)
  | false => exact iteF ⟨F1, m1, vh1, ρ, w1, r1, q1⟩

theorem dw_and {a b : Expr} {rest : List Expr} {pos : Pos} {f g : Rho → M Bool} (ha : DT cl X a f) (hb : DW cl X (.BoolOp .And (b :: rest) pos) g) : DW cl X (.BoolOp .And (a :: b :: rest) pos) (andB f g) := PWw (pw_and ha hb) fun _ _ _ h => tAndD h
theorem dw_and1 {a : Expr} {pos : Pos} {f : Rho → M Bool} (ha : DT cl X a f) : DW cl X (.BoolOp .And [a] pos) f := pw_and1 ha
theorem dw_or {a b : Expr} {rest : List Expr} {pos : Pos} {f g : Rho → M Bool} (ha : DT cl X a f) (hb : DW cl X (.BoolOp .Or (b :: rest) pos) g) : DW cl X (.BoolOp .Or (a :: b :: rest) pos) (orB f g) := PWw (pw_or ha hb) fun _ _ _ h => tOrD h
theorem dw_or1 {a : Expr} {pos : Pos} {f : Rho → M Bool} (ha : DT cl X a f) : DW cl X (.BoolOp .Or [a] pos) f := pw_or1 ha
theorem dt_w {e : Expr} {f : Rho → M Bool} (h : DW cl X e f) : DT cl X e f := h.pt
/-- values True, False by and, or, not -/
def andD (f g : Rho → M D) : Rho → M D := fun ρ => bind (f ρ) fun a => bind (toB a) fun b => if b then g ρ else ret (.bl false)
def orD (f g : Rho → M D) : Rho → M D := fun ρ => bind (f ρ) fun a => bind (toB a) fun b => if b then ret (.bl true) else g ρ
def notD (a : D) : M D := bind (toB a) fun b => ret (.bl (!b))
theorem toB_bind {α : Type} {a : D} {g : Bool → M α} {k : Kn α} (h : Run cl F m H (bind (toB a) g vh) k) : ∃ b, a = .bl b ∧ Run cl F m H (g b vh) k := by
  cases a with
  | bl b => exact ⟨b, rfl, h⟩
  | _ => exact False.elim h
theorem de_and {a b : Expr} {rest : List Expr} {pos : Pos} {f g : Rho → M D} (ha : DE cl X a f) (hb : DE cl X (.BoolOp .And (b :: rest) pos) g) : DE cl X (.BoolOp .And (a :: b :: rest) pos) (andD f g) :=
  PEw (pe_and ha hb) fun σ H Q ⟨F, m, vh, ρ, w, r, q⟩ => tD_bind w r q fun F1 m1 vh1 H1 a v w1 r1 g1 rv q1 => by
    obtain ⟨b, rfl, q1⟩ := toB_bind q1
    refine ⟨b, rep_bl rv, ?_⟩
    cases b with
    | true => exact iteT ⟨F1, m1, vh1, ρ, w1, r1, q1⟩
    | false => exact iteF (Run.ret q1 w1 _ (.bl false))
theorem de_or {a b : Expr} {rest : List Expr} {pos : Pos} {f g : Rho → M D} (ha : DE cl X a f) (hb : DE cl X (.BoolOp .Or (b :: rest) pos) g) : DE cl X (.BoolOp .Or (a :: b :: rest) pos) (orD f g) :=
  PEw (pe_or ha hb) fun σ H Q ⟨F, m, vh, ρ, w, r, q⟩ => tD_bind w r q fun F1 m1 vh1 H1 a v w1 r1 g1 rv q1 => by
    obtain ⟨b, rfl, q1⟩ := toB_bind q1
    refine ⟨b, rep_bl rv, ?_⟩
    cases b with
    | true => exact iteT (Run.ret q1 w1 _ (.bl true))
    | false => exact iteF ⟨F1, m1, vh1, ρ, w1, r1, q1⟩
theorem de_one {a : Expr} {pos : Pos} {op : BoolOp} {f : Rho → M D} (ha : DE cl X a f) : DE cl X (.BoolOp op [a] pos) f := pe_one ha
theorem de_not {a : Expr} {pos : Pos} {f : Rho → M D} (ha : DE cl X a f) : DE cl X (.UnaryOp .Not a pos) (den1 notD f) :=
  PEw (pe_not ha) fun σ H Q ⟨F, m, vh, ρ, w, r, q⟩ => tD_bind w r q fun F1 m1 vh1 H1 a v w1 r1 g1 rv q1 => by
    obtain ⟨b, rfl, q1⟩ := toB_bind q1
    exact ⟨b, rep_bl rv, Run.ret q1 w1 _ (.bl _)⟩
def ifD (c : Rho → M Bool) (f g : Rho → M D) : Rho → M D := fun ρ => bind (c ρ) fun b => if b then f ρ else g ρ
theorem de_ifExp {a b c : Expr} {pos : Pos} {h : Rho → M Bool} {f g : Rho → M D} (hc : DT cl X c h) (ha : DE cl X a f) (hb : DE cl X b g) : DE cl X (.IfExp c a b pos) (ifD h f g) :=
  PEw (pe_ifExp hc ha hb) fun σ H Q ⟨F, m, vh, ρ, w, r, q⟩ => tT_bind w r q fun F1 m1 vh1 H1 b w1 r1 g1 q1 => by
    cases b with
    | true => exact iteT ⟨F1, m1, vh1, ρ, w1, r1, q1⟩
    | false => exact iteF ⟨F1, m1, vh1, ρ, w1, r1, q1⟩

/-! ### arguments, displays, calls -/
def nilA (_ : Rho) : M (List D) := ret []
def consA (f : Rho → M D) (g : Rho → M (List D)) : Rho → M (List D) := fun ρ => bind (f ρ) fun a => bind (g ρ) fun as => ret (a :: as)
theorem da_nil : DA cl X [] nilA := PAw pa_nil fun σ H Q ⟨F, m, vh, ρ, w, r, q⟩ => Run.ret q w [] .nil
theorem da_cons {e : Expr} {es : List Expr} {f : Rho → M D} {g : Rho → M (List D)} (ha : DE cl X e f) (hr : DA cl X es g) (hs : starEach (e :: es) X.env = (false, eval e X.env) :: starEach es X.env := by rfl) : DA cl X (e :: es) (consA f g) :=
  PAw (pa_cons ha hr hs) fun σ H Q ⟨F, m, vh, ρ, w, r, q⟩ => tD_bind w r q fun F1 m1 vh1 H1 a v w1 r1 g1 rv q1 => tDs_bind w1 r1 q1 fun F2 m2 vh2 H2 as vs w2 r2 g2 rvs q2 => Run.ret q2 w2 _ (.cons (rv.mono g2) rvs)
abbrev line : Nat := 16777216
def mkLst (xs : List D) : M D := if xs.length ≤ line then ret (.lst xs) else fail
def mkTup (xs : List D) : M D := if xs.length ≤ line then ret (.tup xs) else fail
def mkLstM (xs : List D) : M D := if xs.length ≤ line then new (.lst xs) else fail
theorem le_line {n : Nat} (h : n ≤ line) : n ≤ sizeLine := by rw [sizeLine_eq]; exact h
theorem run_if {α : Type} {c : Prop} [Decidable c] {a : M α} {k : Kn α} (h : Run cl F m H ((if c then a else fail : M α) vh) k) : c ∧ Run cl F m H (a vh) k := by
  by_cases hc : c
  · rw [if_pos hc] at h
    exact ⟨hc, h⟩
  · rw [if_neg hc] at h
    exact False.elim h
abbrev denA (o : List D → M D) (fa : Rho → M (List D)) : Rho → M D := fun ρ => bind (fa ρ) fun a => o a
/-- a new list that stands still -/
theorem runNewLst {us : List V} {xs : List D} {Q : VK} {p : Addr} (q : Run cl F m H (ret (D.lst xs) vh) (kV' cl Q)) (w : Wd cl F m vh H) (r : Reps cl F m us xs) (hp : H p = none) : Q (.ref p) (upd H p (.lst us)) := by
  have z := w.frozen (o := .lst us) hp
  exact Run.frozen q w hp (by intro _ z; cases z) _ (.lst upd_same (r.mono z.2.gr))
theorem runNewTup {us : List V} {xs : List D} {Q : VK} {p : Addr} (q : Run cl F m H (ret (D.tup xs) vh) (kV' cl Q)) (w : Wd cl F m vh H) (r : Reps cl F m us xs) (hp : H p = none) : Q (.ref p) (upd H p (.tup us)) := by
  have z := w.frozen (o := .tup us) hp
  exact Run.frozen q w hp (by intro _ z; cases z) _ (.tup upd_same (r.mono z.2.gr))
theorem at_snoc {m : List Addr} {p : Addr} {vh : VH} (h : m.length = vh.length) : (m ++ [p])[vh.length]? = some p := by
  rw [← h, List.getElem?_append_right (Nat.le_refl _)]
  simp
theorem runNewLstM {us : List V} {xs : List D} {Q : VK} {p : Addr} (q : Run cl F m H (new (.lst xs) vh) (kV' cl Q)) (w : Wd cl F m vh H) (r : Reps cl F m us xs) (hp : H p = none) : Q (.ref p) (upd H p (.lst us)) := by
  have z := w.grown (u := .lst us) (o := .lst xs) hp fun P => ⟨us, upd_same, r.mono P.gr⟩
  exact q _ _ _ z.2 z.1 _ (.ref (at_snoc w.len))
theorem de_lst {es : List Expr} {pos : Pos} {fs : Rho → M (List D)} (h : DA cl X es fs) : DE cl X (.List es pos) (denA mkLst fs) :=
  PEw (pe_lst h) fun σ H Q ⟨F, m, vh, ρ, w, r, q⟩ => tDs_bind w r q fun F1 m1 vh1 H1 as vs w1 r1 g1 rvs q1 => by
    obtain ⟨hl, q1⟩ := run_if q1
    exact ⟨by rw [rvs.length]; exact le_line hl, fun p hp => runNewLst q1 w1 rvs hp⟩
theorem de_lstM {es : List Expr} {pos : Pos} {fs : Rho → M (List D)} (h : DA cl X es fs) : DE cl X (.List es pos) (denA mkLstM fs) :=
  PEw (pe_lst h) fun σ H Q ⟨F, m, vh, ρ, w, r, q⟩ => tDs_bind w r q fun F1 m1 vh1 H1 as vs w1 r1 g1 rvs q1 => by
    obtain ⟨hl, q1⟩ := run_if q1
    exact ⟨by rw [rvs.length]; exact le_line hl, fun p hp => runNewLstM q1 w1 rvs hp⟩
theorem de_tup {es : List Expr} {k : Nat} {pos : Pos} {fs : Rho → M (List D)} (h : DA cl X es fs) : DE cl X (.Tuple es k pos) (denA mkTup fs) :=
  PEw (pe_tup h) fun σ H Q ⟨F, m, vh, ρ, w, r, q⟩ => tDs_bind w r q fun F1 m1 vh1 H1 as vs w1 r1 g1 rvs q1 => by
    obtain ⟨hl, q1⟩ := run_if q1
    exact ⟨by rw [rvs.length]; exact le_line hl, fun p hp => runNewTup q1 w1 rvs hp⟩
/-- a builtin by its name: the hand layer's rule is handed in -/
theorem de_cb {e : Expr} {es : List Expr} {pos : Pos} {fn : Expr} {o : List D → M D} {fs : Rho → M (List D)} (ha : DA cl X es fs)
    (hb : ∀ {t : TA}, PA X es t → PE X e (tCB (rDs cl o) t)) : DE cl X e (denA o fs) :=
  PEw (hb ha) fun σ H Q ⟨F, m, vh, ρ, w, r, q⟩ => tDs_bind w r q fun F1 m1 vh1 H1 as vs w1 r1 g1 rvs q1 => ⟨F1, m1, vh1, as, w1, rvs, q1⟩
/-- what a def promises: its mirror's value -/
def spD (cl : Cn) (n : Nat) (den : List D → M D) : Sp := fun vs H Q _ => ∃ F m vh ds, vs.length = n ∧ Wd cl F m vh H ∧ Reps cl F m vs ds ∧ Run cl F m H (den ds vh) (kV' cl Q)
def denC (n : Nat) (den : List D → M D) (as : List D) : M D := if as.length = n then den as else fail
theorem tCallD {n : Nat} {den : List D → M D} {fs : Rho → M (List D)} {E : XK} {Q : VK} (h : tD cl (denA (denC n den) fs) σ H Q) : tCall (spD cl n den) [] E (tDs cl fs) σ H Q := by
  obtain ⟨F, m, vh, ρ, w, r, q⟩ := h
  refine tDs_bind w r q fun F1 m1 vh1 H1 as vs w1 r1 g1 rvs q1 => ?_
  obtain ⟨hl, q1⟩ := run_if q1
  refine ⟨F1, m1, vh1, as, ?_, w1, ?_, q1⟩
  · rw [List.append_nil, rvs.length, hl]
  · rw [List.append_nil]
    exact rvs
/-- a def of the module, called -/
theorem de_call {k n : Nat} {f : Addr} {fd : FuncData} {ps : List Str} {den : List D → M D} {x : Str} {p pos : Pos} {e : Expr} {es : List Expr} {fs : Rho → M (List D)}
    (Fo : FnOk X.prog X.w X.K X.mg X.base CX0 k f fd ps (spD cl n den)) (ha : DA cl X (e :: es) fs)
    (hb : ∀ {t : TA}, PA X (e :: es) t → PE X (.Call (.Name x p) (e :: es) [] pos) (tCall (spD cl n den) [] E0 t)) : DE cl X (.Call (.Name x p) (e :: es) [] pos) (denA (denC n den) fs) :=
  PEw (hb ha) fun σ H Q h => tCallD h
end
end VL

namespace VL
open PySem PySem.Spec PyProof.Rows L2

section
variable {X : Cx} {cl : Cn} {K : PySem.W.Frag} {F F' F1 F2 : Hp} {m m' m1 m2 : List Addr} {H H' H1 H2 : Hp} {vh vh1 : VH} {ρ : Rho} {σ : Sl}
/-! ### statements -/
inductive Out where
  | nx (ρ : Rho) | rt (d : D) | bk (ρ : Rho) | ct (ρ : Rho)
def kO (cl : Cn) (D : Ends) : Kn Out := fun F' m' _ H' o => match o with
  | .nx ρ' => ∀ σ', RS cl F' m' σ' ρ' → D.nx σ' H'
  | .rt d => ∀ v, Rep cl F' m' v d → D.rt v H'
  | .bk ρ' => ∀ σ', RS cl F' m' σ' ρ' → D.bk σ' H'
  | .ct ρ' => ∀ σ', RS cl F' m' σ' ρ' → D.ct σ' H'
def tS (cl : Cn) (g : Rho → M Out) : TS := fun D σ H => ∃ F m vh ρ, Wd cl F m vh H ∧ RS cl F m σ ρ ∧ Run cl F m H (g ρ vh) (kO cl D)
abbrev DS (cl : Cn) (X : Cx) (st : Stmt) (g : Rho → M Out) : Prop := PS X st (tS cl g)
abbrev DSs (cl : Cn) (X : Cx) (st : List Stmt) (g : Rho → M Out) : Prop := PSs X st (tS cl g)
abbrev Bk := Rho → M Out
def seqS (g h : Bk) : Bk := fun ρ => bind (g ρ) fun o => match o with
  | .nx ρ' => h ρ'
  | o => ret o
def nopS : Bk := fun ρ => ret (.nx ρ)
theorem dss_nil : DSs cl X [] nopS := PSsw pss_nil fun D σ H ⟨F, m, vh, ρ, w, r, q⟩ => Run.ret q w σ r
theorem dss_cons {st : Stmt} {rest : List Stmt} {g h : Bk} (h1 : DS cl X st g) (h2 : DSs cl X rest h) : DSs cl X (st :: rest) (seqS g h) :=
  PSsw (pss_cons h1 h2) fun D σ H ⟨F, m, vh, ρ, w, r, q⟩ => ⟨F, m, vh, ρ, w, r, (Run.bind q).mono fun F1 m1 vh1 H1 o p w1 q1 => by
    cases o with
    | nx ρ' => exact fun σ' r' => ⟨F1, m1, vh1, ρ', w1, r', q1⟩
    | rt d => exact Run.ret q1 w1
    | bk ρ' => exact Run.ret q1 w1
    | ct ρ' => exact Run.ret q1 w1⟩
theorem dss_one {st : Stmt} {g : Bk} (h1 : DS cl X st g) : DSs cl X [st] g := pss_one h1
def passS : Bk := fun ρ => ret (.nx ρ)
def breakS : Bk := fun ρ => ret (.bk ρ)
def contS : Bk := fun ρ => ret (.ct ρ)
def neverS : Bk := fun _ => fail
theorem ds_pass {pos : Pos} : DS cl X (.Pass pos) passS := PSw ps_pass fun D σ H ⟨F, m, vh, ρ, w, r, q⟩ => Run.ret q w σ r
theorem ds_break {pos : Pos} : DS cl X (.Break pos) breakS := PSw ps_break fun D σ H ⟨F, m, vh, ρ, w, r, q⟩ => Run.ret q w σ r
theorem ds_continue {pos : Pos} : DS cl X (.Continue pos) contS := PSw ps_continue fun D σ H ⟨F, m, vh, ρ, w, r, q⟩ => Run.ret q w σ r
theorem ds_never {st : Stmt} : DS cl X st neverS := PSw ps_never fun D σ H ⟨F, m, vh, ρ, w, r, q⟩ => q
theorem dss_never {st : List Stmt} : DSs cl X st neverS := PSsw pss_never fun D σ H ⟨F, m, vh, ρ, w, r, q⟩ => q
def dropS (f : Rho → M D) : Bk := fun ρ => bind (f ρ) fun _ => ret (.nx ρ)
theorem rep_any (d : D) (F : Hp) (m : List Addr) : True := trivial
/-- the value of a thing that is thrown away: it must be shown by some value -/
theorem ds_expr {e : Expr} {pos : Pos} {f : Rho → M D} (he : DE cl X e f) (hs : swapsWith e none pos.line X.env = pure false := by rfl) : DS cl X (.Expr e pos) (dropS f) :=
  PSw (ps_expr he hs) fun D σ H ⟨F, m, vh, ρ, w, r, q⟩ => tD_bind w r q fun F1 m1 vh1 H1 a v w1 r1 g1 rv q1 => Run.ret q1 w1 σ r1
def retS (f : Rho → M D) : Bk := fun ρ => bind (f ρ) fun d => ret (.rt d)
theorem ds_ret {e : Expr} {pos : Pos} {f : Rho → M D} (he : DE cl X e f) : DS cl X (.Return (some e) pos) (retS f) :=
  PSw (ps_ret he) fun D σ H ⟨F, m, vh, ρ, w, r, q⟩ => tD_bind w r q fun F1 m1 vh1 H1 a v w1 r1 g1 rv q1 => Run.ret q1 w1 v rv
def retNS : Bk := fun _ => ret (.rt .non)
theorem ds_retN {pos : Pos} : DS cl X (.Return none pos) retNS := PSw ps_retN fun D σ H ⟨F, m, vh, ρ, w, r, q⟩ => Run.ret q w _ .non
def ifS (c : Rho → M Bool) (g h : Bk) : Bk := fun ρ => bind (c ρ) fun b => if b then g ρ else h ρ
theorem ds_if {c : Expr} {a b : List Stmt} {pos : Pos} {f : Rho → M Bool} {g h : Bk} (hc : DT cl X c f) (ha : DSs cl X a g) (hb : DSs cl X b h) : DS cl X (.If c a b pos) (ifS f g h) :=
  PSw (ps_if hc ha hb) fun D σ H ⟨F, m, vh, ρ, w, r, q⟩ => tT_bind w r q fun F1 m1 vh1 H1 b w1 r1 g1 q1 => by
    cases b with
    | true => exact iteT ⟨F1, m1, vh1, ρ, w1, r1, q1⟩
    | false => exact iteF ⟨F1, m1, vh1, ρ, w1, r1, q1⟩
/-- a ghost step: a name's object stands still from now on -/
def stillS (i : Nat) : Bk := fun ρ => match ρ[i]? with
  | some (some d) => bind (still d) fun d' => ret (.nx (ρ.set i (some d')))
  | _ => fail

/-! ### targets -/
abbrev Tg := D → Rho → M Rho
abbrev Tgs := List D → Rho → M Rho
def kG (cl : Cn) (S : List Nat) (σ : Sl) (Q : Sl → Hp → Prop) : Kn Rho := fun F' m' _ H' ρ' => ∀ σ', RS cl F' m' σ' ρ' → σ'.length = σ.length → (∀ i, i ∉ S → σ'[i]? = σ[i]?) → Q σ' H'
def tG (cl : Cn) (S : List Nat) (g : Tg) : TG := fun v σ H Q => ∃ F m vh ρ d, Wd cl F m vh H ∧ RS cl F m σ ρ ∧ Rep cl F m v d ∧ Run cl F m H (g d ρ vh) (kG cl S σ Q)
def tGs (cl : Cn) (S : List Nat) (g : Tgs) : TGs := fun vs σ H Q => ∃ F m vh ρ ds, Wd cl F m vh H ∧ RS cl F m σ ρ ∧ Reps cl F m vs ds ∧ Run cl F m H (g ds ρ vh) (kG cl S σ Q)
abbrev DG (cl : Cn) (X : Cx) (tg : Expr) (S : List Nat) (g : Tg) : Prop := PG X tg (tG cl S g)
abbrev DGs (cl : Cn) (X : Cx) (tg : List Expr) (S : List Nat) (g : Tgs) : Prop := PGs X tg (tGs cl S g)
theorem PGw {tg : Expr} {t t' : TG} (h : PG X tg t) (w : ∀ v σ H Q, t' v σ H Q → t v σ H Q) : PG X tg t' := ⟨fun pins s σ H v u Q I r q => h.run pins s σ H v u Q I r (w v σ H Q q)⟩
theorem PGsw {tg : List Expr} {t t' : TGs} (h : PGs X tg t) (w : ∀ v σ H Q, t' v σ H Q → t v σ H Q) : PGs X tg t' := ⟨fun pins s σ H v u Q I r q => h.run pins s σ H v u Q I r (w v σ H Q q)⟩
def nameG (i : Nat) : Tg := fun d ρ => ret (ρ.set i (some d))
theorem dg_name' {tg : Expr} {i : Nat} (h : PG X tg (gName i)) : DG cl X tg [i] (nameG i) :=
  PGw h fun v σ H Q ⟨F, m, vh, ρ, d, w, r, rv, q⟩ => Run.ret q w (σ.set i (some v)) (r.set rv i) (by simp) fun j hj => by
    rw [List.getElem?_set_ne]
    intro e
    exact hj (by simp [e])
def nilG : Tgs := fun ds ρ => match ds with
  | [] => ret ρ
  | _ => fail
def consG (g : Tg) (h : Tgs) : Tgs := fun ds ρ => match ds with
  | d :: ds => bind (g d ρ) fun ρ' => h ds ρ'
  | [] => fail
theorem dgs_nil : DGs cl X [] [] nilG := PGsw pgs_nil fun vs σ H Q ⟨F, m, vh, ρ, ds, w, r, rv, q⟩ => by
  cases rv with
  | nil => exact ⟨rfl, Run.ret q w σ r rfl fun _ _ => rfl⟩
  | cons _ _ => exact False.elim q
theorem dgs_cons {e : Expr} {es : List Expr} {S T : List Nat} {g : Tg} {h : Tgs} (h1 : DG cl X e S g) (h2 : DGs cl X es T h)
    (hs : (assignEach (e :: es) X.env).map (·.2) = assign e X.env :: (assignEach es X.env).map (·.2) := by rfl) : DGs cl X (e :: es) (S ++ T) (consG g h) :=
  PGsw (pgs_cons h1 h2 hs) fun vs σ H Q ⟨F, m, vh, ρ, ds, w, r, rv, q⟩ => by
    cases rv with
    | nil => exact False.elim q
    | @cons v vs d ds rv rvs =>
      refine ⟨v, vs, rfl, F, m, vh, ρ, d, w, r, rv, (Run.bind q).mono fun F1 m1 vh1 H1 ρ1 p w1 q1 σ1 r1 hl1 hs1 => ?_⟩
      refine ⟨F1, m1, vh1, ρ1, ds, w1, r1, rvs.mono p.gr, q1.mono fun F2 m2 vh2 H2 ρ2 p2 w2 q2 σ2 r2 hl2 hs2 => q2 σ2 r2 (hl2.trans hl1) fun i hi => ?_⟩
      have a : i ∉ S := fun z => hi (List.mem_append_left _ z)
      have b : i ∉ T := fun z => hi (List.mem_append_right _ z)
      exact (hs2 i b).trans (hs1 i a)
def tupG (n : Nat) (h : Tgs) : Tg := fun d ρ => match d with
  | .tup ds => if ds.length = n then h ds ρ else fail
  | _ => fail
theorem rep_tup {v : V} {ds : List D} (h : Rep cl F m v (.tup ds)) : ∃ a us, v = .ref a ∧ F a = some (.tup us) ∧ Reps cl F m us ds := by
  cases h with
  | tup e r => exact ⟨_, _, rfl, e, r⟩
theorem rep_lst {v : V} {ds : List D} (h : Rep cl F m v (.lst ds)) : ∃ a us, v = .ref a ∧ F a = some (.lst us) ∧ Reps cl F m us ds := by
  cases h with
  | lst e r => exact ⟨_, _, rfl, e, r⟩
theorem Wd.sqT {a : Addr} {us : List V} (w : Wd cl F m vh H) (h : F a = some (.tup us)) : SqT K H a us := .inl (.inl (w.ext _ _ h))
theorem Wd.sqL {a : Addr} {us : List V} (w : Wd cl F m vh H) (h : F a = some (.lst us)) : SqL K H a us := .inl (.inl (w.ext _ _ h))
theorem dg_tup {es : List Expr} {k n : Nat} {pos : Pos} {S : List Nat} {h : Tgs} (hc : X.calm = true) (hh : DGs cl X es S h)
    (hn : (assignEach es X.env).length = n := by rfl) (hst : (assignEach es X.env).findIdx? (·.1) = none := by rfl) : DG cl X (.Tuple es k pos) S (tupG n h) :=
  PGw (pg_tup hc hh hn hst) fun v σ H Q ⟨F, m, vh, ρ, d, w, r, rv, q⟩ => by
    cases d with
    | tup ds =>
      obtain ⟨a, us, rfl, e, rs⟩ := rep_tup rv
      obtain ⟨hl, q⟩ := run_if q
      exact ⟨a, us, rfl, w.sqT e, by rw [rs.length, hl], F, m, vh, ρ, ds, w, r, rs, q⟩
    | _ => exact False.elim q
def asgS (f : Rho → M D) (g : Tg) : Bk := fun ρ => bind (f ρ) fun d => bind (g d ρ) fun ρ' => ret (.nx ρ')
theorem tAsgD {f : Rho → M D} {S : List Nat} {g : Tg} {D : Ends} (h : tS cl (asgS f g) D σ H) : tAsg (tD cl f) (tG cl S g) D σ H := by
  obtain ⟨F, m, vh, ρ, w, r, q⟩ := h
  refine tD_bind w r q fun F1 m1 vh1 H1 a v w1 r1 g1 rv q1 => ?_
  exact ⟨F1, m1, vh1, ρ, a, w1, r1, rv, (Run.bind q1).mono fun F2 m2 vh2 H2 ρ2 p2 w2 q2 σ2 r2 _ _ => Run.ret q2 w2 σ2 r2⟩
theorem ds_asg {tg e : Expr} {pos : Pos} {f : Rho → M D} {S : List Nat} {g : Tg} (he : DE cl X e f) (hg : DG cl X tg S g) (hs : swapsWithSole [tg] e pos.line X.env = pure false := by rfl) (hw : swappedStores [tg] e X.env = pure none := by rfl)
    (h1 : (assignEach [tg] X.env).map (·.2) = [assign tg X.env] := by rfl) : DS cl X (.Assign [tg] e pos) (asgS f g) := PSw (ps_asg he hg hs hw h1) fun D σ H h => tAsgD h
theorem tSetD {f : Rho → M D} {i : Nat} {D : Ends} (h : tS cl (asgS f (nameG i)) D σ H) : tAsg (tD cl f) (gName i) D σ H := by
  obtain ⟨F, m, vh, ρ, w, r, q⟩ := h
  refine tD_bind w r q fun F1 m1 vh1 H1 a v w1 r1 g1 rv q1 => ?_
  exact Run.ret q1 w1 _ (r1.set rv i)
theorem ds_set {i : Nat} {x : Str} {e : Expr} {pos pos' : Pos} {f : Rho → M D} (he : DE cl X e f) (h : ∀ {te : TE}, PE X e te → PS X (.Assign [.Name x pos'] e pos) (tAsg te (gName i))) : DS cl X (.Assign [.Name x pos'] e pos) (asgS f (nameG i)) :=
  PSw (h he) fun D σ H h => tSetD h
/-- a, b = x, y -/
def parS (i j : Nat) (f : Rho → M (List D)) : Bk := fun ρ => bind (f ρ) fun ds => match ds with
  | [a, b] => ret (.nx ((ρ.set i (some a)).set j (some b)))
  | _ => fail
theorem ds_par {st : Stmt} {i j : Nat} {es : List Expr} {f : Rho → M (List D)} (ha : DA cl X es f) (h : ∀ {ta : TA}, PA X es ta → PS X st (tPar i j ta)) : DS cl X st (parS i j f) :=
  PSw (h ha) fun D σ H ⟨F, m, vh, ρ, w, r, q⟩ => tDs_bind w r q fun F1 m1 vh1 H1 as vs w1 r1 g1 rvs q1 => by
    match as, vs, rvs with
    | [a, b], [v, u], .cons rv (.cons ru .nil) => exact ⟨v, u, rfl, Run.ret q1 w1 _ ((r1.set rv i).set ru j)⟩
    | [], _, _ => exact False.elim q1
    | [_], _, _ => exact False.elim q1
    | _ :: _ :: _ :: _, _, _ => exact False.elim q1

/-! ### while -/
def whileS (c : Rho → M Bool) (b : Bk) : Nat → Bk
  | 0 => fun _ => fail
  | n + 1 => fun ρ => bind (c ρ) fun t => if t then bind (b ρ) fun o => match o with
      | .nx ρ' => whileS c b n ρ'
      | .ct ρ' => whileS c b n ρ'
      | .bk ρ' => ret (.nx ρ')
      | .rt d => ret (.rt d)
    else ret (.nx ρ)
theorem ds_while {c : Expr} {body : List Stmt} {pos : Pos} {f : Rho → M Bool} {b : Bk} (n : Nat) (hp : PassesOwn (model X.prog X.w) X.A X.env X.xe) (hc : DT cl X c f) (hb : DSs cl X body b) : DS cl X (.While c body [] pos) (whileS f b n) :=
  PSw (ps_while hp hc hb) fun D σ H h => by
    refine ⟨fun k σ H => tS cl (whileS f b k) D σ H, ⟨n, h⟩, fun k σ H h => ?_⟩
    obtain ⟨F, m, vh, ρ, w, r, q⟩ := h
    cases k with
    | zero => exact False.elim q
    | succ k =>
      refine tT_bind w r q fun F1 m1 vh1 H1 t w1 r1 g1 q1 => ?_
      cases t with
      | false => exact iteF (Run.ret q1 w1 σ r1)
      | true =>
        refine iteT ⟨fun σ' H' => tS cl (whileS f b k) D σ' H', fun σ' H' h => ⟨k, Nat.lt_succ_self _, h⟩, F1, m1, vh1, ρ, w1, r1, (Run.bind q1).mono fun F2 m2 vh2 H2 o p2 w2 q2 => ?_⟩
        cases o with
        | nx ρ' => exact fun σ' r' => ⟨F2, m2, vh2, ρ', w2, r', q2⟩
        | ct ρ' => exact fun σ' r' => ⟨F2, m2, vh2, ρ', w2, r', q2⟩
        | bk ρ' => exact Run.ret q2 w2
        | rt d => exact Run.ret q2 w2

/-! ### what is walked -/
def ItOk (cl : Cn) (F : Hp) (m : List Addr) (H : Hp) (items : List D) (J : It) : Prop := ∃ G Y, Walk J items.length G Y ∧ (∀ F2 m2 vh2 H2, Post F m H F2 m2 H2 → Wd cl F2 m2 vh2 H2 → G H2) ∧
  ∀ i H2 x H3 F2 m2 vh2, i < items.length → Gr F m F2 m2 → Wd cl F2 m2 vh2 H2 → Y i H2 x H3 → ∃ F3 d, Post F2 m2 H2 F3 m2 H3 ∧ Wd cl F3 m2 vh2 H3 ∧ items[i]? = some d ∧ Rep cl F3 m2 x d
def kI (cl : Cn) (R : It → Hp → Prop) : Kn (List D) := fun F' m' _ H' items => ∀ J, ItOk cl F' m' H' items J → R J H'
def tI (cl : Cn) (f : Rho → M (List D)) : TI := fun σ H R => ∃ F m vh ρ, Wd cl F m vh H ∧ RS cl F m σ ρ ∧ Run cl F m H (f ρ vh) (kI cl R)
abbrev DI (cl : Cn) (X : Cx) (tg iter : Expr) (f : Rho → M (List D)) : Prop := PI X tg iter (tI cl f)
theorem tI_bind {α : Type} {f : Rho → M (List D)} {g : List D → M α} {k : Kn α} {R : It → Hp → Prop} (w : Wd cl F m vh H) (r : RS cl F m σ ρ) (h : Run cl F m H (bind (f ρ) g vh) k)
    (hq : ∀ F1 m1 vh1 H1 a J, Wd cl F1 m1 vh1 H1 → RS cl F1 m1 σ ρ → Gr F m F1 m1 → ItOk cl F1 m1 H1 a J → Run cl F1 m1 H1 (g a vh1) k → R J H1) : tI cl f σ H R :=
  ⟨F, m, vh, ρ, w, r, (Run.bind h).mono fun F1 m1 vh1 H1 a p w1 q J ok => hq F1 m1 vh1 H1 a J w1 (r.mono p.gr) p.gr ok q⟩

def forL (g : Tg) (b : Bk) : List D → Bk
  | [] => fun ρ => ret (.nx ρ)
  | d :: ds => fun ρ => bind (g d ρ) fun ρ' => bind (b ρ') fun o => match o with
      | .nx ρ' => forL g b ds ρ'
      | .ct ρ' => forL g b ds ρ'
      | .bk ρ' => ret (.nx ρ')
      | .rt d => ret (.rt d)
def forS (f : Rho → M (List D)) (g : Tg) (b : Bk) : Bk := fun ρ => bind (f ρ) fun items => forL g b items ρ
theorem ds_for {tg iter : Expr} {body : List Stmt} {pos : Pos} {f : Rho → M (List D)} {S : List Nat} {g : Tg} {b : Bk} (hp : PassesOwn (model X.prog X.w) X.A X.env X.xe) (hc : X.calm = true) (hi : DI cl X tg iter f) (hg : DG cl X tg S g) (hb : DSs cl X body b)
    (hs : ∀ x, foldedSetIterable iter X.env x = pure x := by intro _; rfl) : DS cl X (.For tg iter body [] pos) (forS f g b) :=
  PSw (ps_for hp hc hi hg hb hs) fun D σ H ⟨F, m, vh, ρ, w, r, q⟩ => by
    refine tI_bind w r q fun F1 m1 vh1 H1 items J w1 r1 g1 ok q1 => ?_
    obtain ⟨G, Y, wk, hG, hY⟩ := ok
    refine for_it wk (fun i σ H => ∃ F2 m2 vh2 ρ2, Post F1 m1 H1 F2 m2 H ∧ Wd cl F2 m2 vh2 H ∧ RS cl F2 m2 σ ρ2 ∧ Run cl F2 m2 H (forL g b (items.drop i) ρ2 vh2) (kO cl D)) ⟨F1, m1, vh1, ρ, .refl, w1, r1, q1⟩ ?_ ?_ ?_
    · rintro i σ H _ ⟨F2, m2, vh2, ρ2, g2, w2, r2, q2⟩
      exact hG F2 m2 vh2 H g2 w2
    · rintro i x σ H H' hi ⟨F2, m2, vh2, ρ2, g2, w2, r2, q2⟩ y
      obtain ⟨F3, d, p3, w3, e, rv⟩ := hY i H x H' F2 m2 vh2 hi g2.gr w2 y
      have q3 := Run.pre q2 p3
      rw [List.drop_eq_getElem_cons hi] at q3
      have ed : items[i] = d := by
        rw [List.getElem?_eq_getElem hi] at e
        exact Option.some.inj e
      rw [ed] at q3
      refine ⟨F3, m2, vh2, ρ2, d, w3, r2.mono p3.gr, rv, (Run.bind q3).mono fun F4 m4 vh4 H4 ρ4 p4 w4 q4 σ4 r4 _ _ => ?_⟩
      refine ⟨F4, m4, vh4, ρ4, w4, r4, (Run.bind q4).mono fun F5 m5 vh5 H5 o p5 w5 q5 => ?_⟩
      have gg := g2.trans (p3.trans (p4.trans p5))
      cases o with
      | nx ρ' => exact fun σ' r' => ⟨F5, m5, vh5, ρ', gg, w5, r', q5⟩
      | ct ρ' => exact fun σ' r' => ⟨F5, m5, vh5, ρ', gg, w5, r', q5⟩
      | bk ρ' => exact Run.ret q5 w5
      | rt d => exact Run.ret q5 w5
    · rintro σ H ⟨F2, m2, vh2, ρ2, g2, w2, r2, q2⟩
      rw [List.drop_length] at q2
      exact Run.ret q2 w2 σ r2

/-! ### a def -/
def denF (n : Nat) (g : Bk) (ds : List D) : M D := bind (g (ds.map some ++ List.replicate (n - ds.length) none)) fun o => match o with
  | .nx _ => ret .non
  | .rt d => ret d
  | _ => fail
theorem rs_start (N : List Str) : ∀ {vs : List V} {ds : List D}, Reps cl F m vs ds → RS cl F m (L2.start N vs) (ds.map some ++ List.replicate (N.length - ds.length) none) := by
  intro vs ds r
  unfold L2.start
  rw [r.length]
  refine ⟨by simp [r.length], fun i d h => ?_⟩
  by_cases hi : i < ds.length
  · rw [List.getElem?_append_left (by simpa using hi)] at h
    rw [List.getElem?_map] at h
    have e : ds[i]? = some d := by
      cases q : ds[i]? with
      | none => rw [q] at h; cases h
      | some z => rw [q] at h; exact Option.some.inj h
    obtain ⟨v, e1, rv⟩ := r.get e
    refine ⟨v, ?_, rv⟩
    rw [List.getElem?_append_left (by simpa [r.length] using hi), List.getElem?_map, e1]
    rfl
  · rw [List.getElem?_append_right (by simpa using hi)] at h
    have : (List.replicate (N.length - ds.length) (none : Option D))[i - (ds.map some).length]? ≠ some (some d) := by
      intro z
      have := List.mem_of_getElem? z
      simp at this
    exact absurd h this
end
section
variable {P : Program} {w : World} {cl : Cn} {K : PySem.W.Frag} {mg : Str → Option Value} {base : Heap}
theorem fn_D {x qual : Str} {st : Stmt} {f : Addr} {fd : FuncData} {N ps : List Str} {k : Nat} {g : Bk} (Fu : Fun K x qual st f fd) (S : FnScope N ps (defScope st))
    (hb : ∀ (cdv : Value) (A : Around) (outer : List Env) (s : Shared) (H : Hp) (E : XK), Room k (A.deeper (envOfC qual (defScope st) s.heap.objs.size f cdv)) → DSs cl (cxOf CX0 P w K mg base N qual (defScope st) f cdv A outer s H E).nox (defBody st) g) :
    FnOk P w K mg base CX0 (k + 1) f fd ps (spD cl ps.length (denF N.length g)) := by
  refine Fu.ok S (fun vs H Q E h => ?_) (fun cdv A outer s H vs Q E hr h => ?_)
  · obtain ⟨_, _, _, _, e, _⟩ := h
    exact e
  · obtain ⟨F, m, vh, ds, e, wd, r, q⟩ := h
    refine ⟨_, hb cdv A outer s H E hr, F, m, vh, _, wd, rs_start N r, (Run.bind q).mono fun F1 m1 vh1 H1 o p w1 q1 => ?_⟩
    cases o with
    | nx ρ => exact fun σ' _ => Run.ret q1 w1 _ .non
    | rt d => exact Run.ret q1 w1
    | bk ρ => exact False.elim q1
    | ct ρ => exact False.elim q1
end
end VL

namespace VL
open PySem PySem.Spec PyProof.Rows L2

section
variable {X : Cx} {cl : Cn} {K : PySem.W.Frag} {F F' F1 F2 : Hp} {m m' m1 m2 : List Addr} {H H' H1 H2 : Hp} {vh vh1 : VH} {ρ : Rho} {σ : Sl} {tg : Expr}
theorem PIor {e : Expr} {t t' : TI} (h : PI X tg e t) (h' : PI X tg e t') : PI X tg e (fun σ H R => t σ H R ∨ t' σ H R) := ⟨fun pins s σ H R I q => q.elim (h.run pins s σ H R I) (h'.run pins s σ H R I)⟩
/-- at turns that leave the heap as it is -/
theorem itOk_at {items : List D} {J : It} {G : Hp → Prop} {us : List V} (r : Reps cl F m us items) (wk : Walk J items.length G (YAt us)) (hG : ∀ F2 m2 vh2 H2, Post F m H F2 m2 H2 → Wd cl F2 m2 vh2 H2 → G H2) : ItOk cl F m H items J := by
  refine ⟨G, _, wk, hG, fun i H2 x H3 F2 m2 vh2 hi g w y => ?_⟩
  obtain ⟨rfl, e⟩ := y
  obtain ⟨d, e1, rv⟩ := r.get' e
  exact ⟨F2, d, .refl, w, e1, rv.mono g⟩
theorem itOk_list {items : List D} {a : Addr} {us : List V} (e : F a = some (.lst us)) (r : Reps cl F m us items) : ItOk cl F m H items (Itl K a) :=
  itOk_at r (by rw [← r.length]; exact walk_list) fun F2 m2 vh2 H2 g w => w.sqL (g.gr.ext _ _ e)
theorem itOk_scr {a : Addr} {o : Obj} {ns : List Int} (e : F a = some (.frz o (.lst (ns.map V.int)))) : ItOk cl F m H (ns.map D.int) (Itl K a) :=
  itOk_at (G := fun H => SqL K H a (ns.map V.int)) (Reps.of_ints ns) (by
    rw [show (ns.map D.int).length = (ns.map V.int).length by simp]
    exact walk_list) fun F2 m2 vh2 H2 g w => Or.inl (Or.inr ⟨o, w.ext _ _ (g.gr.ext _ _ e)⟩)
theorem itOk_tup {items : List D} {a : Addr} {us : List V} (e : F a = some (.tup us)) (r : Reps cl F m us items) : ItOk cl F m H items (Itt K a) :=
  itOk_at r (by rw [← r.length]; exact walk_tup) fun F2 m2 vh2 H2 g w => w.sqT (g.gr.ext _ _ e)
theorem itOk_fn {items : List D} {J : It} {f : Nat → V} (wk : Walk J items.length (fun _ => True) (YFn f)) (h : ∀ F m i d, items[i]? = some d → Rep cl F m (f i) d) : ItOk cl F m H items J := by
  refine ⟨_, _, wk, fun _ _ _ _ _ _ => trivial, fun i H2 x H3 F2 m2 vh2 hi g w y => ?_⟩
  obtain ⟨rfl, rfl⟩ := y
  exact ⟨F2, items[i], .refl, w, List.getElem?_eq_getElem hi, h _ _ _ _ (List.getElem?_eq_getElem hi)⟩
def rangeL (lo : Int) (n : Nat) : List D := (List.range n).map fun i => D.int (lo + (i : Nat))
theorem itOk_range {lo : Int} {n : Nat} : ItOk cl F m H (rangeL lo n) (Itr lo n) :=
  itOk_fn (by
    rw [show (rangeL lo n).length = n by simp [rangeL]]
    exact walk_range) fun F m i d e => by
      unfold rangeL at e
      rw [List.getElem?_map] at e
      cases q : (List.range n)[i]? with
      | none => rw [q] at e; cases e
      | some j =>
        rw [q] at e
        obtain ⟨hl, ej⟩ := List.getElem?_eq_some_iff.mp q
        simp at ej
        subst ej
        cases Option.some.inj e
        exact .int _
def signsL (s : Str) : List D := s.cps.toList.map fun c => D.str ⟨#[c]⟩
theorem itOk_str {z : Str} : ItOk cl F m H (signsL z) (Its z) := by
  refine ⟨fun _ => True, _, (by
    rw [show (signsL z).length = z.cps.size by simp [signsL]]
    exact walk_str), fun _ _ _ _ _ _ => trivial, fun i H2 x H3 F2 m2 vh2 hi g w y => ?_⟩
  obtain ⟨rfl, c, e, rfl⟩ := y
  refine ⟨F2, .str ⟨#[c]⟩, .refl, w, ?_, .str _⟩
  unfold signsL
  rw [List.getElem?_map, Array.getElem?_toList, e]
  rfl
theorem itOk_lck {items : List D} {a : Addr} {o : Obj} {us : List V} (e : H a = some (.frz o (.lst us))) (r : Reps cl F m us items) : ItOk cl F m H items (Itl K a) :=
  itOk_at (G := fun H => SqL K H a us) r (by rw [← r.length]; exact walk_list) fun F2 m2 vh2 H2 g w => Or.inl (Or.inr ⟨o, g.frz _ _ _ e⟩)
/-- a new pair at each turn -/
def pairL (xs ys : List D) : List D := (xs.zip ys).map fun p => D.tup [p.1, p.2]
theorem itOk_pair {J : It} {n : Nat} {G : Hp → Prop} {f g : Nat → Option V} {xs ys : List D} (hn : n = min xs.length ys.length) (wk : Walk J n G (YPair f g)) (hG : ∀ F2 m2 vh2 H2, Post F m H F2 m2 H2 → Wd cl F2 m2 vh2 H2 → G H2)
    (hx : ∀ i v, f i = some v → i < n → ∃ d, xs[i]? = some d ∧ Rep cl F m v d) (hy : ∀ i v, g i = some v → i < n → ∃ d, ys[i]? = some d ∧ Rep cl F m v d) : ItOk cl F m H (pairL xs ys) J := by
  have hl : (pairL xs ys).length = n := by simp [pairL, hn]
  refine ⟨G, _, (by rw [hl]; exact wk), hG, fun i H2 x H3 F2 m2 vh2 hi g w y => ?_⟩
  rw [hl] at hi
  obtain ⟨T, u, v, rfl, nT, rfl, e1, e2⟩ := y
  obtain ⟨d1, f1, r1⟩ := hx i u e1 hi
  obtain ⟨d2, f2, r2⟩ := hy i v e2 hi
  have z := w.frozen (o := .tup [u, v]) nT
  refine ⟨_, .tup [d1, d2], z.2, z.1, ?_, .tup upd_same (.cons ((r1.mono g).mono z.2.gr) (.cons ((r2.mono g).mono z.2.gr) .nil))⟩
  unfold pairL
  rw [List.getElem?_map, show (xs.zip ys)[i]? = some (d1, d2) from List.getElem?_zip_eq_some.mpr ⟨f1, f2⟩]
  rfl
theorem itOk_zip {xs ys : List D} {a b : Addr} {us vs : List V} (e1 : F a = some (.lst us)) (e2 : F b = some (.lst vs)) (r1 : Reps cl F m us xs) (r2 : Reps cl F m vs ys) : ItOk cl F m H (pairL xs ys) (Itz K a b) :=
  itOk_pair rfl (walk_zip (xs := us) (ys := vs) (by rw [r1.length, r2.length])) (fun F2 m2 vh2 H2 g w => ⟨w.sqL (g.gr.ext _ _ e1), w.sqL (g.gr.ext _ _ e2)⟩) (fun i v e _ => r1.get' e) fun i v e _ => r2.get' e
def enumL (xs : List D) : List D := pairL ((List.range xs.length).map fun (i : Nat) => D.int (i : Nat)) xs
theorem itOk_enum {xs : List D} {a : Addr} {us : List V} (e1 : F a = some (.lst us)) (r1 : Reps cl F m us xs) : ItOk cl F m H (enumL xs) (Ite K a) := by
  refine itOk_pair (n := us.length) (by simp [r1.length]) walk_enum (fun F2 m2 vh2 H2 g w => w.sqL (g.gr.ext _ _ e1)) (fun i v e hi => ?_) fun i v e _ => r1.get' e
  have : v = .int (i : Nat) := (Option.some.inj e).symm
  subst this
  refine ⟨.int (i : Nat), ?_, .int _⟩
  rw [r1.length] at hi
  simp [hi]

theorem itOk_enumL {xs : List D} {a : Addr} {o : Obj} {us : List V} (e1 : H a = some (.frz o (.lst us))) (r1 : Reps cl F m us xs) : ItOk cl F m H (enumL xs) (Ite K a) := by
  refine itOk_pair (n := us.length) (by simp [r1.length]) walk_enum (fun F2 m2 vh2 H2 g w => (Or.inl (Or.inr ⟨o, g.frz _ _ _ e1⟩) : SqL K H2 a us)) (fun i v e hi => ?_) fun i v e _ => r1.get' e
  have : v = .int (i : Nat) := (Option.some.inj e).symm
  subst this
  refine ⟨.int (i : Nat), ?_, .int _⟩
  rw [r1.length] at hi
  simp [hi]
/-- what a for may walk by itself -/
def lckAt : Option (Option MO) → Option (List D)
  | some (some (.lstL xs)) => some xs
  | _ => none
theorem lckAt_eq {o : Option (Option MO)} {xs : List D} (e : lckAt o = some xs) : o = some (some (.lstL xs)) := by
  unfold lckAt at e
  split at e
  · cases e; rfl
  · cases e
theorem Wd.refLck {v : V} {n : Nat} {xs : List D} (w : Wd cl F m vh H) (r : Rep cl F m v (.ref n)) (e : lckAt vh[n]? = some xs) : ∃ a o us, v = .ref a ∧ H a = some (.frz o (.lst us)) ∧ Reps cl F m us xs := by
  cases r with
  | ref h =>
    obtain ⟨_, o, us, h1, h2⟩ := w.live _ _ _ h (lckAt_eq e)
    exact ⟨_, o, us, rfl, h1, h2⟩
def seqIt : D → M (List D)
  | .ref n => fun vh => (lckAt vh[n]?).map fun xs => (xs, vh)
  | .lst xs => ret xs
  | .tup xs => ret xs
  | .str s => ret (signsL s)
  | .scr ns => ret (ns.map D.int)
  | _ => fail
theorem di_seq {e : Expr} {f : Rho → M D} (he : DE cl X e f) : DI cl X tg e (fun ρ => bind (f ρ) seqIt) :=
  PIw (PIor (pi_list he) (PIor (pi_tup he) (pi_str he))) fun σ H R ⟨F, m, vh, ρ, w, r, q⟩ => by
    have q0 := Run.bind q
    cases e0 : f ρ vh with
    | none =>
      rw [e0] at q0
      exact False.elim q0
    | some z =>
      obtain ⟨d, vh1⟩ := z
      rw [e0] at q0
      cases d with
      | lst xs =>
        refine .inl ⟨F, m, vh, ρ, w, r, ?_⟩
        rw [e0]
        intro F1 m1 H1 p w1 v rv
        obtain ⟨a, us, rfl, ea, ru⟩ := rep_lst rv
        exact ⟨a, rfl, ⟨us, w1.sqL ea⟩, Run.ret (q0 F1 m1 H1 p w1) w1 _ (itOk_list ea ru)⟩
      | scr ns =>
        refine .inl ⟨F, m, vh, ρ, w, r, ?_⟩
        rw [e0]
        intro F1 m1 H1 p w1 v rv
        cases rv with
        | @scr a o _ ea =>
          exact ⟨a, rfl, ⟨_, .inl (.inr ⟨o, w1.ext _ _ ea⟩)⟩, Run.ret (q0 F1 m1 H1 p w1) w1 _ (itOk_scr ea)⟩
      | tup xs =>
        refine .inr (.inl ⟨F, m, vh, ρ, w, r, ?_⟩)
        rw [e0]
        intro F1 m1 H1 p w1 v rv
        obtain ⟨a, us, rfl, ea, ru⟩ := rep_tup rv
        exact ⟨a, rfl, ⟨us, w1.sqT ea⟩, Run.ret (q0 F1 m1 H1 p w1) w1 _ (itOk_tup ea ru)⟩
      | ref n =>
        refine .inl ⟨F, m, vh, ρ, w, r, ?_⟩
        rw [e0]
        intro F1 m1 H1 p w1 v rv
        have q1 : Run cl F1 m1 H1 ((lckAt vh1[n]?).map fun xs => (xs, vh1)) (kI cl R) := q0 F1 m1 H1 p w1
        cases e1 : lckAt vh1[n]? with
        | none => rw [e1] at q1; exact False.elim q1
        | some xs =>
          rw [e1] at q1
          obtain ⟨a, o, us, rfl, ea, ru⟩ := w1.refLck rv e1
          exact ⟨a, rfl, ⟨us, .inl (.inr ⟨o, ea⟩)⟩, Run.ret (a := xs) q1 w1 _ (itOk_lck ea ru)⟩
      | str s =>
        refine .inr (.inr ⟨F, m, vh, ρ, w, r, ?_⟩)
        rw [e0]
        intro F1 m1 H1 p w1 v rv
        cases rv
        exact ⟨s, rfl, Run.ret (q0 F1 m1 H1 p w1) w1 _ itOk_str⟩
      | _ =>
        refine .inl ⟨F, m, vh, ρ, w, r, ?_⟩
        rw [e0]
        intro F1 m1 H1 p w1
        exact False.elim (q0 F1 m1 H1 p w1)
/-- range(n), range(a, b) -/
def range1It : List D → M (List D)
  | [.int n] => if -(2 ^ 62) ≤ n ∧ n < 2 ^ 62 then ret (rangeL 0 n.toNat) else fail
  | _ => fail
def range2It : List D → M (List D)
  | [.int a, .int b] => if -(2 ^ 62) ≤ a ∧ a < 2 ^ 62 ∧ -(2 ^ 62) ≤ b ∧ b < 2 ^ 62 then ret (rangeL a (b - a).toNat) else fail
  | _ => fail
def zipIt : List D → M (List D)
  | [.lst xs, .lst ys] => ret (pairL xs ys)
  | _ => fail
def enumIt : List D → M (List D)
  | [.ref n] => fun vh => (lckAt vh[n]?).map fun xs => (enumL xs, vh)
  | [.lst xs] => ret (enumL xs)
  | _ => fail
theorem rep_int {v : V} {i : Int} (h : Rep cl F m v (.int i)) : v = .int i := by cases h; rfl
/-- one argument -/
theorem reps1 {vs : List V} {d : D} (h : Reps cl F m vs [d]) : ∃ v, vs = [v] ∧ Rep cl F m v d := by
  cases h with
  | cons r t => cases t; exact ⟨_, rfl, r⟩
theorem reps2 {vs : List V} {d e : D} (h : Reps cl F m vs [d, e]) : ∃ v u, vs = [v, u] ∧ Rep cl F m v d ∧ Rep cl F m u e := by
  cases h with
  | cons r t =>
    obtain ⟨u, rfl, r'⟩ := reps1 t
    exact ⟨_, u, rfl, r, r'⟩
theorem di_range1 {a e : Expr} {fs : Rho → M (List D)} (ha : DA cl X [a] fs) (hb : ∀ {ta : TA}, PA X [a] ta → PI X tg e (iRng1 ta)) : DI cl X tg e (fun ρ => bind (fs ρ) range1It) :=
  PIw (hb ha) fun σ H R ⟨F, m, vh, ρ, w, r, q⟩ => tDs_bind w r q fun F1 m1 vh1 H1 as vs w1 r1 g1 rvs q1 => by
    unfold range1It at q1
    split at q1
    · obtain ⟨v, rfl, rv⟩ := reps1 rvs
      cases rep_int rv
      obtain ⟨hc, q1⟩ := run_if q1
      exact ⟨_, rfl, hc.1, hc.2, Run.ret q1 w1 _ itOk_range⟩
    · exact False.elim q1
theorem di_range2 {a b e : Expr} {fs : Rho → M (List D)} (ha : DA cl X [a, b] fs) (hb : ∀ {ta : TA}, PA X [a, b] ta → PI X tg e (iRng2 ta)) : DI cl X tg e (fun ρ => bind (fs ρ) range2It) :=
  PIw (hb ha) fun σ H R ⟨F, m, vh, ρ, w, r, q⟩ => tDs_bind w r q fun F1 m1 vh1 H1 as vs w1 r1 g1 rvs q1 => by
    unfold range2It at q1
    split at q1
    · obtain ⟨v, u, rfl, rv, ru⟩ := reps2 rvs
      cases rep_int rv
      cases rep_int ru
      obtain ⟨hc, q1⟩ := run_if q1
      exact ⟨_, _, rfl, hc, Run.ret q1 w1 _ itOk_range⟩
    · exact False.elim q1
theorem di_zip {a b e : Expr} {fs : Rho → M (List D)} (ha : DA cl X [a, b] fs) (hb : ∀ {ta : TA}, PA X [a, b] ta → PI X tg e (iZip X.K ta)) : DI cl X tg e (fun ρ => bind (fs ρ) zipIt) :=
  PIw (hb ha) fun σ H R ⟨F, m, vh, ρ, w, r, q⟩ => tDs_bind w r q fun F1 m1 vh1 H1 as vs w1 r1 g1 rvs q1 => by
    unfold zipIt at q1
    split at q1
    · obtain ⟨v, u, rfl, rv, ru⟩ := reps2 rvs
      obtain ⟨a, us, rfl, ea, rs⟩ := rep_lst rv
      obtain ⟨b, ws, rfl, eb, rs'⟩ := rep_lst ru
      exact ⟨a, b, us, ws, rfl, w1.sqL ea, w1.sqL eb, Run.ret q1 w1 _ (itOk_zip ea eb rs rs')⟩
    · exact False.elim q1
theorem di_enum {a e : Expr} {fs : Rho → M (List D)} (ha : DA cl X [a] fs) (hb : ∀ {ta : TA}, PA X [a] ta → PI X tg e (iEnum X.K ta)) : DI cl X tg e (fun ρ => bind (fs ρ) enumIt) :=
  PIw (hb ha) fun σ H R ⟨F, m, vh, ρ, w, r, q⟩ => tDs_bind w r q fun F1 m1 vh1 H1 as vs w1 r1 g1 rvs q1 => by
    unfold enumIt at q1
    split at q1
    · rename_i n
      obtain ⟨v, rfl, rv⟩ := reps1 rvs
      cases e1 : lckAt vh1[n]? with
      | none => rw [e1] at q1; exact False.elim q1
      | some xs =>
        rw [e1] at q1
        obtain ⟨a, o, us, rfl, ea, ru⟩ := w1.refLck rv e1
        exact ⟨a, us, rfl, .inl (.inr ⟨o, ea⟩), Run.ret (a := enumL xs) q1 w1 _ (itOk_enumL ea ru)⟩
    · obtain ⟨v, rfl, rv⟩ := reps1 rvs
      obtain ⟨a, us, rfl, ea, rs⟩ := rep_lst rv
      exact ⟨a, us, rfl, w1.sqL ea, Run.ret q1 w1 _ (itOk_enum ea rs)⟩
    · exact False.elim q1

/-! ### comprehensions -/
def wipeR (ρ : Rho) : List Nat → Rho
  | [] => ρ
  | v :: vs => (wipeR ρ vs).set v none
theorem RS.wipe {ρ : Rho} {σ : Sl} (r : RS cl F m σ ρ) : ∀ vs : List Nat, RS cl F m (wipe σ vs) (wipeR ρ vs)
  | [] => r
  | v :: vs => by
    have ih := RS.wipe r vs
    refine ⟨by simp [L2.wipe, wipeR, ih.len], fun i d h => ?_⟩
    unfold wipeR at h
    by_cases hi : v = i
    · subst hi
      have hl : v < (wipeR ρ vs).length := by
        have := (List.getElem?_eq_some_iff.mp h).1
        simpa using this
      rw [List.getElem?_set_self hl] at h
      cases h
    · rw [List.getElem?_set_ne hi] at h
      obtain ⟨v', e, rv⟩ := ih.at_ i d h
      exact ⟨v', by unfold L2.wipe; rw [List.getElem?_set_ne hi]; exact e, rv⟩
def compL (g : Tg) (t : Rho → M Bool) (e : Rho → M D) (ρ : Rho) : List D → M (List D)
  | [] => ret []
  | d :: ds => bind (g d ρ) fun ρ' => bind (t ρ') fun b => if b then bind (e ρ') fun y => bind (compL g t e ρ ds) fun ys => ret (y :: ys) else compL g t e ρ ds
theorem wipe_same {σ σ' : Sl} {S vs : List Nat} (hl : σ'.length = σ.length) (h : ∀ i, i ∉ S → σ'[i]? = σ[i]?) (hs : ∀ i, i ∈ S → i ∈ vs) : wipe σ' vs = wipe σ vs := by
  apply List.ext_getElem?
  intro i
  by_cases hi : i ∈ vs
  · have out : ∀ (τ : Sl) (vs : List Nat), i ∈ vs → (wipe τ vs)[i]? = if i < τ.length then some none else none := by
      intro τ vs
      induction vs with
      | nil => intro h; cases h
      | cons v vs ih =>
        intro h
        unfold L2.wipe
        by_cases e : v = i
        · subst e
          rw [List.getElem?_set]
          simp [wipe_length]
        · rw [List.getElem?_set_ne e]
          rcases List.mem_cons.mp h with z | z
          · exact absurd z.symm e
          · exact ih z
    rw [out σ' vs hi, out σ vs hi, hl]
  · rw [wipe_out hi, wipe_out hi]
    exact h i fun z => hi (hs i z)
def lcD (f : Rho → M (List D)) (g : Tg) (t : Rho → M Bool) (e : Rho → M D) (vs : List Nat) (mk : List D → M D) : Rho → M D := fun ρ => bind (f ρ) fun items => if items.length < line then bind (compL g t e (wipeR ρ vs) items) mk else fail
theorem bind_assoc {α β γ : Type} (a : M α) (b : α → M β) (c : β → M γ) : bind (bind a b) c = bind a fun x => bind (b x) c := by
  funext s
  unfold bind
  cases a s <;> rfl
theorem ret_bind {α β : Type} (a : α) (k : α → M β) : bind (ret a) k = k a := rfl
theorem wipe_idem (σ : Sl) (vs : List Nat) : wipe (wipe σ vs) vs = wipe σ vs := wipe_same (S := vs) (wipe_length _ _) (fun i hi => wipe_out hi) fun i hi => hi
theorem tT_bind' {α : Type} {f : Rho → M Bool} {g : Bool → M α} {k : Kn α} {Q : Bool → Hp → Prop} (w : Wd cl F m vh H) (r : RS cl F m σ ρ) (h : Run cl F m H (bind (f ρ) g vh) k)
    (hq : ∀ F1 m1 vh1 H1 a, Wd cl F1 m1 vh1 H1 → Post F m H F1 m1 H1 → Run cl F1 m1 H1 (g a vh1) k → Q a H1) : tT cl f σ H Q :=
  ⟨F, m, vh, ρ, w, r, (Run.bind h).mono fun F1 m1 vh1 H1 a p w1 q => hq F1 m1 vh1 H1 a w1 p q⟩
theorem tD_bind' {α : Type} {f : Rho → M D} {g : D → M α} {k : Kn α} {Q : VK} (w : Wd cl F m vh H) (r : RS cl F m σ ρ) (h : Run cl F m H (bind (f ρ) g vh) k)
    (hq : ∀ F1 m1 vh1 H1 a v, Wd cl F1 m1 vh1 H1 → Post F m H F1 m1 H1 → Rep cl F1 m1 v a → Run cl F1 m1 H1 (g a vh1) k → Q v H1) : tD cl f σ H Q :=
  ⟨F, m, vh, ρ, w, r, (Run.bind h).mono fun F1 m1 vh1 H1 a p w1 q v rv => hq F1 m1 vh1 H1 a v w1 p rv q⟩
/-- the heap without D -/
def mask (D : Addr) (H : Hp) : Hp := fun a => if a = D then none else H a
theorem mask_same {D : Addr} : mask D H D = none := if_pos rfl
theorem mask_ne {D a : Addr} (h : a ≠ D) : mask D H a = H a := if_neg h
theorem mask_upd {D : Addr} {o : HO} : mask D (upd H D o) = mask D H := by
  funext a
  unfold mask
  split
  · rfl
  · rw [upd_ne (by assumption)]
theorem mask_none {D : Addr} (h : H D = none) : mask D H = H := by
  funext a
  unfold mask
  split
  · subst a; exact h.symm
  · rfl
theorem upd_mask {D : Addr} {o : HO} (h : H D = some o) : upd (mask D H) D o = H := by
  funext a
  by_cases e : a = D
  · subst e; rw [upd_same, h]
  · rw [upd_ne e, mask_ne e]
theorem Post.masked {D : Addr} (p : Post F m H F' m' H') : Post F m (mask D H) F' m' (mask D H') := ⟨p.gr, fun a o e t n => by
  have ha : a ≠ D := fun z => by subst z; rw [mask_same] at e; cases e
  rw [mask_ne ha] at e
  obtain ⟨h1, h2, h3⟩ := p.fr a o e t n
  exact ⟨by rw [mask_ne ha]; exact h1, h2, h3⟩, fun a o u e => by
  have ha : a ≠ D := fun z => by subst z; rw [mask_same] at e; cases e
  rw [mask_ne ha] at e ⊢
  exact p.frz a o u e⟩
theorem Wd.masked {D : Addr} {vh : VH} (w : Wd cl F m vh H) (hm : D ∉ m) (hF : F D = none) : Wd cl F m vh (mask D H) := by
  refine ⟨fun a o e => ?_, w.len, w.nd, fun a h => ?_, fun n a mo g1 g2 => ?_, w.ntb, fun a ps ha e => ?_⟩
  · rw [mask_ne (fun z => by subst z; rw [hF] at e; cases e)]
    exact w.ext0 _ _ e
  · rw [mask_ne (fun z => by subst z; exact hm h)]
    exact w.used a h
  · obtain ⟨y1, y2⟩ := w.live n a mo g1 g2
    have hne : a ≠ D := fun y => by subst y; exact hm (List.mem_of_getElem? g1)
    refine ⟨y1, ?_⟩
    cases mo with
    | lst ds => obtain ⟨us, y3, y4⟩ := y2; exact ⟨us, by rw [mask_ne hne]; exact y3, y4⟩
    | dct ks ds => obtain ⟨us, y3, y4⟩ := y2; exact ⟨us, by rw [mask_ne hne]; exact y3, y4⟩
    | dctL ks ds => obtain ⟨ob, us, y3, y4⟩ := y2; exact ⟨ob, us, by rw [mask_ne hne]; exact y3, y4⟩
    | lstL ds => obtain ⟨ob, us, y3, y4⟩ := y2; exact ⟨ob, us, by rw [mask_ne hne]; exact y3, y4⟩
    | obj C ns ds => obtain ⟨dx, us, y3, y4⟩ := y2; exact ⟨dx, us, by rw [mask_ne hne]; exact y3, y4⟩
    | tab i q => obtain ⟨ea, ps, y3, y4⟩ := y2; exact ⟨ea, ps, by rw [mask_ne hne]; exact y3, y4⟩
  · by_cases h : a = D
    · subst h
      rw [mask_same] at e
      cases e
    · rw [mask_ne h] at e
      exact w.tbm a ps ha e
theorem Wd.aside {D : Addr} {vh : VH} {o : HO} (w : Wd cl F m vh H) (hm : D ∉ m) (hF : F D = none) (ho : ∀ ps, o ≠ .tbl ps := by intro _ z; cases z) : Wd cl F m vh (upd H D o) := by
  refine ⟨fun a o e => ?_, w.len, w.nd, fun a h => ?_, fun n a mo g1 g2 => ?_, w.ntb, fun a ps ha e => ?_⟩
  · rw [upd_ne (fun z => by subst z; rw [hF] at e; cases e)]
    exact w.ext0 _ _ e
  · rw [upd_ne (fun z => by subst z; exact hm h)]
    exact w.used a h
  · obtain ⟨y1, y2⟩ := w.live n a mo g1 g2
    have hne : a ≠ D := fun y => by subst y; exact hm (List.mem_of_getElem? g1)
    refine ⟨y1, ?_⟩
    cases mo with
    | lst ds => obtain ⟨us, y3, y4⟩ := y2; exact ⟨us, by rw [upd_ne hne]; exact y3, y4⟩
    | dct ks ds => obtain ⟨us, y3, y4⟩ := y2; exact ⟨us, by rw [upd_ne hne]; exact y3, y4⟩
    | dctL ks ds => obtain ⟨ob, us, y3, y4⟩ := y2; exact ⟨ob, us, by rw [upd_ne hne]; exact y3, y4⟩
    | lstL ds => obtain ⟨ob, us, y3, y4⟩ := y2; exact ⟨ob, us, by rw [upd_ne hne]; exact y3, y4⟩
    | obj C ns ds => obtain ⟨dx, us, y3, y4⟩ := y2; exact ⟨dx, us, by rw [upd_ne hne]; exact y3, y4⟩
    | tab i q => obtain ⟨ea, ps, y3, y4⟩ := y2; exact ⟨ea, ps, by rw [upd_ne hne]; exact y3, y4⟩
  · by_cases h : a = D
    · subst h
      rw [upd_same] at e
      exact absurd (Option.some.inj e) (ho ps)
    · rw [upd_ne h] at e
      exact w.tbm a ps ha e
/-- a part's run, while the thing at D is looked away from -/
theorem run_masked {α β : Type} {D : Addr} {c : M α} {g : α → M β} {k : Kn β} {k' : Kn α} (h : Run cl F m (mask D H) (bind c g vh) k)
    (hk : ∀ F1 m1 vh1 H1 a, Wd cl F1 m1 vh1 H1 → Post F m H F1 m1 H1 → Run cl F1 m1 (mask D H1) (g a vh1) k → k' F1 m1 vh1 H1 a) : Run cl F m H (c vh) k' := by
  unfold bind at h
  cases e : c vh with
  | none =>
    rw [e] at h
    exact False.elim h
  | some z =>
    obtain ⟨a, vh1⟩ := z
    rw [e] at h
    exact fun F1 m1 H1 p w1 => hk F1 m1 vh1 H1 a w1 p (Run.pre h p.masked)
/-- what a comprehension's reading wants -/
theorem Post.onD {D : Addr} {o : HO} (p : Post F m H F' m' H') (hD : H D = none) : Post F m H F' m' (upd H' D o) := ⟨p.gr, fun a u e t n => by
  obtain ⟨h1, h2, h3⟩ := p.fr a u e t n
  exact ⟨by rw [upd_ne (ne_of_none e hD)]; exact h1, h2, h3⟩, fun a o u e => by rw [upd_ne (ne_of_none e hD)]; exact p.frz a o u e⟩
theorem tLcG {f : Rho → M (List D)} {wi : TI} {S : List Nat} {g : Tg} {t : Rho → M Bool} {e : Rho → M D} {vs : List Nat} {Q : VK} {mk : List D → M D}
    (hS : ∀ i, i ∈ S → i ∈ vs) (w : Wd cl F m vh H) (r : RS cl F m σ ρ) (q : Run cl F m H (lcD f g t e vs mk ρ vh) (kV' cl Q)) (hI : ∀ R : It → Hp → Prop, Run cl F m H (f ρ vh) (kI cl R) → wi σ H R)
    (hmk : ∀ {F m vh H} {us : List V} {xs : List D} {p : Addr}, Run cl F m (H : Hp) (mk xs vh) (kV' cl Q) → Wd cl F m vh H → Reps cl F m us xs → us.length ≤ line → H p = none → Q (.ref p) (upd H p (.lst us))) :
    tLc wi (tG cl S g) (tT cl t) (tD cl e) vs σ H Q := by
  refine hI _ ((Run.bind q).mono fun F1 m1 vh1 H1 items p1 w1 q1 J ok => ?_)
  have r1 := r.mono p1.gr
  obtain ⟨hlen, q1⟩ := run_if q1
  intro D hD
  obtain ⟨G, Y, wk, hG, hY⟩ := ok
  have hF1 : F1 D = none := w1.freeF hD
  have hm1 : D ∉ m1 := fun z => w1.used D z hD
  refine lc_it wk (fun i H => ∃ F2 m2 vh2 us ys, Post F1 m1 H1 F2 m2 H ∧ Wd cl F2 m2 vh2 H ∧ H D = some (.lst us) ∧ D ∉ m2 ∧ F2 D = none ∧ Reps cl F2 m2 us ys ∧ us.length ≤ i ∧
      Run cl F2 m2 (mask D H) (bind (compL g t e (wipeR ρ vs) (items.drop i)) (fun zs => mk (ys ++ zs)) vh2) (kV' cl Q)) ?_ ?_ ?_ ?_
  · refine ⟨F1, m1, vh1, [], [], Post.refl.onD hD, w1.aside hm1 hF1, upd_same, hm1, hF1, .nil, Nat.le_refl _, ?_⟩
    rw [mask_upd, mask_none hD]
    exact q1
  · rintro i H2 _ ⟨F2, m2, vh2, us, ys, g2, w2, _⟩
    exact hG F2 m2 vh2 H2 g2 w2
  · rintro i x H2 H3 hi ⟨F2, m2, vh2, us, ys, g2, w2, hd2, hm2, hf2, ru, hul, q2⟩ y
    obtain ⟨F3, d, p3, w3, ed, rv⟩ := hY i H2 x H3 F2 m2 vh2 hi g2.gr w2 y
    have q3 := Run.pre q2 p3.masked
    rw [List.drop_eq_getElem_cons hi] at q3
    have ed' : items[i] = d := by
      rw [List.getElem?_eq_getElem hi] at ed
      exact Option.some.inj ed
    rw [ed'] at q3
    obtain ⟨hd3, ef3, hm3⟩ := p3.frn D _ hd2 hm2
    refine ⟨F3, m2, vh2, wipeR ρ vs, d, w3, (r1.mono (g2.gr.trans p3.gr)).wipe vs, rv, ?_⟩
    unfold compL at q3
    rw [bind_assoc] at q3
    refine run_masked q3 fun F4 m4 vh4 H4 ρ4 w4 p4 q4 σ4 r4 hl4 hs4 => ?_
    refine ⟨(wipe_same hl4 hs4 hS).trans (wipe_idem σ vs), ?_⟩
    rw [bind_assoc] at q4
    obtain ⟨hd4, ef4, hm4⟩ := p4.frn D _ hd3 hm3
    refine ⟨F4, m4, vh4, ρ4, w4, r4, run_masked q4 fun F5 m5 vh5 H5 b w5 p5 q5 => ?_⟩
    obtain ⟨hd5, ef5, hm5⟩ := p5.frn D _ hd4 hm4
    have gg : Post F1 m1 H1 F5 m5 H5 := g2.trans (p3.trans (p4.trans p5))
    show if b = true then _ else _
    cases b with
    | false =>
      refine iteF ⟨F5, m5, vh5, us, ys, gg, w5, hd5, hm5, by rw [ef5, ef4, ef3, hf2], ru.mono (p3.gr.trans (p4.gr.trans p5.gr)), by omega, ?_⟩
      rw [if_neg Bool.false_ne_true] at q5
      exact q5
    | true =>
      rw [if_pos rfl, bind_assoc] at q5
      refine iteT ⟨F5, m5, vh5, ρ4, w5, r4.mono p5.gr, run_masked q5 fun F6 m6 vh6 H6 z w6 p6 q6 v rz => ?_⟩
      rw [bind_assoc] at q6
      obtain ⟨hd6, ef6, hm6⟩ := p6.frn D _ hd5 hm5
      have f6 : F6 D = none := by rw [ef6, ef5, ef4, ef3, hf2]
      have g6 := (p3.gr.trans (p4.gr.trans (p5.gr.trans p6.gr)))
      refine ⟨us, hd6, Nat.lt_of_le_of_lt hul (Nat.lt_trans hi (by rw [sizeLine_eq]; exact hlen)), F6, m6, vh6, us ++ [v], ys ++ [z], (gg.trans p6).onD hD, w6.aside hm6 f6, upd_same, hm6, f6, (ru.mono g6).append (.cons rz .nil), by simp; omega, ?_⟩
      rw [mask_upd]
      have e7 : (fun x => bind (ret (z :: x)) fun zs => mk (ys ++ zs)) = fun zs => mk ((ys ++ [z]) ++ zs) := by
        funext x
        rw [ret_bind]
        simp
      rw [← e7]
      exact q6
  · rintro H2 ⟨F2, m2, vh2, us, ys, g2, w2, hd2, hm2, hf2, ru, hul, q2⟩
    rw [List.drop_length] at q2
    have q3 : Run cl F2 m2 (mask D H2) (mk (ys ++ []) vh2) (kV' cl Q) := q2
    rw [List.append_nil] at q3
    have := hmk q3 (w2.masked hm2 hf2) ru (by omega) mask_same
    rw [upd_mask hd2] at this
    exact this
theorem tLcD {f : Rho → M (List D)} {S : List Nat} {g : Tg} {t : Rho → M Bool} {e : Rho → M D} {vs : List Nat} {Q : VK} {mk : List D → M D}
    (hS : ∀ i, i ∈ S → i ∈ vs) (h : tD cl (lcD f g t e vs mk) σ H Q)
    (hmk : ∀ {F m vh H} {us : List V} {xs : List D} {p : Addr}, Run cl F m (H : Hp) (mk xs vh) (kV' cl Q) → Wd cl F m vh H → Reps cl F m us xs → us.length ≤ line → H p = none → Q (.ref p) (upd H p (.lst us))) :
    tLc (tI cl f) (tG cl S g) (tT cl t) (tD cl e) vs σ H Q := by
  obtain ⟨F, m, vh, ρ, w, r, q⟩ := h
  exact tLcG hS w r q (fun R h => ⟨F, m, vh, ρ, w, r, h⟩) hmk
end
end VL

namespace VL
open PySem PySem.Spec PyProof.Rows L2

section
variable {X : Cx} {cl : Cn} {K : PySem.W.Frag} {F F' F1 F2 : Hp} {m m' m1 m2 : List Addr} {H H' H1 H2 : Hp} {vh vh1 : VH} {ρ : Rho} {σ : Sl} {tg : Expr}
def still0 (xs : List D) : M D := ret (.lst xs)
def fresh0 (xs : List D) : M D := new (.lst xs)
theorem lcD_still {f : Rho → M (List D)} {S vs : List Nat} {g : Tg} {t : Rho → M Bool} {e : Rho → M D} {Q : VK} (hS : ∀ i, i ∈ S → i ∈ vs) (h : tD cl (lcD f g t e vs still0) σ H Q) : tLc (tI cl f) (tG cl S g) (tT cl t) (tD cl e) vs σ H Q :=
  tLcD hS h fun q w r _ hp => runNewLst q w r hp
theorem lcD_fresh {f : Rho → M (List D)} {S vs : List Nat} {g : Tg} {t : Rho → M Bool} {e : Rho → M D} {Q : VK} (hS : ∀ i, i ∈ S → i ∈ vs) (h : tD cl (lcD f g t e vs fresh0) σ H Q) : tLc (tI cl f) (tG cl S g) (tT cl t) (tD cl e) vs σ H Q :=
  tLcD hS h fun q w r _ hp => runNewLstM q w r hp
theorem PTsw {e : List Expr} {t t' : TT} (h : PTs X e t) (w : ∀ σ H Q, t' σ H Q → t σ H Q) : PTs X e t' := ⟨fun pins s σ H Q I q => h.run pins s σ H Q I (w σ H Q q)⟩
def yesT : Rho → M Bool := fun _ => ret true
theorem dts_nil : PTs X [] (tT cl yesT) := PTsw pts_nil fun σ H Q ⟨F, m, vh, ρ, w, r, q⟩ => Run.ret q w
theorem dts_one {c : Expr} {f : Rho → M Bool} (h : DT cl X c f) : PTs X [c] (tT cl f) := pts_one h
section
variable {elt kx vx iter : Expr} {ifs : List Expr} {scope : Scope} {own : List (Str × Nat)} {pos : Pos} {f : Rho → M (List D)} {S : List Nat} {g : Tg} {t : Rho → M Bool} {e ek : Rho → M D}
theorem de_lc (hc : X.calm = true) (hN : X.N.Nodup) (hi : DI cl X tg iter f) (ok : BlkOk X.N X.env.scope scope own)
    (hg : ∀ (s : Shared) (H : Hp) (C : Addr) (cL : List (Str × Addr)) (fp : List Addr), DG cl (X.blk s H scope (compEnvC scope cL C X.env) fp) tg S g)
    (ht : ∀ (s : Shared) (H : Hp) (C : Addr) (cL : List (Str × Addr)) (fp : List Addr), PTs (X.blk s H scope (compEnvC scope cL C X.env) fp) ifs (tT cl t))
    (he : ∀ (s : Shared) (H : Hp) (C : Addr) (cL : List (Str × Addr)) (fp : List Addr), DE cl (X.blk s H scope (compEnvC scope cL C X.env) fp) elt e)
    (hS : ∀ i, i ∈ S → i ∈ own.map (·.2) := by decide) (hs : ∀ x, foldedSetIterable iter X.env x = pure x := by intro _; rfl) : DE cl X (.ListComp elt [⟨tg, iter, ifs, 0⟩] scope pos) (lcD f g t e (own.map (·.2)) still0) :=
  PEw (pe_lc hc hN hi ok hg ht he hs) fun σ H Q h => lcD_still hS h
theorem ds_setLc {i : Nat} {y : Str} {py spos : Pos} (hc : X.calm = true) (hN : X.N.Nodup) (hy : X.N[i]? = some y) (hyl : X.env.scope.names.lookup y = some .local)
    (hsw : swapsWith (.ListComp elt [⟨tg, iter, ifs, 0⟩] scope pos) (some (.Name y py)) spos.line X.env = pure true) (hi : DI cl X tg iter f) (ok : BlkOk X.N X.env.scope scope own)
    (hg : ∀ (s : Shared) (H : Hp) (C : Addr) (cL : List (Str × Addr)) (fp : List Addr), DG cl (X.blk s H scope (compEnvC scope cL C X.env) fp) tg S g)
    (ht : ∀ (s : Shared) (H : Hp) (C : Addr) (cL : List (Str × Addr)) (fp : List Addr), PTs (X.blk s H scope (compEnvC scope cL C X.env) fp) ifs (tT cl t))
    (he : ∀ (s : Shared) (H : Hp) (C : Addr) (cL : List (Str × Addr)) (fp : List Addr), DE cl (X.blk s H scope (compEnvC scope cL C X.env) fp) elt e)
    (hS : ∀ i, i ∈ S → i ∈ own.map (·.2) := by decide) (hs : ∀ x, foldedSetIterable iter X.env x = pure x := by intro _; rfl) :
    DS cl X (.Assign [.Name y py] (.ListComp elt [⟨tg, iter, ifs, 0⟩] scope pos) spos) (asgS (lcD f g t e (own.map (·.2)) still0) (nameG i)) :=
  PSw (ps_setLc (i := i) hc hN hy hyl hsw hi ok hg ht he hs) fun D σ H ⟨F, m, vh, ρ, w, r, q⟩ => by
    refine lcD_still hS ⟨F, m, vh, ρ, w, r, (Run.bind q).mono fun F1 m1 vh1 H1 a p w1 q1 v rv => ?_⟩
    exact Run.ret q1 w1 _ ((r.mono p.gr).set rv i)
end

/-! ### dicts -/
def toKey : D → Option Key
  | .int i => some (.inl i)
  | .str s => some (.inr s)
  | _ => none
theorem rep_key {v : V} {d : D} {k : Key} (e : toKey d = some k) (r : Rep cl F m v d) : v = kV k := by
  cases d with
  | int i => cases Option.some.inj e; cases r; rfl
  | str s => cases Option.some.inj e; cases r; rfl
  | _ => cases e
def valD : List Key → List D → Key → Option D
  | k :: ks, d :: ds, j => if k = j then some d else valD ks ds j
  | _, _, _ => none
def hasK (ks : List Key) (j : Key) : Bool := ks.any fun k => decide (k = j)
def putKs (ks : List Key) (j : Key) : List Key := if hasK ks j = true then ks else ks ++ [j]
def putVs (ks : List Key) (vs : List D) (j : Key) (d : D) : List D := if hasK ks j = true then (ks.zip vs).map (fun p => if p.1 = j then d else p.2) else vs ++ [d]
theorem val_rep {j : Key} : ∀ {kvs : List (Key × V)} {ds : List D}, Reps cl F m (kvs.map (·.2)) ds →
    (∀ d, valD (kvs.map (·.1)) ds j = some d → ∃ v, valV kvs j = some v ∧ Rep cl F m v d) ∧ (valD (kvs.map (·.1)) ds j = none → valV kvs j = none)
  | [], ds, r => by
    cases r
    exact ⟨fun d e => (by cases e), fun _ => rfl⟩
  | p :: kvs, ds, r => by
    cases r with
    | @cons v vs d ds rv rvs =>
      have ih := val_rep (j := j) rvs
      by_cases e : p.1 = j
      · refine ⟨fun d' z => ?_, fun z => ?_⟩
        · simp only [List.map_cons, valD, if_pos e] at z
          cases z
          exact ⟨p.2, valV_pos e, rv⟩
        · simp only [List.map_cons, valD, if_pos e] at z
          cases z
      · refine ⟨fun d' z => ?_, fun z => ?_⟩
        · simp only [List.map_cons, valD, if_neg e] at z
          obtain ⟨u, e1, e2⟩ := ih.1 d' z
          exact ⟨u, by rw [valV_neg e]; exact e1, e2⟩
        · simp only [List.map_cons, valD, if_neg e] at z
          rw [valV_neg e]
          exact ih.2 z
theorem any_mem {kvs : List (Key × V)} {j : Key} : (kvs.any fun kv => decide (kv.1 = j)) = hasK (kvs.map (·.1)) j := by
  unfold hasK
  rw [List.any_map]
  rfl
theorem put_rep {j : Key} {v : V} {d : D} {kvs : List (Key × V)} {ds : List D} (r : Reps cl F m (kvs.map (·.2)) ds) (rv : Rep cl F m v d) :
    (putK kvs j v).map (·.1) = putKs (kvs.map (·.1)) j ∧ Reps cl F m ((putK kvs j v).map (·.2)) (putVs (kvs.map (·.1)) ds j d) := by
  unfold putK putKs putVs
  by_cases h : hasK (kvs.map (·.1)) j = true
  · rw [if_pos (by rw [any_mem]; exact h), if_pos h, if_pos h]
    refine ⟨?_, ?_⟩
    · rw [List.map_map]
      apply List.map_congr_left
      intro p hp
      simp only [Function.comp]
      split <;> rfl
    · clear h
      induction kvs generalizing ds with
      | nil => cases r; exact .nil
      | cons p kvs ih =>
        cases r with
        | @cons u us e es ru rus =>
          simp only [List.map_cons, List.zip_cons_cons]
          refine .cons ?_ (ih rus)
          split
          · exact rv
          · exact ru
  · rw [if_neg (by rw [any_mem]; exact h), if_neg h, if_neg h]
    simp only [List.map_append, List.map_cons, List.map_nil]
    exact ⟨trivial, r.append (.cons rv .nil)⟩
theorem length_putKs (ks : List Key) (j : Key) : (putKs ks j).length ≤ ks.length + 1 := by
  unfold putKs; split <;> simp

/-- a dict comprehension: the pairs, then the dict -/
def dcompL (g : Tg) (t : Rho → M Bool) (ek ev : Rho → M D) (ρ : Rho) : List D → List Key → List D → M (List Key × List D)
  | [], ks, vs => ret (ks, vs)
  | d :: ds, ks, vs => bind (g d ρ) fun ρ' => bind (t ρ') fun b => if b then bind (ek ρ') fun y => bind (ev ρ') fun z => match toKey y with
      | some k => dcompL g t ek ev ρ ds (putKs ks k) (putVs ks vs k z)
      | none => fail
    else dcompL g t ek ev ρ ds ks vs
def dcD (f : Rho → M (List D)) (g : Tg) (t : Rho → M Bool) (ek ev : Rho → M D) (vs : List Nat) (mk : List Key × List D → M D) : Rho → M D := fun ρ => bind (f ρ) fun items => if items.length < line then bind (dcompL g t ek ev (wipeR ρ vs) items [] []) mk else fail
def stillD (p : List Key × List D) : M D := ret (.dct p.1 p.2)
def freshD (p : List Key × List D) : M D := new (.dct p.1 p.2)
theorem dc_walk {J : It} {n : Nat} {G : Hp → Prop} {Y : Nat → Hp → V → Hp → Prop} (wk : Walk J n G Y) {H1 : Hp} {D : Addr} {Qd : Hp → Prop} {T : Nat → Hp → V → Hp → (Hp → Prop) → Prop} (Pv : Nat → Hp → Prop) (h0 : Pv 0 (upd H1 D (.dK [])))
    (hG : ∀ i H, i ≤ n → Pv i H → G H) (hT : ∀ i x H H', i < n → Pv i H → Y i H x H' → T i H x H' (Pv (i + 1))) (hd : ∀ H, Pv n H → Qd H) :
    ∃ W : Nat → Nat → Hp → Prop, (∃ m, W 0 m (upd H1 D (.dK []))) ∧ ∀ i m H, W i m H →
      (J.stop i H ∧ Qd H) ∨ (J.go i H ∧ ∃ Nx : Hp → Prop, (∀ H', Nx H' → ∃ m', m' < m ∧ W (i + 1) m' H') ∧ ∀ x H', J.yld i H x H' → T i H x H' Nx) := by
  refine ⟨fun i m H => m = n - i ∧ i ≤ n ∧ Pv i H, ⟨n, rfl, Nat.zero_le _, h0⟩, ?_⟩
  intro i m H h
  obtain ⟨e, hi, p⟩ := h
  rcases Nat.lt_or_ge i n with hlt | hge
  · exact Or.inr ⟨wk.goes i H hlt (hG i H hi p), Pv (i + 1), fun H' p' => ⟨n - (i + 1), by omega, rfl, hlt, p'⟩, fun x H' y => hT i x H H' hlt p (wk.yields i H x H' hlt (hG i H hi p) y)⟩
  · have : i = n := by omega
    subst this
    exact Or.inl ⟨wk.stops H (hG i H hi p), hd H p⟩
theorem tDcG {f : Rho → M (List D)} {wi : TI} {S : List Nat} {g : Tg} {t : Rho → M Bool} {ek ev : Rho → M D} {vs : List Nat} {Q : VK} {mk : List Key × List D → M D}
    (hS : ∀ i, i ∈ S → i ∈ vs) (w : Wd cl F m vh H) (r : RS cl F m σ ρ) (q : Run cl F m H (dcD f g t ek ev vs mk ρ vh) (kV' cl Q)) (hI : ∀ R : It → Hp → Prop, Run cl F m H (f ρ vh) (kI cl R) → wi σ H R)
    (hmk : ∀ {F m vh H} {kvs : List (Key × V)} {xs : List D} {p : Addr}, Run cl F m (H : Hp) (mk (kvs.map (·.1), xs) vh) (kV' cl Q) → Wd cl F m vh H → Reps cl F m (kvs.map (·.2)) xs → H p = none → Q (.ref p) (upd H p (.dK kvs))) :
    tDc wi (tG cl S g) (tT cl t) (tD cl ek) (tD cl ev) vs σ H Q := by
  refine hI _ ((Run.bind q).mono fun F1 m1 vh1 H1 items p1 w1 q1 J ok => ?_)
  have r1 := r.mono p1.gr
  obtain ⟨hlen, q1⟩ := run_if q1
  intro D hD
  obtain ⟨G, Y, wk, hG, hY⟩ := ok
  have hF1 : F1 D = none := w1.freeF hD
  have hm1 : D ∉ m1 := fun z => w1.used D z hD
  refine dc_walk wk (fun i H => ∃ F2 m2 vh2 kvs ys, Post F1 m1 H1 F2 m2 H ∧ Wd cl F2 m2 vh2 H ∧ H D = some (.dK kvs) ∧ D ∉ m2 ∧ F2 D = none ∧ Reps cl F2 m2 (kvs.map (·.2)) ys ∧ kvs.length ≤ i ∧
      Run cl F2 m2 (mask D H) (bind (dcompL g t ek ev (wipeR ρ vs) (items.drop i) (kvs.map (·.1)) ys) mk vh2) (kV' cl Q)) ?_ ?_ ?_ ?_
  · refine ⟨F1, m1, vh1, [], [], Post.refl.onD hD, w1.aside hm1 hF1, upd_same, hm1, hF1, .nil, Nat.le_refl _, ?_⟩
    rw [mask_upd, mask_none hD]
    exact q1
  · rintro i H2 _ ⟨F2, m2, vh2, us, ys, g2, w2, _⟩
    exact hG F2 m2 vh2 H2 g2 w2
  · rintro i x H2 H3 hi ⟨F2, m2, vh2, kvs, ys, g2, w2, hd2, hm2, hf2, ru, hul, q2⟩ y
    obtain ⟨F3, d, p3, w3, ed, rv⟩ := hY i H2 x H3 F2 m2 vh2 hi g2.gr w2 y
    have q3 := Run.pre q2 p3.masked
    rw [List.drop_eq_getElem_cons hi] at q3
    have ed' : items[i] = d := by
      rw [List.getElem?_eq_getElem hi] at ed
      exact Option.some.inj ed
    rw [ed'] at q3
    obtain ⟨hd3, ef3, hm3⟩ := p3.frn D _ hd2 hm2
    refine ⟨F3, m2, vh2, wipeR ρ vs, d, w3, (r1.mono (g2.gr.trans p3.gr)).wipe vs, rv, ?_⟩
    unfold dcompL at q3
    rw [bind_assoc] at q3
    refine run_masked q3 fun F4 m4 vh4 H4 ρ4 w4 p4 q4 σ4 r4 hl4 hs4 => ?_
    refine ⟨(wipe_same hl4 hs4 hS).trans (wipe_idem σ vs), ?_⟩
    rw [bind_assoc] at q4
    obtain ⟨hd4, ef4, hm4⟩ := p4.frn D _ hd3 hm3
    refine ⟨F4, m4, vh4, ρ4, w4, r4, run_masked q4 fun F5 m5 vh5 H5 b w5 p5 q5 => ?_⟩
    obtain ⟨hd5, ef5, hm5⟩ := p5.frn D _ hd4 hm4
    have gg : Post F1 m1 H1 F5 m5 H5 := g2.trans (p3.trans (p4.trans p5))
    show if b = true then _ else _
    cases b with
    | false =>
      refine iteF ⟨F5, m5, vh5, kvs, ys, gg, w5, hd5, hm5, by rw [ef5, ef4, ef3, hf2], ru.mono (p3.gr.trans (p4.gr.trans p5.gr)), by omega, ?_⟩
      rw [if_neg Bool.false_ne_true] at q5
      exact q5
    | true =>
      rw [if_pos rfl, bind_assoc] at q5
      refine iteT ⟨F5, m5, vh5, ρ4, w5, r4.mono p5.gr, run_masked q5 fun F6 m6 vh6 H6 z w6 p6 q6 v rz => ?_⟩
      rw [bind_assoc] at q6
      obtain ⟨hd6, ef6, hm6⟩ := p6.frn D _ hd5 hm5
      refine ⟨F6, m6, vh6, ρ4, w6, (r4.mono p5.gr).mono p6.gr, run_masked q6 fun F7 m7 vh7 H7 u w7 p7 q7 v' ru7 => ?_⟩
      obtain ⟨hd7, ef7, hm7⟩ := p7.frn D _ hd6 hm6
      have f7 : F7 D = none := by rw [ef7, ef6, ef5, ef4, ef3, hf2]
      have g7 := (p3.gr.trans (p4.gr.trans (p5.gr.trans (p6.gr.trans p7.gr))))
      cases ek7 : toKey z with
      | none =>
        rw [ek7] at q7
        exact False.elim q7
      | some k =>
        rw [ek7] at q7
        have pr := put_rep (j := k) (ru.mono g7) ru7
        refine ⟨kvs, k, rep_key ek7 (rz.mono p7.gr), hd7, Nat.lt_of_le_of_lt hul (Nat.lt_trans hi (by rw [sizeLine_eq]; exact hlen)), F7, m7, vh7, putK kvs k v', putVs (kvs.map (·.1)) ys k u, (gg.trans (p6.trans p7)).onD hD, w7.aside hm7 f7, upd_same, hm7, f7, pr.2, ?_, ?_⟩
        · have := length_putK kvs k v'
          omega
        · rw [mask_upd, pr.1]
          exact q7
  · rintro H2 ⟨F2, m2, vh2, kvs, ys, g2, w2, hd2, hm2, hf2, ru, hul, q2⟩
    rw [List.drop_length] at q2
    have q3 : Run cl F2 m2 (mask D H2) (mk (kvs.map (·.1), ys) vh2) (kV' cl Q) := q2
    have := hmk q3 (w2.masked hm2 hf2) ru mask_same
    rw [upd_mask hd2] at this
    exact this
theorem tDcD {f : Rho → M (List D)} {S : List Nat} {g : Tg} {t : Rho → M Bool} {ek ev : Rho → M D} {vs : List Nat} {Q : VK} {mk : List Key × List D → M D}
    (hS : ∀ i, i ∈ S → i ∈ vs) (h : tD cl (dcD f g t ek ev vs mk) σ H Q)
    (hmk : ∀ {F m vh H} {kvs : List (Key × V)} {xs : List D} {p : Addr}, Run cl F m (H : Hp) (mk (kvs.map (·.1), xs) vh) (kV' cl Q) → Wd cl F m vh H → Reps cl F m (kvs.map (·.2)) xs → H p = none → Q (.ref p) (upd H p (.dK kvs))) :
    tDc (tI cl f) (tG cl S g) (tT cl t) (tD cl ek) (tD cl ev) vs σ H Q := by
  obtain ⟨F, m, vh, ρ, w, r, q⟩ := h
  exact tDcG hS w r q (fun R h => ⟨F, m, vh, ρ, w, r, h⟩) hmk
theorem runNewDct {kvs : List (Key × V)} {xs : List D} {Q : VK} {p : Addr} (q : Run cl F m H (stillD (kvs.map (·.1), xs) vh) (kV' cl Q)) (w : Wd cl F m vh H) (r : Reps cl F m (kvs.map (·.2)) xs) (hp : H p = none) : Q (.ref p) (upd H p (.dK kvs)) := by
  have z := w.frozen (o := .dK kvs) hp
  exact Run.frozen q w hp (by intro _ z; cases z) _ (.dct upd_same (r.mono z.2.gr))
theorem runNewDctM {kvs : List (Key × V)} {xs : List D} {Q : VK} {p : Addr} (q : Run cl F m H (freshD (kvs.map (·.1), xs) vh) (kV' cl Q)) (w : Wd cl F m vh H) (r : Reps cl F m (kvs.map (·.2)) xs) (hp : H p = none) : Q (.ref p) (upd H p (.dK kvs)) := by
  have z := w.grown (u := .dK kvs) (o := .dct (kvs.map (·.1)) xs) hp fun P => ⟨kvs, upd_same, rfl, r.mono P.gr⟩
  exact q _ _ _ z.2 z.1 _ (.ref (at_snoc w.len))
section
variable {elt kx vx iter : Expr} {ifs : List Expr} {scope : Scope} {own : List (Str × Nat)} {pos : Pos} {f : Rho → M (List D)} {S : List Nat} {g : Tg} {t : Rho → M Bool} {e ek : Rho → M D}
theorem de_dc (hc : X.calm = true) (hN : X.N.Nodup) (hi : DI cl X tg iter f) (ok : BlkOk X.N X.env.scope scope own)
    (hg : ∀ (s : Shared) (H : Hp) (C : Addr) (cL : List (Str × Addr)) (fp : List Addr), DG cl (X.blk s H scope (compEnvC scope cL C X.env) fp) tg S g)
    (ht : ∀ (s : Shared) (H : Hp) (C : Addr) (cL : List (Str × Addr)) (fp : List Addr), PTs (X.blk s H scope (compEnvC scope cL C X.env) fp) ifs (tT cl t))
    (hk : ∀ (s : Shared) (H : Hp) (C : Addr) (cL : List (Str × Addr)) (fp : List Addr), DE cl (X.blk s H scope (compEnvC scope cL C X.env) fp) kx ek)
    (he : ∀ (s : Shared) (H : Hp) (C : Addr) (cL : List (Str × Addr)) (fp : List Addr), DE cl (X.blk s H scope (compEnvC scope cL C X.env) fp) vx e)
    (hS : ∀ i, i ∈ S → i ∈ own.map (·.2) := by decide) (hs : ∀ x, foldedSetIterable iter X.env x = pure x := by intro _; rfl) : DE cl X (.DictComp kx vx [⟨tg, iter, ifs, 0⟩] scope pos) (dcD f g t ek e (own.map (·.2)) stillD) :=
  PEw (pe_dc hc hN hi ok hg ht hk he hs) fun σ H Q h => tDcD hS h fun q w r hp => runNewDct q w r hp
end
end
end VL

namespace VL
open PySem PySem.Spec PyProof.Rows L2

section
variable {X : Cx} {cl : Cn} {K : PySem.W.Frag} {F F' F1 F2 : Hp} {m m' m1 m2 : List Addr} {H H' H1 H2 : Hp} {vh vh1 : VH} {ρ : Rho} {σ : Sl} {tg : Expr}
theorem rep_str {v : V} {s : Str} (h : Rep cl F m v (.str s)) : v = .str s := by cases h; rfl
theorem rep_non {v : V} (h : Rep cl F m v .non) : v = .non := by cases h; rfl
def lstAt : Option (Option MO) → Option (List D)
  | some (some (.lst xs)) => some xs
  | _ => none
def dctAt : Option (Option MO) → Option (List Key × List D)
  | some (some (.dct ks vs)) => some (ks, vs)
  | _ => none
/-- .. to be read: locked or not -/
def dctRd : Option (Option MO) → Option (List Key × List D)
  | some (some (.dct ks vs)) => some (ks, vs)
  | some (some (.dctL ks vs)) => some (ks, vs)
  | _ => none
theorem lstAt_eq {o : Option (Option MO)} {xs : List D} (e : lstAt o = some xs) : o = some (some (.lst xs)) := by
  unfold lstAt at e
  split at e
  · cases e; rfl
  · cases e
theorem dctAt_eq {o : Option (Option MO)} {ks : List Key} {xs : List D} (e : dctAt o = some (ks, xs)) : o = some (some (.dct ks xs)) := by
  unfold dctAt at e
  split at e
  · cases e; rfl
  · cases e
theorem dctRd_eq {o : Option (Option MO)} {ks : List Key} {xs : List D} (e : dctRd o = some (ks, xs)) : o = some (some (.dct ks xs)) ∨ o = some (some (.dctL ks xs)) := by
  unfold dctRd at e
  split at e
  · cases e; exact Or.inl rfl
  · cases e; exact Or.inr rfl
  · cases e
/-- the items of a list or tuple, as it is now -/
def seqV (vh : VH) : D → Option (List D)
  | .lst xs => some xs
  | .tup xs => some xs
  | .scr ns => some (ns.map D.int)
  | .ref n => lstAt vh[n]?
  | _ => none
/-- .. of a list alone that the hand layer's strict rules take -/
def lstV (vh : VH) : D → Option (List D)
  | .lst xs => some xs
  | .ref n => lstAt vh[n]?
  | _ => none
def dctV (vh : VH) : D → Option (List Key × List D)
  | .dct ks vs => some (ks, vs)
  | .ref n => dctRd vh[n]?
  | _ => none
theorem Wd.refLst {v : V} {n : Nat} {xs : List D} (w : Wd cl F m vh H) (r : Rep cl F m v (.ref n)) (e : vh[n]? = some (some (.lst xs))) : ∃ a us, v = .ref a ∧ m[n]? = some a ∧ H a = some (.lst us) ∧ Reps cl F m us xs := by
  cases r with
  | ref h =>
    obtain ⟨_, us, h1, h2⟩ := w.live _ _ _ h e
    exact ⟨_, us, rfl, h, h1, h2⟩
theorem Wd.refDct {v : V} {n : Nat} {ks : List Key} {xs : List D} (w : Wd cl F m vh H) (r : Rep cl F m v (.ref n)) (e : vh[n]? = some (some (.dct ks xs))) : ∃ a kvs, v = .ref a ∧ m[n]? = some a ∧ H a = some (.dK kvs) ∧ kvs.map (·.1) = ks ∧ Reps cl F m (kvs.map (·.2)) xs := by
  cases r with
  | ref h =>
    obtain ⟨_, us, h1, h2, h3⟩ := w.live _ _ _ h e
    exact ⟨_, us, rfl, h, h1, h2, h3⟩
theorem Wd.lstV {v : V} {d : D} {xs : List D} (w : Wd cl F m vh H) (r : Rep cl F m v d) (e : lstV vh d = some xs) : ∃ a us, v = .ref a ∧ H a = some (.lst us) ∧ Reps cl F m us xs := by
  cases d with
  | lst ys =>
    cases Option.some.inj e
    obtain ⟨a, us, rfl, ea, ru⟩ := rep_lst r
    exact ⟨a, us, rfl, w.ext _ _ ea, ru⟩
  | ref n =>
    obtain ⟨a, us, rfl, _, h, ru⟩ := w.refLst r (lstAt_eq e)
    exact ⟨a, us, rfl, h, ru⟩
  | _ => cases e
theorem Wd.seqV {v : V} {d : D} {xs : List D} (w : Wd cl F m vh H) (r : Rep cl F m v d) (e : seqV vh d = some xs) : ∃ a us, v = .ref a ∧ (SqL K H a us ∨ SqT K H a us) ∧ Reps cl F m us xs := by
  cases d with
  | lst ys =>
    cases Option.some.inj e
    obtain ⟨a, us, rfl, ea, ru⟩ := rep_lst r
    exact ⟨a, us, rfl, .inl (w.sqL ea), ru⟩
  | tup ys =>
    cases Option.some.inj e
    obtain ⟨a, us, rfl, ea, ru⟩ := rep_tup r
    exact ⟨a, us, rfl, .inr (w.sqT ea), ru⟩
  | scr ns =>
    cases Option.some.inj e
    cases r with
    | @scr a o _ ea => exact ⟨a, _, rfl, .inl (.inl (.inr ⟨o, w.ext _ _ ea⟩)), Reps.of_ints ns⟩
  | ref n =>
    obtain ⟨a, us, rfl, _, h, ru⟩ := w.refLst r (lstAt_eq e)
    exact ⟨a, us, rfl, .inl (.inl (.inl h)), ru⟩
  | _ => cases e
theorem rep_dct {v : V} {ks : List Key} {ds : List D} (h : Rep cl F m v (.dct ks ds)) : ∃ a kvs, v = .ref a ∧ F a = some (.dK kvs) ∧ kvs.map (·.1) = ks ∧ Reps cl F m (kvs.map (·.2)) ds := by
  cases h with
  | dct e r => exact ⟨_, _, rfl, e, rfl, r⟩
theorem Wd.rdK {a : Addr} {kvs : List (Key × V)} (w : Wd cl F m vh H) (h : F a = some (.dK kvs)) : Rd H a (.dK kvs) :=
  (w.ext0 _ _ h).elim (fun h => Or.inl h) fun ⟨ob, _, _, h⟩ => Or.inr ⟨ob, h⟩
theorem Wd.dctV {v : V} {d : D} {ks : List Key} {xs : List D} (w : Wd cl F m vh H) (r : Rep cl F m v d) (e : dctV vh d = some (ks, xs)) : ∃ a kvs, v = .ref a ∧ Rd H a (.dK kvs) ∧ kvs.map (·.1) = ks ∧ Reps cl F m (kvs.map (·.2)) xs := by
  cases d with
  | dct ls ys =>
    cases Option.some.inj e
    obtain ⟨a, us, rfl, ea, ek, ru⟩ := rep_dct r
    exact ⟨a, us, rfl, w.rdK ea, ek, ru⟩
  | ref n =>
    rcases dctRd_eq e with h0 | h0
    · obtain ⟨a, us, rfl, _, h, ek, ru⟩ := w.refDct r h0
      exact ⟨a, us, rfl, Or.inl h, ek, ru⟩
    · cases r with
      | ref hm =>
        obtain ⟨_, ob, us, h1, h2, h3⟩ := w.live _ _ _ hm h0
        exact ⟨_, us, rfl, Or.inr ⟨ob, h1⟩, h2, h3⟩
  | _ => cases e
/-! ### arithmetic -/
def opI (c : Int → Int → Bool) (f : Int → Int → Int) : D → D → M D
  | .int i, .int j => if c i j = true then ret (.int (f i j)) else fail
  | _, _ => fail
theorem op_I {o : Value → Value → Sem Value} {C : Int → Int → Prop} {g : Int → Int → V} {c : Int → Int → Bool} {f : Int → Int → Int} (h : OpR X o (rI C g)) (hc : ∀ i j, c i j = true → C i j) (hg : ∀ i j, g i j = .int (f i j)) : OpR X o (rD2 cl (opI c f)) := by
  intro pins s σ H x y v u Q I rx ry q
  obtain ⟨F, m, vh, a, b, w, ra, rb, q⟩ := q
  unfold opI at q
  split at q
  · cases rep_int ra
    cases rep_int rb
    obtain ⟨c1, q⟩ := run_if q
    exact h pins s σ H _ _ v u Q I rx ry ⟨_, _, rfl, rfl, hc _ _ c1, by rw [hg]; exact Run.ret q w _ (.int _)⟩
  · exact False.elim q
def subD : D → D → M D := opI (fun _ _ => true) fun i j => i - j
def fdivD : D → D → M D := opI (fun i j => decide (j ≠ 0 ∧ j.natAbs < 1073741824)) fun i j => i.fdiv j
def modD : D → D → M D := opI (fun i j => decide (j ≠ 0)) fun i j => i.fmod j
def powD : D → D → M D := opI (fun i j => decide (0 ≤ j ∧ j ≤ 1000000 ∧ i.natAbs < 18446744073709551616)) fun i j => i ^ j.toNat
theorem OpRw {o : Value → Value → Sem Value} {r r' : R2} (h : OpR X o r) (w : ∀ x y H Q, r' x y H Q → r x y H Q) : OpR X o r' := fun pins s σ H x y v u Q I rx ry q => h pins s σ H x y v u Q I rx ry (w x y H Q q)
theorem op_subD : OpR X (binaryOp .Sub) (rD2 cl subD) := op_I (C := fun _ _ => True) (OpRw op_sub fun x y H Q ⟨i, j, a, b, _, q⟩ => ⟨i, j, a, b, q⟩) (fun _ _ _ => trivial) fun _ _ => rfl
theorem op_fdivD : OpR X (binaryOp .FloorDiv) (rD2 cl fdivD) := op_I op_fdivN (fun i j h => show j ≠ 0 ∧ j.natAbs < 1073741824 from of_decide_eq_true h) fun _ _ => rfl
theorem op_modD : OpR X (binaryOp .Mod) (rD2 cl modD) := op_I op_modN (fun i j h => of_decide_eq_true h) fun _ _ => rfl
theorem op_powD : OpR X (binaryOp .Pow) (rD2 cl powD) := op_I op_pow (fun i j h => show 0 ≤ j ∧ j ≤ 1000000 ∧ i.natAbs < 2 ^ 64 from of_decide_eq_true h) fun _ _ => rfl
/-- a + b: numbers, texts, lists, tuples -/
def addD (a b : D) : M D := match a, b with
  | .int i, .int j => ret (.int (i + j))
  | .str i, .str j => if i.length + j.length ≤ line then ret (.str (i ++ j)) else fail
  | .tup i, .tup j => if i.length + j.length ≤ line then ret (.tup (i ++ j)) else fail
  | a, b => fun vh => match lstV vh a, lstV vh b with
    | some xs, some ys => if xs.length + ys.length ≤ line then some (.lst (xs ++ ys), vh) else none
    | _, _ => none
theorem addLst {a b : D} {x y : V} {Q : VK} (w : Wd cl F m vh H) (ra : Rep cl F m x a) (rb : Rep cl F m y b)
    (q : Run cl F m H (match lstV vh a, lstV vh b with
      | some xs, some ys => if xs.length + ys.length ≤ line then some (D.lst (xs ++ ys), vh) else none
      | _, _ => none) (kV' cl Q)) : rCat x y H Q := by
  cases e1 : lstV vh a with
  | none => rw [e1] at q; exact False.elim q
  | some xs =>
    cases e2 : lstV vh b with
    | none => rw [e1, e2] at q; exact False.elim q
    | some ys =>
      rw [e1, e2] at q
      by_cases hl : xs.length + ys.length ≤ line
      · obtain ⟨a, us, rfl, ea, ru⟩ := w.lstV ra e1
        obtain ⟨b, ws, rfl, eb, rw'⟩ := w.lstV rb e2
        refine ⟨a, b, us, ws, rfl, rfl, ea, eb, by rw [ru.length, rw'.length]; exact le_line hl, fun p hp => ?_⟩
        have q' : Run cl F m H (ret (D.lst (xs ++ ys)) vh) (kV' cl Q) := by
          have : (if xs.length + ys.length ≤ line then some (D.lst (xs ++ ys), vh) else none) = ret (D.lst (xs ++ ys)) vh := if_pos hl
          rw [← this]
          exact q
        exact runNewLst q' w (ru.append rw') hp
      · simp only [if_neg hl] at q
        exact False.elim q
theorem op_addD : OpR X (binaryOp .Add) (rD2 cl addD) := by
  intro pins s σ H x y v u Q I rx ry q
  obtain ⟨F, m, vh, a, b, w, ra, rb, q⟩ := q
  unfold addD at q
  split at q
  · cases rep_int ra
    cases rep_int rb
    exact op_add pins s σ H _ _ v u Q I rx ry ⟨_, _, rfl, rfl, Run.ret q w _ (.int _)⟩
  · cases rep_str ra
    cases rep_str rb
    obtain ⟨c1, q⟩ := run_if q
    exact op_add_str pins s σ H _ _ v u Q I rx ry ⟨_, _, rfl, rfl, le_line c1, Run.ret q w _ (.str _)⟩
  · obtain ⟨a, us, rfl, ea, ru⟩ := rep_tup ra
    obtain ⟨b, ws, rfl, eb, rw'⟩ := rep_tup rb
    obtain ⟨c2, q⟩ := run_if q
    refine op_catA pins s σ H _ _ v u Q I rx ry ⟨a, b, us, ws, rfl, rfl, w.sqT ea, w.sqT eb, by rw [ru.length, rw'.length]; exact le_line c2, fun e0 => ?_, fun e0 e1 => ?_, fun e0 e1 p hp => runNewTup q w (ru.append rw') hp⟩
    · subst e0
      cases ru
      exact Run.ret q w _ (.tup eb rw')
    · subst e1
      cases rw'
      rw [List.append_nil] at q
      exact Run.ret q w _ (.tup ea ru)
  · exact op_cat pins s σ H _ _ v u Q I rx ry (addLst w ra rb q)
/-- a * b: numbers, a list so many times -/
def mulD (a b : D) : M D := match a, b with
  | .int i, .int j => if decide ((-(18446744073709551616) < i ∧ i < 18446744073709551616) ∨ (-(18446744073709551616) < j ∧ j < 18446744073709551616)) = true then ret (.int (i * j)) else fail
  | .str z, .int k => if 2 ≤ k ∧ k ≤ 1000 ∧ 1 ≤ z.length ∧ z.length ≤ 1000 ∧ (⟨(List.replicate k.toNat z.cps).foldl (· ++ ·) #[]⟩ : Str).length ≤ line then ret (.str ⟨(List.replicate k.toNat z.cps).foldl (· ++ ·) #[]⟩) else fail
  | .lst xs, .int k => if -(9223372036854775808) ≤ k ∧ k < 9223372036854775808 ∧ xs.length * k.toNat ≤ line then ret (.lst (List.replicate k.toNat xs).flatten) else fail
  | _, _ => fail
theorem Reps.rep {us : List V} {xs : List D} (r : Reps cl F m us xs) : ∀ k : Nat, Reps cl F m (List.replicate k us).flatten (List.replicate k xs).flatten
  | 0 => .nil
  | k + 1 => by
    simp only [List.replicate_succ, List.flatten_cons]
    exact r.append (Reps.rep r k)
/-- a text, so many times -/
theorem op_repS : OpR X (binaryOp .Mult) (fun x y H Q => ∃ z k, x = .str z ∧ y = .int k ∧ 2 ≤ k ∧ k ≤ 1000 ∧ 1 ≤ z.length ∧ z.length ≤ 1000 ∧ (⟨(List.replicate k.toNat z.cps).foldl (· ++ ·) #[]⟩ : Str).length ≤ sizeLine ∧ Q (.str ⟨(List.replicate k.toNat z.cps).foldl (· ++ ·) #[]⟩) H) := by
  intro pins s σ H x y v u Q I rx ry h
  obtain ⟨z, k, rfl, rfl, h1, h2, h3, h4, h5, q⟩ := h
  obtain ⟨t, rfl⟩ := rx
  obtain ⟨t', rfl⟩ := ry
  have e1 : ¬ k < 1 := by omega
  have hk : (k == 1) = false := by
    have : k ≠ 1 := by omega
    simpa using this
  have hz : (z.length == 0) = false := by
    have : z.length ≠ 0 := by omega
    simpa using this
  have e2 : (k == 1 || z.length == 0) = false := by rw [hk, hz]; rfl
  have hb : z.length * k.toNat ≤ 1000000 := Nat.le_trans (Nat.mul_le_mul h4 (show k.toNat ≤ 1000 by omega)) (by decide)
  refine PySem.P.mul_str (by
    have a1 : ¬ k < -(2 ^ 63 : Int) := by omega
    have a2 : ¬ k ≥ 2 ^ 63 := by omega
    rw [decide_eq_false a1, decide_eq_false a2]; rfl) (fun _ _ => ?_) (fun _ _ => ?_) ?_
  · have : (1000 : Int) ≤ (2 ^ 63 - 1 : Int) / k := (Int.le_ediv_iff_mul_le (by omega)).mpr (by omega)
    omega
  · exact decide_eq_false (by rw [sizeLine_eq]; omega)
  · rw [if_neg e1, e2, if_neg Bool.false_ne_true]
    exact ⟨h5, ⟨.str _, H, I.tok _, ⟨_, rfl⟩, q⟩⟩
theorem op_mulD : OpR X (binaryOp .Mult) (rD2 cl mulD) := by
  intro pins s σ H x y v u Q I rx ry q
  obtain ⟨F, m, vh, a, b, w, ra, rb, q⟩ := q
  unfold mulD at q
  split at q
  · cases rep_int ra
    cases rep_int rb
    obtain ⟨c1, q⟩ := run_if q
    exact op_mul pins s σ H _ _ v u Q I rx ry ⟨_, _, rfl, rfl, (show (-(2 ^ 64) < _ ∧ _ < 2 ^ 64) ∨ (-(2 ^ 64) < _ ∧ _ < 2 ^ 64) from of_decide_eq_true c1), Run.ret q w _ (.int _)⟩
  · cases rep_str ra
    cases rep_int rb
    obtain ⟨⟨c0, c1, c2, c3, c4⟩, q⟩ := run_if q
    exact op_repS pins s σ H _ _ v u Q I rx ry ⟨_, _, rfl, rfl, c0, c1, c2, c3, le_line c4, Run.ret q w _ (.str _)⟩
  · obtain ⟨a, us, rfl, ea, ru⟩ := rep_lst ra
    cases rep_int rb
    obtain ⟨⟨c0, c1, c2⟩, q⟩ := run_if q
    exact op_rep pins s σ H _ _ v u Q I rx ry ⟨a, _, us, rfl, rfl, w.ext _ _ ea, c0, c1, by rw [ru.length]; exact le_line c2, fun p hp => runNewLst q w (ru.rep _) hp⟩
  · exact False.elim q
def negD : D → M D
  | .int i => ret (.int (-i))
  | _ => fail
theorem un_negD : UnR X (unaryOp .USub) (rD1 cl negD) := by
  intro pins s σ H x v Q I rx q
  obtain ⟨F, m, vh, a, w, ra, q⟩ := q
  unfold negD at q
  split at q
  · cases rep_int ra
    exact un_neg pins s σ H _ v Q I rx ⟨_, rfl, Run.ret q w _ (.int _)⟩
  · exact False.elim q

/-! ### comparisons -/
def cmpI (f : Int → Int → Bool) : D → D → M D
  | .int i, .int j => ret (.bl (f i j))
  | _, _ => fail
theorem op_cmpI {o : Value → Value → Sem Value} {f : Int → Int → Bool} (h : OpR X o (rI0 fun i j => .bl (f i j))) : OpR X o (rD2 cl (cmpI f)) := by
  intro pins s σ H x y v u Q I rx ry q
  obtain ⟨F, m, vh, a, b, w, ra, rb, q⟩ := q
  unfold cmpI at q
  split at q
  · cases rep_int ra
    cases rep_int rb
    exact h pins s σ H _ _ v u Q I rx ry ⟨_, _, rfl, rfl, Run.ret q w _ (.bl _)⟩
  · exact False.elim q
def ltD : D → D → M D := cmpI fun i j => decide (i < j)
def leD : D → D → M D := cmpI fun i j => decide (i ≤ j)
def gtD : D → D → M D := cmpI fun i j => decide (j < i)
def geD : D → D → M D := cmpI fun i j => decide (j ≤ i)
theorem op_ltD : OpR X (compareOp .Lt) (rD2 cl ltD) := op_cmpI op_lt
theorem op_leD : OpR X (compareOp .LtE) (rD2 cl leD) := op_cmpI op_le
theorem op_gtD : OpR X (compareOp .Gt) (rD2 cl gtD) := op_cmpI op_gt
theorem op_geD : OpR X (compareOp .GtE) (rD2 cl geD) := op_cmpI op_ge
def isNonD : D → Bool
  | .non => true
  | _ => false
theorem isNon_rep {v : V} {d : D} (r : Rep cl F m v d) : decide (v = .non) = isNonD d := by
  cases r <;> first | rfl | exact decide_eq_false fun z => nomatch z
def isD (a b : D) : M D := if isNonD b = true then ret (.bl (isNonD a)) else fail
def isNotD (a b : D) : M D := if isNonD b = true then ret (.bl (!isNonD a)) else fail
theorem isNon_eq {v : V} {d : D} (r : Rep cl F m v d) (h : isNonD d = true) : v = .non := by
  cases r <;> first | rfl | cases h
theorem op_isD : OpR X (compareOp .Is) (rD2 cl isD) := by
  intro pins s σ H x y v u Q I rx ry q
  obtain ⟨F, m, vh, a, b, w, ra, rb, q⟩ := q
  obtain ⟨c, q⟩ := run_if q
  exact op_isN pins s σ H _ _ v u Q I rx ry ⟨isNon_eq rb c, by rw [isNon_rep ra]; exact Run.ret q w _ (.bl _)⟩
theorem op_isNotD : OpR X (compareOp .IsNot) (rD2 cl isNotD) := by
  intro pins s σ H x y v u Q I rx ry q
  obtain ⟨F, m, vh, a, b, w, ra, rb, q⟩ := q
  obtain ⟨c, q⟩ := run_if q
  exact op_notN pins s σ H _ _ v u Q I rx ry ⟨isNon_eq rb c, by rw [isNon_rep ra]; exact Run.ret q w _ (.bl _)⟩
mutual
def toPy : D → Option PyData
  | .non => some .none
  | .bl b => some (.bool b)
  | .int i => some (.int i)
  | .str s => some (.str s)
  | .lst xs => (toPys xs).map .list
  | .tup xs => (toPys xs).map .tuple
  | .dct _ _ => none
  | .obj _ _ _ => none
  | .scr ns => none
  | .ref _ => none
  | .ty _ => none
  | .cls _ => none
  | .exc _ _ _ => none
  | .lam _ _ _ => none
def toPys : List D → Option (List PyData)
  | [] => some []
  | d :: ds => match toPy d, toPys ds with
    | some p, some ps => some (p :: ps)
    | _, _ => none
end
mutual
theorem toPy_rep (w : Wd cl F m vh H) : ∀ (d : D) (v : V) (p : PyData), toPy d = some p → Rep cl F m v d → Dp K H v p
  | .non, _, _, e, r => by cases r; cases e; exact .non
  | .bl b, _, _, e, r => by cases r; cases e; exact .bl b
  | .int b, _, _, e, r => by cases r; cases e; exact .int b
  | .str b, _, _, e, r => by cases r; cases e; exact .str b
  | .lst xs, _, _, e, r => by
    unfold toPy at e
    obtain ⟨ps, e1, rfl⟩ := Option.map_eq_some_iff.mp e
    cases r with
    | lst h r => exact .lst (w.sqL h) (toPys_rep w xs _ _ e1 r)
  | .tup xs, _, _, e, r => by
    unfold toPy at e
    obtain ⟨ps, e1, rfl⟩ := Option.map_eq_some_iff.mp e
    cases r with
    | tup h r => exact .tup (w.sqT h) (toPys_rep w xs _ _ e1 r)
  | .dct _ _, _, _, e, _ => by cases e
  | .obj _ _ _, _, _, e, _ => by cases e
  | .scr _, _, _, e, _ => by cases e
  | .ref _, _, _, e, _ => by cases e
  | .ty _, _, _, e, _ => by cases e
  | .cls _, _, _, e, _ => by cases e
  | .exc _ _ _, _, _, e, _ => by cases e
  | .lam _ _ _, _, _, e, _ => by cases e
theorem toPys_rep (w : Wd cl F m vh H) : ∀ (d : List D) (v : List V) (p : List PyData), toPys d = some p → Reps cl F m v d → DpAll K H v p
  | [], _, _, e, r => by cases r; cases e; exact .nil
  | d :: ds, _, _, e, r => by
    unfold toPys at e
    cases e1 : toPy d with
    | none => rw [e1] at e; cases e
    | some p =>
      cases e2 : toPys ds with
      | none => rw [e1, e2] at e; cases e
      | some ps =>
        rw [e1, e2] at e
        cases Option.some.inj e
        cases r with
        | cons r t => exact .cons (toPy_rep w d _ _ e1 r) (toPys_rep w ds _ _ e2 t)
end
/-- .. a changing list at the top -/
def topPy (vh : VH) : D → Option PyData
  | .ref n => (lstAt vh[n]?).bind fun xs => (toPys xs).map .list
  | d => toPy d
theorem topPy_rep {d : D} {v : V} {p : PyData} (w : Wd cl F m vh H) (e : topPy vh d = some p) (r : Rep cl F m v d) : Dp K H v p := by
  cases d with
  | ref n =>
    unfold topPy at e
    obtain ⟨xs, h, e⟩ := Option.bind_eq_some_iff.mp e
    obtain ⟨a, us, rfl, _, h, ru⟩ := w.refLst r (lstAt_eq h)
    obtain ⟨ps, e1, rfl⟩ := Option.map_eq_some_iff.mp e
    exact .lst (.inl (.inl h)) (toPys_rep w _ _ _ e1 ru)
  | _ => exact toPy_rep w _ _ _ e r
def eqPy (vh : VH) (a b : D) : Option Bool := match topPy vh a, topPy vh b with
  | some p, some q => if SeqAt.shaped p && SeqAt.shaped q then some (PyData.eqv p q) else none
  | _, _ => none
def eqD (a b : D) : M D := fun vh => match eqPy vh a b with
  | some r => some (.bl r, vh)
  | none => none
def neD (a b : D) : M D := fun vh => match eqPy vh a b with
  | some r => some (.bl (!r), vh)
  | none => none
theorem eqPy_rep {a b : D} {x y : V} {c : Bool} (w : Wd cl F m vh H) (e : eqPy vh a b = some c) (ra : Rep cl F m x a) (rb : Rep cl F m y b) :
    ∃ d e, Dp K H x d ∧ Dp K H y e ∧ SeqAt.shaped d = true ∧ SeqAt.shaped e = true ∧ PyData.eqv d e = c := by
  unfold eqPy at e
  cases e1 : topPy vh a with
  | none => rw [e1] at e; cases e
  | some p =>
    cases e2 : topPy vh b with
    | none => rw [e1, e2] at e; cases e
    | some q =>
      rw [e1, e2] at e
      simp only [] at e
      by_cases hs : (SeqAt.shaped p && SeqAt.shaped q) = true
      · rw [if_pos hs] at e
        obtain ⟨s1, s2⟩ := Bool.and_eq_true_iff.mp hs
        exact ⟨p, q, topPy_rep w e1 ra, topPy_rep w e2 rb, s1, s2, Option.some.inj e⟩
      · rw [if_neg hs] at e
        cases e
theorem op_eqD' (hu : X.A.units + 64 < cLine) : OpR X (compareOp .Eq) (rD2 cl eqD) := by
  intro pins s σ H x y v u Q I rx ry q
  obtain ⟨F, m, vh, a, b, w, ra, rb, q⟩ := q
  unfold eqD at q
  cases e : eqPy vh a b with
  | none => rw [e] at q; exact False.elim q
  | some c =>
    rw [e] at q
    obtain ⟨d, e', h1, h2, h3, h4, h5⟩ := eqPy_rep w e ra rb
    exact L2.op_eqD hu pins s σ H _ _ v u Q I rx ry ⟨d, e', h1, h2, h3, h4, by rw [h5]; exact Run.ret q w _ (.bl _)⟩
theorem op_neD' (hu : X.A.units + 64 < cLine) : OpR X (compareOp .NotEq) (rD2 cl neD) := by
  intro pins s σ H x y v u Q I rx ry q
  obtain ⟨F, m, vh, a, b, w, ra, rb, q⟩ := q
  unfold neD at q
  cases e : eqPy vh a b with
  | none => rw [e] at q; exact False.elim q
  | some c =>
    rw [e] at q
    obtain ⟨d, e', h1, h2, h3, h4, h5⟩ := eqPy_rep w e ra rb
    exact L2.op_neD hu pins s σ H _ _ v u Q I rx ry ⟨d, e', h1, h2, h3, h4, by rw [h5]; exact Run.ret q w _ (.bl _)⟩
end
end VL

namespace VL
open PySem PySem.Spec PyProof.Rows L2

section
variable {X : Cx} {cl : Cn} {K : PySem.W.Frag} {F F' F1 F2 : Hp} {m m' m1 m2 : List Addr} {H H' H1 H2 : Hp} {vh vh1 : VH} {ρ : Rho} {σ : Sl} {tg : Expr}
/-! ### in -/
def flatD : D → Bool
  | .non => true
  | .bl _ => true
  | .int _ => true
  | .str _ => true
  | _ => false
def eqF : D → D → Bool
  | .non, .non => true
  | .bl a, .bl b => a == b
  | .bl a, .int b => (if a then 1 else 0) == b
  | .int a, .bl b => a == (if b then 1 else 0)
  | .int a, .int b => a == b
  | .str a, .str b => a == b
  | _, _ => false
theorem flat_rep {v : V} {d : D} (r : Rep cl F m v d) (h : flatD d = true) : flatV v = true := by
  cases r <;> first | rfl | cases h
theorem eqF_rep {v u : V} {d e : D} (r : Rep cl F m v d) (r' : Rep cl F m u e) (h : flatD d = true) (h' : flatD e = true) : eqV v u = eqF d e := by
  cases r <;> first | (cases h; done) | (cases r' <;> first | rfl | (cases h'; done))
theorem inF_rep {u : V} {e : D} (r' : Rep cl F m u e) (h' : flatD e = true) : ∀ {vs : List V} {ds : List D}, Reps cl F m vs ds → ds.all flatD = true → vs.all flatV = true ∧ inV u vs = ds.any fun d => eqF d e
  | _, _, .nil, _ => ⟨rfl, rfl⟩
  | _, _, .cons r t, h => by
    rw [List.all_cons, Bool.and_eq_true] at h
    obtain ⟨a, b⟩ := inF_rep r' h' t h.2
    refine ⟨by rw [List.all_cons, flat_rep r h.1, a]; rfl, ?_⟩
    unfold inV at b ⊢
    rw [List.any_cons, List.any_cons, b, eqF_rep r r' h.1 h']
def oneSign (s : Str) : Option Nat := match s.cps.toList with
  | [c] => some c
  | _ => none
theorem oneSign_eq {s : Str} {c : Nat} (h : oneSign s = some c) : s = ⟨#[c]⟩ := by
  obtain ⟨a⟩ := s
  unfold oneSign at h
  split at h
  · rename_i c' e
    cases Option.some.inj h
    congr
    apply Array.ext'
    simpa using e
  · cases h
/-- x in c: a sign in a text, a flat thing in a list or tuple, a key in a dict -/
def inRes (vh : VH) (x c : D) : Option Bool := match c with
  | .str z => match x with
    | .str y => (oneSign y).map fun k => decide (k ∈ z.cps.toList)
    | _ => none
  | c => match seqV vh c with
    | some xs => if flatD x && xs.all flatD then some (xs.any fun d => eqF d x) else none
    | none => match dctV vh c with
      | some (ks, vs) => (toKey x).map fun k => (valD ks vs k).isSome
      | none => none
def inD (x c : D) : M D := fun vh => (inRes vh x c).map fun b => (.bl b, vh)
def ninD (x c : D) : M D := fun vh => (inRes vh x c).map fun b => (.bl (!b), vh)
theorem val_isSome {j : Key} {kvs : List (Key × V)} {ds : List D} (r : Reps cl F m (kvs.map (·.2)) ds) : (valV kvs j).isSome = (valD (kvs.map (·.1)) ds j).isSome := by
  have := val_rep (j := j) r
  cases e : valD (kvs.map (·.1)) ds j with
  | none => rw [this.2 e]; rfl
  | some d =>
    obtain ⟨v, e', _⟩ := this.1 d e
    rw [e']; rfl
theorem DGet.r {H : Hp} {a : Addr} {kvs : List (Key × V)} {k : Key} (e : Rd H a (.dK kvs)) : DGet H a (kV k) (valV kvs k) := Or.inl ⟨kvs, k, e, rfl, rfl⟩
theorem in_cases {x c : D} {b : Bool} {u y : V} (w : Wd cl F m vh H) (e : inRes vh x c = some b) (rx : Rep cl F m u x) (rc : Rep cl F m y c) :
    (∃ k z, u = .str ⟨#[k]⟩ ∧ y = .str z ∧ decide (k ∈ z.cps.toList) = b) ∨ (∃ p us, y = .ref p ∧ (SqL K H p us ∨ SqT K H p us) ∧ flatV u = true ∧ us.all flatV = true ∧ inV u us = b) ∨ ∃ a o, y = .ref a ∧ DGet H a u o ∧ o.isSome = b := by
  unfold inRes at e
  split at e
  · split at e
    · obtain ⟨k, e1, e2⟩ := Option.map_eq_some_iff.mp e
      have := oneSign_eq e1
      subst this
      exact .inl ⟨k, _, rep_str rx, rep_str rc, e2⟩
    · cases e
  · cases e1 : seqV vh c with
    | some xs =>
      rw [e1] at e
      simp only [] at e
      by_cases hf : (flatD x && xs.all flatD) = true
      · rw [if_pos hf] at e
        obtain ⟨f1, f2⟩ := Bool.and_eq_true_iff.mp hf
        obtain ⟨a, us, rfl, hs, ru⟩ := w.seqV (K := K) rc e1
        obtain ⟨g1, g2⟩ := inF_rep rx f1 ru f2
        exact .inr (.inl ⟨a, us, rfl, hs, flat_rep rx f1, g1, g2.trans (Option.some.inj e)⟩)
      · rw [if_neg hf] at e
        cases e
    | none =>
      rw [e1] at e
      simp only [] at e
      cases e2 : dctV vh c with
      | none => rw [e2] at e; cases e
      | some p =>
        obtain ⟨ks, vs⟩ := p
        rw [e2] at e
        obtain ⟨k, e3, e4⟩ := Option.map_eq_some_iff.mp e
        obtain ⟨a, kvs, rfl, hd, ek, ru⟩ := w.dctV rc e2
        refine .inr (.inr ⟨a, valV kvs k, rfl, ?_, ?_⟩)
        · rw [rep_key e3 rx]
          exact DGet.r hd
        · rw [val_isSome ru, ek]
          exact e4
theorem op_inD (hu : X.A.units + 1 < cLine) : OpR X (compareOp .In) (rD2 cl inD) := by
  intro pins s σ H x y v u Q I rx ry q
  obtain ⟨F, m, vh, a, b, w, ra, rb, q⟩ := q
  unfold inD at q
  cases e : inRes vh a b with
  | none => rw [e] at q; exact False.elim q
  | some c =>
    rw [e] at q
    have fin : Q (.bl c) H := Run.ret (a := D.bl c) q w _ (.bl c)
    rcases in_cases (K := X.K) w e ra rb with ⟨k, z, rfl, rfl, h⟩ | ⟨p, us, rfl, h1, h2, h3, h4⟩ | ⟨p, o, rfl, h1, h2⟩
    · exact op_in_sign pins s σ H _ _ v u Q I rx ry ⟨k, z, rfl, rfl, by rw [h]; exact fin⟩
    · exact op_in_seq pins s σ H _ _ v u Q I rx ry ⟨p, us, rfl, h1, h2, h3, by rw [if_neg (by decide), h4]; exact fin⟩
    · cases ry
      exact d_in hu I h1 rx fun s' I' => ⟨.bl c, H, I', by rw [← h2]; rfl, fin⟩
theorem op_ninD (hu : X.A.units + 1 < cLine) : OpR X (compareOp .NotIn) (rD2 cl ninD) := by
  intro pins s σ H x y v u Q I rx ry q
  obtain ⟨F, m, vh, a, b, w, ra, rb, q⟩ := q
  unfold ninD at q
  cases e : inRes vh a b with
  | none => rw [e] at q; exact False.elim q
  | some c =>
    rw [e] at q
    have fin : Q (.bl (!c)) H := Run.ret (a := D.bl (!c)) q w _ (.bl (!c))
    rcases in_cases (K := X.K) w e ra rb with ⟨k, z, rfl, rfl, h⟩ | ⟨p, us, rfl, h1, h2, h3, h4⟩ | ⟨p, o, rfl, h1, h2⟩
    · exact op_notIn_sign pins s σ H _ _ v u Q I rx ry ⟨k, z, rfl, rfl, by rw [h]; exact fin⟩
    · exact op_notIn_seq pins s σ H _ _ v u Q I rx ry ⟨p, us, rfl, h1, h2, h3, by rw [if_pos rfl, h4]; exact fin⟩
    · cases ry
      exact d_notIn hu I h1 rx fun s' I' => ⟨.bl (!c), H, I', by rw [← h2]; rfl, fin⟩

/-! ### items -/
def ixRes (vh : VH) (d i : D) : Option D := match d, i with
  | .str s, .int i => if s.length ≤ line then (atI s.cps.toList i).map fun c => D.str ⟨#[c]⟩ else none
  | d, i => match seqV vh d with
    | some xs => match i with
      | .int i => atI xs i
      | _ => none
    | none => match dctV vh d, toKey i with
      | some (ks, vs), some k => valD ks vs k
      | _, _ => none
def ixD (d i : D) : M D := fun vh => (ixRes vh d i).map fun b => (b, vh)
theorem atI_rep {us : List V} {ds : List D} {i : Int} {d : D} (r : Reps cl F m us ds) (h : atI ds i = some d) : ∃ v, atI us i = some v ∧ Rep cl F m v d := by
  unfold atI at h ⊢
  obtain ⟨j, e1, e2⟩ := Option.bind_eq_some_iff.mp h
  obtain ⟨v, e3, rv⟩ := r.get e2
  exact ⟨v, by rw [r.length, e1]; exact e3, rv⟩
theorem ix_D (hu : X.A.units + 1 < cLine) : IxR X (rD2 cl ixD) := by
  intro value slice pins s σ H x y v u Q I rx ry q hs
  obtain ⟨F, m, vh, a, b, w, ra, rb, q⟩ := q
  unfold ixD at q
  cases e : ixRes vh a b with
  | none => rw [e] at q; exact False.elim q
  | some c =>
    rw [e] at q
    have fin : ∀ z, Rep cl F m z c → Q z H := fun z rz => Run.ret (a := c) q w _ rz
    unfold ixRes at e
    split at e
    · rename_i z i
      by_cases hl : z.length ≤ line
      · rw [if_pos hl] at e
        obtain ⟨k, e1, rfl⟩ := Option.map_eq_some_iff.mp e
        cases rep_str ra
        cases rep_int rb
        exact ix_str value slice pins s σ H _ _ v u Q I rx ry ⟨z, i, k, rfl, rfl, le_line hl, e1, fin _ (.str _)⟩ hs
      · rw [if_neg hl] at e
        cases e
    · cases e1 : seqV vh a with
      | some xs =>
        rw [e1] at e
        simp only [] at e
        split at e
        · obtain ⟨p, us, rfl, hs', ru⟩ := w.seqV (K := X.K) ra e1
          cases rep_int rb
          obtain ⟨z, e2, rz⟩ := atI_rep ru e
          rcases hs' with h | h
          · exact ix_list value slice pins s σ H _ _ v u Q I rx ry ⟨p, us, _, z, rfl, rfl, h, e2, fin _ rz⟩ hs
          · exact ix_tup value slice pins s σ H _ _ v u Q I rx ry ⟨p, us, _, z, rfl, rfl, h, e2, fin _ rz⟩ hs
        · cases e
      | none =>
        rw [e1] at e
        simp only [] at e
        split at e
        · rename_i ks vs k e2 e3
          obtain ⟨p, kvs, rfl, hd, ek, ru⟩ := w.dctV ra e2
          subst ek
          obtain ⟨z, e4, rz⟩ := (val_rep (j := k) ru).1 _ e
          cases rx
          have hg : DGet H p y (some z) := by
            rw [rep_key e3 rb, ← e4]
            exact DGet.r hd
          exact tail_any (dict_typeIs I hg) PySem.F.slot_dict_getitem.lookup (d_getItem hu I hg ry fun w' s' I' rw' => ⟨z, H, I', rw', fin _ rz⟩) hs
        · cases e
end
end VL

namespace VL
open PySem PySem.Spec PyProof.Rows L2

section
variable {X : Cx} {cl : Cn} {K : PySem.W.Frag} {F F' F1 F2 : Hp} {m m' m1 m2 : List Addr} {H H' H1 H2 : Hp} {vh vh1 : VH} {ρ : Rho} {σ : Sl} {tg : Expr}
/-- what a builtin gives that changes nothing and makes nothing -/
def pureD (f : VH → List D → Option D) : List D → M D := fun as vh => (f vh as).map fun d => (d, vh)
theorem run_pure {f : VH → List D → Option D} {as : List D} {k : Kn D} (q : Run cl F m H (pureD f as vh) k) : ∃ d, f vh as = some d ∧ Run cl F m H (ret d vh) k := by
  unfold pureD at q
  cases e : f vh as with
  | none => rw [e] at q; exact False.elim q
  | some d => rw [e] at q; exact ⟨d, rfl, q⟩
/-! ### len, list, tuple, int, str -/
def lenR (vh : VH) : List D → Option D
  | [d] => match seqV vh d with
    | some xs => some (.int (xs.length : Nat))
    | none => match dctV vh d with
      | some (ks, _) => some (.int (ks.length : Nat))
      | none => match d with
        | .str s => if s.length ≤ line then some (.int (s.length : Nat)) else none
        | _ => none
  | _ => none
def lenD : List D → M D := pureD lenR
theorem call_lenR : CallR X (.builtin "len") (fun xs H Q => ∃ a kvs, xs = [V.ref a] ∧ Rd H a (.dK kvs) ∧ Q (.int kvs.length) H) := by
  intro pins s σ H xs us Q I r h
  obtain ⟨a, kvs, rfl, ha, q⟩ := h
  obtain ⟨u, rfl, ru⟩ := vals1 r
  cases ru
  exact d_len I ha fun t s' I' => ⟨V.int kvs.length, H, I', ⟨t, rfl⟩, q⟩
theorem cr_len : CallR X (.builtin "len") (rDs cl lenD) := by
  intro pins s σ H xs us Q I r q
  obtain ⟨F, m, vh, as, w, ra, q⟩ := q
  obtain ⟨d, e, q⟩ := run_pure q
  unfold lenR at e
  split at e
  · obtain ⟨v, rfl, rv⟩ := reps1 ra
    split at e
    · rename_i e1
      cases Option.some.inj e
      obtain ⟨a, ws, rfl, hs, ru⟩ := w.seqV (K := X.K) rv e1
      exact call_len_seq pins s σ H _ us Q I r ⟨a, ws, rfl, hs, by rw [ru.length]; exact Run.ret q w _ (.int _)⟩
    · split at e
      · rename_i e2
        cases Option.some.inj e
        obtain ⟨a, kvs, rfl, hd, ek, ru⟩ := w.dctV rv e2
        exact call_lenR pins s σ H _ us Q I r ⟨a, kvs, rfl, hd, by rw [show kvs.length = (kvs.map (·.1)).length by simp, ek]; exact Run.ret q w _ (.int _)⟩
      · split at e
        · rename_i z _ _
          by_cases hl : z.length ≤ line
          · rw [if_pos hl] at e
            cases Option.some.inj e
            cases rep_str rv
            exact call_len_str pins s σ H _ us Q I r ⟨_, rfl, le_line hl, Run.ret q w _ (.int _)⟩
          · rw [if_neg hl] at e
            cases e
        · cases e
  · cases e
def listD (as : List D) : M D := fun vh => match as with
  | [d] => match seqV vh d with
    | some xs => some (.lst xs, vh)
    | none => none
  | _ => none
def listMD (as : List D) : M D := fun vh => match as with
  | [d] => match seqV vh d with
    | some xs => new (.lst xs) vh
    | none => none
  | _ => none
theorem cr_list : CallR X (.type "list") (rDs cl listD) := by
  intro pins s σ H xs us Q I r q
  obtain ⟨F, m, vh, as, w, ra, q⟩ := q
  unfold listD at q
  split at q
  · obtain ⟨v, rfl, rv⟩ := reps1 ra
    split at q
    · rename_i e1
      obtain ⟨a, ws, rfl, hs, ru⟩ := w.seqV (K := X.K) rv e1
      exact call_list_of pins s σ H _ us Q I r ⟨a, ws, rfl, hs, fun l hl => runNewLst q w ru hl⟩
    · exact False.elim q
  · exact False.elim q
theorem cr_listM : CallR X (.type "list") (rDs cl listMD) := by
  intro pins s σ H xs us Q I r q
  obtain ⟨F, m, vh, as, w, ra, q⟩ := q
  unfold listMD at q
  split at q
  · obtain ⟨v, rfl, rv⟩ := reps1 ra
    split at q
    · rename_i e1
      obtain ⟨a, ws, rfl, hs, ru⟩ := w.seqV (K := X.K) rv e1
      exact call_list_of pins s σ H _ us Q I r ⟨a, ws, rfl, hs, fun l hl => runNewLstM q w ru hl⟩
    · exact False.elim q
  · exact False.elim q
def tupleD (as : List D) : M D := fun vh => match as with
  | [.tup xs] => some (.tup xs, vh)
  | [d] => match lstV vh d with
    | some xs => some (.tup xs, vh)
    | none => none
  | _ => none
theorem cr_tuple : CallR X (.type "tuple") (rDs cl tupleD) := by
  intro pins s σ H xs us Q I r q
  obtain ⟨F, m, vh, as, w, ra, q⟩ := q
  unfold tupleD at q
  split at q
  · obtain ⟨v, rfl, rv⟩ := reps1 ra
    obtain ⟨a, ws, rfl, ea, ru⟩ := rep_tup rv
    exact call_tuple_of pins s σ H _ us Q I r ⟨a, ws, rfl, .inr ⟨w.sqT ea, Run.ret (a := D.tup _) q w _ rv⟩⟩
  · obtain ⟨v, rfl, rv⟩ := reps1 ra
    split at q
    · rename_i e1
      obtain ⟨a, ws, rfl, hs, ru⟩ := w.lstV rv e1
      exact call_tuple_of pins s σ H _ us Q I r ⟨a, ws, rfl, .inl ⟨.inl (.inl hs), fun l hl => runNewTup q w ru hl⟩⟩
    · exact False.elim q
  · exact False.elim q
def intR (_ : VH) : List D → Option D
  | [.int i] => some (.int i)
  | [.bl b] => some (.int (if b then 1 else 0))
  | _ => none
def intD : List D → M D := pureD intR
theorem cr_int : CallR X (.type "int") (rDs cl intD) := by
  intro pins s σ H xs us Q I r q
  obtain ⟨F, m, vh, as, w, ra, q⟩ := q
  obtain ⟨d, e, q⟩ := run_pure q
  unfold intR at e
  split at e
  · obtain ⟨v, rfl, rv⟩ := reps1 ra
    cases rep_int rv
    cases Option.some.inj e
    exact call_int1 pins s σ H _ us Q I r (.inl ⟨_, rfl, Run.ret q w _ (.int _)⟩)
  · obtain ⟨v, rfl, rv⟩ := reps1 ra
    cases rep_bl rv
    cases Option.some.inj e
    exact call_int1 pins s σ H _ us Q I r (.inr ⟨_, rfl, Run.ret q w _ (.int _)⟩)
  · cases e
def strR (_ : VH) : List D → Option D
  | [.int i] => if i.natAbs.log2 < 1920 then some (.str (toString i)) else none
  | _ => none
def strD : List D → M D := pureD strR
theorem cr_str : CallR X (.type "str") (rDs cl strD) := by
  intro pins s σ H xs us Q I r q
  obtain ⟨F, m, vh, as, w, ra, q⟩ := q
  obtain ⟨d, e, q⟩ := run_pure q
  unfold strR at e
  split at e
  · obtain ⟨v, rfl, rv⟩ := reps1 ra
    cases rep_int rv
    split at e
    · cases Option.some.inj e
      exact call_str_int pins s σ H _ us Q I r ⟨_, rfl, by assumption, Run.ret q w _ (.str _)⟩
    · cases e
  · cases e
/-! ### sums, all, any -/
def intsOf : List D → Option (List Int)
  | [] => some []
  | .int i :: r => (intsOf r).map (i :: ·)
  | _ => none
def blsOf : List D → Option (List Bool)
  | [] => some []
  | .bl i :: r => (blsOf r).map (i :: ·)
  | _ => none
theorem intsOf_eq : ∀ {xs : List D} {ns : List Int}, intsOf xs = some ns → xs = ns.map D.int
  | [], _, e => by cases e; rfl
  | .int i :: r, ns, e => by
    obtain ⟨js, e1, rfl⟩ := Option.map_eq_some_iff.mp e
    rw [intsOf_eq e1]; rfl
theorem blsOf_eq : ∀ {xs : List D} {ns : List Bool}, blsOf xs = some ns → xs = ns.map D.bl
  | [], _, e => by cases e; rfl
  | .bl i :: r, ns, e => by
    obtain ⟨js, e1, rfl⟩ := Option.map_eq_some_iff.mp e
    rw [blsOf_eq e1]; rfl
def sumR (vh : VH) : List D → Option D
  | [d] => (lstV vh d).bind fun xs => (intsOf xs).map fun ns => .int ns.sum
  | _ => none
def allR (vh : VH) : List D → Option D
  | [d] => (lstV vh d).bind fun xs => (blsOf xs).map fun ns => .bl (ns.all id)
  | _ => none
def anyR (vh : VH) : List D → Option D
  | [d] => (lstV vh d).bind fun xs => (blsOf xs).map fun ns => .bl (ns.any id)
  | _ => none
def sumD : List D → M D := pureD sumR
def allD : List D → M D := pureD allR
def anyD : List D → M D := pureD anyR
theorem crr_sum (hc : X.calm = true) : CallR X (.builtin "sum") (rDs cl sumD) := by
  intro pins s σ H xs us Q I r q
  obtain ⟨F, m, vh, as, w, ra, q⟩ := q
  obtain ⟨d, e, q⟩ := run_pure q
  unfold sumR at e
  split at e
  · obtain ⟨v, rfl, rv⟩ := reps1 ra
    obtain ⟨ys, e1, e⟩ := Option.bind_eq_some_iff.mp e
    obtain ⟨ns, e2, rfl⟩ := Option.map_eq_some_iff.mp e
    obtain ⟨a, ws, rfl, hs, ru⟩ := w.lstV rv e1
    rw [intsOf_eq e2] at ru
    cases ru.ints
    exact L2.cr_sum hc pins s σ H _ us Q I r ⟨a, ns, rfl, .inl (.inl hs), Run.ret q w _ (.int _)⟩
  · cases e
theorem crr_all (hc : X.calm = true) : CallR X (.builtin "all") (rDs cl allD) := by
  intro pins s σ H xs us Q I r q
  obtain ⟨F, m, vh, as, w, ra, q⟩ := q
  obtain ⟨d, e, q⟩ := run_pure q
  unfold allR at e
  split at e
  · obtain ⟨v, rfl, rv⟩ := reps1 ra
    obtain ⟨ys, e1, e⟩ := Option.bind_eq_some_iff.mp e
    obtain ⟨ns, e2, rfl⟩ := Option.map_eq_some_iff.mp e
    obtain ⟨a, ws, rfl, hs, ru⟩ := w.lstV rv e1
    rw [blsOf_eq e2] at ru
    cases ru.bls
    exact L2.cr_all hc pins s σ H _ us Q I r ⟨a, ns, rfl, .inl (.inl hs), Run.ret q w _ (.bl _)⟩
  · cases e
theorem crr_any (hc : X.calm = true) : CallR X (.builtin "any") (rDs cl anyD) := by
  intro pins s σ H xs us Q I r q
  obtain ⟨F, m, vh, as, w, ra, q⟩ := q
  obtain ⟨d, e, q⟩ := run_pure q
  unfold anyR at e
  split at e
  · obtain ⟨v, rfl, rv⟩ := reps1 ra
    obtain ⟨ys, e1, e⟩ := Option.bind_eq_some_iff.mp e
    obtain ⟨ns, e2, rfl⟩ := Option.map_eq_some_iff.mp e
    obtain ⟨a, ws, rfl, hs, ru⟩ := w.lstV rv e1
    rw [blsOf_eq e2] at ru
    cases ru.bls
    exact L2.cr_any hc pins s σ H _ us Q I r ⟨a, ns, rfl, .inl (.inl hs), Run.ret q w _ (.bl _)⟩
  · cases e
/-! ### isinstance of data and built-in classes -/
inductive Tn where
  | non | bl | int | str | lst | tup | dct
def Tn.nm : Tn → String
  | .non => "NoneType" | .bl => "bool" | .int => "int" | .str => "str" | .lst => "list" | .tup => "tuple" | .dct => "dict"
def tnOf (n : String) : Option Tn := if n = "bool" then some .bl else if n = "int" then some .int else if n = "str" then some .str else if n = "list" then some .lst else if n = "tuple" then some .tup else if n = "dict" then some .dct else none
theorem tnOf_nm {n : String} {t : Tn} (h : tnOf n = some t) : n = t.nm := by
  unfold tnOf at h
  repeat' split at h
  all_goals first | (cases Option.some.inj h; assumption) | cases h
def isT : Tn → Tn → Bool
  | .bl, .int => true
  | .non, .non => true | .bl, .bl => true | .int, .int => true | .str, .str => true | .lst, .lst => true | .tup, .tup => true | .dct, .dct => true
  | _, _ => false
theorem isT_kit : ∀ a b : Tn, kitB a.nm b.nm = some (isT a b) := by
  intro a b
  cases a <;> cases b <;> decide +kernel
def moT : MO → Option Tn
  | .lst _ => some .lst
  | .dct _ _ => some .dct
  | .dctL _ _ => some .dct
  | .lstL _ => none
  | .tab _ _ => none
  | .obj _ _ _ => none
def moAt : Option (Option MO) → Option Tn
  | some (some o) => moT o
  | _ => none
def tnD (vh : VH) : D → Option Tn
  | .non => some .non
  | .bl _ => some .bl
  | .int _ => some .int
  | .str _ => some .str
  | .lst _ => some .lst
  | .tup _ => some .tup
  | .dct _ _ => some .dct
  | .obj _ _ _ => none
  | .scr _ => some .lst
  | .ref n => moAt vh[n]?
  | .ty _ => none
  | .cls _ => none
  | .exc _ _ _ => none
  | .lam _ _ _ => none
theorem ty_dct {a : Addr} {kvs : List (Key × V)} (h : Rd H a (.dK kvs)) : TyX K H (.ref a) (.type Tn.dct.nm) := by
  rcases h with h | ⟨o, h⟩
  · exact TyX.base (TyOf.dK h)
  · exact TyX.fDict h
theorem tn_rep {v : V} {d : D} {t : Tn} (w : Wd cl F m vh H) (r : Rep cl F m v d) (e : tnD vh d = some t) : TyX K H v (.type t.nm) := by
  cases d with
  | non => cases r; cases e; exact .base .non
  | bl b => cases r; cases e; exact .base (.bl b)
  | int i => cases r; cases e; exact .base (.int i)
  | str s => cases r; cases e; exact .base (.str s)
  | lst xs => obtain ⟨a, us, rfl, ea, _⟩ := rep_lst r; cases e; exact .base (.lst (w.ext _ _ ea))
  | tup xs => obtain ⟨a, us, rfl, ea, _⟩ := rep_tup r; cases e; exact .base (.tup (w.ext _ _ ea))
  | dct ks xs => obtain ⟨a, us, rfl, ea, _⟩ := rep_dct r; cases e; exact ty_dct (w.rdK ea)
  | obj c ns vs => cases e
  | scr ns => cases r with | scr ea => cases e; exact .base (.frz (w.ext _ _ ea))
  | ref n =>
    have e : moAt vh[n]? = some t := e
    cases h : vh[n]? with
    | none => rw [h] at e; cases e
    | some x =>
      cases x with
      | none => rw [h] at e; cases e
      | some o =>
        rw [h] at e
        cases o with
        | lst xs => obtain ⟨a, us, rfl, _, ea, _⟩ := w.refLst r h; cases e; exact .base (.lst ea)
        | dct ks xs => obtain ⟨a, us, rfl, _, ea, _⟩ := w.refDct r h; cases e; exact ty_dct (Or.inl ea)
        | dctL ks xs =>
          obtain ⟨a, us, rfl, ea, _⟩ := w.dctV (d := .ref n) r (by show dctRd vh[n]? = _; rw [h]; rfl)
          cases e
          exact ty_dct ea
        | obj c ns vs => cases e
        | lstL xs => cases e
        | tab i q => cases e
  | ty n => cases e
  | cls c => cases e
  | exc c ns vs => cases e
  | lam f c q => cases e
def tnsOf : List D → Option (List Tn)
  | [] => some []
  | .ty n :: r => match tnOf n, tnsOf r with
    | some t, some ts => some (t :: ts)
    | _, _ => none
  | _ => none
def isiR (vh : VH) : List D → Option D
  | [d, .ty n] => match tnD vh d, tnOf n with
    | some a, some b => some (.bl (isT a b))
    | _, _ => none
  | [d, .tup ts] => match tnD vh d, tnsOf ts with
    | some a, some bs => some (.bl (bs.any (isT a)))
    | _, _ => none
  | _ => none
def isiD : List D → M D := pureD isiR
theorem tns_rep : ∀ {ts : List D} {us : List V} {bs : List Tn}, tnsOf ts = some bs → Reps cl F m us ts → Paired ClsV us (bs.map fun t => Value.type t.nm)
  | [], _, _, e, r => by cases r; cases e; exact .nil
  | .ty n :: r, _, _, e, rr => by
    unfold tnsOf at e
    split at e
    · rename_i t ts e1 e2
      cases Option.some.inj e
      cases rr with
      | cons h t' =>
        cases h
        have := tnOf_nm e1
        subst this
        exact .cons (.ty _) (tns_rep e2 t')
    · cases e
theorem kitAny_tn {a : Tn} : ∀ (bs : List Tn), PySem.W.kitAny K (.type a.nm) (bs.map fun t => Value.type t.nm) = some (bs.any (isT a))
  | [] => rfl
  | b :: bs => by
    refine kitAny_cons (kit_ty (isT_kit a b)) (fun h => ?_) (fun h => ?_)
    · rw [List.any_cons, h, Bool.false_or]
      exact kitAny_tn bs
    · rw [List.any_cons, h, Bool.true_or]
theorem cr_isi : CallR X (.builtin "isinstance") (rDs cl isiD) := by
  intro pins s σ H xs us Q I r q
  obtain ⟨F, m, vh, as, w, ra, q⟩ := q
  obtain ⟨d, e, q2⟩ := run_pure q
  clear q
  unfold isiR at e
  split at e
  · obtain ⟨v, u, rfl, rv, ru⟩ := reps2 ra
    split at e
    · rename_i a b e1 e2
      cases Option.some.inj e
      cases ru
      have := tnOf_nm e2
      subst this
      exact call_isi pins s σ H _ us Q I r ⟨v, _, _, _, _, rfl, .ty _, tn_rep w rv e1, kit_ty (isT_kit a b), Run.ret q2 w _ (.bl _)⟩
    · cases e
  · obtain ⟨v, u, rfl, rv, ru⟩ := reps2 ra
    split at e
    · rename_i a bs e1 e2
      cases Option.some.inj e
      obtain ⟨p, ws, rfl, ep, rw'⟩ := rep_tup ru
      exact call_isiT pins s σ H _ us Q I r ⟨v, p, ws, _, _, _, rfl, w.ext _ _ ep, tns_rep e2 rw', tn_rep w rv e1, kitAny_tn bs, Run.ret q2 w _ (.bl _)⟩
    · cases e
  · cases e
theorem de_ty {e : Expr} {n : String} (h : PE X e (tC (.ty n))) : DE cl X e (fun _ => ret (.ty n)) := de_c h fun _ _ => .ty n
end
end VL

namespace VL
open PySem PySem.Spec PyProof.Rows L2

section
variable {X : Cx} {cl : Cn} {K : PySem.W.Frag} {F F' F1 F2 : Hp} {m m' m1 m2 : List Addr} {H H' H1 H2 : Hp} {vh vh1 : VH} {ρ : Rho} {σ : Sl} {tg : Expr}
/-! ### truth of any flat thing, list, tuple, dict -/
def truR (vh : VH) (d : D) : Option Bool := match d with
  | .non => some false
  | .bl b => some b
  | .int i => some (i != 0)
  | .str s => if s.length ≤ line then some ((s.length : Int) != 0) else none
  | d => match seqV vh d with
    | some xs => some (!xs.isEmpty)
    | none => (dctV vh d).map fun p => !p.1.isEmpty
def truD (d : D) : M Bool := fun vh => (truR vh d).map fun b => (b, vh)
/-- a value's truth, locked dicts too -/
def Tru2 (K : PySem.W.Frag) (x : V) (H : Hp) (k : Bool) : Prop := TruV K x H k ∨ ∃ p kvs, x = .ref p ∧ Rd H p (.dK kvs) ∧ k = !kvs.isEmpty
theorem tru2_ok : TruR X (fun x H Q => ∃ k, Tru2 X.K x H k ∧ Q k H) := by
  intro pins s σ H x v Q I rx h
  obtain ⟨k, e, q⟩ := h
  rcases e with e | ⟨p, kvs, rfl, hx, rfl⟩
  · exact tru_ok pins s σ H x v Q I rx ⟨k, e, q⟩
  · cases rx
    obtain ⟨hz, hS, vs, r, mm⟩ := dk_rd I.hok hx
    have hlen : kvs.length = vs.length := Paired.length r
    have h1 := line63
    refine wpAny_truthy_dict hS mm (by omega) ⟨H, I.tok _, ?_⟩
    rw [isEmpty_kv r]
    exact q
theorem pt_truth2 {e : Expr} {ta : TE} (ha : PE X e ta) (he : ∀ whole, isTrue e X.env whole = (do let v ← whole; standAt e.pos; holding [v] (truthy v))) :
    PT X e (fun σ H Q => ta σ H fun x H' => ∃ k, Tru2 X.K x H' k ∧ Q k H') :=
  ⟨fun pins s σ H Q I h => isTrue_plain (thn (ha.run pins s σ H _ I h) fun v s1 ⟨x, H1, I1, r1, q1⟩ => tru2_ok pins s1 σ H1 x v Q I1 r1 q1) (he _)⟩
theorem isEmpty_reps {us : List V} {ds : List D} (r : Reps cl F m us ds) : us.isEmpty = ds.isEmpty := by
  cases r <;> rfl
theorem tru_rep {v : V} {d : D} {b : Bool} (w : Wd cl F m vh H) (r : Rep cl F m v d) (e : truR vh d = some b) : Tru2 K v H b := by
  have rest : ∀ {d}, Rep cl F m v d → (match seqV vh d with
    | some xs => some (!xs.isEmpty)
    | none => (dctV vh d).map fun p => !p.1.isEmpty) = some b → Tru2 K v H b := by
    intro d r e
    cases e1 : seqV vh d with
    | some xs =>
      rw [e1] at e
      obtain ⟨a, us, rfl, hs, ru⟩ := w.seqV (K := K) r e1
      have eb : b = !us.isEmpty := by rw [isEmpty_reps ru]; exact (Option.some.inj e).symm
      rcases hs with h | h
      · exact Or.inl (Or.inl ⟨us, h, eb⟩)
      · exact Or.inl (Or.inr (Or.inl ⟨us, h, eb⟩))
    | none =>
      rw [e1] at e
      obtain ⟨p, e2, e3⟩ := Option.map_eq_some_iff.mp e
      obtain ⟨a, kvs, rfl, hd, ek, ru⟩ := w.dctV r e2
      refine Or.inr ⟨a, kvs, rfl, hd, ?_⟩
      rw [← e3, ← ek]
      simp
  cases d with
  | non => cases r; exact Or.inl (Option.some.inj e).symm
  | bl x => cases r; exact Or.inl (Option.some.inj e).symm
  | int x => cases r; exact Or.inl (Option.some.inj e).symm
  | str s =>
    cases r
    unfold truR at e
    by_cases hl : s.length ≤ line
    · simp only [if_pos hl] at e
      exact Or.inl ⟨le_line hl, (Option.some.inj e).symm⟩
    · simp only [if_neg hl] at e
      cases e
  | _ => exact rest r e
theorem dt_tru {e : Expr} {f : Rho → M D} (h : DE cl X e f) (hv : ∀ whole, isTrue e X.env whole = (do let v ← whole; standAt e.pos; holding [v] (truthy v)) := by intro _; rfl) : DT cl X e (fun ρ => bind (f ρ) truD) :=
  PTw (pt_truth2 h hv) fun σ H Q ⟨F, m, vh, ρ, w, r, q⟩ => tD_bind w r q fun F1 m1 vh1 H1 a v w1 r1 g1 rv q1 => by
    unfold truD at q1
    cases e : truR vh1 a with
    | none => rw [e] at q1; exact False.elim q1
    | some b =>
      rw [e] at q1
      exact ⟨b, tru_rep w1 rv e, Run.ret (a := b) q1 w1⟩


/-! ### methods of built-in types -/
def methD (chk : VH → D → Bool) (fo : Rho → M D) (fs : Rho → M (List D)) (o : D → List D → M D) : Rho → M D := fun ρ => bind (fo ρ) fun d => fun vh => if chk vh d = true then bind (fs ρ) (fun as => o d as) vh else none
theorem de_bm {T : String} {call ob : Expr} {es : List Expr} {r : V → List V → Hp → VK → Prop} {chk : VH → D → Bool} {o : D → List D → M D} {fo : Rho → M D} {fs : Rho → M (List D)}
    (ho : DE cl X ob fo) (ha : DA cl X es fs) (hpe : ∀ {to : TE} {t : TA}, PE X ob to → PA X es t → PE X call (tBM X.K T r to t))
    (hty : ∀ {F m vh H v d}, Wd cl F m vh H → Rep cl F m v d → chk vh d = true → tyV X.K T v H) (hr : ∀ x xs H Q, rDm cl o x xs H Q → r x xs H Q) : DE cl X call (methD chk fo fs o) :=
  PEw (hpe ho ha) fun σ H Q ⟨F, m, vh, ρ, w, r, q⟩ => tD_bind w r q fun F1 m1 vh1 H1 a v w1 r1 g1 rv q1 => by
    by_cases hc : chk vh1 a = true
    · simp only [if_pos hc] at q1
      refine ⟨hty w1 rv hc, tDs_bind w1 r1 q1 fun F2 m2 vh2 H2 as vs w2 r2 g2 rvs q2 => hr _ _ _ _ ⟨F2, m2, vh2, a, as, w2, rv.mono g2, rvs, q2⟩⟩
    · simp only [if_neg hc] at q1
      exact False.elim q1
theorem de_bm0 {T : String} {call ob : Expr} {r : V → List V → Hp → VK → Prop} {chk : VH → D → Bool} {o : D → List D → M D} {fo : Rho → M D}
    (ho : DE cl X ob fo) (hpe : ∀ {to : TE}, PE X ob to → PE X call (tBM0 X.K T r to))
    (hty : ∀ {F m vh H v d}, Wd cl F m vh H → Rep cl F m v d → chk vh d = true → tyV X.K T v H) (hr : ∀ x xs H Q, rDm cl o x xs H Q → r x xs H Q) : DE cl X call (methD chk fo nilA o) :=
  PEw (hpe ho) fun σ H Q ⟨F, m, vh, ρ, w, r, q⟩ => tD_bind w r q fun F1 m1 vh1 H1 a v w1 r1 g1 rv q1 => by
    by_cases hc : chk vh1 a = true
    · simp only [if_pos hc] at q1
      exact ⟨hty w1 rv hc, hr _ _ _ _ ⟨F1, m1, vh1, a, [], w1, rv, .nil, q1⟩⟩
    · simp only [if_neg hc] at q1
      exact False.elim q1
def isLst (vh : VH) (d : D) : Bool := (lstV vh d).isSome
def isStr (_ : VH) (d : D) : Bool := match d with
  | .str _ => true
  | _ => false
def isDct (vh : VH) (d : D) : Bool := match d with
  | .ref n => (dctAt vh[n]?).isSome
  | _ => false
theorem ty_list {F m vh H v d} (w : Wd cl F m vh H) (r : Rep cl F m v d) (h : isLst vh d = true) : tyV K "list" v H := by
  obtain ⟨xs, e⟩ := Option.isSome_iff_exists.mp h
  obtain ⟨a, us, rfl, hd, _⟩ := w.lstV r e
  exact .inl ⟨rfl, us, .inl (.inl hd)⟩
theorem ty_str {F m vh H v d} (w : Wd cl F m vh H) (r : Rep cl F m v d) (h : isStr vh d = true) : tyV K "str" v H := by
  unfold isStr at h
  split at h
  · cases r; rfl
  · cases h
theorem ty_dict {F m vh H v d} (w : Wd cl F m vh H) (r : Rep cl F m v d) (h : isDct vh d = true) : tyV K "dict" v H := by
  cases d with
  | ref n =>
    have h : (dctAt vh[n]?).isSome = true := h
    obtain ⟨⟨ks, xs⟩, e⟩ := Option.isSome_iff_exists.mp h
    obtain ⟨a, us, rfl, _, hd, _⟩ := w.refDct r (dctAt_eq e)
    exact Or.inr (Or.inr (Or.inl ⟨rfl, Or.inl ⟨us, hd⟩⟩))
  | _ => cases h
/-- a changing list, written: what becomes of it, what the method gives -/
def wrL (f : List D → List D → Option (D × List D)) (d : D) (as : List D) : M D := fun vh => match d with
  | .ref n => (lstAt vh[n]?).bind fun xs => (f xs as).map fun p => (p.1, vh.set n (some (.lst p.2)))
  | _ => none
theorem runWrL {f : List D → List D → Option (D × List D)} {d : D} {as : List D} {v : V} {k : Kn D} (w : Wd cl F m vh H) (r : Rep cl F m v d) (q : Run cl F m H (wrL f d as vh) k) :
    ∃ a us xs y ys, v = .ref a ∧ H a = some (.lst us) ∧ Reps cl F m us xs ∧ f xs as = some (y, ys) ∧ ∀ ws, Reps cl F m ws ys → ∃ F' m' vh', k F' m' vh' (upd H a (.lst ws)) y ∧ Gr F m F' m' := by
  cases d with
  | ref n =>
    have q : Run cl F m H ((lstAt vh[n]?).bind fun xs => (f xs as).map fun p => (p.1, vh.set n (some (.lst p.2)))) k := q
    cases e : lstAt vh[n]? with
    | none => rw [e] at q; exact False.elim q
    | some xs =>
      rw [e] at q
      have hv := lstAt_eq e
      obtain ⟨a, us, rfl, hm, ha, ru⟩ := w.refLst r hv
      cases e2 : f xs as with
      | none => simp only [Option.bind_some, e2] at q; exact False.elim q
      | some p =>
        obtain ⟨y, ys⟩ := p
        simp only [Option.bind_some, e2] at q
        refine ⟨a, us, xs, y, ys, rfl, ha, ru, e2, fun ws rw' => ?_⟩
        have z := w.written (u := .lst ws) (o' := .lst ys) hm hv (fun ob v z => by rw [ha] at z; cases z) fun P => ⟨ws, upd_same, rw'.mono P.gr⟩
        exact ⟨F, m, _, q _ _ _ z.2 z.1, .refl⟩
  | _ => exact False.elim q
def appendF (xs : List D) : List D → Option (D × List D)
  | [y] => if xs.length < line then some (.non, xs ++ [y]) else none
  | _ => none
def appendD : D → List D → M D := wrL appendF
theorem lt_line {n : Nat} (h : n < line) : n < sizeLine := by rw [sizeLine_eq]; exact h
theorem r_append {x : V} {xs : List V} {Q : VK} (h : rDm cl appendD x xs H Q) : rAppend x xs H Q := by
  obtain ⟨F, m, vh, a, as, w, ra, rs, q⟩ := h
  obtain ⟨p, us, ds, y, ys, rfl, hp, ru, e, fin⟩ := runWrL w ra q
  unfold appendF at e
  split at e
  · rename_i b
    by_cases hl : ds.length < line
    · rw [if_pos hl] at e
      cases Option.some.inj e
      obtain ⟨v, rfl, rv⟩ := reps1 rs
      obtain ⟨F', m', vh', k, g⟩ := fin (us ++ [v]) (ru.append (.cons rv .nil))
      exact ⟨p, us, v, rfl, rfl, hp, lt_line (by rw [ru.length]; exact hl), k _ .non⟩
    · rw [if_neg hl] at e
      cases e
  · cases e
/-- pop(i) with 0 ≤ i, pop() -/
def popAtF (xs : List D) : List D → Option (D × List D)
  | [.int i] => if 0 ≤ i ∧ i < 9223372036854775808 then (xs[i.toNat]?).map fun y => (y, xs.eraseIdx i.toNat) else none
  | _ => none
def popAtD : D → List D → M D := wrL popAtF
theorem r_popAt {x : V} {xs : List V} {Q : VK} (h : rDm cl popAtD x xs H Q) : rPopAt x xs H Q := by
  obtain ⟨F, m, vh, a, as, w, ra, rs, q⟩ := h
  obtain ⟨p, us, ds, y, ys, rfl, hp, ru, e, fin⟩ := runWrL w ra q
  unfold popAtF at e
  split at e
  · rename_i i
    by_cases hl : 0 ≤ i ∧ i < 9223372036854775808
    · rw [if_pos hl] at e
      obtain ⟨z, e1, e2⟩ := Option.map_eq_some_iff.mp e
      cases e2
      obtain ⟨v, rfl, rv⟩ := reps1 rs
      cases rep_int rv
      obtain ⟨u, e3, rz⟩ := ru.get e1
      obtain ⟨F', m', vh', k, g⟩ := fin (us.eraseIdx i.toNat) (ru.eraseIdx _)
      have hlt : i.toNat < us.length := (List.getElem?_eq_some_iff.mp e3).1
      have hseq : seqIndex? i us.length = some i.toNat := by
        have hx : ixN us.length i = some i.toNat := by
          unfold ixN
          rw [if_pos hl.1, if_pos (by omega)]
        exact (ixN_seq hx).1
      exact ⟨p, us, i, i.toNat, u, rfl, rfl, hp, (show -(2 ^ 63 : Int) ≤ i by omega), hl.2, hseq, e3, k _ (rz.mono g)⟩
    · rw [if_neg hl] at e
      cases e
  · cases e
def popF (xs : List D) : List D → Option (D × List D)
  | [] => (xs[xs.length - 1]?).map fun y => (y, xs.dropLast)
  | _ => none
def popD : D → List D → M D := wrL popF
theorem Reps.dropLast {us : List V} {ds : List D} (r : Reps cl F m us ds) : Reps cl F m us.dropLast ds.dropLast := by
  rw [List.dropLast_eq_take, List.dropLast_eq_take, r.length]
  exact r.take _
theorem r_pop {x : V} {xs : List V} {Q : VK} (h : rDm cl popD x xs H Q) : rPop x xs H Q := by
  obtain ⟨F, m, vh, a, as, w, ra, rs, q⟩ := h
  obtain ⟨p, us, ds, y, ys, rfl, hp, ru, e, fin⟩ := runWrL w ra q
  unfold popF at e
  split at e
  · obtain ⟨z, e1, e2⟩ := Option.map_eq_some_iff.mp e
    cases e2
    cases rs
    rw [← ru.length] at e1
    obtain ⟨u, e3, rz⟩ := ru.get e1
    obtain ⟨F', m', vh', k, g⟩ := fin us.dropLast ru.dropLast
    exact ⟨p, us, u, rfl, rfl, hp, e3, k _ (rz.mono g)⟩
  · cases e
/-- extend by a list that is another one -/
def extendD (d : D) (as : List D) : M D := fun vh => match as with
  | [b] => match lstV vh b with
    | some zs => wrL (fun xs _ => if xs.length + zs.length ≤ line then some (.non, xs ++ zs) else none) d [] vh
    | none => none
  | _ => none
theorem r_extend {x : V} {xs : List V} {Q : VK} (h : rDm cl extendD x xs H Q) : rExtend x xs H Q := by
  obtain ⟨F, m, vh, a, as, w, ra, rs, q⟩ := h
  unfold extendD at q
  split at q
  · split at q
    · rename_i b _ zs e0
      obtain ⟨p, us, ds, y, ys, rfl, hp, ru, e, fin⟩ := runWrL w ra q
      by_cases hl : ds.length + zs.length ≤ line
      · rw [if_pos hl] at e
        cases Option.some.inj e
        obtain ⟨v, rfl, rv⟩ := reps1 rs
        obtain ⟨c, ws, rfl, hc, rw'⟩ := w.lstV rv e0
        obtain ⟨F', m', vh', k, g⟩ := fin (us ++ ws) (ru.append rw')
        exact ⟨p, c, us, ws, rfl, rfl, hp, hc, by rw [ru.length, rw'.length]; exact le_line hl, k _ .non⟩
      · rw [if_neg hl] at e
        cases e
    · exact False.elim q
  · exact False.elim q
/-- sep.join(xs) -/
def strsOf : List D → Option (List Str)
  | [] => some []
  | .str i :: r => (strsOf r).map (i :: ·)
  | _ => none
theorem strsOf_eq : ∀ {xs : List D} {ns : List Str}, strsOf xs = some ns → xs = ns.map D.str
  | [], _, e => by cases e; rfl
  | .str i :: r, ns, e => by
    obtain ⟨js, e1, rfl⟩ := Option.map_eq_some_iff.mp e
    rw [strsOf_eq e1]; rfl
def joinR (vh : VH) (d : D) : List D → Option D
  | [b] => match d with
    | .str a => (seqV vh b).bind fun xs => (strsOf xs).bind fun ys => if (ys.map (·.length)).sum + ys.length * a.length ≤ line then some (.str (Txt.join a ys)) else none
    | _ => none
  | _ => none
def joinD (d : D) : List D → M D := pureD fun vh as => joinR vh d as
theorem r_join (pins : List (Addr × Obj)) {x : V} {xs : List V} {Q : VK} (h : rDm cl joinD x xs H Q) : ∃ a p, ∃ ys : List Str, x = .str a ∧ xs = [.ref p] ∧ (SqL K H p (ys.map V.str) ∨ SqT K H p (ys.map V.str)) ∧
    (ys.map (·.length)).sum + ys.length * a.length ≤ 16777216 ∧ Q (.str (Txt.join a ys)) H := by
  obtain ⟨F, m, vh, a, as, w, ra, rs, q⟩ := h
  obtain ⟨d, e, q⟩ := run_pure q
  unfold joinR at e
  split at e
  · split at e
    · rename_i z
      obtain ⟨zs, e1, e⟩ := Option.bind_eq_some_iff.mp e
      obtain ⟨ys, e2, e⟩ := Option.bind_eq_some_iff.mp e
      split at e
      · rename_i hl
        cases Option.some.inj e
        obtain ⟨v, rfl, rv⟩ := reps1 rs
        obtain ⟨p, us, rfl, hs, ru⟩ := w.seqV (K := K) rv e1
        rw [strsOf_eq e2] at ru
        cases ru.strs
        exact ⟨z, p, ys, rep_str ra, rfl, hs, hl, Run.ret q w _ (.str _)⟩
      · cases e
    · cases e
  · cases e
end
end VL

namespace VL
open PySem PySem.Spec PyProof.Rows L2

section
variable {X : Cx} {cl : Cn} {K : PySem.W.Frag} {F F' F1 F2 : Hp} {m m' m1 m2 : List Addr} {H H' H1 H2 : Hp} {vh vh1 : VH} {ρ : Rho} {σ : Sl} {tg : Expr}
/-! ### stores by a subscript -/
def setLF (xs : List D) : List D → Option (D × List D)
  | [.int i, v] => (ixN xs.length i).map fun j => (.non, xs.set j v)
  | _ => none
/-- o[i] = v -/
def setD (o i v : D) : M D := fun vh => match o with
  | .ref n => match lstAt vh[n]? with
    | some _ => wrL setLF o [i, v] vh
    | none => match dctAt vh[n]?, toKey i with
      | some (ks, vs), some k => if ks.length < line then some (.non, vh.set n (some (.dct (putKs ks k) (putVs ks vs k v)))) else none
      | _, _ => none
  | _ => none
theorem PSet.or {t t' : TSet} (h : PSet X t) (h' : PSet X t') : PSet X (fun o i v H Q => t o i v H Q ∨ t' o i v H Q) := fun pins s σ H o i v ov iv u Q I r1 r2 r3 q => q.elim (h pins s σ H o i v ov iv u Q I r1 r2 r3) (h' pins s σ H o i v ov iv u Q I r1 r2 r3)
def rSetK : TSet := fun o i v H Q => ∃ a H', o = .ref a ∧ DPut H a i v H' ∧ Q H'
theorem set_dict (hu : X.A.units + 1 < cLine) : PSet X rSetK := fun pins s σ H o i v ov iv u Q I r1 r2 r3 ⟨a, H', e, g, q⟩ => by
  subst e
  cases r1
  exact d_setItem hu I g r2 r3 fun s' I' => ⟨H', I', q⟩
theorem setD_rep {o i v : D} {x y z : V} {k : Kn D} (w : Wd cl F m vh H) (ro : Rep cl F m x o) (ri : Rep cl F m y i) (rv : Rep cl F m z v) (q : Run cl F m H (setD o i v vh) k) :
    (∃ H' F' m' vh', rSetL x y z H (fun H2 => H2 = H') ∧ k F' m' vh' H' .non ∧ Gr F m F' m' ∧ Post F m H F' m' H' ∧ Wd cl F' m' vh' H') ∨ (∃ H' F' m' vh', rSetK x y z H (fun H2 => H2 = H') ∧ k F' m' vh' H' .non ∧ Gr F m F' m' ∧ Post F m H F' m' H' ∧ Wd cl F' m' vh' H') := by
  cases o with
  | ref n =>
    have q : Run cl F m H (match lstAt vh[n]? with
      | some _ => wrL setLF (.ref n) [i, v] vh
      | none => match dctAt vh[n]?, toKey i with
        | some (ks, vs), some k => if ks.length < line then some (.non, vh.set n (some (.dct (putKs ks k) (putVs ks vs k v)))) else none
        | _, _ => none) k := q
    cases e : lstAt vh[n]? with
    | some xs =>
      rw [e] at q
      have hv := lstAt_eq e
      obtain ⟨a, us, rfl, hm, ha, ru⟩ := w.refLst ro hv
      have q : Run cl F m H ((lstAt vh[n]?).bind fun xs => (setLF xs [i, v]).map fun p => (p.1, vh.set n (some (.lst p.2)))) k := q
      rw [e] at q
      simp only [Option.bind_some] at q
      cases i with
      | int j =>
        cases e2 : ixN xs.length j with
        | none =>
          simp only [setLF, e2] at q
          exact False.elim q
        | some t =>
          simp only [setLF, e2, Option.map_some] at q
          cases rep_int ri
          have z := w.written (u := .lst (us.set t z)) (o' := .lst (xs.set t v)) hm hv (fun ob v z => by rw [ha] at z; cases z) fun P => ⟨_, upd_same, (ru.set rv t).mono P.gr⟩
          exact .inl ⟨_, F, m, _, ⟨a, us, j, t, rfl, rfl, ha, by rw [ru.length]; exact e2, rfl⟩, q _ _ _ z.2 z.1, .refl, z.2, z.1⟩
      | _ => exact False.elim q
    | none =>
      rw [e] at q
      simp only [] at q
      cases e1 : dctAt vh[n]? with
      | none => rw [e1] at q; exact False.elim q
      | some p =>
        obtain ⟨ks, vs⟩ := p
        rw [e1] at q
        cases e2 : toKey i with
        | none => rw [e2] at q; exact False.elim q
        | some kk =>
          rw [e2] at q
          simp only [] at q
          by_cases hl : ks.length < line
          · rw [if_pos hl] at q
            have hv := dctAt_eq e1
            obtain ⟨a, kvs, rfl, hm, ha, ek, ru⟩ := w.refDct ro hv
            have pr := put_rep (j := kk) ru rv
            have z := w.written (u := .dK (putK kvs kk z)) (o' := .dct (putKs ks kk) (putVs ks vs kk v)) hm hv (fun ob v z => by rw [ha] at z; cases z) fun P => ⟨_, upd_same, by rw [pr.1, ek], by rw [← ek]; exact pr.2.mono P.gr⟩
            refine .inr ⟨_, F, m, _, ⟨a, _, rfl, ?_, rfl⟩, q _ _ _ z.2 z.1, .refl, z.2, z.1⟩
            rw [rep_key e2 ri]
            exact DPut.k ha (lt_line (by rw [show kvs.length = (kvs.map (·.1)).length by simp, ek]; exact hl))
          · rw [if_neg hl] at q
            exact False.elim q
  | _ => exact False.elim q
def subG (fo fi : Rho → M D) : Tg := fun d ρ => bind (fo ρ) fun x => bind (fi ρ) fun y => bind (setD x y d) fun _ => ret ρ
theorem dg_sub {o i : Expr} {pos : Pos} {fo fi : Rho → M D} (hu : X.A.units + 1 < cLine) (ho : DE cl X o fo) (hi : DE cl X i fi)
    (hb : ∀ {to ti : TE} {t : TSet}, PE X o to → PE X i ti → PSet X t → PG X (.Subscript o i pos) (gSub to ti t)) : DG cl X (.Subscript o i pos) [] (subG fo fi) :=
  PGw (hb ho hi (PSet.or set_list (set_dict hu))) fun v σ H Q ⟨F, m, vh, ρ, d, w, r, rv, q⟩ => by
    refine tD_bind w r q fun F1 m1 vh1 H1 x u w1 r1 g1 ru q1 => ?_
    refine tD_bind w1 r1 q1 fun F2 m2 vh2 H2 y t w2 r2 g2 rt q2 => ?_
    rcases setD_rep w2 (ru.mono g2) rt (rv.mono (g1.trans g2)) (Run.bind q2) with ⟨H', F', m', vh', hs, hk, g, p, w'⟩ | ⟨H', F', m', vh', hs, hk, g, p, w'⟩
    · obtain ⟨a, us, j, t, e1, e2, e3, e4, e5⟩ := hs
      exact .inl ⟨a, us, j, t, e1, e2, e3, e4, by rw [e5]; exact Run.ret hk w' σ (r2.mono g) rfl fun _ _ => rfl⟩
    · obtain ⟨a, H3, e1, e2, e3⟩ := hs
      exact .inr ⟨a, H3, e1, e2, by rw [e3]; exact Run.ret hk w' σ (r2.mono g) rfl fun _ _ => rfl⟩

/-! ### x += e, d[k] += e (numbers) -/
def augS (i : Nat) (f : Rho → M D) (o : D → D → M D) : Bk := fun ρ => bind (var i ρ) fun x => bind (f ρ) fun y => bind (o x y) fun z => ret (.nx (ρ.set i (some z)))
theorem ds_aug {st : Stmt} {i : Nat} {e : Expr} {f : Rho → M D} {o : D → D → M D} {ti : TIp} (he : DE cl X e f) (hb : ∀ {te : TE}, PE X e te → PS X st (tAug i te ti)) (ht : ∀ x y H Q, rD2 cl o x y H Q → ti x y H Q) : DS cl X st (augS i f o) :=
  PSw (hb he) fun D σ H ⟨F, m, vh, ρ, w, r, q⟩ => by
    unfold augS var at q
    cases e0 : ρ[i]? with
    | none => rw [e0] at q; exact False.elim q
    | some od =>
      cases od with
      | none => rw [e0] at q; exact False.elim q
      | some d =>
        rw [e0] at q
        obtain ⟨v, e1, rv⟩ := r.at_ i d e0
        refine ⟨v, e1, tD_bind w r q fun F1 m1 vh1 H1 a u w1 r1 g1 ru q1 => ht _ _ _ _ ⟨F1, m1, vh1, d, a, w1, rv.mono g1, ru, (Run.bind q1).mono fun F2 m2 vh2 H2 z p2 w2 q2 t rt => ?_⟩⟩
        exact Run.ret q2 w2 _ ((r1.mono p2.gr).set rt i)
def addI : D → D → M D := opI (fun _ _ => true) fun i j => i + j
theorem ip_addI {x y : V} {Q : VK} (h : rD2 cl addI x y H Q) : ipI (fun i j => i + j) x y H Q := by
  obtain ⟨F, m, vh, a, b, w, ra, rb, q⟩ := h
  unfold addI opI at q
  split at q
  · cases rep_int ra
    cases rep_int rb
    obtain ⟨_, q⟩ := run_if q
    exact ⟨_, _, rfl, rfl, Run.ret q w _ (.int _)⟩
  · exact False.elim q
theorem ip_subI {x y : V} {Q : VK} (h : rD2 cl subD x y H Q) : ipI (fun i j => i - j) x y H Q := by
  obtain ⟨F, m, vh, a, b, w, ra, rb, q⟩ := h
  unfold subD opI at q
  split at q
  · cases rep_int ra
    cases rep_int rb
    obtain ⟨_, q⟩ := run_if q
    exact ⟨_, _, rfl, rfl, Run.ret q w _ (.int _)⟩
  · exact False.elim q
theorem in_addI {x y : V} {Q : VK} (h : rD2 cl addI x y H Q) : rAdd x y H Q := ip_addI h
theorem in_subI {x y : V} {Q : VK} (h : rD2 cl subD x y H Q) : rSub x y H Q := ip_subI h
/-! ### instances -/
def lookupF : List Str → List D → Str → Option D
  | k :: ks, d :: ds, j => if j = k then some d else lookupF ks ds j
  | _, _, _ => none
def putFn (ks : List Str) (f : Str) : List Str := match ks with
  | [] => [f]
  | k :: ks => if k = f then k :: ks else k :: putFn ks f
def putFv (ks : List Str) (vs : List D) (f : Str) (d : D) : List D := match ks, vs with
  | k :: ks, v :: vs => if k = f then d :: vs else v :: putFv ks vs f d
  | _, _ => [d]
theorem lookupF_rep {j : Str} : ∀ {fs : List (Str × V)} {ds : List D}, Reps cl F m (fs.map (·.2)) ds →
    (∀ d, lookupF (fs.map (·.1)) ds j = some d → ∃ v, fs.lookup j = some v ∧ Rep cl F m v d) ∧ (lookupF (fs.map (·.1)) ds j = none → fs.lookup j = none)
  | [], ds, r => by
    cases r
    exact ⟨fun d e => (by cases e), fun _ => rfl⟩
  | p :: fs, ds, r => by
    cases r with
    | @cons v vs d ds rv rvs =>
      have ih := lookupF_rep (j := j) rvs
      by_cases e : j = p.1
      · refine ⟨fun d' z => ?_, fun z => ?_⟩
        · simp only [List.map_cons, lookupF, if_pos e] at z
          cases z
          exact ⟨p.2, by rw [List.lookup]; simp [e], rv⟩
        · simp only [List.map_cons, lookupF, if_pos e] at z
          cases z
      · have eb : (j == p.1) = false := beq_eq_false_iff_ne.mpr e
        have hl : List.lookup j (p :: fs) = List.lookup j fs := by
          obtain ⟨g, x⟩ := p
          simp only [List.lookup, eb]
        refine ⟨fun d' z => ?_, fun z => ?_⟩
        · simp only [List.map_cons, lookupF, if_neg e] at z
          obtain ⟨u, e1, e2⟩ := ih.1 d' z
          exact ⟨u, hl.trans e1, e2⟩
        · simp only [List.map_cons, lookupF, if_neg e] at z
          exact hl.trans (ih.2 z)
theorem putF_rep {f : Str} {v : V} {d : D} (rv : Rep cl F m v d) : ∀ {fs : List (Str × V)} {ds : List D}, Reps cl F m (fs.map (·.2)) ds →
    (putF f v fs).map (·.1) = putFn (fs.map (·.1)) f ∧ Reps cl F m ((putF f v fs).map (·.2)) (putFv (fs.map (·.1)) ds f d)
  | [], ds, r => by
    cases r
    exact ⟨rfl, .cons rv .nil⟩
  | p :: fs, ds, r => by
    cases r with
    | @cons v' vs d' ds rv' rvs =>
      have ih := putF_rep (f := f) rv rvs
      obtain ⟨g, x⟩ := p
      by_cases e : g = f
      · simp only [putF, putFn, putFv, List.map_cons, if_pos e]
        exact ⟨trivial, .cons rv rvs⟩
      · simp only [putF, putFn, putFv, List.map_cons, if_neg e, ih.1]
        exact ⟨trivial, .cons rv' ih.2⟩
/-- the attributes of an instance of the class c, as they are now -/
def objAt (c : Nat) : Option (Option MO) → Option (List Str × List D)
  | some (some (.obj c' ns vs)) => if c' = c then some (ns, vs) else none
  | _ => none
def objV (c : Nat) (vh : VH) : D → Option (List Str × List D)
  | .obj c' ns vs => if c' = c then some (ns, vs) else none
  | .ref n => objAt c vh[n]?
  | _ => none
theorem objAt_eq {c : Nat} {o : Option (Option MO)} {ns : List Str} {vs : List D} (e : objAt c o = some (ns, vs)) : o = some (some (.obj c ns vs)) := by
  unfold objAt at e
  split at e
  · split at e
    · cases e
      subst c
      rfl
    · cases e
  · cases e
theorem Wd.refObj {v : V} {n c : Nat} {ns : List Str} {xs : List D} (w : Wd cl F m vh H) (r : Rep cl F m v (.ref n)) (e : vh[n]? = some (some (.obj c ns xs))) : ∃ a dx fs, v = .ref a ∧ m[n]? = some a ∧ H a = some (.ins (cl c) dx fs) ∧ fs.map (·.1) = ns ∧ Reps cl F m (fs.map (·.2)) xs := by
  cases r with
  | ref h =>
    obtain ⟨_, dx, us, h1, h2, h3⟩ := w.live _ _ _ h e
    exact ⟨_, dx, us, rfl, h, h1, h2, h3⟩
theorem rep_obj {v : V} {c : Nat} {ns : List Str} {ds : List D} (h : Rep cl F m v (.obj c ns ds)) : ∃ a dx fs, v = .ref a ∧ F a = some (.ins (cl c) dx fs) ∧ fs.map (·.1) = ns ∧ Reps cl F m (fs.map (·.2)) ds := by
  cases h with
  | obj e r => exact ⟨_, _, _, rfl, e, rfl, r⟩
theorem Wd.objV {v : V} {d : D} {c : Nat} {ns : List Str} {xs : List D} (w : Wd cl F m vh H) (r : Rep cl F m v d) (e : objV c vh d = some (ns, xs)) : ∃ a dx fs, v = .ref a ∧ H a = some (.ins (cl c) dx fs) ∧ fs.map (·.1) = ns ∧ Reps cl F m (fs.map (·.2)) xs := by
  cases d with
  | obj c' ls ys =>
    have e : (if c' = c then some (ls, ys) else none) = some (ns, xs) := e
    by_cases hc : c' = c
    · rw [if_pos hc] at e
      cases e
      subst hc
      obtain ⟨a, dx, us, rfl, ea, ek, ru⟩ := rep_obj r
      exact ⟨a, dx, us, rfl, w.ext _ _ ea, ek, ru⟩
    · rw [if_neg hc] at e
      cases e
  | ref n =>
    obtain ⟨a, dx, us, rfl, _, h, ek, ru⟩ := w.refObj r (objAt_eq e)
    exact ⟨a, dx, us, rfl, h, ek, ru⟩
  | _ => cases e
def fldD (c : Nat) (f : Str) (d : D) : M D := fun vh => match objV c vh d with
  | some (ns, vs) => (lookupF ns vs f).map fun x => (x, vh)
  | none => none
theorem de_fld {o : Expr} {f : Str} {pos : Pos} {c : Nat} {fo : Rho → M D} (ho : DE cl X o fo) (hc : Cls X.K (cl c)) (hn : NoAttr X.K (cl c) f) (hb : ∀ {to : TE}, PE X o to → PE X (.Attribute o f pos) (tFld X.K to f)) : DE cl X (.Attribute o f pos) (den1 (fldD c f) fo) :=
  PEw (hb ho) fun σ H Q ⟨F, m, vh, ρ, w, r, q⟩ => tD_bind w r q fun F1 m1 vh1 H1 a v w1 r1 g1 rv q1 => by
    unfold fldD at q1
    cases e : objV c vh1 a with
    | none => rw [e] at q1; exact False.elim q1
    | some p =>
      obtain ⟨ns, vs⟩ := p
      rw [e] at q1
      cases e2 : lookupF ns vs f with
      | none => simp only [e2] at q1; exact False.elim q1
      | some x =>
        simp only [e2] at q1
        obtain ⟨p, dx, fs, rfl, hp, ek, ru⟩ := w1.objV rv e
        subst ek
        obtain ⟨u, e3, rx⟩ := (lookupF_rep ru).1 x e2
        exact ⟨p, cl c, dx, fs, u, rfl, hp, hc, hn, e3, Run.ret (a := x) q1 w1 u rx⟩
/-- o.f = e -/
def setFD (c : Nat) (f : Str) (o v : D) : M D := fun vh => match o with
  | .ref n => match objAt c vh[n]? with
    | some (ns, vs) => if ns.length < 1000 then some (.non, vh.set n (some (.obj c (putFn ns f) (putFv ns vs f v)))) else none
    | none => none
  | _ => none
def fldS (c : Nat) (f : Str) (fo fe : Rho → M D) : Bk := fun ρ => bind (fe ρ) fun v => bind (fo ρ) fun o => bind (setFD c f o v) fun _ => ret (.nx ρ)
theorem ds_fld {o e : Expr} {st : Stmt} {f : Str} {c : Nat} {fo fe : Rho → M D} (ho : DE cl X o fo) (he : DE cl X e fe) (hc : Cls X.K (cl c)) (hn : NoAttr X.K (cl c) f) (hb : ∀ {to te : TE}, PE X o to → PE X e te → PS X st (sFld X.K to te f)) : DS cl X st (fldS c f fo fe) :=
  PSw (hb ho he) fun D σ H ⟨F, m, vh, ρ, w, r, q⟩ => by
    refine tD_bind w r q fun F1 m1 vh1 H1 x u w1 r1 g1 ru q1 => ?_
    refine tD_bind w1 r1 q1 fun F2 m2 vh2 H2 y t w2 r2 g2 rt q2 => ?_
    have q3 := Run.bind q2
    unfold setFD at q3
    cases y with
    | ref n =>
      simp only [] at q3
      cases e : objAt c vh2[n]? with
      | none => rw [e] at q3; exact False.elim q3
      | some p =>
        obtain ⟨ns, vs⟩ := p
        rw [e] at q3
        simp only [] at q3
        by_cases hl : ns.length < 1000
        · rw [if_pos hl] at q3
          have hv := objAt_eq e
          obtain ⟨a, dx, fs, rfl, hm, ha, ek, rs⟩ := w2.refObj rt hv
          have pr := putF_rep (f := f) (ru.mono g2) rs
          have z := w2.written (u := .ins (cl c) dx (putF f u fs)) (o' := .obj c (putFn ns f) (putFv ns vs f x)) hm hv (fun ob v z => by rw [ha] at z; cases z) fun P => ⟨dx, _, upd_same, by rw [pr.1, ek], by rw [← ek]; exact pr.2.mono P.gr⟩
          refine ⟨a, cl c, dx, fs, rfl, ha, hc, hn, by rw [show fs.length = (fs.map (·.1)).length by simp, ek]; exact hl, ?_⟩
          exact Run.ret (q3 _ _ _ z.2 z.1) z.1 σ r2
        · rw [if_neg hl] at q3
          exact False.elim q3
    | _ => exact False.elim q3
/-- C(e, ..): its __init__, then it stands still -/
def mkD (c : Nat) (n : Nat) (den : List D → M D) (as : List D) : M D := fun vh => match denC n den (.ref vh.length :: as) (vh ++ [some (.obj c [] [])]) with
  | some (.non, vh') => still (.ref vh.length) vh'
  | _ => none
/-- .. and it may change -/
def mkMD (c : Nat) (n : Nat) (den : List D → M D) (as : List D) : M D := fun vh => match denC n den (.ref vh.length :: as) (vh ++ [some (.obj c [] [])]) with
  | some (.non, vh') => some (.ref vh.length, vh')
  | _ => none
theorem Wd.extra {vh : VH} {p : Addr} {o : HO} (w : Wd cl F m vh H) (hp : H p = none) (ho : ∀ ps, o ≠ .tbl ps := by intro _ z; cases z) : Wd cl F m vh (upd H p o) ∧ Post F m H F m (upd H p o) :=
  ⟨w.aside (fun h => w.used p h hp) (w.freeF hp) ho, .refl, fun a o e _ n => ⟨by rw [upd_ne (ne_of_none e hp)]; exact e, fun _ => rfl, n⟩, fun a o u e => by rw [upd_ne (ne_of_none e hp)]; exact e⟩
theorem runMake {c n : Nat} {den : List D → M D} {as : List D} {vs : List V} {fin : D → M D} {Q : VK} (w : Wd cl F m vh H) (r : Reps cl F m vs as)
    (q : Run cl F m H ((match denC n den (.ref vh.length :: as) (vh ++ [some (.obj c [] [])]) with
      | some (.non, vh') => fin (.ref vh.length) vh'
      | _ => none) : Option (D × VH)) (kV' cl Q))
    (hf : ∀ {F m vh H a d n} {Q : VK}, Wd cl F m vh H → m[n]? = some a → d = D.ref n → Run cl F m H (fin d vh) (kV' cl Q) → Q (.ref a) H) {x dx : Addr} (nx : H x = none) (ndx : H dx = none) (hne : dx ≠ x) :
    spD cl n den (.ref x :: (vs ++ [])) (upd (upd H dx (.own x)) x (.ins (cl c) dx [])) (fun v H2 => v = .non ∧ Q (.ref x) H2) E0 := by
  obtain ⟨w1, p1⟩ := w.extra (o := .own x) ndx
  have nx1 : (upd H dx (.own x)) x = none := by rw [upd_ne (Ne.symm hne)]; exact nx
  have z := w1.grown (u := .ins (cl c) dx []) (o := .obj c [] []) nx1 fun P => ⟨dx, [], upd_same, rfl, .nil⟩
  have hlen : m.length = vh.length := w.len
  have hx : (m ++ [x])[vh.length]? = some x := at_snoc hlen
  have rs : Reps cl F (m ++ [x]) (.ref x :: (vs ++ [])) (.ref vh.length :: as) := .cons (.ref hx) (by rw [List.append_nil]; exact r.mono (p1.gr.trans z.2.gr))
  cases e : denC n den (.ref vh.length :: as) (vh ++ [some (.obj c [] [])]) with
  | none => rw [e] at q; exact False.elim q
  | some y =>
    obtain ⟨d, vh'⟩ := y
    have hlA : (D.ref vh.length :: as).length = n := by
      unfold denC at e
      split at e
      · assumption
      · cases e
    have e' : den (.ref vh.length :: as) (vh ++ [some (.obj c [] [])]) = some (d, vh') := by
      unfold denC at e
      rw [if_pos hlA] at e
      exact e
    rw [e] at q
    cases d with
    | non =>
      refine ⟨F, m ++ [x], _, _, by rw [rs.length, hlA], z.1, rs, ?_⟩
      rw [e']
      intro F2 m2 H2 p2 w2 v rv
      refine ⟨rep_non rv, ?_⟩
      have q2 : Run cl F m H (fin (.ref vh.length) vh') (kV' cl Q) := q
      exact hf w2 (p2.gr.pre _ _ hx) rfl (Run.pre q2 ((p1.trans z.2).trans p2))
    | _ => exact False.elim q
theorem fin_still {F m vh H a} {d : D} {n : Nat} {Q : VK} (w : Wd cl F m vh H) (hm : m[n]? = some a) (e : d = D.ref n) (q : Run cl F m H (still d vh) (kV' cl Q)) : Q (.ref a) H := by
  subst e
  have q : Run cl F m H (match vh[n]? with
    | some (some o) => (stillO o).map fun d => (d, vh.set n none)
    | _ => none) (kV' cl Q) := q
  cases h : vh[n]? with
  | none => rw [h] at q; exact False.elim q
  | some o =>
    cases o with
    | none => rw [h] at q; exact False.elim q
    | some o =>
      rw [h] at q
      cases h3 : stillO o with
      | none => simp only [h3] at q; exact False.elim q
      | some d =>
        simp only [h3] at q
        obtain ⟨F', w', p', r'⟩ := w.stilled hm h h3
        exact q F' m H p' w' _ r'
theorem de_make {c n k : Nat} {f : Addr} {fd : FuncData} {ps : List Str} {den : List D → M D} {call : Expr} {es : List Expr} {fs : Rho → M (List D)} (ha : DA cl X es fs)
    (hb : ∀ {t : TA}, PA X es t → PE X call (tMake (cl c) (spD cl n den) [] E0 t)) : DE cl X call (denA (mkD c n den) fs) :=
  PEw (hb ha) fun σ H Q ⟨F, m, vh, ρ, w, r, q⟩ => tDs_bind w r q fun F1 m1 vh1 H1 as vs w1 r1 g1 rvs q1 => fun x dx nx ndx hne =>
    runMake w1 rvs q1 (fun w hm e q => fin_still w hm e q) nx ndx hne
theorem de_makeM {c n k : Nat} {f : Addr} {fd : FuncData} {ps : List Str} {den : List D → M D} {call : Expr} {es : List Expr} {fs : Rho → M (List D)} (ha : DA cl X es fs)
    (hb : ∀ {t : TA}, PA X es t → PE X call (tMake (cl c) (spD cl n den) [] E0 t)) : DE cl X call (denA (mkMD c n den) fs) :=
  PEw (hb ha) fun σ H Q ⟨F, m, vh, ρ, w, r, q⟩ => tDs_bind w r q fun F1 m1 vh1 H1 as vs w1 r1 g1 rvs q1 => fun x dx nx ndx hne =>
    runMake (fin := fun d vh => some (d, vh)) w1 rvs q1 (fun w hm e q => by subst e; exact Run.ret (a := D.ref _) q w _ (.ref hm)) nx ndx hne
/-- o.m(e, ..) of the text's own class -/
def omethD (c : Nat) (mt : Str) (n : Nat) (den : List D → M D) (fo : Rho → M D) (fs : Rho → M (List D)) : Rho → M D := fun ρ => bind (fo ρ) fun d => fun vh => match objV c vh d with
  | some (ns, vs) => match lookupF ns vs mt with
    | none => bind (fs ρ) (fun as => denC n den (d :: as)) vh
    | some _ => none
  | none => none
theorem de_ometh {c n : Nat} {mt : Str} {den : List D → M D} {call o : Expr} {es : List Expr} {fo : Rho → M D} {fs : Rho → M (List D)} (ho : DE cl X o fo) (ha : DA cl X es fs)
    (hb : ∀ {to : TE} {t : TA}, PE X o to → PA X es t → PE X call (tMeth (cl c) mt (spD cl n den) [] E0 to t)) : DE cl X call (omethD c mt n den fo fs) :=
  PEw (hb ho ha) fun σ H Q ⟨F, m, vh, ρ, w, r, q⟩ => tD_bind w r q fun F1 m1 vh1 H1 a v w1 r1 g1 rv q1 => by
    cases e : objV c vh1 a with
    | none => simp only [e] at q1; exact False.elim q1
    | some p =>
      obtain ⟨ns, vs⟩ := p
      simp only [e] at q1
      cases e2 : lookupF ns vs mt with
      | some _ => simp only [e2] at q1; exact False.elim q1
      | none =>
        simp only [e2] at q1
        obtain ⟨p, dx, fs', rfl, hp, ek, ru⟩ := w1.objV rv e
        subst ek
        refine ⟨p, dx, fs', rfl, hp, (lookupF_rep ru).2 e2, tDs_bind w1 r1 q1 fun F2 m2 vh2 H2 as vs w2 r2 g2 rvs q2 => ?_⟩
        obtain ⟨hl, q2⟩ := run_if q2
        have rr : Reps cl F2 m2 (.ref p :: (vs ++ [])) (a :: as) := .cons (rv.mono g2) (by rw [List.append_nil]; exact rvs)
        exact ⟨F2, m2, vh2, a :: as, by rw [rr.length, hl], w2, rr, q2⟩
theorem de_ometh0 {c n : Nat} {mt : Str} {den : List D → M D} {call o : Expr} {fo : Rho → M D} (ho : DE cl X o fo)
    (hb : ∀ {to : TE}, PE X o to → PE X call (tMeth (cl c) mt (spD cl n den) [] E0 to tNil)) : DE cl X call (omethD c mt n den fo nilA) :=
  PEw (hb ho) fun σ H Q ⟨F, m, vh, ρ, w, r, q⟩ => tD_bind w r q fun F1 m1 vh1 H1 a v w1 r1 g1 rv q1 => by
    cases e : objV c vh1 a with
    | none => simp only [e] at q1; exact False.elim q1
    | some p =>
      obtain ⟨ns, vs⟩ := p
      simp only [e] at q1
      cases e2 : lookupF ns vs mt with
      | some _ => simp only [e2] at q1; exact False.elim q1
      | none =>
        simp only [e2] at q1
        obtain ⟨p, dx, fs', rfl, hp, ek, ru⟩ := w1.objV rv e
        subst ek
        refine ⟨p, dx, fs', rfl, hp, (lookupF_rep ru).2 e2, ?_⟩
        have q1 : Run cl F1 m1 H1 (denC n den [a] vh1) (kV' cl Q) := q1
        obtain ⟨hl, q2⟩ := run_if q1
        have rr : Reps cl F1 m1 [.ref p] [a] := .cons rv .nil
        exact ⟨F1, m1, vh1, [a], by rw [← hl]; rfl, w1, rr, q2⟩
end
end VL

namespace VL
open PySem PySem.Spec PyProof.Rows L2

section
variable {X : Cx} {cl : Cn} {K : PySem.W.Frag} {F F' F1 F2 : Hp} {m m' m1 m2 : List Addr} {H H' H1 H2 : Hp} {vh vh1 : VH} {ρ : Rho} {σ : Sl} {tg : Expr}
/-! ### d.update(e) -/
def rUpdK : V → List V → Hp → VK → Prop := fun x vs H Q => ∃ (a b : Addr) (kvs more : List (Key × V)), x = .ref a ∧ vs = [.ref b] ∧ a ≠ b ∧ H a = some (.dK kvs) ∧ Rd H b (.dK more) ∧ kvs.length + more.length ≤ sizeLine ∧ Q .non (upd H a (.dK (mergeK kvs more)))
theorem mt_update : MtR X "dict.update" rUpdK := by
  intro pins s σ H x xs v us Q I rx rs h
  obtain ⟨a, b, kvs, more, rfl, rfl, hne, ha, hb, hz, q⟩ := h
  cases rx
  obtain ⟨u, rfl, ru⟩ := vals1 rs
  cases ru
  obtain ⟨z1, hd1, vs1, r1, d1⟩ := dk_of I.hok ha
  obtain ⟨z2, hd2, vs2, r2, d2⟩ := dk_rd I.hok hb
  have l1 : kvs.length = vs1.length := Paired.length r1
  have l2 : more.length = vs2.length := Paired.length r2
  refine call_meetsIn PySem.F.slot_dict_update d1.typeIs PySem.F.entry_dict_update (PySem.F.args_dict_update_2 _ _) (meets_dict_update (mixKind X.prog X.w) a b hne hd2) ⟨vs1, vs2, d1, d2, by omega, fun h' dd' _ hs => ?_⟩
  have hl := length_mergeK more kvs
  have he : ∃ q, h'.get? a = some q := let ⟨q, _, _, hq, _⟩ := dd'; ⟨q, hq⟩
  exact ⟨V.non, _, d_write I (t' := s.toks) (by rw [ha]; exact True.intro) hs he (dk_new (by omega) hd1 (r2.merge r1) dd'), rfl, q⟩
/-- pairs of keys and values put one after another -/
def putAll : List Key → List D → List Key → List D → List Key × List D
  | ks, vs, k :: ls, d :: ds => putAll (putKs ks k) (putVs ks vs k d) ls ds
  | ks, vs, _, _ => (ks, vs)
theorem merge_rep : ∀ {more kvs : List (Key × V)} {ds vs : List D}, Reps cl F m (kvs.map (·.2)) vs → Reps cl F m (more.map (·.2)) ds →
    (mergeK kvs more).map (·.1) = (putAll (kvs.map (·.1)) vs (more.map (·.1)) ds).1 ∧ Reps cl F m ((mergeK kvs more).map (·.2)) (putAll (kvs.map (·.1)) vs (more.map (·.1)) ds).2
  | [], kvs, ds, vs, r, r' => by
    cases r'
    exact ⟨rfl, r⟩
  | p :: more, kvs, ds, vs, r, r' => by
    cases r' with
    | @cons u us d ds ru rus =>
      have pr := put_rep (j := p.1) r ru
      have ih := merge_rep (more := more) (kvs := putK kvs p.1 p.2) pr.2 rus
      rw [pr.1] at ih
      exact ih
def isRefN (n : Nat) : D → Bool
  | .ref k => decide (k = n)
  | _ => false
def updateD (d : D) (as : List D) : M D := fun vh => match d, as with
  | .ref n, [b] => match dctAt vh[n]?, dctV vh b with
    | some (ks, vs), some (ls, ds) => if isRefN n b = true then none else if ks.length + ls.length ≤ line then some (.non, vh.set n (some (.dct (putAll ks vs ls ds).1 (putAll ks vs ls ds).2))) else none
    | _, _ => none
  | _, _ => none
theorem r_update {x : V} {xs : List V} {Q : VK} (h : rDm cl updateD x xs H Q) : rUpdK x xs H Q := by
  obtain ⟨F, m, vh, a, as, w, ra, rs, q⟩ := h
  unfold updateD at q
  split at q
  · rename_i n b
    split at q
    · rename_i ks vs ls ds e1 e2
      have hv := dctAt_eq e1
      obtain ⟨p, kvs, rfl, hm, hp, ek, ru⟩ := w.refDct ra hv
      obtain ⟨v, rfl, rv⟩ := reps1 rs
      obtain ⟨p2, more, rfl, hp2, ek2, ru2⟩ := w.dctV rv e2
      by_cases hb : isRefN n b = true
      · rw [if_pos hb] at q
        exact False.elim q
      · rw [if_neg hb] at q
        by_cases hl : ks.length + ls.length ≤ line
        · rw [if_pos hl] at q
          have pr := merge_rep ru ru2
          rw [ek, ek2] at pr
          have z := w.written (u := .dK (mergeK kvs more)) (o' := .dct (putAll ks vs ls ds).1 (putAll ks vs ls ds).2) hm hv (fun ob v z => by rw [hp] at z; cases z) fun P => ⟨_, upd_same, pr.1, pr.2.mono P.gr⟩
          have hne : p ≠ p2 := by
            intro e
            subst e
            cases b with
            | dct ls' ds' =>
              obtain ⟨a', us', e', ea', _⟩ := rep_dct rv
              cases e'
              have := (w.live _ _ _ hm hv).1
              rw [ea'] at this
              cases this
            | ref k =>
              cases rv with
              | ref hk =>
                obtain ⟨l1, e3⟩ := List.getElem?_eq_some_iff.mp hm
                obtain ⟨l2, e4⟩ := List.getElem?_eq_some_iff.mp hk
                have : n = k := (List.getElem_inj w.nd).mp (e3.trans e4.symm)
                exact hb (decide_eq_true this.symm)
            | _ => cases e2
          exact ⟨p, p2, kvs, more, rfl, rfl, hne, hp, hp2, by rw [show kvs.length = (kvs.map (·.1)).length by simp, show more.length = (more.map (·.1)).length by simp, ek, ek2]; exact le_line hl, q _ _ _ z.2 z.1 _ .non⟩
        · rw [if_neg hl] at q
          exact False.elim q
    · exact False.elim q
  · exact False.elim q
/-! ### dict(list of pairs) -/
def pairsOf : List D → Option (List Key × List D)
  | [] => some ([], [])
  | .tup [k, d] :: r => match toKey k, pairsOf r with
    | some k, some (ks, ds) => some (k :: ks, d :: ds)
    | _, _ => none
  | _ => none
def dictD (as : List D) : M D := fun vh => match as with
  | [.lst xs] => match pairsOf xs with
    | some (ks, ds) => stillD (putAll [] [] ks ds) vh
    | none => none
  | _ => none
def dictMD (as : List D) : M D := fun vh => match as with
  | [.lst xs] => match pairsOf xs with
    | some (ks, ds) => freshD (putAll [] [] ks ds) vh
    | none => none
  | _ => none
theorem pairs_rep (w : Wd cl F m vh H) : ∀ {xs : List D} {us : List V} {ks : List Key} {ds : List D}, pairsOf xs = some (ks, ds) → Reps cl F m us xs →
    ∃ (ps : List Addr) (kvs : List (Key × V)), us = ps.map V.ref ∧ Paired (fun p kv => SqT K H p [kV kv.1, kv.2]) ps kvs ∧ kvs.map (·.1) = ks ∧ Reps cl F m (kvs.map (·.2)) ds := by
  intro xs
  induction xs with
  | nil =>
    intro us ks ds e r
    cases r
    cases e
    exact ⟨[], [], rfl, .nil, rfl, .nil⟩
  | cons x xs ih =>
    intro us ks ds e r
    unfold pairsOf at e
    split at e
    · rename_i h0
      cases h0
    · rename_i k d r' h0
      cases h0
      split at e
      · rename_i kk ks' ds' e1 e2
        cases e
        cases r with
        | cons r1 r2 =>
          obtain ⟨ps, kvs, rfl, hp, ek, rr⟩ := ih e2 r2
          obtain ⟨a, ws, rfl, ea, rw'⟩ := rep_tup r1
          obtain ⟨v, u, rfl, rv, ru⟩ := reps2 rw'
          refine ⟨a :: ps, (kk, u) :: kvs, rfl, .cons ?_ hp, by simp [ek], .cons ru rr⟩
          rw [← rep_key e1 rv]
          exact w.sqT ea
      · cases e
    · cases e
theorem cr_dict (hc : X.calm = true) : CallR X (.type "dict") (rDs cl dictD) := by
  intro pins s σ H xs us Q I r q
  obtain ⟨F, m, vh, as, w, ra, q⟩ := q
  unfold dictD at q
  split at q
  · split at q
    · rename_i ks ds e
      obtain ⟨v, rfl, rv⟩ := reps1 ra
      obtain ⟨a, ws, rfl, ea, rw'⟩ := rep_lst rv
      obtain ⟨ps, kvs, rfl, hp, ek, rr⟩ := pairs_rep (K := X.K) w e rw'
      refine call_dictP hc pins s σ H _ us Q I r ⟨a, ps, kvs, rfl, w.sqL ea, hp, fun p hp => ?_⟩
      have pr := merge_rep (kvs := []) (vs := []) .nil rr
      rw [ek] at pr
      refine runNewDct (xs := (putAll [] [] ks ds).2) ?_ w pr.2 hp
      rw [pr.1]
      exact q
    · exact False.elim q
  · exact False.elim q
theorem cr_dictM (hc : X.calm = true) : CallR X (.type "dict") (rDs cl dictMD) := by
  intro pins s σ H xs us Q I r q
  obtain ⟨F, m, vh, as, w, ra, q⟩ := q
  unfold dictMD at q
  split at q
  · split at q
    · rename_i ks ds e
      obtain ⟨v, rfl, rv⟩ := reps1 ra
      obtain ⟨a, ws, rfl, ea, rw'⟩ := rep_lst rv
      obtain ⟨ps, kvs, rfl, hp, ek, rr⟩ := pairs_rep (K := X.K) w e rw'
      refine call_dictP hc pins s σ H _ us Q I r ⟨a, ps, kvs, rfl, w.sqL ea, hp, fun p hp => ?_⟩
      have pr := merge_rep (kvs := []) (vs := []) .nil rr
      rw [ek] at pr
      refine runNewDctM (xs := (putAll [] [] ks ds).2) ?_ w pr.2 hp
      rw [pr.1]
      exact q
    · exact False.elim q
  · exact False.elim q
/-- {} -/
theorem de_dnew {pos : Pos} : DE cl X (.Dict [] [] pos) (fun _ => stillD ([], [])) := PEw pe_dnewK fun σ H Q ⟨F, m, vh, ρ, w, r, q⟩ => fun p hp => runNewDct (kvs := []) (xs := []) q w .nil hp
theorem de_dnewM {pos : Pos} : DE cl X (.Dict [] [] pos) (fun _ => freshD ([], [])) := PEw pe_dnewK fun σ H Q ⟨F, m, vh, ρ, w, r, q⟩ => fun p hp => runNewDctM (kvs := []) (xs := []) q w .nil hp

/-! ### any, all of numbers too -/
def trus : List D → Option (List Bool)
  | [] => some []
  | .bl b :: r => (trus r).map (b :: ·)
  | .int i :: r => (trus r).map ((i != 0) :: ·)
  | _ => none
def truU : Value → Option Bool
  | .bool b => some b
  | .int i _ => some (i != 0)
  | _ => none
theorem trus_rep : ∀ {xs : List D} {us : List V} {its : List Value} {bs : List Bool}, trus xs = some bs → Reps cl F m us xs → Vals us its → its.map truU = bs.map some
  | [], _, _, _, e, r, v => by cases e; cases r; cases v; rfl
  | .bl b :: xs, _, _, bs, e, r, v => by
    obtain ⟨cs, e1, rfl⟩ := Option.map_eq_some_iff.mp e
    cases r with
    | cons r1 r2 =>
      cases r1
      cases v with
      | cons v1 v2 =>
        cases v1
        simp only [List.map_cons, trus_rep e1 r2 v2, truU]
  | .int i :: xs, _, _, bs, e, r, v => by
    obtain ⟨cs, e1, rfl⟩ := Option.map_eq_some_iff.mp e
    cases r with
    | cons r1 r2 =>
      cases r1
      cases v with
      | cons v1 v2 =>
        obtain ⟨t, rfl⟩ := v1
        simp only [List.map_cons, trus_rep e1 r2 v2, truU]
theorem truth_trus {prog : Program} {w : World} {A : Around} {bs : List Bool} {its : List Value} (e : its.map truU = bs.map some) :
    TruthOf prog w A (fun i v => its.toArray[i]? = some v) (fun i => bs.getD i false) := fun i v s Q E hv hq => by
  have hv' : its[i]? = some v := by simpa using hv
  have h1 : (its.map truU)[i]? = some (truU v) := by rw [List.getElem?_map, hv']; rfl
  rw [e, List.getElem?_map] at h1
  obtain ⟨b, hb, h2⟩ := Option.map_eq_some_iff.mp h1
  have hg : bs.getD i false = b := by rw [List.getD_eq_getElem?_getD, hb] <;> rfl
  have hq' : Q (bs.getD i false) s := hq
  rw [hg] at hq'
  cases v with
  | bool c => cases h2; exact wpAny_truthy_bool hq'
  | int n t => cases h2; exact PyProof.Rows.truthy_int hq'
  | _ => cases h2
def anyTR (vh : VH) : List D → Option D
  | [d] => (lstV vh d).bind fun xs => (trus xs).map fun ns => .bl (ns.any id)
  | _ => none
def anyTD : List D → M D := pureD anyTR
theorem crr_anyT (hc : X.calm = true) : CallR X (.builtin "any") (rDs cl anyTD) := by
  intro pins s σ H xs us Q I r q
  obtain ⟨F, m, vh, as, w, ra, q⟩ := q
  obtain ⟨d, e, q⟩ := run_pure q
  unfold anyTR at e
  split at e
  · obtain ⟨v, rfl, rv⟩ := reps1 ra
    obtain ⟨ys, e1, e⟩ := Option.bind_eq_some_iff.mp e
    obtain ⟨bs, e2, rfl⟩ := Option.map_eq_some_iff.mp e
    obtain ⟨a, ws, rfl, hs, ru⟩ := w.lstV rv e1
    obtain ⟨its, rvl, hl, _⟩ := I.list (.inl (.inl hs))
    rw [Vals.ref1 r]
    have hb := trus_rep e2 ru rvl
    refine call_any_walk (iter_any hl.isList fun s₂ e2 st hne => ?_)
    subst e2
    refine ⟨_, _, _, _, _, _, _, rfl, Walks.list (A := X.A.in1) (I.ok.hd hc) _ a hne its.toArray, st, truth_trus hb, fun h' tk hk => ?_⟩
    refine ⟨V.bl (bs.any id), H, I.kept fun b o eo => hk b o (fun hmem => ?_) (Heap.get?_push_of_some _ eo), ?_, Run.ret q w _ (.bl _)⟩
    · rcases List.mem_cons.mp hmem with e1 | hmem
      · exact absurd (e1 ▸ Heap.lt_size eo) (Nat.lt_irrefl _)
      · cases hmem
    · show Value.bool _ = Value.bool _
      have hlen : its.length = bs.length := by
        have := congrArg List.length hb
        simpa using this
      rw [← L2.any_range, List.size_toArray, hlen]
  · cases e

/-! ### is, is not of True, False -/
def isBlD (a b : D) : M D := match a, b with
  | .bl x, .bl y => ret (.bl (x == y))
  | _, _ => fail
def isNBlD (a b : D) : M D := match a, b with
  | .bl x, .bl y => ret (.bl (!(x == y)))
  | _, _ => fail


/-! ### slices -/
def optI (f : Rho → M D) : Rho → M (Option Int) := fun ρ => bind (f ρ) fun d => match d with
  | .int i => ret (some i)
  | _ => fail
def noI : Rho → M (Option Int) := fun _ => ret none
def tO (cl : Cn) (f : Rho → M (Option Int)) : TO := fun σ H Q => ∃ F m vh ρ, Wd cl F m vh H ∧ RS cl F m σ ρ ∧ Run cl F m H (f ρ vh) (fun _ _ _ H' o => Q o H')
abbrev DO (cl : Cn) (X : Cx) (e : Option Expr) (f : Rho → M (Option Int)) : Prop := PO X e (tO cl f)
theorem POw {e : Option Expr} {t t' : TO} (h : PO X e t) (w : ∀ σ H Q, t' σ H Q → t σ H Q) : PO X e t' := ⟨fun pins s σ H Q I q => h.run pins s σ H Q I (w σ H Q q)⟩
theorem do_none : DO cl X none noI := POw po_none fun σ H Q ⟨F, m, vh, ρ, w, r, q⟩ => Run.ret q w
theorem do_some {e : Expr} {f : Rho → M D} (h : DE cl X e f) : DO cl X (some e) (optI f) := POw (po_some h) fun σ H Q ⟨F, m, vh, ρ, w, r, q⟩ => tD_bind w r q fun F1 m1 vh1 H1 a v w1 r1 g1 rv q1 => by
  cases a with
  | int i => exact ⟨i, rep_int rv, Run.ret q1 w1⟩
  | _ => exact False.elim q1
def cutL {α : Type} (xs : List α) (lo hi : Option Int) : List α := (xs.drop (HT.sIx xs.length 0 lo)).take (HT.sIx xs.length xs.length hi - HT.sIx xs.length 0 lo)
theorem cut_rep {us : List V} {xs : List D} (r : Reps cl F m us xs) (lo hi : Option Int) : Reps cl F m (cutV us lo hi) (cutL xs lo hi) := by
  unfold cutV cutL
  rw [r.length]
  exact (r.drop _).take _
def slD (d : D) (lo hi : Option Int) : M D := fun vh => match lstV vh d with
  | some xs => some (.lst (cutL xs lo hi), vh)
  | none => match d with
    | .tup xs => if HT.sIx xs.length 0 lo = 0 ∧ HT.sIx xs.length xs.length hi = xs.length then none else some (.tup (cutL xs lo hi), vh)
    | _ => none
def sliceD (fd : Rho → M D) (fl fh : Rho → M (Option Int)) : Rho → M D := fun ρ => bind (fd ρ) fun d => bind (fl ρ) fun l => bind (fh ρ) fun h => slD d l h
theorem tO_bind {α : Type} {f : Rho → M (Option Int)} {g : Option Int → M α} {k : Kn α} {Q : Option Int → Hp → Prop} (w : Wd cl F m vh H) (r : RS cl F m σ ρ) (h : Run cl F m H (bind (f ρ) g vh) k)
    (hq : ∀ F1 m1 vh1 H1 a, Wd cl F1 m1 vh1 H1 → RS cl F1 m1 σ ρ → Gr F m F1 m1 → Run cl F1 m1 H1 (g a vh1) k → Q a H1) : tO cl f σ H Q :=
  ⟨F, m, vh, ρ, w, r, (Run.bind h).mono fun F1 m1 vh1 H1 a p w1 q => hq F1 m1 vh1 H1 a w1 (r.mono p.gr) p.gr q⟩
theorem de_slice {e : Expr} {lo hi : Option Expr} {pos p2 : Pos} {fd : Rho → M D} {fl fh : Rho → M (Option Int)} (he : DE cl X e fd) (hl : DO cl X lo fl) (hh : DO cl X hi fh) : DE cl X (.Subscript e (.Slice lo hi none p2) pos) (sliceD fd fl fh) :=
  PEw (pe_slice (SlR.or sl_list sl_tup) he hl hh) fun σ H Q ⟨F, m, vh, ρ, w, r, q⟩ => tD_bind w r q fun F1 m1 vh1 H1 a v w1 r1 g1 rv q1 => by
    refine tO_bind w1 r1 q1 fun F2 m2 vh2 H2 l w2 r2 g2 q2 => ?_
    refine tO_bind w2 r2 q2 fun F3 m3 vh3 H3 h w3 r3 g3 q3 => ?_
    have rv3 := (rv.mono g2).mono g3
    unfold slD at q3
    split at q3
    · rename_i xs e1
      obtain ⟨p, us, rfl, hp, ru⟩ := w3.lstV rv3 e1
      exact Or.inl ⟨p, us, rfl, .inl (.inl hp), fun p' hp' => runNewLst q3 w3 (cut_rep ru l h) hp'⟩
    · split at q3
      · rename_i xs _
        obtain ⟨p, us, rfl, ep, ru⟩ := rep_tup rv3
        by_cases hc : HT.sIx xs.length 0 l = 0 ∧ HT.sIx xs.length xs.length h = xs.length
        · rw [if_pos hc] at q3
          exact False.elim q3
        · rw [if_neg hc] at q3
          exact Or.inr ⟨p, us, rfl, w3.sqT ep, by rw [ru.length]; exact hc, fun p' hp' => runNewTup q3 w3 (cut_rep ru l h) hp'⟩
      · exact False.elim q3
def revD (d : D) : M D := fun vh => match lstV vh d with
  | some xs => some (.lst xs.reverse, vh)
  | none => none
theorem op_isBlD : OpR X (compareOp .Is) (rD2 cl isBlD) := by
  intro pins s σ H x y v u Q I rx ry q
  obtain ⟨F, m, vh, a, b, w, ra, rb, q⟩ := q
  unfold isBlD at q
  split at q
  · rename_i c d
    cases rep_bl ra
    cases rep_bl rb
    have : decide (c = d) = (c == d) := by cases c <;> cases d <;> rfl
    exact op_isBl pins s σ H _ _ v u Q I rx ry ⟨_, _, rfl, rfl, by rw [this]; exact Run.ret q w _ (.bl _)⟩
  · exact False.elim q
theorem op_isNBlD : OpR X (compareOp .IsNot) (rD2 cl isNBlD) := by
  intro pins s σ H x y v u Q I rx ry q
  obtain ⟨F, m, vh, a, b, w, ra, rb, q⟩ := q
  unfold isNBlD at q
  split at q
  · rename_i c d
    cases rep_bl ra
    cases rep_bl rb
    have : decide (c = d) = (c == d) := by cases c <;> cases d <;> rfl
    exact op_notBl pins s σ H _ _ v u Q I rx ry ⟨_, _, rfl, rfl, by rw [this]; exact Run.ret q w _ (.bl _)⟩
  · exact False.elim q


end
end VL

namespace VL
open PySem PySem.Spec PyProof.Rows L2

section
variable {X : Cx} {cl : Cn} {K : PySem.W.Frag} {F F' F1 F2 : Hp} {m m' m1 m2 : List Addr} {H H' H1 H2 : Hp} {vh vh1 : VH} {ρ : Rho} {σ : Sl} {tg : Expr}
theorem de_rev {call e : Expr} {f : Rho → M D} (he : DE cl X e f) (hb : ∀ {te : TE}, PE X e te → PE X call (tRevL X.K te)) : DE cl X call (den1 revD f) :=
  PEw (hb he) fun σ H Q ⟨F, m, vh, ρ, w, r, q⟩ => tD_bind w r q fun F1 m1 vh1 H1 a v w1 r1 g1 rv q1 => by
    unfold revD at q1
    split at q1
    · rename_i xs e1
      obtain ⟨p, us, rfl, hp, ru⟩ := w1.lstV rv e1
      exact ⟨p, us, rfl, .inl (.inl hp), fun p' hp' => runNewLst q1 w1 ru.reverse hp'⟩
    · exact False.elim q1
/-! ### targets: a tuple or a list is unpacked -/
theorem PGor {tg : Expr} {t t' : TG} (h : PG X tg t) (h' : PG X tg t') : PG X tg (fun v σ H Q => t v σ H Q ∨ t' v σ H Q) := ⟨fun pins s σ H v u Q I r q => q.elim (h.run pins s σ H v u Q I r) (h'.run pins s σ H v u Q I r)⟩
def unpG (n : Nat) (h : Tgs) : Tg := fun d ρ => fun vh => match seqV vh d with
  | some ds => if ds.length = n then h ds ρ vh else none
  | none => none
theorem dg_unp {es : List Expr} {k n : Nat} {pos : Pos} {S : List Nat} {h : Tgs} (hc : X.calm = true) (hh : DGs cl X es S h)
    (hn : (assignEach es X.env).length = n := by rfl) (hst : (assignEach es X.env).findIdx? (·.1) = none := by rfl) : DG cl X (.Tuple es k pos) S (unpG n h) :=
  PGw (PGor (pg_tup hc hh hn hst) (pg_unl hc hh hn hst)) fun v σ H Q ⟨F, m, vh, ρ, d, w, r, rv, q⟩ => by
    unfold unpG at q
    cases e : seqV vh d with
    | none => rw [e] at q; exact False.elim q
    | some ds =>
      rw [e] at q
      simp only [] at q
      by_cases hl : ds.length = n
      · rw [if_pos hl] at q
        obtain ⟨a, us, rfl, hs, ru⟩ := w.seqV (K := X.K) rv e
        rcases hs with hs | hs
        · exact Or.inr ⟨a, us, rfl, hs, by rw [ru.length, hl], F, m, vh, ρ, ds, w, r, ru, q⟩
        · exact Or.inl ⟨a, us, rfl, hs, by rw [ru.length, hl], F, m, vh, ρ, ds, w, r, ru, q⟩
      · rw [if_neg hl] at q
        exact False.elim q
/-! ### d.get(k, x) -/
def getD (fd fk fx : Rho → M D) : Rho → M D := fun ρ => bind (fd ρ) fun d => bind (fun vh => if (dctV vh d).isSome = true then some ((), vh) else none) fun _ => bind (fk ρ) fun k => bind (fx ρ) fun x => fun vh => match dctV vh d, toKey k with
  | some (ks, vs), some j => some ((valD ks vs j).getD x, vh)
  | _, _ => none
theorem de_get {call o e f : Expr} {fd fk fx : Rho → M D} (ho : DE cl X o fd) (he : DE cl X e fk) (hf : DE cl X f fx) (hb : ∀ {to te tf : TE}, PE X o to → PE X e te → PE X f tf → PE X call (tDGet2 to te tf)) : DE cl X call (getD fd fk fx) :=
  PEw (hb ho he hf) fun σ H Q ⟨F, m, vh, ρ, w, r, q⟩ => tD_bind w r q fun F1 m1 vh1 H1 d v w1 r1 g1 rv q1 => by
    have q1' := Run.bind q1
    cases e0 : dctV vh1 d with
    | none =>
      simp only [e0] at q1'
      exact False.elim q1'
    | some p =>
      obtain ⟨ks, vs⟩ := p
      simp only [e0] at q1'
      have q2 := q1' F1 m1 H1 .refl w1
      obtain ⟨a, kvs, rfl, hd, ek, ru⟩ := w1.dctV rv e0
      refine ⟨a, rfl, Or.inl ⟨kvs, hd⟩, tD_bind w1 r1 q2 fun F2 m2 vh2 H2 k u w2 r2 g2 rk q3 => tD_bind w2 r2 q3 fun F3 m3 vh3 H3 x t w3 r3 g3 rx q4 => ?_⟩
      cases e1 : dctV vh3 d with
      | none => simp only [e1] at q4; exact False.elim q4
      | some p =>
        obtain ⟨ks', vs'⟩ := p
        cases e2 : toKey k with
        | none => simp only [e1, e2] at q4; exact False.elim q4
        | some j =>
          simp only [e1, e2] at q4
          obtain ⟨a', kvs', ea, hd', ek', ru'⟩ := w3.dctV ((rv.mono g2).mono g3) e1
          cases ea
          refine ⟨valV kvs' j, by rw [rep_key e2 (rk.mono g3)]; exact DGet.r hd', ?_⟩
          subst ek'
          have vr := val_rep (j := j) ru'
          cases e3 : valD (kvs'.map (·.1)) vs' j with
          | none =>
            rw [vr.2 e3]
            rw [e3] at q4
            exact Run.ret (a := x) q4 w3 _ rx
          | some y =>
            obtain ⟨z, e4, rz⟩ := vr.1 y e3
            rw [e4]
            rw [e3] at q4
            exact Run.ret (a := y) q4 w3 _ rz
/-! ### the text's own in, len -/
/-- x in o, by the own __contains__ -/
def ownInD (den : List D → M D) (x o : D) : M D := bind (denC 2 den [o, x]) fun r => match r with
  | .bl b => ret (.bl b)
  | _ => fail
def ownNinD (den : List D → M D) (x o : D) : M D := bind (denC 2 den [o, x]) fun r => match r with
  | .bl b => ret (.bl (!b))
  | _ => fail
def isObj (c : Nat) (vh : VH) (d : D) : Bool := (objV c vh d).isSome
def chkO (c : Nat) (o : D → D → M D) : D → D → M D := fun x d vh => if isObj c vh d = true then o x d vh else none
theorem instAt {c : Nat} {pins : List (Addr × Obj)} {s : Shared} {a dx : Addr} {fs : List (Str × V)} (I : Inv X pins σ H s) (h : H a = some (.ins (cl c) dx fs)) : ∃ ox od, PySem.W.InstAt s.heap a ox (cl c) (some od) := by
  obtain ⟨mA, J, _⟩ := ins_get I.hok h
  obtain ⟨od, J, _⟩ := J.look
  exact ⟨_, od, J⟩
section
variable {k c : Nat} {f : Addr} {fd : FuncData} {ps : List Str} {den : List D → M D}
theorem run_own {n : Nat} {pins : List (Addr × Obj)} {s : Shared} {as : List D} {us : List Value} {vs : List V} {g : D → M D} {Q : VK} {P : Value → Shared → Prop} (Fo : FnOk X.prog X.w X.K X.mg X.base CX0 k f fd ps (spD cl n den)) (hr : Room k X.A) (hb : Binds X.K fd ps [])
    (I : Inv X pins σ H s) (w : Wd cl F m vh H) (rs : Reps cl F m vs as) (rv : Vals vs us) (q : Run cl F m H (bind (denC n den as) g vh) (kV' cl Q))
    (fin : ∀ v u s' F1 m1 vh1 H1 d, Inv X pins σ H1 s' → RelV v u → Wd cl F1 m1 vh1 H1 → Rep cl F1 m1 v d → Run cl F1 m1 H1 (g d vh1) (kV' cl Q) → P u s') :
    wpAny (model X.prog X.w) X.A (call (.ref f) us) P X.xe s := by
  have q' := Run.bind q
  by_cases hl : as.length = n
  · have e : denC n den as vh = den as vh := by
      unfold denC
      rw [if_pos hl]
    rw [e] at q'
    have hq : spD cl n den (vs ++ []) H (fun v H1 => ∃ F1 m1 vh1 d, Wd cl F1 m1 vh1 H1 ∧ Rep cl F1 m1 v d ∧ Run cl F1 m1 H1 (g d vh1) (kV' cl Q)) E0 := by
      rw [List.append_nil]
      exact ⟨F, m, vh, as, by rw [rs.length, hl], w, rs, q'.mono fun F1 m1 vh1 H1 d p w1 q1 v rv => ⟨F1, m1, vh1, d, w1, rv, q1⟩⟩
    refine thn (run_fn (dvs := []) Fo hr hb .nil pass0 I rv hq) fun u s' h => ?_
    obtain ⟨v, H1, I1, r1, F1, m1, vh1, d, w1, rd, q1⟩ := h
    exact fin v u s' F1 m1 vh1 H1 d I1 r1 w1 rd q1
  · have e : denC n den as vh = none := by
      unfold denC
      rw [if_neg hl]
      rfl
    rw [e] at q'
    exact False.elim q'
theorem op_ownIn (Fo : FnOk X.prog X.w X.K X.mg X.base CX0 k f fd ps (spD cl 2 den)) (hr : Room k X.A) (hb : Binds X.K fd ps []) (hs : PySem.W.findIn X.K (.ref (cl c)) "__contains__" = some (some (.ref f))) (hf : PySem.W.isFn X.K (.ref f) = true) :
    OpR X (compareOp .In) (rD2 cl (chkO c (ownInD den))) := by
  intro pins s σ H x y v u Q I rx ry q
  obtain ⟨F, m, vh, a, b, w, ra, rb, q⟩ := q
  unfold chkO at q
  by_cases hc : isObj c vh b = true
  · rw [if_pos hc] at q
    obtain ⟨⟨ns, ds⟩, e⟩ := Option.isSome_iff_exists.mp hc
    obtain ⟨p, dx, fs, rfl, hp, _, _⟩ := w.objV rb e
    cases ry
    obtain ⟨ox, od, J⟩ := instAt I hp
    obtain ⟨mm, hF⟩ := I.fr
    refine PySem.W.in_K hF I.ok.mod.kin J hs hf ?_
    refine run_own (us := [.ref p, v]) (vs := [.ref p, x]) Fo hr hb I w (.cons rb (.cons ra .nil)) (.cons rfl (.cons rx .nil)) q fun v1 u1 s' F1 m1 vh1 H1 d I1 r1 w1 rd q1 => ?_
    cases d with
    | bl z =>
      cases rep_bl rd
      cases r1
      exact wpAny_truthy_bool ⟨V.bl z, H1, I1, rfl, Run.ret q1 w1 _ (.bl z)⟩
    | _ => exact False.elim q1
  · rw [if_neg hc] at q
    exact False.elim q
theorem op_ownNin (Fo : FnOk X.prog X.w X.K X.mg X.base CX0 k f fd ps (spD cl 2 den)) (hr : Room k X.A) (hb : Binds X.K fd ps []) (hs : PySem.W.findIn X.K (.ref (cl c)) "__contains__" = some (some (.ref f))) (hf : PySem.W.isFn X.K (.ref f) = true) :
    OpR X (compareOp .NotIn) (rD2 cl (chkO c (ownNinD den))) := by
  intro pins s σ H x y v u Q I rx ry q
  obtain ⟨F, m, vh, a, b, w, ra, rb, q⟩ := q
  unfold chkO at q
  by_cases hc : isObj c vh b = true
  · rw [if_pos hc] at q
    obtain ⟨⟨ns, ds⟩, e⟩ := Option.isSome_iff_exists.mp hc
    obtain ⟨p, dx, fs, rfl, hp, _, _⟩ := w.objV rb e
    cases ry
    obtain ⟨ox, od, J⟩ := instAt I hp
    obtain ⟨mm, hF⟩ := I.fr
    refine PySem.W.notIn_K hF I.ok.mod.kin J hs hf ?_
    refine run_own (us := [.ref p, v]) (vs := [.ref p, x]) Fo hr hb I w (.cons rb (.cons ra .nil)) (.cons rfl (.cons rx .nil)) q fun v1 u1 s' F1 m1 vh1 H1 d I1 r1 w1 rd q1 => ?_
    cases d with
    | bl z =>
      cases rep_bl rd
      cases r1
      exact wpAny_truthy_bool ⟨V.bl (!z), H1, I1, rfl, Run.ret q1 w1 _ (.bl (!z))⟩
    | _ => exact False.elim q1
  · rw [if_neg hc] at q
    exact False.elim q
end
/-! ### d[k] op= e -/
def isDctM (vh : VH) : D → Bool
  | .ref n => (dctAt vh[n]?).isSome
  | _ => false
def daugS (fo fi fe : Rho → M D) (o : D → D → M D) : Bk := fun ρ => bind (fo ρ) fun x => bind (fi ρ) fun y => fun vh => if isDctM vh x = true then bind (ixD x y) (fun old => bind (fe ρ) fun e => bind (o old e) fun z => fun vh2 => if isDctM vh2 x = true then bind (setD x y z) (fun _ => ret (.nx ρ)) vh2 else none) vh else none
theorem isDctM_lst {d : D} (h : isDctM vh d = true) : ∃ n ks vs, d = .ref n ∧ vh[n]? = some (some (.dct ks vs)) := by
  cases d with
  | ref n =>
    obtain ⟨⟨ks, vs⟩, e⟩ := Option.isSome_iff_exists.mp (show (dctAt vh[n]?).isSome = true from h)
    exact ⟨n, ks, vs, rfl, dctAt_eq e⟩
  | _ => cases h
theorem ds_daug {st : Stmt} {od i e : Expr} {fo fi fe : Rho → M D} {o : D → D → M D} {rd : V → V → Hp → VK → Prop} (ho : DE cl X od fo) (hi : DE cl X i fi) (he : DE cl X e fe)
    (hb : ∀ {to ti te : TE}, PE X od to → PE X i ti → PE X e te → PS X st (sDAug to ti te rd)) (ht : ∀ {x y H Q}, rD2 cl o x y H Q → rd x y H Q) : DS cl X st (daugS fo fi fe o) :=
  PSw (hb ho hi he) fun D σ H ⟨F, m, vh, ρ, w, r, q⟩ => tD_bind w r q fun F1 m1 vh1 H1 x v w1 r1 g1 rv q1 => tD_bind w1 r1 q1 fun F2 m2 vh2 H2 y u w2 r2 g2 ru q2 => by
    by_cases hc : isDctM vh2 x = true
    · rw [if_pos hc] at q2
      obtain ⟨n, ks, vs, rfl, hv⟩ := isDctM_lst hc
      have rx := rv.mono g2
      obtain ⟨a, kvs, rfl, hm, ha, ek, rr⟩ := w2.refDct rx hv
      have q3 := Run.bind q2
      have hix : ixD (.ref n) y vh2 = (match toKey y with
        | some k => valD ks vs k
        | none => none).map fun b => (b, vh2) := by
        unfold ixD ixRes
        have h1 : seqV vh2 (.ref n) = none := by show lstAt vh2[n]? = none; rw [hv]; rfl
        have h2 : dctV vh2 (.ref n) = some (ks, vs) := by show dctRd vh2[n]? = _; rw [hv]; rfl
        cases e : toKey y <;> simp [h1, h2, e]
      rw [hix] at q3
      cases e : toKey y with
      | none => rw [e] at q3; exact False.elim q3
      | some k =>
        rw [e] at q3
        cases e2 : valD ks vs k with
        | none => simp only [e2] at q3; exact False.elim q3
        | some old =>
          simp only [e2] at q3
          have q4 := q3 F2 m2 H2 .refl w2
          subst ek
          obtain ⟨z, e3, rz⟩ := (val_rep (j := k) rr).1 old e2
          have eu := rep_key e ru
          refine ⟨a, z, rfl, by rw [eu, ← e3]; exact DGet.k ha, tD_bind w2 r2 q4 fun F3 m3 vh3 H3 b t w3 r3 g3 rt q5 => ht ⟨F3, m3, vh3, old, b, w3, rz.mono g3, rt, (Run.bind q5).mono fun F4 m4 vh4 H4 nw p4 w4 q6 t' rt' => ?_⟩⟩
          by_cases hc2 : isDctM vh4 (.ref n) = true
          · rw [if_pos hc2] at q6
            obtain ⟨n', ks4, vs4, en, hv4⟩ := isDctM_lst hc2
            cases en
            rcases setD_rep w4 ((rx.mono g3).mono p4.gr) ((ru.mono g3).mono p4.gr) rt' (Run.bind q6) with ⟨H', F', m', vh', hs, hk, g, p, w'⟩ | ⟨H', F', m', vh', hs, hk, g, p, w'⟩
            · obtain ⟨a', us', j', t2, e1', e2', e3', e4', e5'⟩ := hs
              cases e1'
              obtain ⟨a'', kvs', ea, _, hd, _⟩ := w4.refDct ((rx.mono g3).mono p4.gr) hv4
              cases ea
              rw [hd] at e3'
              cases e3'
            · obtain ⟨a', H3', e1', e2', e3'⟩ := hs
              cases e1'
              exact ⟨H3', e2', by rw [e3']; exact Run.ret hk w' σ ((r3.mono p4.gr).mono g)⟩
          · rw [if_neg hc2] at q6
            exact False.elim q6
    · rw [if_neg hc] at q2
      exact False.elim q2
end
end VL

namespace VL
open PySem PySem.Spec PyProof.Rows L2

section
variable {X : Cx} {cl : Cn} {K : PySem.W.Frag} {F F' F1 F2 : Hp} {m m' m1 m2 : List Addr} {H H' H1 H2 : Hp} {vh vh1 : VH} {ρ : Rho} {σ : Sl} {tg : Expr}
/-! ### a walk over a dict, which is locked meanwhile -/
def keyD : Key → D
  | .inl i => .int i
  | .inr s => .str s
theorem rep_kV (k : Key) : Rep cl F m (kV k) (keyD k) := by
  cases k with
  | inl i => exact .int i
  | inr s => exact .str s
def keysIt (i : Nat) : Rho → M (List D) := fun ρ => bind (var i ρ) fun d vh => (dctV vh d).map fun p => (p.1.map keyD, vh)
def lockV {α : Type} (i : Nat) (f : Rho → M α) : Rho → M α := fun ρ => match ρ[i]? with
  | some (some (.dct _ _)) => f ρ
  | some (some (.ref n)) => fun vh => match vh[n]? with
    | some (some (.dct ks vs)) => match f ρ (vh.set n (some (.dctL ks vs))) with
      | some (r, vh') => match vh'[n]? with
        | some (some (.dctL ks' vs')) => some (r, vh'.set n (some (.dct ks' vs')))
        | _ => none
      | none => none
    | some (some (.dctL _ _)) => f ρ vh
    | _ => none
  | _ => fail
theorem itOk_keys {a : Addr} {o : Obj} {kvs : List (Key × V)} (h : H a = some (.frz o (.dK kvs))) : ItOk cl F m H ((kvs.map (·.1)).map keyD) (Itk a o kvs) := by
  refine ⟨_, _, (by rw [show ((kvs.map (·.1)).map keyD).length = kvs.length by simp]; exact walk_keys), fun F2 m2 vh2 H2 p w => p.frz _ _ _ h, fun i H2 x H3 F2 m2 vh2 hi g w y => ?_⟩
  obtain ⟨rfl, k, v, e, rfl⟩ := y
  exact ⟨F2, keyD k, .refl, w, by simp [e], rep_kV k⟩
theorem RepO.same {a : Addr} {o : MO} (r : RepO cl F m H a o) (hH : H' a = H a) : RepO cl F m H' a o := by
  cases o with
  | lst ds => obtain ⟨us, h, q⟩ := r; exact ⟨us, hH.trans h, q⟩
  | dct ks ds => obtain ⟨us, h, q⟩ := r; exact ⟨us, hH.trans h, q⟩
  | dctL ks ds => obtain ⟨ob, us, h, q⟩ := r; exact ⟨ob, us, hH.trans h, q⟩
  | lstL ds => obtain ⟨ob, us, h, q⟩ := r; exact ⟨ob, us, hH.trans h, q⟩
  | obj c ns ds => obtain ⟨dx, us, h, q⟩ := r; exact ⟨dx, us, hH.trans h, q⟩
  | tab i q => obtain ⟨ea, ps, h, q⟩ := r; exact ⟨ea, ps, hH.trans h, q⟩
theorem Wd.rewrite {vh : VH} {n : Nat} {p : Addr} {u : HO} {o o' : MO} (w : Wd cl F m vh H) (h1 : m[n]? = some p) (h2 : vh[n]? = some (some o)) (hr : RepO cl F m (upd H p u) p o') (hu : ∀ ps, u ≠ .tbl ps := by intro _ z; cases z) : Wd cl F m (vh.set n (some o')) (upd H p u) := by
  obtain ⟨hF, _⟩ := w.live n p o h1 h2
  refine ⟨fun a v e => ?_, by simp [w.len], w.nd, fun a h => ?_, fun k a mo g1 g2 => ?_, w.ntb, fun a ps ha e => ?_⟩
  · rw [upd_ne (fun z => by subst z; rw [hF] at e; cases e)]
    exact w.ext0 _ _ e
  · by_cases hap : a = p
    · subst hap
      rw [upd_same]
      exact fun e => nomatch e
    · rw [upd_ne hap]
      exact w.used a h
  · by_cases hk : n = k
    · subst hk
      rw [h1] at g1
      cases g1
      have hl : n < vh.length := (List.getElem?_eq_some_iff.mp h2).1
      rw [List.getElem?_set_self hl] at g2
      cases g2
      exact ⟨hF, hr⟩
    · rw [List.getElem?_set_ne hk] at g2
      obtain ⟨g3, g4⟩ := w.live k a mo g1 g2
      have hne : a ≠ p := fun e => by
        subst e
        obtain ⟨l1, e1⟩ := List.getElem?_eq_some_iff.mp h1
        obtain ⟨l2, e2⟩ := List.getElem?_eq_some_iff.mp g1
        exact hk ((List.getElem_inj w.nd).mp (e1.trans e2.symm))
      exact ⟨g3, g4.same (by rw [upd_ne hne])⟩
  · by_cases hap : a = p
    · subst hap
      rw [upd_same] at e
      exact absurd (Option.some.inj e) (hu ps)
    · rw [upd_ne hap] at e
      exact w.tbm a ps ha e
/-- what the body of a locked walk is asked -/
structure Lk (cl : Cn) (F : Hp) (m : List Addr) (vh : VH) (H : Hp) (σ : Sl) (ρ : Rho) (i : Nat) (a : Addr) (od : Obj) (kvs : List (Key × V)) : Prop where
  w : Wd cl F m vh H
  r : RS cl F m σ ρ
  at_ : σ[i]? = some (some (.ref a))
  fz : H a = some (.frz od (.dK kvs))
  it : ∀ R : It → Hp → Prop, Run cl F m H (keysIt i ρ vh) (kI cl R) → R (Itk a od kvs) H
theorem keys_it {i : Nat} {d : D} {a : Addr} {od : Obj} {kvs : List (Key × V)} {vs : List D} (w : Wd cl F m vh H) (hρ : ρ[i]? = some (some d)) (hd : dctV vh d = some (kvs.map (·.1), vs)) (fz : H a = some (.frz od (.dK kvs))) (R : It → Hp → Prop)
    (q : Run cl F m H (keysIt i ρ vh) (kI cl R)) : R (Itk a od kvs) H := by
  have e : keysIt i ρ vh = some ((kvs.map (·.1)).map keyD, vh) := by
    unfold keysIt var
    rw [hρ]
    show ((dctV vh d).map fun p => (p.1.map keyD, vh)) = _
    rw [hd]
    rfl
  rw [e] at q
  exact q F m H .refl w _ (itOk_keys fz)
theorem lock_go {i : Nat} {f : Rho → M D} {t : TE} {Q : VK} (w : Wd cl F m vh H) (r : RS cl F m σ ρ) (q : Run cl F m H (lockV i f ρ vh) (kV' cl Q))
    (ht : ∀ {F m vh H a od kvs} {Q : VK}, Lk cl F m vh H σ ρ i a od kvs → Run cl F m H (f ρ vh) (kV' cl Q) → t σ H Q) : tLockE t σ H Q ∨ t σ H Q := by
  unfold lockV at q
  cases e0 : ρ[i]? with
  | none => rw [e0] at q; exact False.elim q
  | some od0 =>
    cases od0 with
    | none => rw [e0] at q; exact False.elim q
    | some d =>
      rw [e0] at q
      obtain ⟨v, ev, rv⟩ := r.at_ i d e0
      cases d with
      | dct ks vs =>
        have q9 : Run cl F m H (f ρ vh) (kV' cl Q) := q
        clear q
        obtain ⟨a, kvs, rfl, ea, ek, ru⟩ := rep_dct rv
        subst ek
        rcases w.ext0 _ _ ea with ha | ⟨ob, _, _, ha⟩
        · refine Or.inl ⟨a, .dK kvs, ha, True.intro, fun od => ?_⟩
          have w1 : Wd cl F m vh (upd H a (.frz od (.dK kvs))) := by
            refine ⟨fun b o e => ?_, w.len, w.nd, fun b hb => ?_, fun n b mo g1 g2 => ?_, w.ntb, fun b ps hm e => ?_⟩
            · by_cases hb : b = a
              · subst hb
                rw [ea] at e
                cases e
                exact Or.inr ⟨od, kvs, rfl, upd_same⟩
              · rw [upd_ne hb]
                exact w.ext0 _ _ e
            · by_cases hba : b = a
              · subst hba
                rw [upd_same]
                exact fun e => nomatch e
              · rw [upd_ne hba]
                exact w.used b hb
            · obtain ⟨g3, g4⟩ := w.live n b mo g1 g2
              have hne : b ≠ a := fun e => by subst e; rw [ea] at g3; cases g3
              exact ⟨g3, g4.same (by rw [upd_ne hne])⟩
            · by_cases hb : b = a
              · subst hb
                rw [upd_same] at e
                cases e
              · rw [upd_ne hb] at e
                exact w.tbm b ps hm e
          refine ht (Q := fun v H' => H' a = some (.frz od (.dK kvs)) ∧ Q v (upd H' a (.dK kvs))) ⟨w1, r, ev, upd_same, fun R h => keys_it w1 e0 rfl upd_same R h⟩ ?_
          cases ef : f ρ vh with
          | none => rw [ef] at q9; exact False.elim q9
          | some y =>
            obtain ⟨d', vh'⟩ := y
            rw [ef] at q9
            intro F' m' H' p w' v rv'
            have hz : H' a = some (.frz od (.dK kvs)) := p.frz _ _ _ upd_same
            refine ⟨hz, ?_⟩
            have eF : F' a = some (.dK kvs) := p.gr.ext _ _ ea
            have w2 : Wd cl F' m' vh' (upd H' a (.dK kvs)) := by
              refine ⟨fun b o e => ?_, w'.len, w'.nd, fun b hb => ?_, fun n b mo g1 g2 => ?_, w'.ntb, fun b ps hm e => ?_⟩
              · by_cases hb : b = a
                · subst hb
                  rw [eF] at e
                  cases e
                  exact Or.inl upd_same
                · rw [upd_ne hb]
                  exact w'.ext0 _ _ e
              · by_cases hba : b = a
                · subst hba
                  rw [upd_same]
                  exact fun e => nomatch e
                · rw [upd_ne hba]
                  exact w'.used b hb
              · obtain ⟨g3, g4⟩ := w'.live n b mo g1 g2
                have hne : b ≠ a := fun e => by subst e; rw [eF] at g3; cases g3
                exact ⟨g3, g4.same (by rw [upd_ne hne])⟩
              · by_cases hb : b = a
                · subst hb
                  rw [upd_same] at e
                  cases e
                · rw [upd_ne hb] at e
                  exact w'.tbm b ps hm e
            have p2 : Post F m H F' m' (upd H' a (.dK kvs)) := by
              refine ⟨p.gr, fun b o e t n => ?_, fun b o u e => ?_⟩
              · by_cases hb : b = a
                · subst hb
                  obtain ⟨_, e2, n2⟩ := p.frn b _ upd_same n
                  rw [ha] at e
                  cases e
                  exact ⟨upd_same, fun _ => e2, n2⟩
                · obtain ⟨e1, e2, n2⟩ := p.fr b o (by rw [upd_ne hb]; exact e) t n
                  exact ⟨by rw [upd_ne hb]; exact e1, e2, n2⟩
              · have hb : b ≠ a := fun z => by subst z; rw [ha] at e; cases e
                rw [upd_ne hb]
                exact p.frz b o u (by rw [upd_ne hb]; exact e)
            exact q9 F' m' _ p2 w2 v rv'
        · exact Or.inr (ht ⟨w, r, ev, ha, fun R h => keys_it w e0 rfl ha R h⟩ q9)
      | ref n =>
        simp only [] at q
        cases e1 : vh[n]? with
        | none => rw [e1] at q; exact False.elim q
        | some o1 =>
          cases o1 with
          | none => rw [e1] at q; exact False.elim q
          | some mo =>
            rw [e1] at q
            cases mo with
            | lst xs => exact False.elim q
            | lstL xs => exact False.elim q
            | tab ti tq => exact False.elim q
            | obj c ns vs => exact False.elim q
            | dctL ks vs =>
              have q : Run cl F m H (f ρ vh) (kV' cl Q) := q
              cases rv with
              | @ref _ a hm =>
                obtain ⟨_, ob, kvs, h1, h2, h3⟩ := w.live _ _ _ hm e1
                subst h2
                exact Or.inr (ht ⟨w, r, ev, h1, fun R h => keys_it w e0 (show dctRd vh[n]? = _ by rw [e1]; rfl) h1 R h⟩ q)
            | dct ks vs =>
              simp only [] at q
              obtain ⟨a, kvs, rfl, hm, ha, ek, ru⟩ := w.refDct rv e1
              subst ek
              refine Or.inl ⟨a, .dK kvs, ha, True.intro, fun od => ?_⟩
              have hn : n < vh.length := (List.getElem?_eq_some_iff.mp e1).1
              have z := w.written (u := .frz od (.dK kvs)) (o' := .dctL (kvs.map (·.1)) vs) hm e1 (fun ob v z => by rw [ha] at z; cases z) fun P => ⟨od, kvs, upd_same, rfl, ru.mono P.gr⟩
              have el : (vh.set n (some (MO.dctL (kvs.map (·.1)) vs)))[n]? = some (some (.dctL (kvs.map (·.1)) vs)) := List.getElem?_set_self hn
              refine ht (Q := fun v H' => H' a = some (.frz od (.dK kvs)) ∧ Q v (upd H' a (.dK kvs))) ⟨z.1, r, ev, upd_same, fun R h => keys_it z.1 e0 (show dctRd (vh.set n (some (MO.dctL (kvs.map (·.1)) vs)))[n]? = _ by rw [el]; rfl) upd_same R h⟩ ?_
              cases ef : f ρ (vh.set n (some (.dctL (kvs.map (·.1)) vs))) with
              | none => rw [ef] at q; exact False.elim q
              | some y =>
                obtain ⟨d', vh'⟩ := y
                rw [ef] at q
                simp only [] at q
                intro F' m' H' p w' v rv'
                have hz : H' a = some (.frz od (.dK kvs)) := p.frz _ _ _ upd_same
                refine ⟨hz, ?_⟩
                cases e2 : vh'[n]? with
                | none => rw [e2] at q; exact False.elim q
                | some o2 =>
                  cases o2 with
                  | none => rw [e2] at q; exact False.elim q
                  | some mo2 =>
                    rw [e2] at q
                    cases mo2 with
                    | dctL ks' vs' =>
                      have hm' := p.gr.pre _ _ hm
                      obtain ⟨_, ob, kvs', h1, h2, h3⟩ := w'.live _ _ _ hm' e2
                      rw [hz] at h1
                      cases h1
                      have w2 := w'.rewrite (u := .dK kvs) (o' := .dct ks' vs') hm' e2 ⟨kvs, upd_same, h2, h3⟩
                      have p2 : Post F m H F' m' (upd H' a (.dK kvs)) := by
                        have hma : a ∈ m := List.mem_of_getElem? hm
                        refine ⟨p.gr, fun b o e t nb => ?_, fun b o u e => ?_⟩
                        · have hb : b ≠ a := fun z => by subst z; exact nb hma
                          obtain ⟨x1, x2, x3⟩ := p.fr b o (by rw [upd_ne hb]; exact e) t nb
                          exact ⟨by rw [upd_ne hb]; exact x1, x2, x3⟩
                        · have hb : b ≠ a := fun z => by subst z; rw [ha] at e; cases e
                          rw [upd_ne hb]
                          exact p.frz b o u (by rw [upd_ne hb]; exact e)
                      exact q F' m' _ p2 w2 v rv'
                    | _ => exact False.elim q
      | _ => exact False.elim q
theorem PEor {e : Expr} {t t' : TE} (h : PE X e t) (h' : PE X e t') : PE X e (fun σ H Q => t σ H Q ∨ t' σ H Q) := ⟨fun pins s σ H Q I q => q.elim (h.run pins s σ H Q I) (h'.run pins s σ H Q I)⟩
section
variable {elt kx vx : Expr} {x : Str} {px : Pos} {ifs : List Expr} {scope : Scope} {own : List (Str × Nat)} {pos : Pos} {S : List Nat} {g : Tg} {t : Rho → M Bool} {e ek : Rho → M D} {i : Nat}
/-- [elt for k in d] over a dict by its name -/
theorem de_lcK (hc : X.calm = true) (hN : X.N.Nodup) (hx : PE X (.Name x px) (tVar i)) (ok : BlkOk X.N X.env.scope scope own)
    (hg : ∀ (s : Shared) (H : Hp) (C : Addr) (cL : List (Str × Addr)) (fp : List Addr), DG cl (X.blk s H scope (compEnvC scope cL C X.env) fp) tg S g)
    (ht : ∀ (s : Shared) (H : Hp) (C : Addr) (cL : List (Str × Addr)) (fp : List Addr), PTs (X.blk s H scope (compEnvC scope cL C X.env) fp) ifs (tT cl t))
    (he : ∀ (s : Shared) (H : Hp) (C : Addr) (cL : List (Str × Addr)) (fp : List Addr), DE cl (X.blk s H scope (compEnvC scope cL C X.env) fp) elt e)
    (hS : ∀ i, i ∈ S → i ∈ own.map (·.2) := by decide) (hs : ∀ y, foldedSetIterable (.Name x px) X.env y = pure y := by intro _; rfl) :
    DE cl X (.ListComp elt [⟨tg, .Name x px, ifs, 0⟩] scope pos) (lockV i (lcD (keysIt i) g t e (own.map (·.2)) still0)) :=
  have pl := pe_lc hc hN (pi_keys hx) ok hg ht he hs
  PEw (PEor (pe_lock pl) pl) fun σ H Q ⟨F, m, vh, ρ, w, r, q⟩ => lock_go w r q fun {F m vh H a od kvs Q} L q2 =>
    tLcG hS L.w L.r q2 (fun R h => ⟨.ref a, L.at_, a, od, rfl, Or.inl ⟨kvs, L.fz, L.it R h⟩⟩) fun q w r _ hp => runNewLst q w r hp
theorem de_dcK (hc : X.calm = true) (hN : X.N.Nodup) (hx : PE X (.Name x px) (tVar i)) (ok : BlkOk X.N X.env.scope scope own)
    (hg : ∀ (s : Shared) (H : Hp) (C : Addr) (cL : List (Str × Addr)) (fp : List Addr), DG cl (X.blk s H scope (compEnvC scope cL C X.env) fp) tg S g)
    (ht : ∀ (s : Shared) (H : Hp) (C : Addr) (cL : List (Str × Addr)) (fp : List Addr), PTs (X.blk s H scope (compEnvC scope cL C X.env) fp) ifs (tT cl t))
    (hk : ∀ (s : Shared) (H : Hp) (C : Addr) (cL : List (Str × Addr)) (fp : List Addr), DE cl (X.blk s H scope (compEnvC scope cL C X.env) fp) kx ek)
    (he : ∀ (s : Shared) (H : Hp) (C : Addr) (cL : List (Str × Addr)) (fp : List Addr), DE cl (X.blk s H scope (compEnvC scope cL C X.env) fp) vx e)
    (hS : ∀ i, i ∈ S → i ∈ own.map (·.2) := by decide) (hs : ∀ y, foldedSetIterable (.Name x px) X.env y = pure y := by intro _; rfl) :
    DE cl X (.DictComp kx vx [⟨tg, .Name x px, ifs, 0⟩] scope pos) (lockV i (dcD (keysIt i) g t ek e (own.map (·.2)) stillD)) :=
  have pl := pe_dc hc hN (pi_keys hx) ok hg ht hk he hs
  PEw (PEor (pe_lock pl) pl) fun σ H Q ⟨F, m, vh, ρ, w, r, q⟩ => lock_go w r q fun {F m vh H a od kvs Q} L q2 =>
    tDcG hS L.w L.r q2 (fun R h => ⟨.ref a, L.at_, a, od, rfl, Or.inl ⟨kvs, L.fz, L.it R h⟩⟩) fun q w r hp => runNewDct q w r hp
end
end
end VL

namespace VL
open PySem PySem.Spec PyProof.Rows L2

/-! ### short words for the printed derivations -/
theorem b_len : bootBuiltins "len" = some (.builtin "len") := by decide +kernel
theorem b_isinstance : bootBuiltins "isinstance" = some (.builtin "isinstance") := by decide +kernel
theorem b_all : bootBuiltins "all" = some (.builtin "all") := by decide +kernel
theorem b_any : bootBuiltins "any" = some (.builtin "any") := by decide +kernel
theorem b_sum : bootBuiltins "sum" = some (.builtin "sum") := by decide +kernel
theorem b_list : bootBuiltins "list" = some (.type "list") := by decide +kernel
theorem b_tuple : bootBuiltins "tuple" = some (.type "tuple") := by decide +kernel
theorem b_dict : bootBuiltins "dict" = some (.type "dict") := by decide +kernel
theorem b_int : bootBuiltins "int" = some (.type "int") := by decide +kernel
theorem b_str : bootBuiltins "str" = some (.type "str") := by decide +kernel
theorem b_bool : bootBuiltins "bool" = some (.type "bool") := by decide +kernel
def kst (d : D) : Rho → M D := fun _ => ret d

section
variable {X : Cx} {cl : Cn} {x : Str} {p pos : Pos} {e : Expr} {es : List Expr} {fs : Rho → M (List D)}
theorem kInt {i j pos} : DE cl X (.Constant (.int i) j pos) (kst (.int i)) := de_int
theorem kBl {i j pos} : DE cl X (.Constant (.bool i) j pos) (kst (.bl i)) := de_bl
theorem kStr {i j pos} : DE cl X (.Constant (.str i) j pos) (kst (.str i)) := de_str
theorem kNon {j pos} : DE cl X (.Constant .none j pos) (kst .non) := de_non
/-- a built-in class as a value -/
theorem kTy {n : String} (hv : bootBuiltins x = some (.type n)) (hm : X.mg x = none) (hg : Gl X x := by rfl) (hn : x ≠ "__name__" := by decide) (hd : (x == ("__debug__" : Str)) = false := by decide) : DE cl X (.Name x pos) (kst (.ty n)) :=
  de_ty (pe_bltn hg hm hv rfl hn hd)
/-- a text, a number of the module -/
theorem kGs {s : Str} (hm : ∃ t, X.mg x = some (.str s t)) (hg : Gl X x := by rfl) (hd : (x == ("__debug__" : Str)) = false := by decide) : DE cl X (.Name x pos) (kst (.str s)) := by
  obtain ⟨t, hm⟩ := hm
  exact de_c (pe_glob (v := V.str s) hg hm ⟨t, rfl⟩ hd) fun _ _ => .str s
theorem kGi {i : Int} (hm : ∃ t, X.mg x = some (.int i t)) (hg : Gl X x := by rfl) (hd : (x == ("__debug__" : Str)) = false := by decide) : DE cl X (.Name x pos) (kst (.int i)) := by
  obtain ⟨t, hm⟩ := hm
  exact de_c (pe_glob (v := V.int i) hg hm ⟨t, rfl⟩ hd) fun _ _ => .int i
theorem kCls {c : Nat} (hm : X.mg x = some (.ref (cl c))) (hg : Gl X x := by rfl) (hd : (x == ("__debug__" : Str)) = false := by decide) : DE cl X (.Name x pos) (kst (.cls c)) := de_c (pe_glob (v := V.ref (cl c)) hg hm rfl hd) fun _ _ => .cls c
theorem vr (i : Nat) {x : Str} {pos : Pos} (hN : X.N[i]? = some x := by rfl) (hv : Vis X.env.scope x := by first | exact Or.inl rfl | exact Or.inr (Or.inl rfl) | exact Or.inr (Or.inr rfl)) (hd : (x == ("__debug__" : Str)) = false := by decide)
    (hcd : (x == ("__classdict__" : Str)) = false := by decide) : DE cl X (.Name x pos) (var i) := de_var (pv i hN hv hd hcd)
theorem bB {id : String} {o : List D → M D} (hc : CallR X (.builtin id) (rDs cl o)) (hv : bootBuiltins x = some (.builtin id)) (hm : X.mg x = none) (ha : DA cl X (e :: es) fs) (hg : Gl X x := by rfl)
    (hn : x ≠ "__name__" := by decide) (hdb : (x == ("__debug__" : Str)) = false := by decide) (hs : starEach (e :: es) X.env = (false, eval e X.env) :: starEach es X.env := by rfl) (hpl : (backTo pos (starEach es X.env)).any (·.1) = false := by rfl) :
    DE cl X (.Call (.Name x p) (e :: es) [] pos) (denA o fs) := de_cb (pos := pos) (fn := e) ha fun h => pe_callB hc hg hm hv h hn hdb hs hpl
theorem bT {id : String} {o : List D → M D} (hc : CallR X (.type id) (rDs cl o)) (hv : bootBuiltins x = some (.type id)) (hm : X.mg x = none) (ha : DA cl X (e :: es) fs) (hg : Gl X x := by rfl)
    (hn : x ≠ "__name__" := by decide) (hdb : (x == ("__debug__" : Str)) = false := by decide) (hs : starEach (e :: es) X.env = (false, eval e X.env) :: starEach es X.env := by rfl) (hpl : (backTo pos (starEach es X.env)).any (·.1) = false := by rfl) :
    DE cl X (.Call (.Name x p) (e :: es) [] pos) (denA o fs) := de_cb (pos := pos) (fn := e) ha fun h => pe_callTy hc hg hm hv h hn hdb hs hpl
end
/-- a def of the module with its mirror -/
structure Cal (P : Program) (w : World) (K : PySem.W.Frag) (mg : Str → Option Value) (base : Heap) (cl : Cn) (x : Str) (k n : Nat) (den : List D → M D) : Prop where
  ex : ∃ (f : Addr) (fd : FuncData) (ps : List Str), mg x = some (.ref f) ∧ PySem.W.keepIn K (.ref f) = true ∧ FnOk P w K mg base CX0 k f fd ps (spD cl n den) ∧ L2.Binds K fd ps []
/-- a method with its mirror -/
structure CalM (P : Program) (w : World) (K : PySem.W.Frag) (mg : Str → Option Value) (base : Heap) (cl : Cn) (C : Addr) (x : Str) (k n : Nat) (den : List D → M D) : Prop where
  ex : ∃ (f : Addr) (fd : FuncData) (ps : List Str), PySem.W.findIn K (.ref C) x = some (some (.ref f)) ∧ PySem.W.isFn K (.ref f) = true ∧ PySem.W.keepIn K (.ref f) = true ∧ FnOk P w K mg base CX0 k f fd ps (spD cl n den) ∧ L2.Binds K fd ps []
section
variable {X : Cx} {cl : Cn} {x : Str} {p pos apos : Pos} {e o : Expr} {es : List Expr} {fo : Rho → M D} {fs : Rho → M (List D)} {k n : Nat} {den : List D → M D}
theorem cF (C : Cal X.prog X.w X.K X.mg X.base cl x k n den) (hr : Room k X.A) (ha : DA cl X (e :: es) fs) (hg : Gl X x := by rfl) (hdb : (x == ("__debug__" : Str)) = false := by decide)
    (hs : starEach (e :: es) X.env = (false, eval e X.env) :: starEach es X.env := by rfl) (hpl : (backTo pos (starEach es X.env)).any (·.1) = false := by rfl) : DE cl X (.Call (.Name x p) (e :: es) [] pos) (denA (denC n den) fs) := by
  obtain ⟨f, fd, ps, hm, kp, Fo, hb⟩ := C.ex
  exact de_call Fo ha fun h => pe_call Fo hr hg hm kp hb .nil pass0 h hdb hs hpl
theorem cF0 (C : Cal X.prog X.w X.K X.mg X.base cl x k n den) (hr : Room k X.A) (hg : Gl X x := by rfl) (hdb : (x == ("__debug__" : Str)) = false := by decide) : DE cl X (.Call (.Name x p) [] [] pos) (denA (denC n den) nilA) := by
  obtain ⟨f, fd, ps, hm, kp, Fo, hb⟩ := C.ex
  refine PEw (pe_call0 Fo hr hg hm kp hb .nil pass0 hdb) fun σ H Q h => ?_
  obtain ⟨F, m, vh, ρ, w, r, q⟩ := h
  have q : Run cl F m H (denC n den [] vh) (kV' cl Q) := q
  obtain ⟨hl, q1⟩ := run_if q
  exact ⟨F, m, vh, [], by rw [← hl]; rfl, w, .nil, q1⟩
/-- C(e, ..) -/
theorem cN {c : Nat} (C : CalM X.prog X.w X.K X.mg X.base cl (cl c) "__init__" k n den) (hk : PySem.W.makesIn X.K (cl c) = true) (kc : PySem.W.keepIn X.K (.ref (cl c)) = true) (hm : X.mg x = some (.ref (cl c))) (hr : Room (k + 1) X.A) (ha : DA cl X (e :: es) fs) (hg : Gl X x := by rfl)
    (hdb : (x == ("__debug__" : Str)) = false := by decide) (hs : starEach (e :: es) X.env = (false, eval e X.env) :: starEach es X.env := by rfl) (hpl : (backTo pos (starEach es X.env)).any (·.1) = false := by rfl) : DE cl X (.Call (.Name x p) (e :: es) [] pos) (denA (mkD c n den) fs) := by
  obtain ⟨f, fd, ps, hi, hf, kp, Fo, hb⟩ := C.ex
  exact de_make (k := k) (f := f) (fd := fd) (ps := ps) ha fun h => pe_make ⟨hk, hi, hf, kc⟩ Fo hr hg hm hb .nil pass0 h hdb hs hpl
theorem cNM {c : Nat} (C : CalM X.prog X.w X.K X.mg X.base cl (cl c) "__init__" k n den) (hk : PySem.W.makesIn X.K (cl c) = true) (kc : PySem.W.keepIn X.K (.ref (cl c)) = true) (hm : X.mg x = some (.ref (cl c))) (hr : Room (k + 1) X.A) (ha : DA cl X (e :: es) fs) (hg : Gl X x := by rfl)
    (hdb : (x == ("__debug__" : Str)) = false := by decide) (hs : starEach (e :: es) X.env = (false, eval e X.env) :: starEach es X.env := by rfl) (hpl : (backTo pos (starEach es X.env)).any (·.1) = false := by rfl) : DE cl X (.Call (.Name x p) (e :: es) [] pos) (denA (mkMD c n den) fs) := by
  obtain ⟨f, fd, ps, hi, hf, kp, Fo, hb⟩ := C.ex
  exact de_makeM (k := k) (f := f) (fd := fd) (ps := ps) ha fun h => pe_make ⟨hk, hi, hf, kc⟩ Fo hr hg hm hb .nil pass0 h hdb hs hpl
/-- o.m(e, ..), o.m() -/
theorem cM {c : Nat} {mt : Str} {pl : Sem Bool} (C : CalM X.prog X.w X.K X.mg X.base cl (cl c) mt k n den) (hc : Cls X.K (cl c)) (hr : Room k X.A) (ho : DE cl X o fo) (ha : DA cl X (e :: es) fs)
    (hs : starEach (e :: es) X.env = (false, eval e X.env) :: starEach es X.env := by rfl) (hpl : (backTo pos (starEach es X.env)).any (·.1) = false := by rfl)
    (ht : eval (.Call (.Attribute o mt apos) (e :: es) [] pos) X.env = (do
      let ov ← eval o X.env
      standAt apos.atName
      let (f, first) ← holding [ov] (getMethod ov mt pl)
      callWith pos f first (backTo pos (starEach (e :: es) X.env)) (backToKw pos (keywordEach [] X.env))) := by rfl) : DE cl X (.Call (.Attribute o mt apos) (e :: es) [] pos) (omethD c mt n den fo fs) := by
  obtain ⟨f, fd, ps, hi, hf, kp, Fo, hb⟩ := C.ex
  exact de_ometh ho ha fun h1 h2 => pe_meth (pl := pl) h1 hc ⟨hi, hf, kp⟩ Fo hr hb .nil pass0 h2 hs hpl ht
theorem cM0 {c : Nat} {mt : Str} {pl : Sem Bool} (C : CalM X.prog X.w X.K X.mg X.base cl (cl c) mt k n den) (hc : Cls X.K (cl c)) (hr : Room k X.A) (ho : DE cl X o fo)
    (ht : eval (.Call (.Attribute o mt apos) [] [] pos) X.env = (do
      let ov ← eval o X.env
      standAt apos.atName
      let (f, first) ← holding [ov] (getMethod ov mt pl)
      callWith pos f first (backTo pos (starEach [] X.env)) (backToKw pos (keywordEach [] X.env))) := by rfl) : DE cl X (.Call (.Attribute o mt apos) [] [] pos) (omethD c mt n den fo nilA) := by
  obtain ⟨f, fd, ps, hi, hf, kp, Fo, hb⟩ := C.ex
  exact de_ometh0 ho fun h1 => pe_meth0 (pl := pl) h1 hc ⟨hi, hf, kp⟩ Fo hr hb .nil pass0 ht
theorem oIn {c : Nat} (C : CalM X.prog X.w X.K X.mg X.base cl (cl c) "__contains__" k 2 den) (hr : Room k X.A) : OpR X (compareOp .In) (rD2 cl (chkO c (ownInD den))) := by
  obtain ⟨f, fd, ps, hi, hf, kp, Fo, hb⟩ := C.ex
  exact op_ownIn Fo hr hb hi hf
theorem oNin {c : Nat} (C : CalM X.prog X.w X.K X.mg X.base cl (cl c) "__contains__" k 2 den) (hr : Room k X.A) : OpR X (compareOp .NotIn) (rD2 cl (chkO c (ownNinD den))) := by
  obtain ⟨f, fd, ps, hi, hf, kp, Fo, hb⟩ := C.ex
  exact op_ownNin Fo hr hb hi hf
theorem fF {c : Nat} {f : Str} (hc : Cls X.K (cl c)) (hn : NoAttr X.K (cl c) f) (ho : DE cl X o fo) (hb : attributeBase o f X.env (eval o X.env) = eval o X.env := by rfl) : DE cl X (.Attribute o f pos) (den1 (fldD c f) fo) := de_fld ho hc hn fun h => pe_fld h hb
end
section
variable {X : Cx} {cl : Cn} {o e : Expr} {es : List Expr} {apos cpos pos : Pos} {fo fe : Rho → M D} {fs : Rho → M (List D)}
theorem mApp {e : Expr} (ho : DE cl X o fo) (ha : DA cl X [e] fs) (hb : attributeBase o "append" X.env (eval o X.env) = eval o X.env := by rfl)
    (hf : ((backTo cpos (starEach [e] X.env)).all (fun x => !x.1) && (backToKw cpos (keywordEach [] X.env)).all (fun x => x.1.isSome) && decide (([e] : List Expr).length + ([] : List Keyword).length + (if ([] : List Keyword).isEmpty then 0 else 1) < 30)) = true := by rfl)
    (hl : (apos.endLine == cpos.line) = true := by rfl) (hs : starEach [e] X.env = (false, eval e X.env) :: starEach [] X.env := by rfl) (hp : (backTo cpos (starEach [] X.env)).any (·.1) = false := by rfl) :
    DE cl X (.Call (.Attribute o "append" apos) [e] [] cpos) (methD isLst fo fs appendD) :=
  de_bm ho ha (fun h1 h2 => pe_bm PySem.F.plainAttrs_list PySem.F.slot_list_append PySem.F.type_list_append mt_append h1 h2 hb hf hl hs hp) (fun w r h => ty_list w r h) fun _ _ _ _ h => r_append h
theorem mExt {e : Expr} (ho : DE cl X o fo) (ha : DA cl X [e] fs) (hb : attributeBase o "extend" X.env (eval o X.env) = eval o X.env := by rfl)
    (hf : ((backTo cpos (starEach [e] X.env)).all (fun x => !x.1) && (backToKw cpos (keywordEach [] X.env)).all (fun x => x.1.isSome) && decide (([e] : List Expr).length + ([] : List Keyword).length + (if ([] : List Keyword).isEmpty then 0 else 1) < 30)) = true := by rfl)
    (hl : (apos.endLine == cpos.line) = true := by rfl) (hs : starEach [e] X.env = (false, eval e X.env) :: starEach [] X.env := by rfl) (hp : (backTo cpos (starEach [] X.env)).any (·.1) = false := by rfl) :
    DE cl X (.Call (.Attribute o "extend" apos) [e] [] cpos) (methD isLst fo fs extendD) :=
  de_bm ho ha (fun h1 h2 => pe_bm PySem.F.plainAttrs_list PySem.F.slot_list_extend PySem.F.type_list_extend mt_extend h1 h2 hb hf hl hs hp) (fun w r h => ty_list w r h) fun _ _ _ _ h => r_extend h
theorem mPopAt {e : Expr} (ho : DE cl X o fo) (ha : DA cl X [e] fs) (hb : attributeBase o "pop" X.env (eval o X.env) = eval o X.env := by rfl)
    (hf : ((backTo cpos (starEach [e] X.env)).all (fun x => !x.1) && (backToKw cpos (keywordEach [] X.env)).all (fun x => x.1.isSome) && decide (([e] : List Expr).length + ([] : List Keyword).length + (if ([] : List Keyword).isEmpty then 0 else 1) < 30)) = true := by rfl)
    (hl : (apos.endLine == cpos.line) = true := by rfl) (hs : starEach [e] X.env = (false, eval e X.env) :: starEach [] X.env := by rfl) (hp : (backTo cpos (starEach [] X.env)).any (·.1) = false := by rfl) :
    DE cl X (.Call (.Attribute o "pop" apos) [e] [] cpos) (methD isLst fo fs popAtD) :=
  de_bm ho ha (fun h1 h2 => pe_bm PySem.F.plainAttrs_list PySem.F.slot_list_pop PySem.F.type_list_pop mt_popAt h1 h2 hb hf hl hs hp) (fun w r h => ty_list w r h) fun _ _ _ _ h => r_popAt h
theorem mPop (ho : DE cl X o fo) (hb : attributeBase o "pop" X.env (eval o X.env) = eval o X.env := by rfl) (hl : (apos.endLine == cpos.line) = true := by rfl) :
    DE cl X (.Call (.Attribute o "pop" apos) [] [] cpos) (methD isLst fo nilA popD) :=
  de_bm0 ho (fun h1 => pe_bm0 PySem.F.plainAttrs_list PySem.F.slot_list_pop PySem.F.type_list_pop mt_pop h1 hb hl) (fun w r h => ty_list w r h) fun _ _ _ _ h => r_pop h
theorem mUpd {e : Expr} (ho : DE cl X o fo) (ha : DA cl X [e] fs) (hb : attributeBase o "update" X.env (eval o X.env) = eval o X.env := by rfl)
    (hf : ((backTo cpos (starEach [e] X.env)).all (fun x => !x.1) && (backToKw cpos (keywordEach [] X.env)).all (fun x => x.1.isSome) && decide (([e] : List Expr).length + ([] : List Keyword).length + (if ([] : List Keyword).isEmpty then 0 else 1) < 30)) = true := by rfl)
    (hl : (apos.endLine == cpos.line) = true := by rfl) (hs : starEach [e] X.env = (false, eval e X.env) :: starEach [] X.env := by rfl) (hp : (backTo cpos (starEach [] X.env)).any (·.1) = false := by rfl) :
    DE cl X (.Call (.Attribute o "update" apos) [e] [] cpos) (methD isDct fo fs updateD) :=
  de_bm ho ha (fun h1 h2 => pe_bm PySem.F.plainAttrs_dict PySem.F.slot_dict_update PySem.F.type_dict_update mt_update h1 h2 hb hf hl hs hp) (fun w r h => ty_dict w r h) fun _ _ _ _ h => r_update h
theorem mJoin {e : Expr} (ho : DE cl X o fo) (ha : DA cl X [e] fs) (hb : attributeBase o "join" X.env (eval o X.env) = eval o X.env := by rfl)
    (hf : ((backTo cpos (starEach [e] X.env)).all (fun x => !x.1) && (backToKw cpos (keywordEach [] X.env)).all (fun x => x.1.isSome) && decide (([e] : List Expr).length + ([] : List Keyword).length + (if ([] : List Keyword).isEmpty then 0 else 1) < 30)) = true := by rfl)
    (hl : (apos.endLine == cpos.line) = true := by rfl) (hs : starEach [e] X.env = (false, eval e X.env) :: starEach [] X.env := by rfl) (hp : (backTo cpos (starEach [] X.env)).any (·.1) = false := by rfl) :
    DE cl X (.Call (.Attribute o "join" apos) [e] [] cpos) (methD isStr fo fs joinD) :=
  de_bm ho ha (fun h1 h2 => pe_bm PySem.F.plainAttrs_str PySem.F.slot_str_join PySem.F.type_str_join mt_join h1 h2 hb hf hl hs hp) (fun w r h => ty_str w r h) fun _ _ _ _ h => r_join [] h
end
end VL

namespace VL
open PySem PySem.Spec PyProof.Rows L2

section
variable {X : Cx} {cl : Cn} {K : PySem.W.Frag} {F F' F1 F2 : Hp} {m m' m1 m2 : List Addr} {H H' H1 H2 : Hp} {vh vh1 : VH} {ρ : Rho} {σ : Sl} {tg : Expr}
/-! ### ghosts: a thing stands still from now on -/
theorem run_still {d : D} {v : V} {k : Kn D} (w : Wd cl F m vh H) (r : Rep cl F m v d) (q : Run cl F m H (still d vh) k) : ∃ F' vh' d', Wd cl F' m vh' H ∧ Post F m H F' m H ∧ Rep cl F' m v d' ∧ k F' m vh' H d' := by
  have same : ∀ {d}, Rep cl F m v d → Run cl F m H (some (d, vh)) k → ∃ F' vh' d', Wd cl F' m vh' H ∧ Post F m H F' m H ∧ Rep cl F' m v d' ∧ k F' m vh' H d' :=
    fun {d} r q => ⟨F, vh, d, w, .refl, r, q F m H .refl w⟩
  cases d with
  | ref n =>
    have q : Run cl F m H (match vh[n]? with
      | some (some o) => (stillO o).map fun d => (d, vh.set n none)
      | _ => none) k := q
    cases h : vh[n]? with
    | none => rw [h] at q; exact False.elim q
    | some o =>
      cases o with
      | none => rw [h] at q; exact False.elim q
      | some o =>
        rw [h] at q
        cases h3 : stillO o with
        | none => simp only [h3] at q; exact False.elim q
        | some d =>
          simp only [h3] at q
          cases r with
          | ref hm =>
            obtain ⟨F', w', p', r'⟩ := w.stilled hm h h3
            exact ⟨F', _, d, w', p', r', q F' m H p' w'⟩
  | non => exact same r q
  | bl b => exact same r q
  | int b => exact same r q
  | str b => exact same r q
  | lst b => exact same r q
  | tup b => exact same r q
  | dct a b => exact same r q
  | obj a b c => exact same r q
  | scr b => exact same r q
  | ty b => exact same r q
  | cls b => exact same r q
  | exc a b c => exact same r q
  | lam f c z => exact same r q
def stE (f : Rho → M D) : Rho → M D := fun ρ => bind (f ρ) still
theorem de_still {e : Expr} {f : Rho → M D} (h : DE cl X e f) : DE cl X e (stE f) :=
  PEw h fun σ H Q ⟨F, m, vh, ρ, w, r, q⟩ => tD_bind w r q fun F1 m1 vh1 H1 a v w1 r1 g1 rv q1 => by
    obtain ⟨F', vh', d', w', p', r', k⟩ := run_still w1 rv q1
    exact k v r'
theorem dss_still {sts : List Stmt} {g : Bk} (i : Nat) (h : DSs cl X sts g) : DSs cl X sts (seqS (stillS i) g) :=
  PSsw h fun D σ H ⟨F, m, vh, ρ, w, r, q⟩ => by
    unfold seqS stillS at q
    cases e : ρ[i]? with
    | none => rw [e] at q; exact False.elim q
    | some o =>
      cases o with
      | none => rw [e] at q; exact False.elim q
      | some d =>
        rw [e] at q
        obtain ⟨v, ev, rv⟩ := r.at_ i d e
        have q := Run.bind (show Run cl F m H (bind (still d) (fun d' => bind (ret (Out.nx (ρ.set i (some d')))) fun o => match o with
          | .nx ρ' => g ρ'
          | o => ret o) vh) (kO cl D) from by rw [← bind_assoc]; exact q)
        obtain ⟨F', vh', d', w', p', r', k⟩ := run_still w rv q
        have r2 := (r.mono p'.gr).set r' i
        have e2 : σ.set i (some v) = σ := by
          apply List.ext_getElem?
          intro j
          by_cases hj : i = j
          · subst hj
            rw [List.getElem?_set_self (List.getElem?_eq_some_iff.mp ev).1, ev]
          · rw [List.getElem?_set_ne hj]
        rw [e2] at r2
        exact ⟨F', m, vh', _, w', r2, k⟩
def cmpT (o : D → D → M D) (fa fb : Rho → M D) : Rho → M Bool := fun ρ => bind (den2 o fa fb ρ) toB
def valT (f : Rho → M D) : Rho → M Bool := fun ρ => bind (f ρ) toB
def truT (f : Rho → M D) : Rho → M Bool := fun ρ => bind (f ρ) truD
def seqI (f : Rho → M D) : Rho → M (List D) := fun ρ => bind (f ρ) seqIt
def argI (o : List D → M (List D)) (f : Rho → M (List D)) : Rho → M (List D) := fun ρ => bind (f ρ) o
theorem xDput {o i e : Expr} {pos pos' : Pos} {fo fi fe : Rho → M D} (hu : X.A.units + 1 < cLine) (he : DE cl X e fe) (ho : DE cl X o fo) (hi : DE cl X i fi)
    (ha : ∀ v, assign (.Subscript o i pos) X.env v = (do
      let ov ← holding [v] (eval o X.env)
      let iv ← holding [v, ov] (eval i X.env)
      standAt pos
      holding [v, ov, iv] (setItem ov iv v)
      release [v, ov, iv] []) := by intro _; rfl)
    (hs : swapsWithSole [.Subscript o i pos] e pos'.line X.env = pure false := by rfl) (hw : swappedStores [.Subscript o i pos] e X.env = pure none := by rfl)
    (h1 : (assignEach [.Subscript o i pos] X.env).map (·.2) = [assign (.Subscript o i pos) X.env] := by rfl) : DS cl X (.Assign [.Subscript o i pos] e pos') (asgS fe (subG fo fi)) :=
  ds_asg he (dg_sub hu ho hi fun h1 h2 h3 => pg_sub h1 h2 h3 ha) hs hw h1
end
end VL

namespace VL
open PySem PySem.Spec PyProof.Rows L2 RZ
/-! zip of two sequences, each a list or a tuple -/
def ItB : Bool → Heap → Addr → Addr → Nat → Prop
  | false, h, it, l, i => h.IsListIter it l i
  | true, h, it, l, i => h.IsTupleIter it l i
def SqB : Bool → Heap → Addr → Array Value → Prop
  | false, h, l, xs => h.IsList l xs
  | true, h, l, xs => h.IsTuple l xs
section
variable {b : Bool} {h h' : Heap} {it l : Addr} {i : Nat} {xs : Array Value}
theorem ItB.at (q : ItB b h it l i) (k : ∀ o, h.get? it = some o → h'.get? it = some o) : ItB b h' it l i := by
  cases b
  · exact Heap.IsListIter.at q k
  · exact Heap.IsTupleIter.at q k
theorem SqB.at (q : SqB b h l xs) (k : ∀ o, h.get? l = some o → h'.get? l = some o) : SqB b h' l xs := by
  cases b
  · exact Heap.IsList.at q k
  · exact Heap.IsTuple.at q k
theorem ItB.live (q : ItB b h it l i) : ∃ o, h.get? it = some o := by
  cases b <;> exact ⟨_, (Classical.choose_spec q).1⟩
theorem SqB.live (q : SqB b h l xs) : ∃ o, h.get? l = some o := by
  cases b <;> exact ⟨_, (Classical.choose_spec q).1⟩
end
section
variable {P : Program} {w : World} {A : Around} {E : Value → Shared → Prop} {s : Shared}
theorem nxB_item {b : Bool} {it l : Addr} {i : Nat} {xs : Array Value} {x : Value} {Q : Value → Shared → Prop} (q : ItB b s.heap it l i) (ql : SqB b s.heap l xs) (e : xs[i]? = some x)
    (k : ∀ h', ItB b h' it l (i + 1) → Heap.SameBut it s.heap h' → Q x { s with heap := h' }) : wpAny (model P w) A (Builtin.SmallTypes.nextOf (.ref it)) Q E s := by
  cases b
  · exact wpAny_nextOf_list_item q ql e k
  · exact nextOf_tuple_item q ql e k
theorem nxB_end {b : Bool} {it l : Addr} {i : Nat} {xs : Array Value} {Q : Value → Shared → Prop} (hh : A.handled = none) (q : ItB b s.heap it l i) (ql : SqB b s.heap l xs) (e : xs[i]? = none)
    (k : ∀ h' x, Heap.ExtBut it s.heap h' → (∃ o, h'.get? x = some o ∧ o.cls = .type "StopIteration") → E (.ref x) { s with heap := h' }) : wpAny (model P w) A (Builtin.SmallTypes.nextOf (.ref it)) Q E s := by
  cases b
  · exact wpAny_nextOf_list_end hh q ql e k
  · exact nextOf_tuple_end hh q ql e k
end
/-- all that a zip stands on -/
structure Zp (b1 b2 : Bool) (z TI TO i1 i2 l1 l2 : Addr) (xs ys : Array Value) (h : Heap) (f : Value) (x y : Value) (k1 k2 : Nat) : Prop where
  hz : IsZip h z TI TO f
  ti : IsPair h TI (.ref i1) (.ref i2)
  to : IsPair h TO x y
  j1 : ItB b1 h i1 l1 k1
  j2 : ItB b2 h i2 l2 k2
  q1 : SqB b1 h l1 xs
  q2 : SqB b2 h l2 ys
section
variable {b1 b2 : Bool} {z TI TO i1 i2 l1 l2 : Addr} {xs ys : Array Value} {h h' : Heap} {f f' x y x' y' : Value} {k1 k2 k1' k2' : Nat}
theorem Zp.onZ (D : ZipApart z TI TO i1 i2 l1 l2) (p : Zp b1 b2 z TI TO i1 i2 l1 l2 xs ys h f x y k1 k2) (n : IsZip h' z TI TO f') (e : Heap.ExtBut z h h') : Zp b1 b2 z TI TO i1 i2 l1 l2 xs ys h' f' x y k1 k2 :=
  ⟨n, e _ _ D.TIz p.ti, e _ _ D.TOz p.to, p.j1.at fun o => e _ o D.i1z, p.j2.at fun o => e _ o D.i2z, p.q1.at fun o => e _ o D.l1z, p.q2.at fun o => e _ o D.l2z⟩
theorem Zp.onTO (D : ZipApart z TI TO i1 i2 l1 l2) (p : Zp b1 b2 z TI TO i1 i2 l1 l2 xs ys h f x y k1 k2) (n : IsPair h' TO x' y') (e : Heap.ExtBut TO h h') : Zp b1 b2 z TI TO i1 i2 l1 l2 xs ys h' f x' y' k1 k2 :=
  ⟨e _ _ D.TOz.symm p.hz, e _ _ D.TITO p.ti, n, p.j1.at fun o => e _ o D.TOi1.symm, p.j2.at fun o => e _ o D.TOi2.symm, p.q1.at fun o => e _ o D.l1TO, p.q2.at fun o => e _ o D.l2TO⟩
theorem Zp.on1 (D : ZipApart z TI TO i1 i2 l1 l2) (p : Zp b1 b2 z TI TO i1 i2 l1 l2 xs ys h f x y k1 k2) (n : ItB b1 h' i1 l1 k1') (e : Heap.ExtBut i1 h h') : Zp b1 b2 z TI TO i1 i2 l1 l2 xs ys h' f x y k1' k2 :=
  ⟨e _ _ D.i1z.symm p.hz, e _ _ D.TIi1 p.ti, e _ _ D.TOi1 p.to, n, p.j2.at fun o => e _ o D.i12.symm, p.q1.at fun o => e _ o D.l1i1, p.q2.at fun o => e _ o D.l2i1⟩
theorem Zp.on2 (D : ZipApart z TI TO i1 i2 l1 l2) (p : Zp b1 b2 z TI TO i1 i2 l1 l2 xs ys h f x y k1 k2) (n : ItB b2 h' i2 l2 k2') (e : Heap.ExtBut i2 h h') : Zp b1 b2 z TI TO i1 i2 l1 l2 xs ys h' f x y k1 k2' :=
  ⟨e _ _ D.i2z.symm p.hz, e _ _ D.TIi2 p.ti, e _ _ D.TOi2 p.to, p.j1.at fun o => e _ o D.i12, n, p.q1.at fun o => e _ o D.l1i2, p.q2.at fun o => e _ o D.l2i2⟩
/-- what a turn of zip leaves as it was -/
def But4 (z TO i1 i2 : Addr) (h h' : Heap) : Prop := ∀ c o, c ≠ z → c ≠ TO → c ≠ i1 → c ≠ i2 → h.get? c = some o → h'.get? c = some o
theorem But4.tr {h1 h2 h3 : Heap} (p : But4 z TO i1 i2 h1 h2) (q : But4 z TO i1 i2 h2 h3) : But4 z TO i1 i2 h1 h3 := fun c o a b d e g => q c o a b d e (p c o a b d e g)
theorem b4z (e : Heap.ExtBut z h h') : But4 z TO i1 i2 h h' := fun c o n _ _ _ g => e c o n g
theorem b4t (e : Heap.ExtBut TO h h') : But4 z TO i1 i2 h h' := fun c o _ n _ _ g => e c o n g
theorem b41 (e : Heap.ExtBut i1 h h') : But4 z TO i1 i2 h h' := fun c o _ _ n _ g => e c o n g
theorem b42 (e : Heap.ExtBut i2 h h') : But4 z TO i1 i2 h h' := fun c o _ _ _ n g => e c o n g
end
section
variable {P : Program} {w : World} {A : Around} {E : Value → Shared → Prop} {s : Shared} {b1 b2 : Bool} {z TI TO i1 i2 l1 l2 : Addr} {xs ys : Array Value} {x0 y0 x y : Value} {k1 k2 : Nat}
theorem zp_item {Q : Value → Shared → Prop} (D : ZipApart z TI TO i1 i2 l1 l2) (p : Zp b1 b2 z TI TO i1 i2 l1 l2 xs ys s.heap .none x0 y0 k1 k2) (ex : xs[k1]? = some x) (ey : ys[k2]? = some y)
    (k : ∀ h', Zp b1 b2 z TI TO i1 i2 l1 l2 xs ys h' (rawInt s.heap.objs.size) x y (k1 + 1) (k2 + 1) → IsPair h' s.heap.objs.size x y → h'.objs.size = s.heap.objs.size + 1 → But4 z TO i1 i2 s.heap h' → Q (.ref s.heap.objs.size) { s with heap := h' }) :
    wpAny (model P w) A (Builtin.«zip.__next__» ⟨[.ref z], []⟩) (fun f t => ∃ v, f = .done (.ret v) ∧ Q v t) E s := by
  show wpAny _ _ (field (.ref z) 2 >>= _) _ _ _
  refine wpAny_bind (wpAny_field p.hz rfl (x := .bool false) rfl ?_)
  show wpAny _ _ (field (.ref z) 3 >>= _) _ _ _
  refine wpAny_bind (wpAny_field p.hz rfl (x := .ref TI) rfl ?_)
  refine wpAny_bind (wpAny_seqItems p.ti rfl ?_)
  show wpAny _ _ (Builtin.SmallTypes.ownedTupleIsFree (.ref z) >>= _) _ _ _
  refine wpAny_bind ?_
  unfold Builtin.SmallTypes.ownedTupleIsFree
  refine wpAny_bind (wpAny_field p.hz rfl (x := .none) rfl (wpAny_pure ?_))
  simp only [if_true]
  refine wpAny_bind (wpAny_rule ?_)
  refine wpAny_bind (wpAny_field p.hz rfl (x := .ref TO) rfl ?_)
  refine wpAny_bind (wpAny_setField_rec p.hz (by simp) fun ha na sa => ?_)
  have pa := p.onZ D (f' := .ellipsis) na sa.extBut
  refine wpAny_bind ?_
  simp only [List.zipIdx_cons, List.zipIdx_nil, List.forIn_cons, List.forIn_nil]
  refine wpAny_bind (wpAny_bind (wpAny_onRaise ?_))
  show wpAny _ _ (Builtin.SmallTypes.nextOf (.ref i1) >>= _) _ _ _
  refine wpAny_bind (nxB_item (s := { s with heap := ha }) pa.j1 pa.q1 ex fun hb nb sb => wpAny_pure ?_)
  have pb := pa.on1 D nb sb.extBut
  refine wpAny_bind (wpAny_seqItems (s := { s with heap := hb }) pb.to rfl ?_)
  refine wpAny_bind (wpAny_updateSeq_pair (s := { s with heap := hb }) pb.to fun hc nc sc => ?_)
  have pc := pb.onTO D (x' := x) (y' := y0) nc sc.extBut
  refine wpAny_bind (wpAny_letGo (wpAny_pure ?_))
  refine wpAny_bind (wpAny_bind (wpAny_onRaise ?_))
  show wpAny _ _ (Builtin.SmallTypes.nextOf (.ref i2) >>= _) _ _ _
  refine wpAny_bind (nxB_item (s := { s with heap := hc }) pc.j2 pc.q2 ey fun hd nd sd => wpAny_pure ?_)
  have pd := pc.on2 D nd sd.extBut
  refine wpAny_bind (wpAny_seqItems (s := { s with heap := hd }) pd.to rfl ?_)
  refine wpAny_bind (wpAny_updateSeq_pair (s := { s with heap := hd }) pd.to fun he ne se => ?_)
  have pe := pd.onTO D (x' := x) (y' := y) ne se.extBut
  refine wpAny_bind (wpAny_letGo (wpAny_pure (wpAny_pure ?_)))
  have be : But4 z TO i1 i2 s.heap he := ((((b4z sa.extBut).tr (b41 sb.extBut)).tr (b4t sc.extBut)).tr (b42 sd.extBut)).tr (b4t se.extBut)
  have ze : he.objs.size = s.heap.objs.size := by
    have z1 := sa.1
    have z2 := sb.1
    have z3 := sc.1
    have z4 := sd.1
    have z5 := se.1
    dsimp only at z2 z3 z4 z5
    omega
  refine wpAny_bind (wpAny_seqItems (s := { s with heap := he }) pe.to rfl ?_)
  refine wpAny_bind (wpAny_newTuple ?_)
  show wpAny _ _ (Builtin.SmallTypes.ownedTupleHandOut (.ref z) (.ref he.objs.size) >>= _) _ _ _
  refine wpAny_bind ?_
  unfold Builtin.SmallTypes.ownedTupleHandOut
  have lz : z < he.objs.size := Heap.lt_size pe.hz
  have kf : Heap.ExtBut z he (he.push { cls := .type "tuple", data := .seq #[x, y] }) := fun c o _ g => Heap.get?_push_of_some _ g
  have pf := pe.onZ D (Heap.get?_push_of_some _ pe.hz) kf
  have tf : IsPair (he.push { cls := .type "tuple", data := .seq #[x, y] }) he.objs.size x y := Heap.get?_push_size _ rfl
  refine wpAny_bind (wpAny_setField_rec pf.hz (by simp) fun hg ng sg => ?_)
  have pg := pf.onZ D (f' := rawInt he.objs.size) ng sg.extBut
  refine wpAny_setField_rec (s := { s with heap := hg }) pg.hz (by simp) fun hi ni si => ?_
  have pi := pg.onZ D (f' := rawInt he.objs.size) ni si.extBut
  have ti := si.extBut _ _ (Nat.ne_of_gt lz) (sg.extBut _ _ (Nat.ne_of_gt lz) tf)
  have zi : hi.objs.size = he.objs.size + 1 := by rw [si.1, sg.1, Heap.size_push]
  rw [ze] at pi ti zi
  refine wpAny_pure ⟨_, rfl, ?_⟩
  show Q (.ref he.objs.size) _
  rw [ze]
  exact k hi pi ti zi (((be.tr (b4z kf)).tr (b4z sg.extBut)).tr (b4z si.extBut))
theorem zp_end {Q : Fin → Shared → Prop} (hh : A.handled = none) (D : ZipApart z TI TO i1 i2 l1 l2) (p : Zp b1 b2 z TI TO i1 i2 l1 l2 xs ys s.heap .none x0 y0 k1 k2) (no : xs[k1]? = none ∨ ys[k2]? = none)
    (k : ∀ h' x, But4 z TO i1 i2 s.heap h' → (∃ o, h'.get? x = some o ∧ o.cls = .type "StopIteration") → E (.ref x) { s with heap := h' }) :
    wpAny (model P w) A (Builtin.«zip.__next__» ⟨[.ref z], []⟩) Q E s := by
  show wpAny _ _ (field (.ref z) 2 >>= _) _ _ _
  refine wpAny_bind (wpAny_field p.hz rfl (x := .bool false) rfl ?_)
  show wpAny _ _ (field (.ref z) 3 >>= _) _ _ _
  refine wpAny_bind (wpAny_field p.hz rfl (x := .ref TI) rfl ?_)
  refine wpAny_bind (wpAny_seqItems p.ti rfl ?_)
  show wpAny _ _ (Builtin.SmallTypes.ownedTupleIsFree (.ref z) >>= _) _ _ _
  refine wpAny_bind ?_
  unfold Builtin.SmallTypes.ownedTupleIsFree
  refine wpAny_bind (wpAny_field p.hz rfl (x := .none) rfl (wpAny_pure ?_))
  simp only [if_true]
  refine wpAny_bind (wpAny_rule ?_)
  refine wpAny_bind (wpAny_field p.hz rfl (x := .ref TO) rfl ?_)
  refine wpAny_bind (wpAny_setField_rec p.hz (by simp) fun ha na sa => ?_)
  have pa := p.onZ D (f' := .ellipsis) na sa.extBut
  have fin : ∀ h1 x, But4 z TO i1 i2 s.heap h1 → IsZip h1 z TI TO .ellipsis → (∃ o, h1.get? x = some o ∧ o.cls = .type "StopIteration") →
      wpAny (model P w) A (setField (.ref z) 0 .none) (fun _ t => E (.ref x) t) E { s with heap := h1 } := fun h1 x b4 hz he => by
    obtain ⟨o, ho, hc⟩ := he
    have ne : x ≠ z := fun e => by
      subst e
      rw [hz] at ho
      cases ho
      simp at hc
    exact wpAny_setField_rec (s := { s with heap := h1 }) hz (by simp) fun h2 _ s2 => k h2 x (b4.tr (b4z s2.extBut)) ⟨o, s2.extBut _ _ ne ho, hc⟩
  refine wpAny_bind ?_
  simp only [List.zipIdx_cons, List.zipIdx_nil, List.forIn_cons, List.forIn_nil]
  refine wpAny_bind (wpAny_bind (wpAny_onRaise ?_))
  show wpAny _ _ (Builtin.SmallTypes.nextOf (.ref i1) >>= _) _ _ _
  cases ex : xs[k1]? with
  | none => exact wpAny_bind (nxB_end (s := { s with heap := ha }) hh pa.j1 pa.q1 ex fun hb x eb he => fin hb x ((b4z sa.extBut).tr (b41 eb)) (eb _ _ D.i1z.symm pa.hz) he)
  | some x =>
    have ey : ys[k2]? = none := no.resolve_left (by rw [ex]; simp)
    refine wpAny_bind (nxB_item (s := { s with heap := ha }) pa.j1 pa.q1 ex fun hb nb sb => wpAny_pure ?_)
    have pb := pa.on1 D nb sb.extBut
    refine wpAny_bind (wpAny_seqItems (s := { s with heap := hb }) pb.to rfl ?_)
    refine wpAny_bind (wpAny_updateSeq_pair (s := { s with heap := hb }) pb.to fun hc nc sc => ?_)
    have pc := pb.onTO D (x' := x) (y' := y0) nc sc.extBut
    refine wpAny_bind (wpAny_letGo (wpAny_pure ?_))
    refine wpAny_bind (wpAny_bind (wpAny_onRaise ?_))
    show wpAny _ _ (Builtin.SmallTypes.nextOf (.ref i2) >>= _) _ _ _
    exact wpAny_bind (nxB_end (s := { s with heap := hc }) hh pc.j2 pc.q2 ey fun hd u ed he => fin hd u ((((b4z sa.extBut).tr (b41 sb.extBut)).tr (b4t sc.extBut)).tr (b42 ed)) (ed _ _ D.i2z.symm pc.hz) he)
theorem pn_item {Q : Option Value → Shared → Prop} (D : ZipApart z TI TO i1 i2 l1 l2) (p : Zp b1 b2 z TI TO i1 i2 l1 l2 xs ys s.heap .none x0 y0 k1 k2) (ex : xs[k1]? = some x) (ey : ys[k2]? = some y)
    (k : ∀ h', Zp b1 b2 z TI TO i1 i2 l1 l2 xs ys h' (rawInt s.heap.objs.size) x y (k1 + 1) (k2 + 1) → IsPair h' s.heap.objs.size x y → h'.objs.size = s.heap.objs.size + 1 → But4 z TO i1 i2 s.heap h' → Q (some (.ref s.heap.objs.size)) { s with heap := h' }) :
    wpAny (model P w) A (pyNext (.ref z)) Q E s := by
  have t : s.TypeIs (.ref z) "zip" := ⟨_, p.hz, rfl⟩
  unfold pyNext
  refine wpAny_bind (wpAny_attempt (wpAny_callSpecial?_slot (name := Str.ofString "__next__") t F.slot_zip_next (wpAny_call_entry F.slot_zip_next t F.entry_zip_next ?_ (F.args_zip_next_1 _))))
  exact zp_item D p ex ey fun h' a b c d => wpAny_pure (k h' a b c d)
theorem pn_end {Q : Option Value → Shared → Prop} (hh : A.handled = none) (D : ZipApart z TI TO i1 i2 l1 l2) (p : Zp b1 b2 z TI TO i1 i2 l1 l2 xs ys s.heap .none x0 y0 k1 k2) (no : xs[k1]? = none ∨ ys[k2]? = none)
    (k : ∀ h', But4 z TO i1 i2 s.heap h' → Q none { s with heap := h' }) : wpAny (model P w) A (pyNext (.ref z)) Q E s := by
  have t : s.TypeIs (.ref z) "zip" := ⟨_, p.hz, rfl⟩
  unfold pyNext
  refine wpAny_bind (wpAny_attempt (wpAny_callSpecial?_slot (name := Str.ofString "__next__") t F.slot_zip_next (wpAny_call_entry F.slot_zip_next t F.entry_zip_next ?_ (F.args_zip_next_1 _))))
  refine zp_end hh D p no fun h' x b4 ⟨o, ho, hc⟩ => ?_
  refine wpAny_bind (wpAny_isInstance (T := "StopIteration") (b := true) ⟨o, ho, hc⟩ isSubtype_stop ?_)
  exact wpAny_pure (k _ b4)
end
end VL

namespace VL
open PySem PySem.Spec PyProof.Rows L2 RZ
def SqV (b : Bool) (K : PySem.W.Frag) (H : Hp) (a : Addr) (xs : List V) : Prop := match b with
  | false => SqL K H a xs
  | true => SqT K H a xs
/-- a zip's turns: a fresh pair from both sides -/
def Itm (b1 b2 : Bool) (K : PySem.W.Frag) (a b : Addr) : It where
  go := fun i H => ∃ us ws u v, (SqV b1 K H a us ∧ SqV b2 K H b ws) ∧ us[i]? = some u ∧ ws[i]? = some v
  yld := fun i H r H' => ∃ T u v, r = V.ref T ∧ H T = none ∧ H' = upd H T (.tup [u, v]) ∧ (∀ us, SqV b1 K H a us → us[i]? = some u) ∧ (∀ ws, SqV b2 K H b ws → ws[i]? = some v)
  stop := fun i H => ∃ us ws, (SqV b1 K H a us ∧ SqV b2 K H b ws) ∧ (us.length ≤ i ∨ ws.length ≤ i)
section
variable {X : Cx} {pins : List (Addr × Obj)} {σ : L2.St} {H : Hp} {s : Shared} {b b1 b2 : Bool} {a c : Addr} {us ws : List V}
theorem sqv_items (I : Inv X pins σ H s) (q : SqV b X.K H a us) : ∃ its : List Value, Vals us its ∧ SqB b s.heap a its.toArray := by
  cases b
  · obtain ⟨its, r, p, _⟩ := I.list q
    exact ⟨its, r, p.isList⟩
  · obtain ⟨its, r, p, _⟩ := I.tuple q
    exact ⟨its, r, p⟩
theorem sqv_inj (I : Inv X pins σ H s) (q : SqV b X.K H a us) (q' : SqV b X.K H a ws) : us = ws := by
  cases b
  · exact I.list_inj q q'
  · exact I.tuple_inj q q'
end
theorem walk_m {b1 b2 : Bool} {K : PySem.W.Frag} {a b : Addr} {us ws : List V} {n : Nat} (hn : n = min us.length ws.length) : Walk (Itm b1 b2 K a b) n (fun H => SqV b1 K H a us ∧ SqV b2 K H b ws) (YPair (fun i => us[i]?) (fun i => ws[i]?)) where
  goes := fun i H hi q => ⟨us, ws, us[i]'(by omega), ws[i]'(by omega), q, List.getElem?_eq_getElem (by omega), List.getElem?_eq_getElem (by omega)⟩
  stops := fun H q => ⟨us, ws, q, by omega⟩
  yields := fun i H r H' _ q ⟨T, u, v, e1, e2, e3, e4, e5⟩ => ⟨T, u, v, e1, e2, e3, e4 us q.1, e5 ws q.2⟩
theorem turn_m {P : Program} {w : World} {K : PySem.W.Frag} {el : List Expr} {kk : Nat} {tp : Pos} {b1 b2 : Bool} {a b z TI TO i1 i2 : Addr} (D : ZipApart z TI TO i1 i2 a b) :
    Turn P w K (.Tuple el kk tp) (Itm b1 b2 K a b) [z, TI, TO, i1, i2] z (fun i h => IsZip h z TI TO .none ∧ IsPair h TI (.ref i1) (.ref i2) ∧ (∃ x y, IsPair h TO x y) ∧ ItB b1 h i1 a i ∧ ItB b2 h i2 b i) where
  mem := List.mem_cons_self ..
  obj := fun i h st c hc => by
    obtain ⟨hz, hti, ⟨x, y, hto⟩, j1, j2⟩ := st
    have it : ∀ {bb it l i}, ItB bb h it l i → ∃ o, h.get? it = some o ∧ ∀ v, o.data ≠ .cell v := fun {bb it l i} q => by
      cases bb
      · obtain ⟨o, e, _, d⟩ := q
        exact ⟨o, e, fun v n => by rw [d] at n; cases n⟩
      · obtain ⟨o, e, _, d⟩ := q
        exact ⟨o, e, fun v n => by rw [d] at n; cases n⟩
    simp only [List.mem_cons, List.not_mem_nil, or_false] at hc
    rcases hc with rfl | rfl | rfl | rfl | rfl
    · exact ⟨_, hz, nofun⟩
    · exact ⟨_, hti, nofun⟩
    · exact ⟨_, hto, nofun⟩
    · exact it j1
    · exact it j2
  keep := fun i h h' ⟨hz, hti, ⟨x, y, hto⟩, j1, j2⟩ k => by
    simp only [List.forall_mem_cons] at k
    exact ⟨k.1 _ hz, k.2.1 _ hti, ⟨x, y, k.2.2.1 _ hto⟩, j1.at k.2.2.2.1, j2.at k.2.2.2.2.1⟩
  item := by
    intro X hP hw hK hc i pins s σ H E I hf ⟨hz, hti, ⟨x0, y0, hto⟩, j1, j2⟩ hg
    subst hP hw hK
    obtain ⟨us, ws, u, v, ⟨q1, q2⟩, eu, ev⟩ := hg
    obtain ⟨is1, r1, p1⟩ := sqv_items I q1
    obtain ⟨is2, r2, p2⟩ := sqv_items I q2
    obtain ⟨x, ex, rx⟩ := r1.get eu
    obtain ⟨y, ey, ry⟩ := r2.get ev
    have lz : z < s.heap.objs.size := Heap.lt_size hz
    refine pn_item D ⟨hz, hti, hto, j1, j2, p1, p2⟩ (x := x) (y := y) (by simpa using ex) (by simpa using ey) fun h1 zp tz _ b4 => ?_
    refine ⟨_, rfl, wpAny_letOwnedTupleGo_zip (s := { s with heap := h1 }) zp.hz fun h2 z2 sb => ?_⟩
    have zq := zp.onZ D z2 sb.extBut
    have t2 : h2.get? s.heap.objs.size = some { cls := .type "tuple", data := .seq #[x, y] } := (sb.2 _ (Nat.ne_of_gt lz)).trans tz
    have new : ObjOk X.prog X.w (upd H s.heap.objs.size (.tup [u, v])) h2 s.heap.objs.size (.tup [u, v]) :=
      ⟨by show 2 ≤ sizeLine; decide, [x, y], .cons rx (.cons ry .nil), ⟨_, t2, rfl, _, rfl⟩⟩
    have I2 : Inv X pins σ (upd H s.heap.objs.size (.tup [u, v])) { s with heap := h2 } :=
      I.turnedNew (t' := s.toks) (ch := [z, TI, TO, i1, i2]) (fun c o hb q => by
        simp only [List.mem_cons, List.not_mem_nil, or_false, not_or] at hb
        exact (sb.2 c hb.1).trans (b4 c o hb.1 hb.2.2.1 hb.2.2.2.1 hb.2.2.2.2 q)) hf (Nat.le_refl _) new
    refine ⟨.ref s.heap.objs.size, _, I2, rfl, ⟨_, u, v, rfl, I.hok.fresh (Nat.le_refl _), rfl, fun l hl => by rw [sqv_inj I hl q1]; exact eu, fun l hl => by rw [sqv_inj I hl q2]; exact ev⟩,
      ⟨z2, zq.ti, ⟨x, y, zq.to⟩, zq.j1, zq.j2⟩, fun c hc => ?_⟩
    have lc : c < s.heap.objs.size := by
      have l1 : i1 < s.heap.objs.size := (fun ⟨_, e⟩ => Heap.lt_size e) j1.live
      have l2 : i2 < s.heap.objs.size := (fun ⟨_, e⟩ => Heap.lt_size e) j2.live
      simp only [List.mem_cons, List.not_mem_nil, or_false] at hc
      rcases hc with rfl | rfl | rfl | rfl | rfl
      · exact lz
      · exact Heap.lt_size hti
      · exact Heap.lt_size hto
      · exact l1
      · exact l2
    rw [upd_ne (Nat.ne_of_lt lc)]
    exact (hf c hc).1
  done := by
    intro X hP hw hK hc i pins s σ H E I hf ⟨hz, hti, ⟨x0, y0, hto⟩, j1, j2⟩ hg
    subst hP hw hK
    obtain ⟨us, ws, ⟨q1, q2⟩, no⟩ := hg
    obtain ⟨is1, r1, p1⟩ := sqv_items I q1
    obtain ⟨is2, r2, p2⟩ := sqv_items I q2
    have n1 := r1.length
    have n2 := r2.length
    refine pn_end (I.ok.hd hc) D ⟨hz, hti, hto, j1, j2, p1, p2⟩ (no.imp (fun q => by simp; omega) fun q => by simp; omega) fun h1 b4 => ⟨rfl, I.turnedL (t' := s.toks) (ch := [z, TI, TO, i1, i2]) (fun c o hb q => ?_) hf⟩
    simp only [List.mem_cons, List.not_mem_nil, or_false, not_or] at hb
    exact b4 c o hb.1 hb.2.2.1 hb.2.2.2.1 hb.2.2.2.2 q
  self := fun A i s Q E st h => wpAny_pyIter_zip st.1 h
/-! the call -/
def itN : Bool → String
  | false => "list_iterator"
  | true => "tuple_iterator"
def itO (b : Bool) (l : Addr) : Obj := { cls := .type (itN b), data := .fields #[.ref l, .int 0 0] }
def twO (x y : Value) : Obj := { cls := .type "tuple", data := .seq #[x, y] }
def zipO (x y : Addr) : Obj := { cls := .type "zip", data := .fields #[.none, .bool false, .bool false, .ref x, .ref y] }
section
variable {P : Program} {w : World} {A : Around} {E : Value → Shared → Prop} {s : Shared}
theorem iterB {b : Bool} {l : Addr} {xs : Array Value} {Q : Value → Shared → Prop} (q : SqB b s.heap l xs) (k : Q (.ref s.heap.objs.size) { s with heap := s.heap.push (itO b l) }) : wpAny (model P w) A (pyIter (.ref l)) Q E s := by
  cases b
  · exact wpAny_pyIter_list q k
  · exact wpAny_pyIter_tuple q k
end
theorem SqB.push {b : Bool} {h : Heap} {l : Addr} {xs : Array Value} (q : SqB b h l xs) (o : Obj) : SqB b (h.push o) l xs := q.at fun _ e => Heap.get?_push_of_some _ e
def zh1 (b1 : Bool) (h : Heap) (l1 : Addr) : Heap := h.push (itO b1 l1)
def zh2 (b1 b2 : Bool) (h : Heap) (l1 l2 : Addr) : Heap := (zh1 b1 h l1).push (itO b2 l2)
def zh3 (b1 b2 : Bool) (h : Heap) (l1 l2 : Addr) : Heap := (zh2 b1 b2 h l1 l2).push (twO (.ref h.objs.size) (.ref (zh1 b1 h l1).objs.size))
def zh4 (b1 b2 : Bool) (h : Heap) (l1 l2 : Addr) : Heap := (zh3 b1 b2 h l1 l2).push (twO .none .none)
def zh5 (b1 b2 : Bool) (h : Heap) (l1 l2 : Addr) : Heap := (zh4 b1 b2 h l1 l2).push (zipO (zh2 b1 b2 h l1 l2).objs.size (zh3 b1 b2 h l1 l2).objs.size)
theorem zip_makes (b1 b2 : Bool) (l1 l2 : Addr) (xs ys : Array Value) :
    Meets (Builtin.«zip.__new__» ⟨[.type "zip", .ref l1, .ref l2], []⟩) (fun _ R s => (SqB b1 s.heap l1 xs ∧ SqB b2 s.heap l2 ys) ∧ R (.ok (.ret (.ref (zh4 b1 b2 s.heap l1 l2).objs.size))) { s with heap := zh5 b1 b2 s.heap l1 l2 }) :=
  .of_wp fun prog w A R s ⟨⟨p1, p2⟩, k⟩ => by
    obtain ⟨hp, g, d, tk, os⟩ := s
    have e1 : SqB b1 (Shared.heap ⟨hp, g, d, tk, os⟩) l1 xs := p1
    have e2 : SqB b2 (Shared.heap ⟨hp.push (itO b1 l1), g, d, tk, os⟩) l2 ys := SqB.push p2 _
    have hsub := sub_zip
    wp_walk using iterB e1, iterB e2
    exact ⟨_, rfl, k⟩
section
variable {P : Program} {w : World} {A : Around} {E : Value → Shared → Prop} {s : Shared}
theorem zip_call {b1 b2 : Bool} {l1 l2 : Addr} {xs ys : Array Value} {Q : Value → Shared → Prop} (p1 : SqB b1 s.heap l1 xs) (p2 : SqB b2 s.heap l2 ys)
    (k : ∀ h' n, n = s.heap.objs.size → IsZip h' (n + 4) (n + 2) (n + 3) .none → IsPair h' (n + 2) (.ref n) (.ref (n + 1)) → IsPair h' (n + 3) .none .none → ItB b1 h' n l1 0 → ItB b2 h' (n + 1) l2 0 →
      (∀ c o, s.heap.get? c = some o → h'.get? c = some o) → Q (.ref (n + 4)) { s with heap := h' }) : wpAny (model P w) A (call (.type "zip") [.ref l1, .ref l2]) Q E s := by
  refine callType_new F.called_zip (by decide) (F.typeCall_zip_2 _ _) (F.newCall_zip_2 _ _) (fun o => F.args_object_init_3 o _ _) F.entry_zip_new (zip_makes b1 b2 l1 l2 xs ys) ⟨⟨p1, p2⟩, ?_⟩
  obtain ⟨hp, g, d, tk, os⟩ := s
  dsimp only at k ⊢
  have z1 : (zh1 b1 hp l1).objs.size = hp.objs.size + 1 := Heap.size_push ..
  have z2 : (zh2 b1 b2 hp l1 l2).objs.size = hp.objs.size + 2 := (Heap.size_push ..).trans (by rw [z1])
  have z3 : (zh3 b1 b2 hp l1 l2).objs.size = hp.objs.size + 3 := (Heap.size_push ..).trans (by rw [z2])
  have z4 : (zh4 b1 b2 hp l1 l2).objs.size = hp.objs.size + 4 := (Heap.size_push ..).trans (by rw [z3])
  have up : ∀ {h : Heap} {c o o'}, h.get? c = some o → (h.push o').get? c = some o := fun e => Heap.get?_push_of_some _ e
  have c0 : ItB b1 (zh1 b1 hp l1) hp.objs.size l1 0 := by cases b1 <;> exact ⟨_, Heap.get?_push_size _ rfl, rfl, rfl⟩
  have c1 : ItB b2 (zh2 b1 b2 hp l1 l2) (zh1 b1 hp l1).objs.size l2 0 := by cases b2 <;> exact ⟨_, Heap.get?_push_size _ rfl, rfl, rfl⟩
  have c2 : (zh3 b1 b2 hp l1 l2).get? (zh2 b1 b2 hp l1 l2).objs.size = some (twO (.ref hp.objs.size) (.ref (zh1 b1 hp l1).objs.size)) := Heap.get?_push_size _ rfl
  have c3 : (zh4 b1 b2 hp l1 l2).get? (zh3 b1 b2 hp l1 l2).objs.size = some (twO .none .none) := Heap.get?_push_size _ rfl
  have c4 : (zh5 b1 b2 hp l1 l2).get? (zh4 b1 b2 hp l1 l2).objs.size = some (zipO (zh2 b1 b2 hp l1 l2).objs.size (zh3 b1 b2 hp l1 l2).objs.size) := Heap.get?_push_size _ rfl
  rw [z1] at c1 c2
  rw [z2] at c2 c4
  rw [z3] at c3 c4
  rw [z4] at c4 ⊢
  exact ⟨⟨_, c4, rfl⟩, k _ hp.objs.size rfl c4 (up (up c2)) (up c3) (c0.at fun o e => up (up (up (up e)))) (c1.at fun o e => up (up (up e))) fun c o e => up (up (up (up (up e))))⟩
end
/-! zip in a loop's head -/
def iZipM (K : PySem.W.Frag) (ta : TA) : TI := fun σ H R => ta σ H fun vs H1 => ∃ b1 b2 a b us ws, vs = [V.ref a, V.ref b] ∧ SqV b1 K H1 a us ∧ SqV b2 K H1 b ws ∧ R (Itm b1 b2 K a b) H1
theorem pi_zipM {X : Cx} {e e' : Expr} {ta : TA} {p pos tp : Pos} {el : List Expr} {kk : Nat} (hg : Gl X "zip") (hm : X.mg "zip" = none) (ha : PA X [e, e'] ta)
    (st : starEach [e, e'] X.env = (false, eval e X.env) :: starEach [e'] X.env := by rfl) (pl : (backTo pos (starEach [e'] X.env)).any (·.1) = false := by rfl) :
    PI X (.Tuple el kk tp) (.Call (.Name "zip" p) [e, e'] [] pos) (iZipM X.K ta) where
  run := fun pins s σ H R I h => by
    refine Call_ (ld_blt I hg hm boot_zip (callWith_type1 (thn (ha.run pos pins s σ H _ I h) fun us s1 ⟨vs, H1, I1, r1, q1⟩ => ?_) st pl))
    obtain ⟨b1, b2, a, b, x1, x2, rfl, g1, g2, q⟩ := q1
    obtain ⟨u1, t1, rfl, ru, r1⟩ : ∃ u t, us = u :: t ∧ RelV (.ref a) u ∧ Vals [.ref b] t := by cases r1 with | cons r rr => exact ⟨_, _, rfl, r, rr⟩
    obtain ⟨u2, rfl, ru2⟩ := vals1 r1
    cases ru
    cases ru2
    obtain ⟨is1, _, p1⟩ := sqv_items I1 g1
    obtain ⟨is2, _, p2⟩ := sqv_items I1 g2
    have la : a < s1.heap.objs.size := (fun ⟨_, e⟩ => Heap.lt_size e) p1.live
    have lb : b < s1.heap.objs.size := (fun ⟨_, e⟩ => Heap.lt_size e) p2.live
    refine zip_call p1 p2 fun h' n en hz hti hto j1 j2 kp => wpAny_pyIter_zip hz ?_
    subst en
    have I2 : Inv X pins σ H1 { s1 with heap := h' } := I1.kept (t' := s1.toks) kp
    refine ⟨_, [_ + 4, _ + 2, _ + 3, _, _ + 1], _, _, H1, rfl, I2, turn_m (zipApart_new la lb), ⟨hz, hti, ⟨_, _, hto⟩, j1, j2⟩, fun c hc => ?_, q⟩
    have ge : s1.heap.objs.size ≤ c := by
      simp only [List.mem_cons, List.not_mem_nil, or_false] at hc
      rcases hc with rfl | rfl | rfl | rfl | rfl
      · exact Nat.le_add_right _ 4
      · exact Nat.le_add_right _ 2
      · exact Nat.le_add_right _ 3
      · exact Nat.le_refl _
      · exact Nat.le_add_right _ 1
    exact I1.fpOk ge (I1.hok.fresh ge)
def zipMIt : List D → M (List D)
  | [.lst xs, .lst ys] => ret (pairL xs ys)
  | [.lst xs, .tup ys] => ret (pairL xs ys)
  | [.tup xs, .lst ys] => ret (pairL xs ys)
  | [.tup xs, .tup ys] => ret (pairL xs ys)
  | _ => fail
def sqD (b : Bool) (xs : List D) : D := if b then .tup xs else .lst xs
section
variable {X : Cx} {cl : Cn} {K : PySem.W.Frag} {F : Hp} {m : List Addr} {H : Hp} {vh : VH} {tg : Expr}
theorem rep_sq {b : Bool} {v : V} {xs : List D} (r : Rep cl F m v (sqD b xs)) (w : Wd cl F m vh H) : ∃ a us, v = .ref a ∧ SqV b K H a us ∧ Reps cl F m us xs ∧ ∀ {F2 m2 vh2 H2}, Post F m H F2 m2 H2 → Wd cl F2 m2 vh2 H2 → SqV b K H2 a us := by
  cases b
  · obtain ⟨a, us, rfl, e, rs⟩ := rep_lst r
    exact ⟨a, us, rfl, w.sqL e, rs, fun g w2 => w2.sqL (g.gr.ext _ _ e)⟩
  · obtain ⟨a, us, rfl, e, rs⟩ := rep_tup r
    exact ⟨a, us, rfl, w.sqT e, rs, fun g w2 => w2.sqT (g.gr.ext _ _ e)⟩
theorem zipM_cases {ds : List D} {z : List D × VH} (q : zipMIt ds vh = some z) : ∃ b1 b2 xs ys, ds = [sqD b1 xs, sqD b2 ys] ∧ z = (pairL xs ys, vh) := by
  unfold zipMIt at q
  split at q
  · exact ⟨false, false, _, _, rfl, (Option.some.inj q).symm⟩
  · exact ⟨false, true, _, _, rfl, (Option.some.inj q).symm⟩
  · exact ⟨true, false, _, _, rfl, (Option.some.inj q).symm⟩
  · exact ⟨true, true, _, _, rfl, (Option.some.inj q).symm⟩
  · cases q
theorem zipM_eq (b1 b2 : Bool) (xs ys : List D) : zipMIt [sqD b1 xs, sqD b2 ys] = ret (pairL xs ys) := by cases b1 <;> cases b2 <;> rfl
theorem di_zipM {a b : Expr} {p pos tp : Pos} {el : List Expr} {kk : Nat} {fs : Rho → M (List D)} (ha : DA cl X [a, b] fs) (hg : Gl X "zip") (hm : X.mg "zip" = none)
    (st : starEach [a, b] X.env = (false, eval a X.env) :: starEach [b] X.env := by rfl) (pl : (backTo pos (starEach [b] X.env)).any (·.1) = false := by rfl) :
    DI cl X (.Tuple el kk tp) (.Call (.Name "zip" p) [a, b] [] pos) (fun ρ => bind (fs ρ) zipMIt) :=
  PIw (pi_zipM hg hm ha st pl) fun σ H R ⟨F, m, vh, ρ, w, r, q⟩ => tDs_bind w r q fun F1 m1 vh1 H1 as vs w1 r1 g1 rvs q1 => by
    cases e0 : zipMIt as vh1 with
    | none =>
      unfold Run at q1
      rw [e0] at q1
      exact False.elim q1
    | some z =>
      obtain ⟨b1, b2, xs, ys, rfl, rfl⟩ := zipM_cases e0
      rw [zipM_eq] at q1
      obtain ⟨v, u, rfl, rv, ru⟩ := reps2 rvs
      obtain ⟨a, us, rfl, ea, rs, ka⟩ := rep_sq (K := X.K) rv w1
      obtain ⟨b, ws, rfl, eb, rs', kb⟩ := rep_sq (K := X.K) ru w1
      exact ⟨b1, b2, a, b, us, ws, rfl, ea, eb, Run.ret q1 w1 _ (itOk_pair rfl (walk_m (us := us) (ws := ws) (by rw [rs.length, rs'.length])) (fun F2 m2 vh2 H2 g w => ⟨ka g w, kb g w⟩) (fun i v e _ => rs.get' e) fun i v e _ => rs'.get' e)⟩
end
/-! a def asked beyond its depth: it promises nothing -/
section
variable {P : Program} {w : World} {K : PySem.W.Frag} {mg : Str → Option Value} {base : Heap} {cl : Cn}
theorem fn_none {f : Addr} {fd : FuncData} {ps : List Str} {k : Nat} : FnOk P w K mg base CX0 k f fd ps (spD cl ps.length fun _ => fail) where
  len := fun vs H Q E ⟨_, _, _, _, e, _⟩ => e
  run := fun A outer s H args us vs Q E _ _ _ _ ⟨_, _, _, _, _, _, _, q⟩ => False.elim q
end
end VL

namespace VL
open PySem PySem.Spec PyProof.Rows L2
section
variable {X : Cx} {cl : Cn} {kx vx tg iter : Expr} {ifs : List Expr} {scope : Scope} {own : List (Str × Nat)} {pos : Pos} {f : Rho → M (List D)} {S : List Nat} {g : Tg} {t : Rho → M Bool} {e ek : Rho → M D}
theorem swD {gs : List Comprehension} {scope : Scope} {pos py : Pos} {y : Str} {l : Nat} {env : Env} (hk : env.scope.kind = .function) (hy : env.scope.names.lookup y = some .local) (hl : (py.line == pos.line) = true)
    (no : (scope.names.any fun (n, k) => n == y && (k == .local || k == .cell)) = false) : swapsWith (.DictComp kx vx gs scope pos) (some (.Name y py)) l env = pure true := by
  have k1 : env.kindOf y = some .local := hy
  have k2 : env.blockKind = .function := by
    unfold Env.blockKind
    rw [hk]
    rfl
  unfold swapsWith
  simp only [k2, k1, no, Expr.pos, hl]
  rfl
/-- x = {k: v for ..}, x a name of the def alone -/
theorem psDc {i : Nat} {y : Str} {py sp : Pos} {wi : TI} {tgg : TG} {tt : TT} {tk tv : TE} (hc : X.calm = true) (hN : X.N.Nodup) (hy : X.N[i]? = some y) (hyl : X.env.scope.names.lookup y = some .local)
    (sw : swapsWith (.DictComp kx vx [⟨tg, iter, ifs, 0⟩] scope pos) (some (.Name y py)) sp.line X.env = pure true) (hi : PI X tg iter wi) (ok : BlkOk X.N X.env.scope scope own)
    (hg : ∀ (s : Shared) (H : Hp) (C : Addr) (cL : List (Str × Addr)) (fp : List Addr), PG (X.blk s H scope (compEnvC scope cL C X.env) fp) tg tgg)
    (ht : ∀ (s : Shared) (H : Hp) (C : Addr) (cL : List (Str × Addr)) (fp : List Addr), PTs (X.blk s H scope (compEnvC scope cL C X.env) fp) ifs tt)
    (hk : ∀ (s : Shared) (H : Hp) (C : Addr) (cL : List (Str × Addr)) (fp : List Addr), PE (X.blk s H scope (compEnvC scope cL C X.env) fp) kx tk)
    (he : ∀ (s : Shared) (H : Hp) (C : Addr) (cL : List (Str × Addr)) (fp : List Addr), PE (X.blk s H scope (compEnvC scope cL C X.env) fp) vx tv) (hs : ∀ x, foldedSetIterable iter X.env x = pure x := by intro _; rfl) :
    PS X (.Assign [.Name y py] (.DictComp kx vx [⟨tg, iter, ifs, 0⟩] scope pos) sp) (tAsg (tDc wi tgg tt tk tv (own.map (·.2))) (gName i)) where
  run := fun pins s σ H D I h => by
    have h : tDc wi tgg tt tk tv (own.map (·.2)) σ H (fun x H1 => gName i x σ H1 D.nx) := h
    rw [exec_Assign_Name_used _ _ _ _ sw]
    refine wpAny_bind (wpAny_standAt (wpAny_bind ?_))
    change wpAny _ X.A (comprehension (.DictComp kx vx [⟨tg, iter, ifs, 0⟩] scope pos) scope X.env (firstIterPos [⟨tg, iter, ifs, 0⟩] pos) newDict false (eval iter X.env) (some (assign (.Name y py) X.env)) >>= fun _ => pure ()) _ _ s
    refine wpAny_bind (thn (dc_core (use := some (assign (.Name y py) X.env)) (pos' := firstIterPos [⟨tg, iter, ifs, 0⟩] pos) (Qf := fun _ s' => SP X pins D .next s') hc hN I hi ok hg ht hk he hs h fun L C s' m H' I' q hn fp => ?_) fun _ s' z => wpAny_pure (wpAny_pure z))
    obtain ⟨p0, p1, p2, p3, p4, p5⟩ := fp
    show wpAny _ _ (assign (.Name y py) X.env (.ref L)) _ _ _
    refine wpAny_assign_Name (store_ok2 (v := V.ref L) I' hN hy (.inl hyl) rfl (fun s2 I2 ⟨a, sb, ha⟩ => ?_) (.inr hyl))
    have ne : C ≠ a := ha.elim (fun z => by rw [z]; exact p1) fun z k => p4 y a z k.symm
    exact ⟨m, hn.sameBut sb ne, fun h3 s3 => ⟨_, H', I2.turned (t' := s2.toks) (fun b o hb k => (s3.2 b hb).trans k) p0 p1 p3 p4 p5, q⟩⟩
theorem ds_setDc {i : Nat} {y : Str} {py sp : Pos} (hc : X.calm = true) (hN : X.N.Nodup) (hy : X.N[i]? = some y) (hyl : X.env.scope.names.lookup y = some .local)
    (sw : swapsWith (.DictComp kx vx [⟨tg, iter, ifs, 0⟩] scope pos) (some (.Name y py)) sp.line X.env = pure true) (hi : DI cl X tg iter f) (ok : BlkOk X.N X.env.scope scope own)
    (hg : ∀ (s : Shared) (H : Hp) (C : Addr) (cL : List (Str × Addr)) (fp : List Addr), DG cl (X.blk s H scope (compEnvC scope cL C X.env) fp) tg S g)
    (ht : ∀ (s : Shared) (H : Hp) (C : Addr) (cL : List (Str × Addr)) (fp : List Addr), PTs (X.blk s H scope (compEnvC scope cL C X.env) fp) ifs (tT cl t))
    (hk : ∀ (s : Shared) (H : Hp) (C : Addr) (cL : List (Str × Addr)) (fp : List Addr), DE cl (X.blk s H scope (compEnvC scope cL C X.env) fp) kx ek)
    (he : ∀ (s : Shared) (H : Hp) (C : Addr) (cL : List (Str × Addr)) (fp : List Addr), DE cl (X.blk s H scope (compEnvC scope cL C X.env) fp) vx e)
    (hS : ∀ i, i ∈ S → i ∈ own.map (·.2) := by decide) (hs : ∀ x, foldedSetIterable iter X.env x = pure x := by intro _; rfl) :
    DS cl X (.Assign [.Name y py] (.DictComp kx vx [⟨tg, iter, ifs, 0⟩] scope pos) sp) (asgS (dcD f g t ek e (own.map (·.2)) stillD) (nameG i)) :=
  PSw (psDc (i := i) hc hN hy hyl sw hi ok hg ht hk he hs) fun D σ H ⟨F, m, vh, ρ, w, r, q⟩ => by
    refine tDcD hS ⟨F, m, vh, ρ, w, r, (Run.bind q).mono fun F1 m1 vh1 H1 a p w1 q1 v rv => ?_⟩ fun q w r hp => runNewDct q w r hp
    exact Run.ret q1 w1 _ ((r.mono p.gr).set rv i)
end
/-- a comprehension's own names within another's -/
def relS (scope sc : Scope) : Scope := { scope with names := scope.names.map fun (n, k) => if (k == .free && sc.kind == .function && sc.names.lookup n == some .cell) then (n, .cell) else (n, k) }
theorem relS_eq (scope : Scope) (env : Env) : relabel scope env = relS scope env.scope := rfl
end VL

namespace VL
open PySem PySem.Spec PyProof.Rows L2
/-! ### the script: a frozen list, or a list that the module itself has written -/
def scrK (ns : List Int) (as : List D) : M D := fun vh => match as with
  | [.cls 99] => new (.lst (ns.map D.int)) vh
  | _ => none
/-- L is what list(..) does to the script -/
def ListOk (cl : Cn) (K : PySem.W.Frag) (L : List D → M D) : Prop := ∀ X : Cx, X.K = K → CallR X (.type "list") (rDs cl L)
theorem listOk_M {cl : Cn} {K : PySem.W.Frag} : ListOk cl K listMD := fun X _ => cr_listM
theorem sqK {K : PySem.W.Frag} {H : Hp} {a : Addr} {xs : List V} (h : SqL K (fun _ => none) a xs) : SqL K H a xs := by
  rcases h with (h | ⟨o, h⟩) | h
  · cases h
  · cases h
  · exact .inr h
theorem listOk_K {cl : Cn} {K : PySem.W.Frag} {ns : List Int} (hk : SqL K (fun _ => none) (cl 99) (ns.map V.int)) : ListOk cl K (scrK ns) := by
  intro X e pins s σ H xs us Q I r q
  subst e
  obtain ⟨F, m, vh, as, w, ra, q⟩ := q
  unfold scrK at q
  split at q
  · obtain ⟨v, rfl, rv⟩ := reps1 ra
    cases rv
    exact call_list_of pins s σ H _ us Q I r ⟨cl 99, ns.map V.int, rfl, .inl (sqK hk), fun l hl => runNewLstM q w (Reps.of_ints ns) hl⟩
  · exact False.elim q
def cl2 (cs : Cn) (a : Addr) : Cn := fun c => if c = 99 then a else cs c
def spLaw (K : PySem.W.Frag) : Sp := fun vs H Q _ => ∃ (a : Addr) (ns : List Int), vs = [V.ref a] ∧ Only H ∧ SqL K H a (ns.map V.int) ∧ ns.length ≤ 63 ∧ ∀ H', Q (.bl true) H'
theorem only_tbl {H : Hp} (hO : Only H) (a : Addr) (ps : Array Value) : H a ≠ some (.tbl ps) := fun e => by
  rcases hO a with z | ⟨o, xs, z⟩
  · rw [e] at z; cases z
  · rw [e] at z; cases z
theorem wd_start {cl : Cn} {H : Hp} (hO : Only H) : Wd cl H [] [] H := ⟨fun _ _ h => .inl h, rfl, .nil, fun _ h => absurd h (by simp), fun _ _ _ h => absurd h (by simp), only_tbl hO, fun a ps _ e => absurd e (only_tbl hO a ps)⟩
theorem fn_law {P : Program} {w : World} {K : PySem.W.Frag} {mg : Str → Option Value} {base : Heap} {cs : Cn} {k : Nat} {f : Addr} {fd : FuncData} {x : Str} {den : (List D → M D) → List D → M D}
    (ok : ∀ a L, ListOk (cl2 cs a) K L → FnOk P w K mg base CX0 k f fd [x] (spD (cl2 cs a) 1 (den L)))
    (hm : ∀ (L : List D → M D) (s : D) (ns : List Int), ns.length ≤ 63 → (∀ vh, L [s] vh = new (.lst (ns.map D.int)) vh) → ∃ vh', den L [s] [] = some (.bl true, vh')) : FnOk P w K mg base CX0 k f fd [x] (spLaw K) where
  len := fun vs H Q E ⟨a, ns, e, _⟩ => by rw [e]; rfl
  run := fun A outer s H args us vs Q E hr he hb hv ⟨a, ns, e, hO, hS, hl, hq⟩ => by
    subst e
    have go : ∀ (L : List D → M D) (d : D), ListOk (cl2 cs a) K L → (∀ vh, L [d] vh = new (.lst (ns.map D.int)) vh) → Rep (cl2 cs a) H [] (.ref a) d → codeAny (model P w) A (.call (.ref f) args) (CR CX0 outer P w H s Q E) s := fun L d hL eL r => by
      refine (ok a L hL).run A outer s H args us [.ref a] Q E hr he hb hv ⟨H, [], [], [d], rfl, wd_start hO, .cons r .nil, ?_⟩
      obtain ⟨vh', e⟩ := hm L d ns hl eL
      rw [e]
      intro F' m' H' _ _ v rv
      cases rv
      exact hq H'
    rcases hS with (h | ⟨o, h⟩) | h
    · rcases hO a with z | ⟨o, xs, z⟩
      · rw [h] at z; cases z
      · rw [h] at z; cases z
    · exact go listMD (.scr ns) listOk_M (fun vh => rfl) (.scr h)
    · exact go (scrK ns) (.cls 99) (listOk_K (cl := cl2 cs a) (.inr h)) (fun vh => rfl) (.cls 99)
theorem walkL {l : PySem.W.OpenLaw} {q : Program} {loose : List Str} {XP : (Str → Option Value) → Heap → Prop} {YP : World → Heap → Prop} {d : DefRec} {K : Params → PySem.W.Frag} {x : Str} {k : Nat} (hn : l.most = some 63) (hdf : d.params.defaults = []) (hr : Room k callerA)
    (hY : ∀ (w : World) (h : Heap), YP w h → (K w.params).In h)
    (F : ∀ (w : World) (mg : Str → Option Value) (fa : Addr) (h : Heap), (K w.params).In h → h.Ns mainGlobals mg → mg d.name = some (.ref fa) →
      ∃ fd : FuncData, (∀ (s : Shared) (u : Value), BindsTo s fd ⟨[u], []⟩ [(x, u)]) ∧ ∀ base : Heap, (K w.params).In base → base.Ns mainGlobals mg → FnOk l.prog w (K w.params) mg base CX0 k fa fd [x] (spLaw (K w.params))) :
    PySem.W.WalkO q loose XP YP l.row.toRowW d [] (fun f vs => PySem.call f vs) :=
  L2.walk_of (n := 63) (k := k) (x := x) (CX := fun _ => CX0) (sp := fun w => spLaw (K w.params)) hn (by decide) hdf hr hY F (fun _ _ a ns hl hO hS => ⟨a, ns, rfl, hO, hS, hl, fun _ => rfl⟩) fun _ _ _ _ _ z => z
end VL

namespace VL
open PySem PySem.Spec PyProof.Rows L2
section
variable {X : Cx} {cl : Cn} {K : PySem.W.Frag} {F F' F1 F2 : Hp} {m m' m1 m2 : List Addr} {H H' H1 H2 : Hp} {vh vh1 : VH} {ρ : Rho} {σ : Sl} {tg : Expr}
/-! ### a changing list, locked while it is walked -/
def lockL {α : Type} (i : Nat) (f : Rho → M α) : Rho → M α := fun ρ vh => match ρ[i]? with
  | some (some (.ref n)) => match vh[n]? with
    | some (some (.lst xs)) => match f ρ (vh.set n (some (.lstL xs))) with
      | some (r, vh') => match vh'[n]? with
        | some (some (.lstL xs')) => some (r, vh'.set n (some (.lst xs')))
        | _ => none
      | none => none
    | _ => f ρ vh
  | _ => f ρ vh
def LkL (cl : Cn) {α : Type} (F : Hp) (m : List Addr) (H : Hp) (f : Rho → M α) (ρ : Rho) (k : Kn α) : Prop := ∃ (a : Addr) (us : List V), H a = some (.lst us) ∧ ∀ od, ∃ vh1, Wd cl F m vh1 (upd H a (.frz od (.lst us))) ∧
  Run cl F m (upd H a (.frz od (.lst us))) (f ρ vh1) (fun F' m' vh' H' x => H' a = some (.frz od (.lst us)) ∧ ∃ vh2, k F' m' vh2 (upd H' a (.lst us)) x)
theorem lockL_run {α : Type} {i : Nat} {f : Rho → M α} {k : Kn α} (w : Wd cl F m vh H) (r : RS cl F m σ ρ) (q : Run cl F m H (lockL i f ρ vh) k) : LkL cl F m H f ρ k ∨ Run cl F m H (f ρ vh) k := by
  unfold lockL at q
  split at q
  · rename_i n e0
    split at q
    · rename_i xs e1
      obtain ⟨v, ev, rv⟩ := r.at_ i _ e0
      obtain ⟨a, us, rfl, hm, ha, ru⟩ := w.refLst rv e1
      refine Or.inl ⟨a, us, ha, fun od => ?_⟩
      have hn : n < vh.length := (List.getElem?_eq_some_iff.mp e1).1
      have z := w.written (u := .frz od (.lst us)) (o' := .lstL xs) hm e1 (fun ob v z => by rw [ha] at z; cases z) fun P => ⟨od, us, upd_same, ru.mono P.gr⟩
      refine ⟨_, z.1, ?_⟩
      cases ef : f ρ (vh.set n (some (.lstL xs))) with
      | none => rw [ef] at q; exact False.elim q
      | some y =>
        obtain ⟨d', vh'⟩ := y
        rw [ef] at q
        simp only [] at q
        intro F' m' H' p w'
        have hz : H' a = some (.frz od (.lst us)) := p.frz _ _ _ upd_same
        refine ⟨hz, ?_⟩
        cases e2 : vh'[n]? with
        | none => rw [e2] at q; exact False.elim q
        | some o2 =>
          cases o2 with
          | none => rw [e2] at q; exact False.elim q
          | some mo2 =>
            rw [e2] at q
            cases mo2 with
            | lstL xs' =>
              have hm' := p.gr.pre _ _ hm
              obtain ⟨_, ob, us', h1, h3⟩ := w'.live _ _ _ hm' e2
              rw [hz] at h1
              cases h1
              have w2 := w'.rewrite (u := .lst us) (o' := .lst xs') hm' e2 ⟨us, upd_same, h3.mono ⟨fun _ _ h => h, fun _ _ h => h⟩⟩
              have p2 : Post F m H F' m' (upd H' a (.lst us)) := by
                have hma : a ∈ m := List.mem_of_getElem? hm
                refine ⟨p.gr, fun b o e t nb => ?_, fun b o u e => ?_⟩
                · have hb : b ≠ a := fun z => by subst z; exact nb hma
                  obtain ⟨x1, x2, x3⟩ := p.fr b o (by rw [upd_ne hb]; exact e) t nb
                  exact ⟨by rw [upd_ne hb]; exact x1, x2, x3⟩
                · have hb : b ≠ a := fun z => by subst z; rw [ha] at e; cases e
                  rw [upd_ne hb]
                  exact p.frz b o u (by rw [upd_ne hb]; exact e)
              exact ⟨_, q F' m' _ p2 w2⟩
            | _ => exact False.elim q
    · exact Or.inr q
  · exact Or.inr q
theorem PEor' {e : Expr} {t t' : TE} (h : PE X e t) (h' : PE X e t') : PE X e (fun σ H Q => t σ H Q ∨ t' σ H Q) := ⟨fun pins s σ H Q I q => q.elim (h.run pins s σ H Q I) (h'.run pins s σ H Q I)⟩
theorem PSor {st : Stmt} {t t' : TS} (h : PS X st t) (h' : PS X st t') : PS X st (fun D σ H => t D σ H ∨ t' D σ H) := ⟨fun pins s σ H D I q => q.elim (h.run pins s σ H D I) (h'.run pins s σ H D I)⟩
theorem deL {e : Expr} {f : Rho → M D} (i : Nat) (h : DE cl X e f) : DE cl X e (lockL i f) :=
  PEw (PEor' (pe_lock h) h) fun σ H Q ⟨F, m, vh, ρ, w, r, q⟩ => by
    rcases lockL_run w r q with ⟨a, us, ha, hh⟩ | q
    · refine Or.inl ⟨a, .lst us, ha, True.intro, fun od => ?_⟩
      obtain ⟨vh1, w1, q1⟩ := hh od
      refine ⟨F, m, vh1, ρ, w1, r, q1.mono fun F' m' vh' H' d p w' q2 v rv => ?_⟩
      obtain ⟨hz, vh2, q3⟩ := q2
      exact ⟨hz, q3 v rv⟩
    · exact Or.inr ⟨F, m, vh, ρ, w, r, q⟩
theorem dsL {st : Stmt} {g : Bk} (i : Nat) (h : DS cl X st g) : DS cl X st (lockL i g) :=
  PSw (PSor (ps_lock h) h) fun D σ H ⟨F, m, vh, ρ, w, r, q⟩ => by
    rcases lockL_run w r q with ⟨a, us, ha, hh⟩ | q
    · refine Or.inl ⟨a, .lst us, ha, True.intro, fun od => ?_⟩
      obtain ⟨vh1, w1, q1⟩ := hh od
      refine ⟨F, m, vh1, ρ, w1, r, q1.mono fun F' m' vh' H' o p w' q2 => ?_⟩
      obtain ⟨hz, vh2, q3⟩ := q2
      cases o with
      | nx ρ' => exact fun σ' r' => ⟨hz, q3 σ' r'⟩
      | rt d => exact fun v r' => ⟨hz, q3 v r'⟩
      | bk ρ' => exact fun σ' r' => ⟨hz, q3 σ' r'⟩
      | ct ρ' => exact fun σ' r' => ⟨hz, q3 σ' r'⟩
    · exact Or.inr ⟨F, m, vh, ρ, w, r, q⟩
end
end VL

namespace PySem.W
open PySem PySem.Spec PySem.Calls PyProof.Rows
section
variable {prog : Program} {w : World} {A : Around} {E : Value → Shared → Prop} {s : Shared} {K : Frag} {x f C : Addr} {ox : Obj} {od : Option Obj} {b tb : Value} {h₀ : Heap} {L : List Addr} {m : Str → Option Value}
theorem objNe_K {Q : Fin → Shared → Prop} (X : K.In s.heap) (I : InstAt s.heap x ox C od) (hs : findIn K (.ref C) "__eq__" = some (some (.ref f))) (hf : isFn K (.ref f) = true) (hu : A.units < cLine)
    (hcall : wpAny (model prog w) A (call (.ref f) [.ref x, b]) (fun v s' => ∃ c, v = .bool c ∧ Q (.done (.ret (.bool (!c)))) s') E s) :
    wpAny (model prog w) A (Builtin.«object.__ne__» ⟨[.ref x, b], []⟩) Q E s := by
  unfold Builtin.«object.__ne__»
  repeat (first
    | with_reducible refine wpAny_cRoomFor hu ?_
    | (refine wpAny_bind (m := callSpecialIfBound? (.ref x) (Str.ofString "__eq__") [b])
        (ifBound_K X I hs hf (wpAny_mono hcall (fun r s' hr => by
          obtain ⟨c, rfl, hq⟩ := hr
          repeat (first | exact hq | exact wpAny_pure hq | exact wpAny_truthy_bool hq | (refine wpAny_bind (m := truthy (.bool _)) (wpAny_truthy_bool ?_)) | wp_step)) fun _ _ e => e)))
    | wp_step)
theorem callB_K {M : Model} {name : Str} {id : String} {T : String} {args : List Value} {Q : Option Value → Shared → Prop} (X : K.In s.heap) (I : InstAt s.heap x ox C od) (hs : findIn K (.ref C) name = some (some (.builtin id))) {n : Str} (S : Slot T n id)
    (h : wpAny M A (call (.builtin id) (.ref x :: args)) (fun v => Q (some v)) E s) : wpAny M A (callSpecialIfBound? (.ref x) name args) Q E s := by
  simp only [callSpecialIfBound?, bindSpecialIfBound?]
  refine wpAny_holding (wpAny_bind (wpAny_bind (wpAny_bind (I.type.here ((looks_findIn X hs).here ?_)))))
  simp only [S.bind]
  refine wpAny_bind (wpAny_askSetting (wpAny_ite ?_))
  have fin : wpAny M A (call (.builtin id) ([.ref x] ++ args) >>= fun v => pure (some v)) Q E s := wpAny_bind (wpAny_mono h (fun v s' h' => wpAny_pure h') fun _ _ h' => h')
  split
  · exact wpAny_bind (wpAny_pure (wpAny_pure fin))
  · exact wpAny_tryCatch (wpAny_bind (wpAny_pure (wpAny_pure fin)))
theorem ne_K {Q : Value → Shared → Prop} (hu : A.units + 1 < cLine) (X : K.In s.heap) (I : InstAt s.heap x ox C od) (hb : Looks (model prog w) s.heap (typeOf b) tb) (hn : notFirst K C tb = true)
    (hne : findIn K (.ref C) "__ne__" = some (some (.builtin "object.__ne__"))) (hm : mroIn K C (.type "object") = some true)
    (hs : findIn K (.ref C) "__eq__" = some (some (.ref f))) (hf : isFn K (.ref f) = true)
    (h : wpAny (model prog w) A.in1 (call (.ref f) [.ref x, b]) (fun v s' => ∃ c, v = .bool c ∧ Q (.bool (!c)) s') E s) : wpAny (model prog w) A (richCompare .NotEq (.ref x) b) Q E s := by
  have sub : Looks (model prog w) s.heap (isInstance (.ref x) (.type "object")) true := I.type.andThen (looks_mroIn X hm)
  have one : wpAny (model prog w) A (tryCompare (.ref x) "__ne__" b) (fun r s' => ∃ v, r = some v ∧ Q v s') E s := by
    unfold tryCompare
    refine wpAny_bind (callB_K X I hne (S := F.cmp_object.ne) (wpAny_call (codeAny_call_builtin F.cmp_object.ne.plain F.cmpEntry_ne (check_slot F.cmpKind_ne F.cmpSplit_ne sub (F.cmpArgs_ne _ _)
        (objNe_K (A := A.in1) X I hs hf hu (wpAny_mono h (fun v s' hv => ?_) fun _ _ e => e))))))
    obtain ⟨c, rfl, q⟩ := hv
    first | exact ⟨_, rfl, wpAny_pure ⟨_, rfl, q⟩⟩ | exact ⟨_, rfl, _, rfl, q⟩ | exact wpAny_pure ⟨_, rfl, q⟩
  unfold richCompare
  simp only [oneThing_ref]
  refine wpAny_holding (wpAny_bind (wpAny_cRoomFor (Nat.lt_of_succ_lt hu) ?_))
  refine wpAny_bind (I.type.here (wpAny_bind (hb.here ?_)))
  split
  · rename_i q
    have e : subIn K tb (.ref C) = some false := by
      rcases Bool.or_eq_true_iff.mp hn with e | e
      · rw [beq_iff_eq.mp e] at q; simp at q
      · exact beq_iff_eq.mp e
    refine wpAny_bind ((looks_subIn X e).here ?_)
    simp only [Bool.false_eq_true, if_false]
    refine wpAny_bind (wpAny_mono one (fun r s' z => ?_) fun _ _ e => e)
    obtain ⟨v, rfl, hq⟩ := z
    exact wpAny_pure hq
  · refine wpAny_bind (wpAny_pure ?_)
    simp only [Bool.false_eq_true, if_false]
    refine wpAny_bind (wpAny_mono one (fun r s' z => ?_) fun _ _ e => e)
    obtain ⟨v, rfl, hq⟩ := z
    exact wpAny_pure hq
end
end PySem.W
namespace PySem.W
open PySem PySem.Spec PySem.Calls PyProof.Rows PySem.F
section
variable {prog : Program} {w : World} {A : Around} {E : Value → Shared → Prop} {s : Shared} {K : Frag} {x f C : Addr} {ox : Obj} {od : Option Obj} {h₀ : Heap}
theorem callF_K {M : Model} {name : Str} {Q : Option Value → Shared → Prop} (X : K.In s.heap) (I : InstAt s.heap x ox C od) (hs : findIn K (.ref C) name = some (some (.ref f))) (hf : isFn K (.ref f) = true)
    (hc : wpAny M A (call (.ref f) [.ref x]) (fun v => Q (some v)) E s) : wpAny M A (callSpecial? (.ref x) name) Q E s := by
  have sp : Looks M s.heap (specialOf (.ref x) name) (some (.ref f)) := I.type.andThen (looks_findIn X hs)
  simp only [callSpecial?]
  refine wpAny_bind (sp.here ?_)
  show wpAny M A (holding _ (bindSpecial (.ref f) (.ref x) >>= _)) _ _ _
  refine wpAny_holding (wpAny_bind ((bind_fn X _ (beq_iff_eq.mp hf)).here ?_))
  exact wpAny_bind (wpAny_mono hc (fun v s' h' => wpAny_pure h') fun _ _ h' => h')
theorem lenO_K {Q : Value → Shared → Prop} (X : K.In s.heap) (I : InstAt s.heap x ox C od) (hs : findIn K (.ref C) "__len__" = some (some (.ref f))) (hf : isFn K (.ref f) = true)
    (hcall : wpAny (model prog w) A.in1 (call (.ref f) [.ref x]) (fun r s' => ∃ n u, r = .int n u ∧ 0 ≤ n ∧ n < 2 ^ 63 ∧ Q (.int n s'.toks) { s' with toks := s'.toks + 1 }) E s) :
    wpAny (model prog w) A (call (.builtin "len") [.ref x]) Q E s := by
  refine Calls.call_function_entry kind_len plain_len entry_len (args_len1 _) ?_
  unfold Builtin.«len»
  refine wpAny_bind (m := oneArg "len" _) (wpAny_pure ?_)
  refine wpAny_bind (m := callSpecial? (.ref x) (Str.ofString "__len__")) (callF_K X I hs hf (wpAny_mono hcall (fun r s' hr => ?_) fun _ _ y => y))
  obtain ⟨n, u, rfl, h0, h1, hq⟩ := hr
  refine wpAny_bind (wpAny_holding (wpAny_pure ?_))
  refine wpAny_bind (wpAny_letGo ?_)
  show wpAny _ _ (if n < 0 then _ else _) _ _ _
  rw [if_neg (by omega)]
  show wpAny _ _ (if n ≥ 2 ^ 63 then _ else _) _ _ _
  rw [if_neg (by omega)]
  exact wpAny_bind (wpAny_mkInt (wpAny_pure ⟨_, rfl, hq⟩))
end
end PySem.W
namespace VL
open PySem PySem.Spec PyProof.Rows L2
section
variable {X : Cx} {cl : Cn} {K : PySem.W.Frag} {F F' F1 F2 : Hp} {m m' m1 m2 : List Addr} {H H' H1 H2 : Hp} {vh vh1 : VH} {ρ : Rho} {σ : Sl} {tg : Expr}
section
variable {k c : Nat} {f : Addr} {fd : FuncData} {ps : List Str} {den : List D → M D}
/-- as run_own, a call within a built-in -/
theorem run_ownA {A : Around} {n : Nat} {pins : List (Addr × Obj)} {s : Shared} {as : List D} {us : List Value} {vs : List V} {g : D → M D} {Q : VK} {P : Value → Shared → Prop} (Fo : FnOk X.prog X.w X.K X.mg X.base CX0 k f fd ps (spD cl n den)) (hr : Room k A) (hA : A.frames = X.A.frames) (hb : Binds X.K fd ps [])
    (I : Inv X pins σ H s) (w : Wd cl F m vh H) (rs : Reps cl F m vs as) (rv : Vals vs us) (q : Run cl F m H (bind (denC n den as) g vh) (kV' cl Q))
    (fin : ∀ v u s' F1 m1 vh1 H1 d, Inv X pins σ H1 s' → RelV v u → Wd cl F1 m1 vh1 H1 → Rep cl F1 m1 v d → Run cl F1 m1 H1 (g d vh1) (kV' cl Q) → P u s') :
    wpAny (model X.prog X.w) A (call (.ref f) us) P X.xe s := by
  have q' := Run.bind q
  by_cases hl : as.length = n
  · have e : denC n den as vh = den as vh := by
      unfold denC
      rw [if_pos hl]
    rw [e] at q'
    have hq : spD cl n den vs H (fun v H1 => ∃ F1 m1 vh1 d, Wd cl F1 m1 vh1 H1 ∧ Rep cl F1 m1 v d ∧ Run cl F1 m1 H1 (g d vh1) (kV' cl Q)) E0 := by
      exact ⟨F, m, vh, as, by rw [rs.length, hl], w, rs, q'.mono fun F1 m1 vh1 H1 d p w1 q1 v rv => ⟨F1, m1, vh1, d, w1, rv, q1⟩⟩
    have hl2 := Fo.len _ _ _ _ hq
    have e0 : Env0 X.prog X.w X.K X.mg X.base A X.stack s H := by
      have e := I.env0
      exact ⟨by rw [hA]; exact e.frames, e.mod, e.bs, e.bsz, e.funs, e.frf, e.hok, e.bare⟩
    refine wpAny_call (codeAny_mono (Fo.run A X.stack s H ⟨us, []⟩ us vs _ E0 hr e0 (by
      have := hb s us I.kIn (by simpa [← rv.length] using hl2)
      simpa using this) rv hq) fun r s' hq' => ?_)
    cases r with
    | error er => exact absurd hq' (by intro h; exact h.elim)
    | ok fl =>
      cases fl with
      | ret u =>
        obtain ⟨v, H1, I1, r1, F1, m1, vh1, d, w1, rd, q1⟩ := I.after hq'
        exact fin v u s' F1 m1 vh1 H1 d I1 r1 w1 rd q1
      | next => exact False.elim hq'
      | brk => exact False.elim hq'
      | cont => exact False.elim hq'
  · have e : denC n den as vh = none := by
      unfold denC
      rw [if_neg hl]
      rfl
    rw [e] at q'
    exact False.elim q'
/-- what an own class with its own == says -/
structure EqC (K : PySem.W.Frag) (C : Addr) : Prop where
  ne : PySem.W.findIn K (.ref C) "__ne__" = some (some (.builtin "object.__ne__"))
  cl : Cls K C
  ha : PySem.W.findIn K (.ref C) "__class__" = some (some (.builtin "object.__class__"))
  hn : PySem.W.specialIn K (.builtin "object.__class__") "__get__" = some (some (.builtin "getset_descriptor.__get__"))
  htk : PySem.W.takesIn K (.builtin "object.__class__") = some true
  hm : PySem.W.mroIn K C (.type "object") = some true
  ty : PySem.W.typeIn K (.ref C) = some (.type "type")
  n0 : PySem.W.subIn K (.type "NoneType") (.ref C) = some false
  n1 : PySem.W.subIn K (.type "bool") (.ref C) = some false
  n2 : PySem.W.subIn K (.type "int") (.ref C) = some false
  n3 : PySem.W.subIn K (.type "str") (.ref C) = some false
  n4 : PySem.W.subIn K (.type "list") (.ref C) = some false
  n5 : PySem.W.subIn K (.type "tuple") (.ref C) = some false
  n6 : PySem.W.subIn K (.type "dict") (.ref C) = some false
theorem EqC.nf {C : Addr} (T : EqC K C) (t : Tn) : PySem.W.notFirst K C (.type t.nm) = true := by
  unfold PySem.W.notFirst
  refine Bool.or_eq_true_iff.mpr (Or.inr (beq_iff_eq.mpr ?_))
  cases t
  · exact T.n0
  · exact T.n1
  · exact T.n2
  · exact T.n3
  · exact T.n4
  · exact T.n5
  · exact T.n6
theorem EqC.me {C : Addr} (_ : EqC K C) : PySem.W.kitOne K (.ref C) (.ref C) = some true := by
  unfold PySem.W.kitOne
  rw [if_pos (beq_self_eq_true _)]
theorem EqC.ki {C : Addr} (T : EqC K C) (t : Tn) : PySem.W.kitOne K (.type t.nm) (.ref C) = some false := by
  have e1 : ((Value.type t.nm) == (Value.ref C)) = false := rfl
  have e2 : (PySem.W.clsIn K C).isSome = true := by
    obtain ⟨cd, hc, _⟩ := PySem.W.any_some T.cl.hd
    rw [hc]
    rfl
  have e3 : (PySem.W.typeIn K (.ref C) == some (.type "type")) = true := by rw [T.ty] <;> rfl
  unfold PySem.W.kitOne PySem.W.kitCls
  rw [e1, if_neg Bool.false_ne_true]
  show (if ((PySem.W.clsIn K C).isSome && PySem.W.typeIn K (.ref C) == some (.type "type")) = true then _ else _) = _
  rw [e2, e3, if_pos (show (true && true) = true from rfl)]
  cases t
  · exact T.n0
  · exact T.n1
  · exact T.n2
  · exact T.n3
  · exact T.n4
  · exact T.n5
  · exact T.n6
/-- the kind of a value, an instance of c among them -/
def tnO (c : Nat) (vh : VH) (d : D) : Bool := isObj c vh d || (tnD vh d).isSome
theorem tnO_rep {v : V} {u : Value} {d : D} {pins : List (Addr × Obj)} {s : Shared} (T : EqC X.K (cl c)) (I : Inv X pins σ H s) (w : Wd cl F m vh H) (r : Rep cl F m v d) (rv : RelV v u) (e : tnO c vh d = true) :
    ∃ tb, PySem.W.Looks (model X.prog X.w) s.heap (typeOf u) tb ∧ PySem.W.notFirst X.K (cl c) tb = true := by
  rcases Bool.or_eq_true_iff.mp e with e | e
  · obtain ⟨⟨ns, ds⟩, e⟩ := Option.isSome_iff_exists.mp e
    obtain ⟨p, dx, fs, rfl, hp, _, _⟩ := w.objV r e
    cases rv
    obtain ⟨ox, od, J⟩ := instAt I hp
    exact ⟨_, J.type, by simp [PySem.W.notFirst]⟩
  · obtain ⟨t, e⟩ := Option.isSome_iff_exists.mp e
    obtain ⟨P, Z, p, _⟩ := kit_of (X := X) I rv (tn_rep w r e)
    exact ⟨_, Z.ty _ _ I.kIn p, T.nf t⟩
def eqOD (c : Nat) (den : List D → M D) (a b : D) : M D := fun vh => if isObj c vh a = true ∧ tnO c vh b = true then bind (denC 2 den [a, b]) (fun r => match r with
  | .bl x => ret (.bl x)
  | _ => fail) vh else none
def neOD (c : Nat) (den : List D → M D) (a b : D) : M D := fun vh => if isObj c vh a = true ∧ tnO c vh b = true then bind (denC 2 den [a, b]) (fun r => match r with
  | .bl x => ret (.bl (!x))
  | _ => fail) vh else none
theorem op_eqO (T : EqC X.K (cl c)) (Fo : FnOk X.prog X.w X.K X.mg X.base CX0 k f fd ps (spD cl 2 den)) (hr : Room k X.A) (hb : Binds X.K fd ps []) (hs : PySem.W.findIn X.K (.ref (cl c)) "__eq__" = some (some (.ref f))) (hf : PySem.W.isFn X.K (.ref f) = true) :
    OpR X (compareOp .Eq) (rD2 cl (eqOD c den)) := by
  intro pins s σ H x y v u Q I rx ry q
  obtain ⟨F, m, vh, a, b, w, ra, rb, q⟩ := q
  unfold eqOD at q
  by_cases hc : isObj c vh a = true ∧ tnO c vh b = true
  · rw [if_pos hc] at q
    obtain ⟨hc, ht⟩ := hc
    obtain ⟨⟨ns, ds⟩, e⟩ := Option.isSome_iff_exists.mp hc
    obtain ⟨p, dx, fs, rfl, hp, _, _⟩ := w.objV ra e
    cases rx
    obtain ⟨ox, od, J⟩ := instAt I hp
    obtain ⟨mm, hF⟩ := I.fr
    obtain ⟨tb, L, nf⟩ := tnO_rep T I w rb ry ht
    show wpAny (model X.prog X.w) X.A (richCompare .Eq (.ref p) u) (EP X pins σ Q) X.xe s
    refine PySem.W.cmp_K (op := .Eq) hr.units0 hF I.ok.mod.kin J L nf hs hf ?_
    refine run_own (us := [.ref p, u]) (vs := [.ref p, y]) Fo hr hb I w (.cons ra (.cons rb .nil)) (.cons rfl (.cons ry .nil)) q fun v1 u1 s' F1 m1 vh1 H1 d I1 r1 w1 rd q1 => ?_
    cases d with
    | bl z =>
      cases rep_bl rd
      cases r1
      exact ⟨V.bl z, H1, I1, rfl, Run.ret q1 w1 _ (.bl z)⟩
    | _ => exact False.elim q1
  · rw [if_neg hc] at q
    exact False.elim q
theorem op_neO (T : EqC X.K (cl c)) (Fo : FnOk X.prog X.w X.K X.mg X.base CX0 k f fd ps (spD cl 2 den)) (hr : Room (k + 1) X.A) (hu : X.A.units + 1 < cLine) (hb : Binds X.K fd ps []) (hs : PySem.W.findIn X.K (.ref (cl c)) "__eq__" = some (some (.ref f))) (hf : PySem.W.isFn X.K (.ref f) = true) :
    OpR X (compareOp .NotEq) (rD2 cl (neOD c den)) := by
  intro pins s σ H x y v u Q I rx ry q
  obtain ⟨F, m, vh, a, b, w, ra, rb, q⟩ := q
  unfold neOD at q
  by_cases hc : isObj c vh a = true ∧ tnO c vh b = true
  · rw [if_pos hc] at q
    obtain ⟨hc, ht⟩ := hc
    obtain ⟨⟨ns, ds⟩, e⟩ := Option.isSome_iff_exists.mp hc
    obtain ⟨p, dx, fs, rfl, hp, _, _⟩ := w.objV ra e
    cases rx
    obtain ⟨ox, od, J⟩ := instAt I hp
    obtain ⟨tb, L, nf⟩ := tnO_rep T I w rb ry ht
    show wpAny (model X.prog X.w) X.A (richCompare .NotEq (.ref p) u) (EP X pins σ Q) X.xe s
    refine PySem.W.ne_K hu I.kIn J L nf T.ne T.hm hs hf ?_
    refine run_ownA (A := X.A.in1) (us := [.ref p, u]) (vs := [.ref p, y]) Fo hr.in1 rfl hb I w (.cons ra (.cons rb .nil)) (.cons rfl (.cons ry .nil)) q fun v1 u1 s' F1 m1 vh1 H1 d I1 r1 w1 rd q1 => ?_
    cases d with
    | bl z =>
      cases rep_bl rd
      cases r1
      exact ⟨z, rfl, V.bl (!z), H1, I1, rfl, Run.ret q1 w1 _ (.bl (!z))⟩
    | _ => exact False.elim q1
  · rw [if_neg hc] at q
    exact False.elim q
/-- len(o) -/
def lenOD (c : Nat) (den : List D → M D) (as : List D) : M D := fun vh => match as with
  | [d] => if isObj c vh d = true then bind (denC 1 den [d]) (fun r => match r with
    | .int n => if 0 ≤ n ∧ n < 9223372036854775808 then ret (.int n) else fail
    | _ => fail) vh else none
  | _ => none
theorem cr_lenO (Fo : FnOk X.prog X.w X.K X.mg X.base CX0 k f fd ps (spD cl 1 den)) (hr : Room (k + 1) X.A) (hb : Binds X.K fd ps []) (hs : PySem.W.findIn X.K (.ref (cl c)) "__len__" = some (some (.ref f))) (hf : PySem.W.isFn X.K (.ref f) = true) :
    CallR X (.builtin "len") (rDs cl (lenOD c den)) := by
  intro pins s σ H xs us Q I r q
  obtain ⟨F, m, vh, as, w, ra, q⟩ := q
  unfold lenOD at q
  split at q
  · rename_i d
    by_cases hc : isObj c vh d = true
    · rw [if_pos hc] at q
      obtain ⟨v, rfl, rv⟩ := reps1 ra
      obtain ⟨u, rfl, ru⟩ := vals1 r
      obtain ⟨⟨ns, ds⟩, e⟩ := Option.isSome_iff_exists.mp hc
      obtain ⟨p, dx, fs, rfl, hp, _, _⟩ := w.objV rv e
      cases ru
      obtain ⟨ox, od, J⟩ := instAt I hp
      refine PySem.W.lenO_K I.kIn J hs hf ?_
      refine run_ownA (A := X.A.in1) (us := [.ref p]) (vs := [.ref p]) Fo hr.in1 rfl hb I w (.cons rv .nil) (.cons rfl .nil) q fun v1 u1 s' F1 m1 vh1 H1 d I1 r1 w1 rd q1 => ?_
      cases d with
      | int z =>
        cases rep_int rd
        obtain ⟨t, rfl⟩ := r1
        obtain ⟨⟨h0, h1⟩, q1⟩ := run_if q1
        exact ⟨z, t, rfl, h0, h1, V.int z, H1, I1.tok _, ⟨_, rfl⟩, Run.ret q1 w1 _ (.int z)⟩
      | _ => exact False.elim q1
    · rw [if_neg hc] at q
      exact False.elim q
  · exact False.elim q
/-- isinstance(x, C), C the own class c -/
def isiCR (c : Nat) (vh : VH) : List D → Option D
  | [d, .cls c'] => if c' = c then (if isObj c vh d = true then some (.bl true) else (tnD vh d).map fun _ => .bl false) else none
  | _ => none
def isiCD (c : Nat) : List D → M D := pureD (isiCR c)
theorem cr_isiC (T : EqC X.K (cl c)) : CallR X (.builtin "isinstance") (rDs cl (isiCD c)) := by
  intro pins s σ H xs us Q I r q
  obtain ⟨F, m, vh, as, w, ra, q⟩ := q
  obtain ⟨d, e, q2⟩ := run_pure q
  clear q
  unfold isiCR at e
  split at e
  · obtain ⟨v, u, rfl, rv, ru⟩ := reps2 ra
    by_cases hcc : ‹Nat› = c
    · rw [if_pos hcc] at e
      subst hcc
      cases ru
      split at e
      · rename_i hc
        cases Option.some.inj e
        obtain ⟨⟨ns, ds⟩, e⟩ := Option.isSome_iff_exists.mp hc
        obtain ⟨p, dx, fs, rfl, hp, _, _⟩ := w.objV rv e
        exact call_isi pins s σ H _ us Q I r ⟨_, _, _, _, _, rfl, .own _, .base (TyOf.ins hp T.cl T.ha T.hn T.htk T.hm), T.me, Run.ret q2 w _ (.bl _)⟩
      · obtain ⟨t, e1, rfl⟩ := Option.map_eq_some_iff.mp e
        exact call_isi pins s σ H _ us Q I r ⟨v, _, _, _, _, rfl, .own _, tn_rep w rv e1, T.ki t, Run.ret q2 w _ (.bl _)⟩
    · rw [if_neg hcc] at e
      cases e
  · cases e
end
section
variable {c k : Nat} {den : List D → M D}
theorem oEq (T : EqC X.K (cl c)) (C : CalM X.prog X.w X.K X.mg X.base cl (cl c) "__eq__" k 2 den) (hr : Room k X.A) : OpR X (compareOp .Eq) (rD2 cl (eqOD c den)) := by
  obtain ⟨f, fd, ps, hi, hf, kp, Fo, hb⟩ := C.ex
  exact op_eqO T Fo hr hb hi hf
theorem oNe (T : EqC X.K (cl c)) (C : CalM X.prog X.w X.K X.mg X.base cl (cl c) "__eq__" k 2 den) (hr : Room (k + 1) X.A) (hu : X.A.units + 1 < cLine) : OpR X (compareOp .NotEq) (rD2 cl (neOD c den)) := by
  obtain ⟨f, fd, ps, hi, hf, kp, Fo, hb⟩ := C.ex
  exact op_neO T Fo hr hu hb hi hf
theorem crLenO (C : CalM X.prog X.w X.K X.mg X.base cl (cl c) "__len__" k 1 den) (hr : Room (k + 1) X.A) : CallR X (.builtin "len") (rDs cl (lenOD c den)) := by
  obtain ⟨f, fd, ps, hi, hf, kp, Fo, hb⟩ := C.ex
  exact cr_lenO Fo hr hb hi hf
end
end
end VL

namespace VL
open PySem PySem.Spec PyProof.Rows L2
/-! ### exceptions as values: made, read -/
/-- what an own exception class with its own __init__ says -/
structure ExK (K : PySem.W.Frag) (C fI : Addr) : Prop where
  T : OexC K C
  iC : PySem.W.findIn K (.ref C) "__init__" = some (some (.ref fI))
  tI : PySem.W.typeIn K (.ref fI) = some (.type "function")
/-- the __init__: self.f = y -/
def spX (C : Addr) (f : Str) : Sp := fun vs H Q _ => ∃ (a : Addr) (y : V), vs = [V.ref a, y] ∧ H a = some (exo a C none) ∧ ∀ dx, H dx = none → dx ≠ a → Q V.non (upd (upd H dx (exd dx [(f, y)])) a (exo a C (some dx)))
section
variable {X : Cx} {cl : Cn} {C fI : Addr} {k : Nat} {fd : FuncData} {ps : List Str} {f : Str}
theorem spX_len : ∀ vs H Q E, spX C f vs H Q E → vs.length = 2 := fun vs H Q E ⟨a, y, e, _⟩ => by rw [e]; rfl
theorem upd_swap {H : Hp} {a b : Addr} {o u : HO} (h : a ≠ b) : upd (upd H a o) b u = upd (upd H b u) a o := by
  funext c
  by_cases e1 : c = a
  · subst e1
    rw [upd_ne h, upd_same, upd_same]
  · by_cases e2 : c = b
    · subst e2
      rw [upd_same, upd_ne e1, upd_same]
    · rw [upd_ne e2, upd_ne e1, upd_ne e1, upd_ne e2]
/-- the making, by values and keywords; the exception and its dict are new -/
theorem run_mkX {pins : List (Addr × Obj)} {σ : L2.St} {H : Hp} {s : Shared} {Q : VK} {us : List Value} {kw : List (Str × Value)} {y : V} {u : Value} (E : ExK X.K C fI) (F1 : FnOk X.prog X.w X.K X.mg X.base CX0 k fI fd ps (spX C f)) (hr : Room (k + 1) X.A)
    (hb : ∀ (s : Shared) (self : Value), X.K.In s.heap → BindsTo s fd ⟨self :: us, kw⟩ (ps.zip [self, u])) (hl : us.length ≤ 1) (hk : kw = [] ∨ us = []) (I : Inv X pins σ H s) (ry : RelV y u)
    (q : ∀ a dx, H a = none → H dx = none → dx ≠ a → Q (.ref a) (upd (upd H dx (exd dx [(f, y)])) a (exo a C (some dx)))) :
    wpAny (model X.prog X.w) X.A (call (.ref C) us kw) (EP X pins σ Q) X.xe s := by
  obtain ⟨nm, qn, N, bs, bm, sn, sub, ab, col, dd, k0, k1, k2, k3, k5, hC, hbm⟩ := E.T.cls
  obtain ⟨hp, g, dr, tk, os⟩ := s
  have hz := Nat.le_succ hp.objs.size
  have hn : H (hp.objs.size + 1) = none := I.hok.fresh hz
  have I2 : Inv X pins σ (upd H (hp.objs.size + 1) (exo (hp.objs.size + 1) C none)) ⟨bareL hp us C, g, dr, tk, os⟩ := I.laid (t' := tk) (fun _ _ => bare_old) hz (exo_ok bare_me)
  have r2 : Vals [V.ref (hp.objs.size + 1), y] [Value.ref (hp.objs.size + 1), u] := .cons rfl (.cons ry .nil)
  have hq : spX C f [V.ref (hp.objs.size + 1), y] (upd H (hp.objs.size + 1) (exo (hp.objs.size + 1) C none)) (fun v H2 => v = .non ∧ Q (.ref (hp.objs.size + 1)) H2) E0 := by
    refine ⟨_, y, rfl, upd_same, fun dx h1 h2 => ⟨rfl, ?_⟩⟩
    rw [upd_ne h2] at h1
    rw [upd_swap (Ne.symm h2), upd_upd]
    exact q _ dx hn h1 h2
  refine wpAny_call (Lies.either ⟨fun Y => PySem.HandSPX.refsVE_contains Y bm hbm, _, _, _, _, _, _, _, _, _, _, _, _, _, _, _, I.kIn _ _ hC⟩ hl hk (PySem.W.looks_findIn I.kIn E.iC) (fun self => PySem.W.bind_fn I.kIn self E.tI)
    (codeAny_mono (F1.run _ X.stack _ _ ⟨Value.ref (hp.objs.size + 1) :: us, kw⟩ [Value.ref (hp.objs.size + 1), u] _ _ E0 (hr.make C us kw) (I2.env0.make C us kw) (hb _ _ I2.kIn) r2 hq) fun r s' hq' => ?_))
  cases r with
  | error er => exact absurd hq' (fun h => h.elim)
  | ok fl =>
    cases fl with
    | ret u =>
      obtain ⟨v, H2, I3, rv, ev, q3⟩ := I2.after hq'
      subst ev
      exact ⟨rv, V.ref (hp.objs.size + 1), H2, I3, rfl, q3⟩
    | next => exact False.elim hq'
    | brk => exact False.elim hq'
    | cont => exact False.elim hq'
def tMkX (C : Addr) (f : Str) (ta : TA) : TE := fun σ H Q => ta σ H fun vs H1 => ∃ y, vs = [y] ∧ ∀ a dx, H1 a = none → H1 dx = none → dx ≠ a → Q (.ref a) (upd (upd H1 dx (exd dx [(f, y)])) a (exo a C (some dx)))
section
variable {x : Str} {p pos : Pos} {e : Expr} {ta : TA} {nm : Str} {kpos : Pos}
theorem pe_mkX (E : ExK X.K C fI) (F1 : FnOk X.prog X.w X.K X.mg X.base CX0 k fI fd ps (spX C f)) (hr : Room (k + 1) X.A) (hb : ∀ (s : Shared) (self u : Value), X.K.In s.heap → BindsTo s fd ⟨[self, u], []⟩ (ps.zip [self, u])) (hm : X.mg x = some (.ref C))
    (ha : PA X [e] ta) (hg : Gl X x := by rfl) (hdb : (x == ("__debug__" : Str)) = false := by decide) (he : starEach [e] X.env = (false, eval e X.env) :: starEach [] X.env := by rfl) (hpl : (backTo pos (starEach [] X.env)).any (·.1) = false := by rfl) :
    PE X (.Call (.Name x p) [e] [] pos) (tMkX C f ta) := by
  refine ⟨fun pins s σ H Q I h => ?_⟩
  refine wpAny_Call_Name_kw (ld_glob I hg hm ?_ hdb)
  refine PySem.W.callWith_K (h₀ := X.base) I.ok.mod.kin E.T.kC (thn (ha.run pos pins s σ H _ I h) fun us s1 ⟨vs, H1, I1, r1, y, ev, q⟩ => ⟨I1.kIn, ?_⟩) he hpl
  subst ev
  obtain ⟨u, rfl, ry⟩ := vals1 r1
  exact run_mkX E F1 hr (fun s self h => hb s self u h) (by simp) (.inl rfl) I1 ry q
theorem pe_mkXk (E : ExK X.K C fI) (F1 : FnOk X.prog X.w X.K X.mg X.base CX0 k fI fd ps (spX C f)) (hr : Room (k + 1) X.A) (hb : ∀ (s : Shared) (self u : Value), X.K.In s.heap → BindsTo s fd ⟨[self], [(nm, u)]⟩ (ps.zip [self, u])) (hm : X.mg x = some (.ref C))
    (hkw : PK X [⟨some nm, e, kpos⟩] ta) (hg : Gl X x := by rfl) (hdb : (x == ("__debug__" : Str)) = false := by decide) (hall : (backToKw pos (keywordEach [⟨some nm, e, kpos⟩] X.env)).all (·.1.isSome) = true := by rfl)
    (hks : (backToKw pos (keywordEach [⟨some nm, e, kpos⟩] X.env)).filterMap (·.1) = [nm] := by rfl)
    (hpl : ((backTo pos (starEach [] X.env)).any (·.1) || (backToKw pos (keywordEach [⟨some nm, e, kpos⟩] X.env)).any (·.1.isNone)) = false := by rfl) :
    PE X (.Call (.Name x p) [] [⟨some nm, e, kpos⟩] pos) (tMkX C f ta) := by
  refine ⟨fun pins s σ H Q I h => ?_⟩
  refine wpAny_Call_Name_kw (ld_glob I hg hm ?_ hdb)
  refine PySem.W.callWith_KW0 (h₀ := X.base) I.ok.mod.kin E.T.kC hall ?_ hpl
  refine thn (hkw.run pos pins s σ H _ I h) fun ws s2 ⟨zs, H2, I2, rz, y, ev, q⟩ => ⟨I2.kIn, ?_⟩
  rw [hks]
  subst ev
  obtain ⟨u, rfl, ry⟩ := vals1 rz
  exact run_mkX (us := []) E F1 hr (fun s self h => hb s self u h) (by simp) (.inr rfl) I2 ry q
end
/-- the def of such an __init__ -/
theorem fn_X {P : Program} {w : World} {K : PySem.W.Frag} {mg : Str → Option Value} {base : Heap} {qual : Str} {st : Stmt} {n0 n1 : Str} (Fu : Fun K "__init__" qual st fI fd) (S : FnScope [n0, n1] [n0, n1] (defScope st)) (T : OexC K C) (hno : PySem.W.findIn K (.ref C) f = some none)
    (hb : ∀ (cdv : Value) (A : Around) (outer : List Env) (s : Shared) (H : Hp) (E : XK), PSs (cxOf CX0 P w K mg base [n0, n1] qual (defScope st) fI cdv A outer s H E).nox (defBody st) (tOst K f (tVar 0) (tVar 1))) :
    FnOk P w K mg base CX0 1 fI fd [n0, n1] (spX C f) := by
  refine Fu.ok (k := 0) S (fun vs H Q E h => spX_len vs H Q E h) (fun cdv A outer s H vs Q E hr h => ?_)
  obtain ⟨a, y, rfl, ha, q⟩ := h
  refine ⟨_, hb cdv A outer s H E, ?_⟩
  refine ⟨y, rfl, .ref a, rfl, a, C, rfl, T, hno, Or.inl ⟨ha, fun dx h1 h2 => ?_⟩⟩
  exact q dx h1 h2
end
end VL

namespace VL
open PySem PySem.Spec PyProof.Rows L2
/-- a class of exceptions with its __init__ -/
structure CalX (P : Program) (w : World) (K : PySem.W.Frag) (mg : Str → Option Value) (base : Heap) (C : Addr) (f nm : Str) : Prop where
  ex : ∃ (fI : Addr) (fd : FuncData) (ps : List Str), ExK K C fI ∧ FnOk P w K mg base CX0 1 fI fd ps (spX C f) ∧ (∀ (s : Shared) (self u : Value), K.In s.heap → BindsTo s fd ⟨[self, u], []⟩ (ps.zip [self, u])) ∧ ∀ (s : Shared) (self u : Value), K.In s.heap → BindsTo s fd ⟨[self], [(nm, u)]⟩ (ps.zip [self, u])
/-- what reading a field, asking the class wants of a class of exceptions -/
structure ExF (K : PySem.W.Frag) (C : Addr) : Prop where
  ga : PySem.W.findIn K (.ref C) "__getattribute__" = some (some (.builtin "BaseException.__getattribute__"))
  gt : PySem.W.findIn K (.ref C) "__getattr__" = some none
  sb : PySem.W.subIn K (.ref C) (.type "BaseException") = some true
  hd : PySem.W.hasDictIn K C = true
  ha : PySem.W.findIn K (.ref C) "__class__" = some (some (.builtin "object.__class__"))
  hn : PySem.W.specialIn K (.builtin "object.__class__") "__get__" = some (some (.builtin "getset_descriptor.__get__"))
  ht : PySem.W.takesIn K (.builtin "object.__class__") = some true
  hm : PySem.W.mroIn K C (.type "object") = some true
/-- which class is below which -/
structure ExT (K : PySem.W.Frag) (cl : Cn) (n : Nat) : Prop where
  sub : ∀ i j, i < n → j < n → PySem.W.subIn K (.ref (cl i)) (.ref (cl j)) = some (decide (i = j))
  top : ∀ i, i < n → PySem.W.subIn K (.ref (cl i)) (.ref (cl n)) = some true
  val : ∀ i, i < n → PySem.W.subIn K (.ref (cl i)) (.type "ValueError") = some true
  ty : ∀ i, i ≤ n → PySem.W.typeIn K (.ref (cl i)) = some (.type "type")
  is : ∀ i, i ≤ n → (PySem.W.clsIn K (cl i)).isSome = true
  F : ∀ i, i < n → ExF K (cl i)
section
variable {X : Cx} {cl : Cn} {K : PySem.W.Frag} {F F' F1 F2 : Hp} {m m' m1 m2 : List Addr} {H H' H1 H2 : Hp} {vh vh1 : VH} {ρ : Rho} {σ : Sl}
/-! ### made -/
def mkXD (c : Nat) (f : Str) (as : List D) : M D := match as with
  | [d] => ret (.exc c [f] [d])
  | _ => fail
theorem tMkXD {c : Nat} {f : Str} {fs : Rho → M (List D)} {Q : VK} (h : tD cl (denA (mkXD c f) fs) σ H Q) : tMkX (cl c) f (tDs cl fs) σ H Q := by
  obtain ⟨F, m, vh, ρ, w, r, q⟩ := h
  refine tDs_bind w r q fun F1 m1 vh1 H1 as vs w1 r1 g1 rvs q1 => ?_
  unfold mkXD at q1
  split at q1
  · obtain ⟨y, rfl, ry⟩ := reps1 rvs
    refine ⟨y, rfl, fun a dx na ndx hne => ?_⟩
    obtain ⟨w2, p2⟩ := w1.frozen (o := exd dx [(f, y)]) ndx
    obtain ⟨w3, p3⟩ := w2.frozen (p := a) (o := exo a (cl c) (some dx)) (by rw [upd_ne (Ne.symm hne)]; exact na)
    have z := q1 _ _ _ (p2.trans p3) w3
    exact z _ (.exc (fs := [(f, y)]) upd_same (by rw [upd_ne hne]; exact upd_same) (.cons ((ry.mono p2.gr).mono p3.gr) .nil))
  · exact False.elim q1
section
variable {P : Program} {x : Str} {p pos : Pos} {e : Expr} {c : Nat} {f nm : Str} {fs : Rho → M (List D)} {fe : Rho → M D} {kpos : Pos}
theorem cX (C : CalX X.prog X.w X.K X.mg X.base (cl c) f nm) (hm : X.mg x = some (.ref (cl c))) (hr : Room 2 X.A) (ha : DA cl X [e] fs) (hg : Gl X x := by rfl) (hdb : (x == ("__debug__" : Str)) = false := by decide)
    (he : starEach [e] X.env = (false, eval e X.env) :: starEach [] X.env := by rfl) (hpl : (backTo pos (starEach [] X.env)).any (·.1) = false := by rfl) : DE cl X (.Call (.Name x p) [e] [] pos) (denA (mkXD c f) fs) := by
  obtain ⟨fI, fd, ps, E, F1, b1, b2⟩ := C.ex
  exact PEw (pe_mkX E F1 hr b1 hm ha hg hdb he hpl) fun σ H Q h => tMkXD h
theorem PKw {kws : List Keyword} {t t' : TA} (h : PK X kws t) (w : ∀ σ H Q, t' σ H Q → t σ H Q) : PK X kws t' := ⟨fun pos pins s σ H Q I q => h.run pos pins s σ H Q I (w σ H Q q)⟩
theorem dk_one (ha : DE cl X e fe) : PK X [⟨some nm, e, kpos⟩] (tDs cl (consA fe nilA)) :=
  PKw (pk_cons ha pk_nil) fun σ H Q ⟨F, m, vh, ρ, w, r, q⟩ => tD_bind w r q fun F1 m1 vh1 H1 a v w1 r1 g1 rv q1 => Run.ret q1 w1 [v] (.cons rv .nil)
theorem cXk (C : CalX X.prog X.w X.K X.mg X.base (cl c) f nm) (hm : X.mg x = some (.ref (cl c))) (hr : Room 2 X.A) (ha : DE cl X e fe) (hg : Gl X x := by rfl) (hdb : (x == ("__debug__" : Str)) = false := by decide)
    (hall : (backToKw pos (keywordEach [⟨some nm, e, kpos⟩] X.env)).all (·.1.isSome) = true := by rfl) (hks : (backToKw pos (keywordEach [⟨some nm, e, kpos⟩] X.env)).filterMap (·.1) = [nm] := by rfl)
    (hpl : ((backTo pos (starEach [] X.env)).any (·.1) || (backToKw pos (keywordEach [⟨some nm, e, kpos⟩] X.env)).any (·.1.isNone)) = false := by rfl) : DE cl X (.Call (.Name x p) [] [⟨some nm, e, kpos⟩] pos) (denA (mkXD c f) (consA fe nilA)) := by
  obtain ⟨fI, fd, ps, E, F1, b1, b2⟩ := C.ex
  exact PEw (pe_mkXk E F1 hr b2 hm (dk_one ha) hg hdb hall hks hpl) fun σ H Q h => tMkXD h
/-- C(), a class without an __init__ of its own -/
theorem pe_mkX0 {C : Addr} (q : PySem.W.excIn X.K C [.type "ValueError", .type "Exception", .type "BaseException", .type "object"] "ValueError.__new__" = true) (hm : X.mg x = some (.ref C)) (kC : PySem.W.keepIn X.K (.ref C) = true)
    (hg : Gl X x) (hdb : (x == ("__debug__" : Str)) = false) : PE X (.Call (.Name x p) [] [] pos) (fun _ H Q => ∀ a, H a = none → Q (.ref a) (upd H a (exo a C none))) := by
  refine ⟨fun pins s σ H Q I h => wpAny_Call_Name_kw (ld_glob I hg hm ?_ hdb)⟩
  refine PySem.W.callWith_K0 I.kIn kC ?_
  obtain ⟨hp, g, d, t, os⟩ := s
  obtain ⟨bm, N, nm, qn, bs, hdct, sn, sub, ab, col, dd, k0, k1, k2, k3, k5, mN, hC, hN, hni, T⟩ := exc_obj I.kIn q
  refine wpAny_call_exc_subT PySem.F.excBase_ValueError T hC hN hni (fun h' a hm => ?_) (Nat.zero_le _)
  have hn : H a = none := I.hok.gone hm.new
  obtain ⟨t, ht, _, _⟩ := hm.there
  exact ⟨.ref a, upd H a (exo a C none), I.laidN hm.keeps hm.new hn (exo_ok ht), rfl, h a hn⟩
theorem cX0 (q : PySem.W.excIn X.K (cl c) [.type "ValueError", .type "Exception", .type "BaseException", .type "object"] "ValueError.__new__" = true) (hm : X.mg x = some (.ref (cl c))) (kC : PySem.W.keepIn X.K (.ref (cl c)) = true)
    (hg : Gl X x := by rfl) (hdb : (x == ("__debug__" : Str)) = false := by decide) : DE cl X (.Call (.Name x p) [] [] pos) (fun _ => ret (.exc c [] [])) :=
  PEw (pe_mkX0 q hm kC hg hdb) fun σ H Q ⟨F, m, vh, ρ, w, r, h⟩ a na => by
    obtain ⟨w2, p2⟩ := w.frozen (o := exo a (cl c) none) na
    exact h _ _ _ p2 w2 _ (.exc0 upd_same)
end
/-! ### read -/
theorem exo_inst {P : Program} {w : World} {H : Hp} {h : Heap} {a C dx : Addr} {fs : List (Str × V)} (hok : HOk P w H h) (ha : H a = some (exo a C (some dx))) (hd : H dx = some (exd dx fs)) :
    ∃ ox od mA, PySem.W.InstAt h a ox C (some od) ∧ h.Ns1 dx mA ∧ (∀ f, RelO (fs.lookup f) (mA f)) ∧ h.get? dx = some od := by
  obtain ⟨t1, ho⟩ := exo_at hok ha
  obtain ⟨mA, hns, rel⟩ := exd_at hok hd
  obtain ⟨od, es, ep, hod, z⟩ := id hns
  exact ⟨_, od, mA, ⟨ho, rfl, rfl, hod⟩, hns, rel, hod⟩
theorem exo_inst0 {P : Program} {w : World} {H : Hp} {h : Heap} {a C : Addr} (hok : HOk P w H h) (ha : H a = some (exo a C none)) : ∃ ox, PySem.W.InstAt h a ox C none := by
  obtain ⟨t1, ho⟩ := exo_at hok ha
  exact ⟨_, ho, rfl, rfl, trivial⟩
def tXV (K : PySem.W.Frag) (n : Str) (te : TE) : TE := fun σ H Q => te σ H fun x H1 => ∃ (a C dx : Addr) (fs : List (Str × V)) (v : V), x = .ref a ∧ ExF K C ∧ PySem.W.findIn K (.ref C) n = some none ∧ H1 a = some (exo a C (some dx)) ∧ H1 dx = some (exd dx fs) ∧ fs.lookup n = some v ∧ Q v H1
theorem pe_xv {e : Expr} {n : Str} {pos : Pos} {te : TE} (he : PE X e te) (hb : attributeBase e n X.env (eval e X.env) = eval e X.env := by rfl) : PE X (.Attribute e n pos) (tXV X.K n te) := by
  refine ⟨fun pins s σ H Q I h => attr_of hb (thn (he.run pins s σ H _ I h) fun u s1 hh => ?_)⟩
  obtain ⟨x, H1, I1, rx, a, C, dx, fs, v, ex, T, hno, ha, hd, l, q⟩ := hh
  subst ex
  obtain rfl : u = Value.ref a := rx
  obtain ⟨t1, ho⟩ := exo_at I1.hok ha
  obtain ⟨mA, hns, hrl⟩ := exd_at I1.hok hd
  obtain ⟨od, hod, hl⟩ := lookIn_ns hns
  obtain ⟨u, hu, ru⟩ := RelO.some_of (v := v) (o := mA n) (by rw [← l]; exact hrl n)
  have J : PySem.W.InstAt s1.heap a _ C (some od) := ⟨ho, rfl, rfl, hod⟩
  exact HandSPX.exc_get I1.kIn J T.ga T.gt T.sb (PySem.W.findObj_own T.hd hno rfl (by rw [hl, hu])) (handed_of ru) ⟨v, H1, I1.tok _, ru, q⟩
def fldX (c : Nat) (n : Str) : D → M D
  | .exc c' ns vs => fun vh => if c' = c then (lookupF ns vs n).map fun d => (d, vh) else none
  | _ => fail
theorem fX {o : Expr} {n : Str} {pos : Pos} {c : Nat} {fo : Rho → M D} (T : ExF X.K (cl c)) (hno : NoAttr X.K (cl c) n) (ho : DE cl X o fo) (hb : attributeBase o n X.env (eval o X.env) = eval o X.env := by rfl) : DE cl X (.Attribute o n pos) (den1 (fldX c n) fo) :=
  PEw (pe_xv ho hb) fun σ H Q ⟨F, m, vh, ρ, w, r, q⟩ => tD_bind w r q fun F1 m1 vh1 H1 a v w1 r1 g1 rv q1 => by
    unfold fldX at q1
    split at q1
    · rename_i c' ns vs
      by_cases hc : c' = c
      · subst hc
        rw [if_pos rfl] at q1
        cases e : lookupF ns vs n with
        | none => rw [e] at q1; exact False.elim q1
        | some d =>
          rw [e] at q1
          cases rv with
          | exc h1 h2 rs =>
            obtain ⟨u, l, ru⟩ := (lookupF_rep (j := n) rs).1 d e
            exact ⟨_, _, _, _, u, rfl, T, hno, w1.ext _ _ h1 (fun _ z => by cases z), w1.ext _ _ h2 (fun _ z => by cases z), l, Run.ret (a := d) q1 w1 _ ru⟩
          | exc0 h1 => unfold lookupF at e; cases e
      · rw [if_neg hc] at q1
        exact False.elim q1
    · exact False.elim q1
/-! ### isinstance of exceptions -/
def excOf : D → Option Nat
  | .exc c _ _ => some c
  | _ => none
/-- n classes, the n-th above them all -/
def isiXR (n : Nat) (_ : VH) : List D → Option D
  | [.exc i _ _, .cls j] => if i < n ∧ j ≤ n then some (.bl (decide (i = j) || decide (j = n))) else none
  | [.exc i _ _, .ty t] => if i < n ∧ t = "ValueError" then some (.bl true) else none
  | _ => none
def isiXD (n : Nat) : List D → M D := pureD (isiXR n)
theorem exc_at {v : V} {i : Nat} {ns : List Str} {vs : List D} {pins : List (Addr × Obj)} {s : Shared} (I : Inv X pins σ H s) (w : Wd cl F m vh H) (r : Rep cl F m v (.exc i ns vs)) : ∃ a ox od, v = .ref a ∧ PySem.W.InstAt s.heap a ox (cl i) od := by
  cases r with
  | exc h1 h2 rs =>
    obtain ⟨ox, od, mA, J, _⟩ := exo_inst I.hok (w.ext _ _ h1 (fun _ z => by cases z)) (w.ext _ _ h2 (fun _ z => by cases z))
    exact ⟨_, ox, some od, rfl, J⟩
  | exc0 h1 =>
    obtain ⟨ox, J⟩ := exo_inst0 I.hok (w.ext _ _ h1 (fun _ z => by cases z))
    exact ⟨_, ox, none, rfl, J⟩
theorem kit_cls' {C D : Addr} {b : Bool} (h : PySem.W.subIn K (.ref C) (.ref D) = some b) (hb : C = D → b = true) (hi : (PySem.W.clsIn K D).isSome = true) (ht : PySem.W.typeIn K (.ref D) = some (.type "type")) : PySem.W.kitOne K (.ref C) (.ref D) = some b := by
  unfold PySem.W.kitOne
  by_cases e : (Value.ref C == Value.ref D) = true
  · rw [if_pos e]
    have : C = D := Value.ref.inj (beq_iff_eq.mp e)
    rw [hb this]
  · rw [if_neg e]
    have e3 : (PySem.W.typeIn K (.ref D) == some (.type "type")) = true := by rw [ht] <;> rfl
    show (if ((PySem.W.clsIn K D).isSome && PySem.W.typeIn K (.ref D) == some (.type "type")) = true then _ else _) = _
    rw [hi, e3, if_pos (show (true && true) = true from rfl), h]
theorem cr_isiX {n : Nat} (T : ExT X.K cl n) : CallR X (.builtin "isinstance") (rDs cl (isiXD n)) := by
  intro pins s σ H xs us Q I r q
  obtain ⟨F, m, vh, as, w, ra, q⟩ := q
  obtain ⟨d, e, q2⟩ := run_pure q
  clear q
  unfold isiXR at e
  split at e
  · rename_i i ns vs j
    obtain ⟨v, u, rfl, rv, ru⟩ := reps2 ra
    split at e
    · rename_i hc
      cases Option.some.inj e
      obtain ⟨hi, hj⟩ := hc
      obtain ⟨a, ox, od, rfl, J⟩ := exc_at I w rv
      cases ru
      obtain ⟨u1, u2, rfl, r1, r2⟩ := vals2 r
      cases r1
      cases r2
      have Z := T.F i hi
      have hk : PySem.W.kitOne X.K (.ref (cl i)) (.ref (cl j)) = some (decide (i = j) || decide (j = n)) := by
        by_cases hjn : j = n
        · subst hjn
          have e1 := T.top i hi
          have e2 : (decide (i = j) || decide (j = j)) = true := by simp
          rw [e2]
          exact kit_cls' e1 (fun _ => rfl) (T.is _ (Nat.le_refl _)) (T.ty _ (Nat.le_refl _))
        · have e1 := T.sub i j hi (by omega)
          have e2 : (decide (i = j) || decide (j = n)) = decide (i = j) := by rw [decide_eq_false hjn, Bool.or_false]
          rw [e2]
          refine kit_cls' e1 (fun h => ?_) (T.is _ hj) (T.ty _ hj)
          have e3 := T.sub j j (by omega) (by omega)
          rw [decide_eq_true rfl] at e3
          rw [h, e3] at e1
          exact (Option.some.inj e1).symm
      exact PySem.W.kia_one (PySem.W.kitx_exc (ox := ox) (od := od) (T.is i (by omega)) Z.ga Z.gt Z.sb Z.ha Z.hn Z.ht Z.hm) I.kIn J hk (fun z => nomatch z) fun tk => ⟨.bl _, H, I.tok tk, rfl, Run.ret q2 w _ (.bl _)⟩
    · cases e
  · rename_i i ns vs t
    obtain ⟨v, u, rfl, rv, ru⟩ := reps2 ra
    split at e
    · rename_i hc
      cases Option.some.inj e
      obtain ⟨hi, rfl⟩ := hc
      obtain ⟨a, ox, od, rfl, J⟩ := exc_at I w rv
      cases ru
      obtain ⟨u1, u2, rfl, r1, r2⟩ := vals2 r
      cases r1
      cases (show u2 = Value.type "ValueError" from r2)
      have Z := T.F i hi
      have hk : PySem.W.kitOne X.K (.ref (cl i)) (.type "ValueError") = some true := by
        have e0 : ((Value.ref (cl i)) == (Value.type "ValueError")) = false := rfl
        unfold PySem.W.kitOne
        rw [e0, if_neg Bool.false_ne_true]
        show (if PySem.W.kitMeta "ValueError" = true then PySem.W.subIn X.K (.ref (cl i)) (.type "ValueError") else none) = some true
        rw [if_pos (show PySem.W.kitMeta "ValueError" = true by decide +kernel)]
        exact T.val i hi
      exact PySem.W.kia_one (PySem.W.kitx_exc (ox := ox) (od := od) (T.is i (by omega)) Z.ga Z.gt Z.sb Z.ha Z.hn Z.ht Z.hm) I.kIn J hk (fun z => nomatch z) fun tk => ⟨.bl true, H, I.tok tk, rfl, Run.ret q2 w _ (.bl _)⟩
    · cases e
  · cases e
/-! ### a dict of one pair, written; the same dict is not unlike itself -/
def dic1 (k : Str) (i : Int) : Rho → M D := fun _ => new (.dct [.inr k] [.int i])
theorem de_dic1 {k : Str} {i : Int} {j1 j2 : Nat} {p1 p2 pos : Pos} : DE cl X (.Dict [some (.Constant (.str k) j1 p1)] [.Constant (.int i) j2 p2] pos) (dic1 k i) :=
  PEw (pe_disp (pps_cons pe_str pe_int pps_nil) rfl rfl (by simp) (by simp)) fun σ H Q ⟨F, m, vh, ρ, w, r, q⟩ p hp => by
    refine ⟨upd_same, [(.inr k, .int i)], rfl, by simp, ?_⟩
    rw [upd_upd]
    have z := w.grown (u := .dK (mergeK [] [(.inr k, .int i)])) (o := .dct [.inr k] [.int i]) hp fun P => ⟨_, upd_same, rfl, .cons (.int i) .nil⟩
    exact q _ _ _ z.2 z.1 _ (.ref (at_snoc w.len))
/-- != : a changing dict of one pair and itself -/
def neXD (a b : D) : M D := fun vh => match a, b with
  | .ref n, .ref k => match dctAt vh[n]? with
    | some ([.inr _], [.int _]) => if n = k then some (.bl false, vh) else none
    | some _ => none
    | none => neD a b vh
  | a, b => neD a b vh
theorem op_neXD (hu : X.A.units + 64 < cLine) : OpR X (compareOp .NotEq) (rD2 cl neXD) := by
  intro pins s σ H x y v u Q I rx ry q
  obtain ⟨F, m, vh, a, b, w, ra, rb, q⟩ := q
  unfold neXD at q
  split at q
  · rename_i n k
    split at q
    · rename_i sx ix e
      by_cases hk : n = k
      · subst hk
        rw [if_pos rfl] at q
        obtain ⟨p, kvs, rfl, hm, hp, ek, rs⟩ := w.refDct ra (dctAt_eq e)
        obtain ⟨p', kvs', e2, hm', _⟩ := w.refDct rb (dctAt_eq e)
        subst e2
        rw [hm] at hm'
        cases hm'
        match kvs, ek, rs with
        | [(k1, v1)], ek, rs =>
          simp at ek
          subst ek
          obtain ⟨v2, ev, rv⟩ := reps1 rs
          simp at ev
          subst ev
          cases rep_int rv
          exact op_ne_dictA (X := X) (by omega) pins s σ H _ _ v u Q I rx ry ⟨p, p, _, _, rfl, rfl, hp, hp, rfl, fun z hz => by
            rw [List.mem_singleton.mp hz]
            exact ⟨by simp [valV], rfl⟩, Run.ret (a := D.bl false) q w _ (.bl false)⟩
      · rw [if_neg hk] at q
        exact False.elim q
    · exact False.elim q
    · exact op_neD' hu pins s σ H _ _ v u Q I rx ry ⟨F, m, vh, _, _, w, ra, rb, q⟩
  · exact op_neD' hu pins s σ H _ _ v u Q I rx ry ⟨F, m, vh, _, _, w, ra, rb, q⟩
end
end VL

namespace VL
open PySem PySem.Spec PyProof.Rows L2
theorem b_ValueError : bootBuiltins "ValueError" = some (.type "ValueError") := by decide +kernel
/-- the order of classes above an error of a value -/
abbrev tailVE : List Value := [.type "ValueError", .type "Exception", .type "BaseException", .type "object"]
theorem exT_of {K : PySem.W.Frag} {L : List Addr} {n : Nat} {a : Addr} (hl : L.length = n + 1) (hn : n < 99) (nd : L.Nodup)
    (hc : ∀ i, i < n → ∃ cd, PySem.W.clsIn K (L.getD i 0) = some cd ∧ cd.mro = .ref (L.getD i 0) :: .ref (L.getD n 0) :: tailVE)
    (ht : ∃ cd, PySem.W.clsIn K (L.getD n 0) = some cd)
    (ty : ∀ i, i ≤ n → PySem.W.typeIn K (.ref (L.getD i 0)) = some (.type "type"))
    (F : ∀ i, i < n → ExF K (L.getD i 0)) : ExT K (cl2 (fun c => L.getD c 0) a) n := by
  have eC : ∀ i, i ≤ n → cl2 (fun c => L.getD c 0) a i = L.getD i 0 := fun i hi => if_neg (by omega)
  have inj : ∀ i j, i ≤ n → j ≤ n → L.getD i 0 = L.getD j 0 → i = j := fun i j hi hj h => by
    rw [List.getD_eq_getElem?_getD, List.getD_eq_getElem?_getD, List.getElem?_eq_getElem (by omega), List.getElem?_eq_getElem (by omega)] at h
    exact (List.getElem_inj nd).mp h
  have sub : ∀ i, i < n → ∀ b, PySem.W.subIn K (.ref (L.getD i 0)) b = some ((.ref (L.getD i 0) :: .ref (L.getD n 0) :: tailVE : List Value).contains b) := fun i hi b => by
    obtain ⟨cd, e1, e2⟩ := hc i hi
    show PySem.W.mroIn K _ _ = _
    unfold PySem.W.mroIn
    rw [e1, Option.bind_some, e2, if_neg (by simp)]
  refine ⟨fun i j hi hj => ?_, fun i hi => ?_, fun i hi => ?_, fun i hi => ?_, fun i hi => ?_, fun i hi => ?_⟩
  · rw [eC i (by omega), eC j (by omega), sub i hi]
    congr 1
    rw [Bool.eq_iff_iff, List.contains_iff_mem, decide_eq_true_iff]
    constructor
    · intro h
      simp only [List.mem_cons, List.not_mem_nil, or_false] at h
      rcases h with h | h | h | h | h | h
      · exact (inj j i (by omega) (by omega) (Value.ref.inj h)).symm
      · have := inj j n (by omega) (by omega) (Value.ref.inj h); omega
      all_goals cases h
    · rintro rfl
      exact List.mem_cons_self
  · rw [eC i (by omega), eC n (by omega), sub i hi]
    congr 1
    rw [List.contains_iff_mem]
    exact List.mem_cons_of_mem _ List.mem_cons_self
  · rw [eC i (by omega), sub i hi]
    congr 1
  · rw [eC i hi]
    exact ty i hi
  · rw [eC i hi]
    rcases Nat.lt_or_eq_of_le hi with h | rfl
    · obtain ⟨cd, e1, _⟩ := hc i h
      rw [e1]; rfl
    · obtain ⟨cd, e1⟩ := ht
      rw [e1]; rfl
  · rw [eC i (by omega)]
    exact F i hi
theorem ex_mk {K : PySem.W.Frag} {C : Addr} {cd : ClassData} (h : PySem.W.clsIn K C = some cd) : ∃ cd, PySem.W.clsIn K C = some cd := ⟨_, h⟩
theorem cls_mk {K : PySem.W.Frag} {C : Addr} {cd : ClassData} {m : List Value} (h : PySem.W.clsIn K C = some cd) (e : cd.mro = m) : ∃ cd, PySem.W.clsIn K C = some cd ∧ cd.mro = m := ⟨_, h, e⟩
theorem oex_mk {K : PySem.W.Frag} {C N : Addr} {nm q : Str} {bs bm : List Value} {sn : List Str} {sub : List Value} {ab : Bool} {col : Option Bool} {dd : Option Addr} {k0 k1 k2 k3 k5 : Option Value}
    (h : K.lookup C = some (excClassObj nm q C N bs bm true sn sub ab col dd k0 k1 k2 k3 k5 "ValueError.__new__")) (e : PySem.HandSPX.refsVE bm = true) :
    ∃ nm q N bs bm sn sub ab col dd k0 k1 k2 k3 k5, K.lookup C = some (excClassObj nm q C N bs bm true sn sub ab col dd k0 k1 k2 k3 k5 "ValueError.__new__") ∧ PySem.HandSPX.refsVE bm = true := ⟨_, _, _, _, _, _, _, _, _, _, _, _, _, _, _, h, e⟩
end VL

namespace VL
open PySem PySem.Spec PyProof.Rows L2
section
variable {X : Cx} {cl : Cn}
/-! ### d.get(k) -/
def getD1 (fd fk : Rho → M D) : Rho → M D := fun ρ => bind (fd ρ) fun d => bind (fun vh => if (dctV vh d).isSome = true then some ((), vh) else none) fun _ => bind (fk ρ) fun k => fun vh => match dctV vh d, toKey k with
  | some (ks, vs), some j => some ((valD ks vs j).getD .non, vh)
  | _, _ => none
theorem de_get1 {call o e : Expr} {fd fk : Rho → M D} (ho : DE cl X o fd) (he : DE cl X e fk) (hb : ∀ {to te : TE}, PE X o to → PE X e te → PE X call (tDGet1 to te)) : DE cl X call (getD1 fd fk) :=
  PEw (hb ho he) fun σ H Q ⟨F, m, vh, ρ, w, r, q⟩ => tD_bind w r q fun F1 m1 vh1 H1 d v w1 r1 g1 rv q1 => by
    have q1' := Run.bind q1
    cases e0 : dctV vh1 d with
    | none =>
      simp only [e0] at q1'
      exact False.elim q1'
    | some p =>
      obtain ⟨ks, vs⟩ := p
      simp only [e0] at q1'
      have q2 := q1' F1 m1 H1 .refl w1
      obtain ⟨a, kvs, rfl, hd, ek, ru⟩ := w1.dctV rv e0
      refine ⟨a, rfl, Or.inl ⟨kvs, hd⟩, tD_bind w1 r1 q2 fun F2 m2 vh2 H2 k u w2 r2 g2 rk q4 => ?_⟩
      cases e1 : dctV vh2 d with
      | none => simp only [e1] at q4; exact False.elim q4
      | some p =>
        obtain ⟨ks', vs'⟩ := p
        cases e2 : toKey k with
        | none => simp only [e1, e2] at q4; exact False.elim q4
        | some j =>
          simp only [e1, e2] at q4
          obtain ⟨a', kvs', ea, hd', ek', ru'⟩ := w2.dctV (rv.mono g2) e1
          cases ea
          refine ⟨valV kvs' j, by rw [rep_key e2 rk]; exact DGet.r hd', ?_⟩
          subst ek'
          have vr := val_rep (j := j) ru'
          cases e3 : valD (kvs'.map (·.1)) vs' j with
          | none =>
            rw [vr.2 e3]
            rw [e3] at q4
            exact Run.ret (a := D.non) q4 w2 V.non Rep.non
          | some y =>
            obtain ⟨z, e4, rz⟩ := vr.1 y e3
            rw [e4]
            rw [e3] at q4
            exact Run.ret (a := y) q4 w2 _ rz
end
end VL

namespace VL
open PySem PySem.Spec PyProof.Rows L2
section
variable {X : Cx} {cl : Cn} {K : PySem.W.Frag} {F F' F1 F2 : Hp} {m m' m1 m2 : List Addr} {H H' H1 H2 : Hp} {vh vh1 : VH} {ρ : Rho} {σ : Sl}
/-! ### == of two dicts, and of anything else -/
def hitsD (vh : VH) (ls : List Key) (ws : List D) : List Key → List D → Option Bool
  | [], [] => some true
  | k :: ks, v :: vs => match valD ls ws k with
    | none => some false
    | some y => match eqPy vh v y, hitsD vh ls ws ks vs with
      | some e, some b => some (e && b)
      | _, _ => none
  | _, _ => none
def eqKD (a b : D) : M D := fun vh => match dctV vh a, dctV vh b with
  | some (ks, vs), some (ls, ws) => if ks.length = ls.length then (hitsD vh ls ws ks vs).map fun r => (.bl r, vh) else some (.bl false, vh)
  | _, _ => eqD a b vh
theorem hits_rep {A : Around} {pins : List (Addr × Obj)} {s : Shared} {σ' : L2.St} (I : Inv X pins σ' H s) (w : Wd cl F m vh H) (hu : A.in1.units + 64 < cLine) {ls : List (Key × V)} {ws : List D} {vb : List (Key × Value)} (rb : KV ls vb) (rw' : Reps cl F m (ls.map (·.2)) ws) :
    ∀ (ks : List (Key × V)) (vs : List D) (va : List (Key × Value)) (r : Bool), KV ks va → Reps cl F m (ks.map (·.2)) vs → hitsD vh (ls.map (·.1)) ws (ks.map (·.1)) vs = some r → PySem.W.KeqHits A.in1 s vb va r
  | [], vs, va, r, ra, rs, e => by
    cases rs
    cases e
    cases ra
    exact .nil
  | p :: ks, vs, va, r, ra, rs, e => by
    obtain ⟨k0, v0⟩ := p
    rw [List.map_cons] at rs
    cases rs with
    | @cons _ _ d ds rv rvs =>
      unfold KV at ra
      cases ra with
      | @cons _ q _ qs h t =>
        obtain ⟨k1, u⟩ := q
        obtain ⟨h1, h2⟩ := h
        cases (show k0 = k1 from h1)
        have vr := val_rep (j := k0) rw'
        have e' : (match valD (ls.map (·.1)) ws k0 with
          | none => some false
          | some y => match eqPy vh d y, hitsD vh (ls.map (·.1)) ws (ks.map (·.1)) ds with
            | some e, some b => some (e && b)
            | _, _ => none) = some r := e
        cases e1 : valD (ls.map (·.1)) ws k0 with
        | none =>
          rw [e1] at e'
          cases Option.some.inj e'
          have n0 := vr.2 e1
          have z := rb.val k0
          rw [n0] at z
          refine .miss ?_
          cases e2 : valueAt vb k0 with
          | none => rfl
          | some y => rw [e2] at z; exact z.elim
        | some y =>
          obtain ⟨x, ex, rx⟩ := vr.1 y e1
          cases e2 : eqPy vh d y with
          | none => simp only [e1, e2] at e'; cases e'
          | some c =>
            cases e3 : hitsD vh (ls.map (·.1)) ws (ks.map (·.1)) ds with
            | none => simp only [e1, e2, e3] at e'; cases e'
            | some b =>
              simp only [e1, e2, e3] at e'
              cases Option.some.inj e'
              obtain ⟨d1, d2, p1, p2, s1, s2, ec⟩ := eqPy_rep (K := X.K) w e2 rv rx
              have rr : RelO (some x) (valueAt vb k0) := by rw [← ex]; exact rb.val k0
              obtain ⟨y', hy, ry⟩ := rr.some_of
              obtain ⟨as, r1⟩ := Dp.reads I d1 _ _ p1 h2
              obtain ⟨bs, r2⟩ := Dp.reads I d2 _ _ p2 ry
              have at_ := PySem.W.keq_at (A := A) r1 r2 s1 s2 hu
              rw [ec] at at_
              exact .hit hy at_ (hits_rep I w hu rb rw' ks ds qs b t rvs e3)
theorem op_eqKD (hu : X.A.units + 66 < cLine) : OpR X (compareOp .Eq) (rD2 cl eqKD) := by
  intro pins s σ H x y v u Q I rx ry q
  obtain ⟨F, m, vh, a, b, w, ra, rb, q⟩ := q
  unfold eqKD at q
  split at q
  · rename_i ks vs ls ws e1 e2
    obtain ⟨a1, k1, rfl, h1, ek, r1⟩ := w.dctV ra e1
    obtain ⟨a2, k2, rfl, h2, el, r2⟩ := w.dctV rb e2
    obtain rfl : v = Value.ref a1 := rx
    obtain rfl : u = Value.ref a2 := ry
    subst ek el
    obtain ⟨_, ya, va, kva, da⟩ := dk_rd I.hok h1
    obtain ⟨_, yb, vb, kvb, db⟩ := dk_rd I.hok h2
    have la : k1.length = va.length := Paired.length kva
    have lb : k2.length = vb.length := Paired.length kvb
    split at q
    · rename_i hl
      rw [List.length_map, List.length_map] at hl
      cases e3 : hitsD vh (k2.map (·.1)) ws (k1.map (·.1)) vs with
      | none => rw [e3] at q; exact False.elim q
      | some r =>
        rw [e3] at q
        refine PySem.W.keq_eq (knd := mixKind X.prog X.w) (r := r) ya yb da db (by omega) (fun _ => hits_rep I w (by show X.A.units + 1 + 64 < cLine; omega) kvb r2 _ _ _ _ kva r1 e3) (fin_bl (k := r) I (Run.ret (a := D.bl r) q w _ (.bl r)) ?_)
        rw [← la, ← lb, hl]
        simp
    · rename_i hl
      rw [List.length_map, List.length_map] at hl
      refine PySem.W.keq_eq (knd := mixKind X.prog X.w) (r := false) ya yb da db (by omega) (fun z => absurd (la.trans (z.trans lb.symm)) hl) (fin_bl (k := false) I (Run.ret (a := D.bl false) q w _ (.bl false)) ?_)
      simp
  · exact op_eqD' (by omega) pins s σ H _ _ v u Q I rx ry ⟨F, m, vh, _, _, w, ra, rb, q⟩
/-! ### a dict of one pair, written -/
def dicE (k : Str) (fe : Rho → M D) : Rho → M D := fun ρ => bind (new (.dct [] [])) fun r => bind (fe ρ) fun d => fun vh => match r with
  | .ref n => match dctAt vh[n]? with
    | some ([], []) => some (.ref n, vh.set n (some (.dct [.inr k] [d])))
    | _ => none
  | _ => none
theorem de_dicE {k : Str} {e : Expr} {fe : Rho → M D} {j1 : Nat} {p1 pos : Pos} (he : DE cl X e fe) : DE cl X (.Dict [some (.Constant (.str k) j1 p1)] [e] pos) (dicE k fe) :=
  PEw (pe_disp (pps_cons pe_str he pps_nil) rfl rfl (by simp) (by simp)) fun σ H Q ⟨F, m, vh, ρ, w, r, q⟩ p hp => by
    have z := w.grown (u := .dK []) (o := .dct [] []) hp fun P => ⟨_, upd_same, rfl, .nil⟩
    have q0 := Run.bind q
    have q1 : Run cl F (m ++ [p]) (upd H p (.dK [])) ((bind (fe ρ) fun d => fun vh2 => match dctAt vh2[vh.length]? with
      | some ([], []) => some (D.ref vh.length, vh2.set vh.length (some (.dct [.inr k] [d])))
      | _ => none) (vh ++ [some (.dct [] [])])) (kV' cl Q) := q0 _ _ _ z.2 z.1
    refine tD_bind z.1 (r.mono z.2.gr) q1 fun F2 m2 vh2 H2 d v w2 r2 g2 rv q2 => ?_
    cases e : dctAt vh2[vh.length]? with
    | none => simp only [e] at q2; exact False.elim q2
    | some pr =>
      obtain ⟨ks, vs⟩ := pr
      match ks, vs, e with
      | [], [], e =>
        simp only [e] at q2
        have mp : m2[vh.length]? = some p := g2.pre _ _ (at_snoc w.len)
        obtain ⟨a, kvs, ea, hm, ha, ek, ru⟩ := w2.refDct (n := vh.length) (v := .ref p) (.ref mp) (dctAt_eq e)
        cases ea
        obtain rfl : kvs = [] := by simpa using ek
        have z2 := w2.written (u := .dK (mergeK [] [(.inr k, v)])) (o' := .dct [.inr k] [d]) hm (dctAt_eq e) (fun ob v z => by rw [ha] at z; cases z) fun P => ⟨_, upd_same, rfl, .cons (rv.mono P.gr) .nil⟩
        refine ⟨ha, [(.inr k, v)], rfl, by simp, ?_⟩
        exact q2 _ _ _ z2.2 z2.1 _ (.ref mp)
      | _ :: _, _, e => simp only [e] at q2; exact False.elim q2
      | [], _ :: _, e => simp only [e] at q2; exact False.elim q2
/-! ### a, b, c = x, y, z -/
def parS3 (i j l : Nat) (f : Rho → M (List D)) : Bk := fun ρ => bind (f ρ) fun ds => match ds with
  | [a, b, c] => ret (.nx (((ρ.set i (some a)).set j (some b)).set l (some c)))
  | _ => fail
theorem ds_par3 {st : Stmt} {i j l : Nat} {es : List Expr} {f : Rho → M (List D)} (ha : DA cl X es f) (h : ∀ {ta : TA}, PA X es ta → PS X st (tPar3 i j l ta)) : DS cl X st (parS3 i j l f) :=
  PSw (h ha) fun D σ H ⟨F, m, vh, ρ, w, r, q⟩ => tDs_bind w r q fun F1 m1 vh1 H1 as vs w1 r1 g1 rvs q1 => by
    match as, vs, rvs with
    | [a, b, c], [v, u, t], .cons rv (.cons ru (.cons rt .nil)) => exact ⟨v, u, t, rfl, Run.ret q1 w1 _ (((r1.set rv i).set ru j).set rt l)⟩
    | [], _, _ => exact False.elim q1
    | [_], _, _ => exact False.elim q1
    | [_, _], _, _ => exact False.elim q1
    | _ :: _ :: _ :: _ :: _, _, _ => exact False.elim q1
end
theorem hu66 {A : Around} {k : Nat} (hr : Room k A) : A.units + 66 < cLine := by have := hr.un; omega
end VL

namespace VL
open PySem PySem.Spec PyProof.Rows L2
/-! ### a tuple by 1, by 0 and less -/
abbrev tupO (its : Array Value) (n : Nat) (dd : Option Addr) (sl : Array (Option Value)) : Obj := { cls := .type "tuple", dict := dd, data := .seq its n, slots := sl }
theorem by_one (l : Addr) (its : Array Value) (n : Nat) (dd : Option Addr) (sl : Array (Option Value)) (t : Tok) :
    Meets (Builtin.«tuple.__mul__» ⟨[.ref l, .int 1 t], []⟩) (fun _ R s => s.heap.get? l = some (tupO its n dd sl) ∧ R (.ok (.ret (.ref l))) s) := by
  refine .of_wp fun prog w A R s h => ?_
  obtain ⟨hp, g, d, tk, os⟩ := s
  obtain ⟨at_, h⟩ := h
  have ix := AutoSeq1.idx_int
  have one : (its.isEmpty || (1 : Int) == 1) = true := by rw [Bool.or_comm]; rfl
  wp_walk using wpAny_loadPart' at_
  repeat
    first
    | (refine wpAny_ite_false (by decide) ?_; wp_walk using wpAny_loadPart' at_)
    | (refine wpAny_ite_true (by first | decide | exact decide_eq_true one | simp) ?_; wp_walk using wpAny_loadPart' at_)
  exact ⟨_, rfl, h⟩
theorem by_none (l : Addr) (its : Array Value) (n : Nat) (dd : Option Addr) (sl : Array (Option Value)) (k : Int) (t : Tok) (k0 : k ≤ 0) (k1 : -(2 ^ 63) ≤ k) (ne : its.isEmpty = false) :
    Meets (Builtin.«tuple.__mul__» ⟨[.ref l, .int k t], []⟩) (fun _ R s => s.heap.get? l = some (tupO its n dd sl) ∧
      R (.ok (.ret (.ref s.heap.objs.size))) { s with heap := s.heap.push { cls := .type "tuple", data := .seq #[] }, toks := s.toks }) := by
  refine .of_wp fun prog w A R s h => ?_
  obtain ⟨hp, g, d, tk, os⟩ := s
  obtain ⟨at_, h⟩ := h
  have ix := AutoSeq1.idx_int
  have c0 : (decide (k < -(2 ^ 63)) || decide (k ≥ 2 ^ 63)) = false := by
    rw [decide_eq_false (by omega), decide_eq_false (by omega)]
    rfl
  have c1 : (its.isEmpty || k == 1) = false := by
    rw [ne, Bool.false_or]
    exact beq_eq_false_iff_ne.mpr (by omega)
  have c2 : (decide (k ≤ 0) || its.isEmpty) = true := by
    rw [decide_eq_true k0]
    rfl
  wp_walk using wpAny_loadPart' at_
  repeat
    first
    | (refine wpAny_ite_false (decide_eq_false (by rw [c0]; exact Bool.false_ne_true)) ?_; wp_walk using wpAny_loadPart' at_)
    | (refine wpAny_ite_false (decide_eq_false (by rw [c1]; exact Bool.false_ne_true)) ?_; wp_walk using wpAny_loadPart' at_)
    | (refine wpAny_ite_true (decide_eq_true c2) ?_; wp_walk using wpAny_loadPart' at_)
  exact ⟨_, rfl, h⟩
section
variable {X : Cx} {cl : Cn} {K : PySem.W.Frag} {F F' F1 F2 : Hp} {m m' m1 m2 : List Addr} {H H' H1 H2 : Hp} {vh vh1 : VH} {ρ : Rho} {σ : Sl}
def mulTD (a b : D) : M D := match a, b with
  | .tup xs, .int k => if 0 < xs.length ∧ xs.length ≤ 1000 then (if k = 1 then ret (.tup xs) else if -(4611686018427387904) ≤ k ∧ k ≤ 0 then ret (.tup []) else if 2 ≤ k ∧ k ≤ 1000 then ret (.tup (List.replicate k.toNat xs).flatten) else fail) else fail
  | a, b => mulD a b
theorem op_mulTD : OpR X (binaryOp .Mult) (rD2 cl mulTD) := by
  intro pins s σ H x y v u Q I rx ry q
  obtain ⟨F, m, vh, a, b, w, ra, rb, q⟩ := q
  unfold mulTD at q
  split at q
  · rename_i xs k
    obtain ⟨⟨l0, l1⟩, q0⟩ := run_if q
    clear q
    obtain ⟨l, us, rfl, ea, ru⟩ := rep_tup ra
    cases rep_int rb
    have hT := w.sqT (K := X.K) ea
    have lu : us.length = xs.length := ru.length
    split at q0
    · rename_i k1
      subst k1
      cases rx
      obtain ⟨t, rfl⟩ := ry
      obtain ⟨its, r, ⟨⟨cls, dd, data, sl⟩, ho, hc, n, hd⟩, hs⟩ := I.tuple hT
      simp only at hc hd
      subst hc hd
      refine wpAny_binaryOp_repeat_ref (T := "tuple") (U := "int") (by decide) ⟨_, ho, rfl⟩ (fun s' => typeIs_int s' 1 t) noFill_tuple_mul PySem.F.fills_int_mul PySem.F.slot_int_rmul repeat_tuple PySem.F.slot_int_index.lookup
        (call_meets PySem.F.slot_int_rmul (typeIs_int s 1 t) PySem.F.entry_int_rmul (PySem.F.args_int_rmul_2 _ _) (int_rmul_tuple 1 t l its.toArray n dd sl)
          ⟨ho, rfl, ⟨_, ho, rfl⟩, call_meets PySem.F.slot_tuple_mul ⟨_, ho, rfl⟩ PySem.F.entry_tuple_mul (PySem.F.args_tuple_mul_2 _ _) (by_one l its.toArray n dd sl t) ⟨ho, ?_⟩⟩)
      exact ⟨.ref l, H, I, rfl, Run.ret q0 w _ ra⟩
    · split at q0
      · rename_i k1
        cases rx
        obtain ⟨t, rfl⟩ := ry
        obtain ⟨its, r, ⟨⟨cls, dd, data, sl⟩, ho, hc, n, hd⟩, hs⟩ := I.tuple hT
        simp only at hc hd
        subst hc hd
        have ne : its.toArray.isEmpty = false := by
          have : its.length = us.length := r.length.symm
          cases its with
          | nil => rw [List.length_nil] at this; omega
          | cons a b => rfl
        refine wpAny_binaryOp_repeat_ref (T := "tuple") (U := "int") (by decide) ⟨_, ho, rfl⟩ (fun s' => typeIs_int s' k t) noFill_tuple_mul PySem.F.fills_int_mul PySem.F.slot_int_rmul repeat_tuple PySem.F.slot_int_index.lookup
          (call_meets PySem.F.slot_int_rmul (typeIs_int s k t) PySem.F.entry_int_rmul (PySem.F.args_int_rmul_2 _ _) (int_rmul_tuple k t l its.toArray n dd sl)
            ⟨ho, rfl, ⟨_, ho, rfl⟩, call_meets PySem.F.slot_tuple_mul ⟨_, ho, rfl⟩ PySem.F.entry_tuple_mul (PySem.F.args_tuple_mul_2 _ _) (by_none l its.toArray n dd sl k t k1.2 (by omega) ne) ⟨ho, ?_⟩⟩)
        refine ⟨.ref s.heap.objs.size, _, I.laid (t' := s.toks) (o := .tup []) (fun b ob q => Heap.get?_push_of_some _ q) (Nat.le_refl _) ?_, rfl, runNewTup q0 w .nil (I.hok.fresh (Nat.le_refl _))⟩
        exact ⟨Nat.zero_le _, _, .nil, IsTup.new _ _⟩
      · obtain ⟨⟨k1, k2⟩, q1⟩ := run_if q0
        exact op_repT pins s σ H _ _ v u Q I rx ry ⟨l, k, us, rfl, rfl, hT, (by intro e; rw [e] at lu; simp at lu; omega), k1, k2, (by omega), fun p hp => runNewTup q1 w (ru.rep _) hp⟩
  · exact op_mulD pins s σ H _ _ v u Q I rx ry ⟨F, m, vh, _, _, w, ra, rb, q⟩
/-! ### a dict comprehension whose dict changes later -/
section
variable {tg elt kx vx iter : Expr} {ifs : List Expr} {scope : Scope} {own : List (Str × Nat)} {pos : Pos} {f : Rho → M (List D)} {S : List Nat} {g : Tg} {t : Rho → M Bool} {e ek : Rho → M D}
theorem de_dcM (hc : X.calm = true) (hN : X.N.Nodup) (hi : DI cl X tg iter f) (ok : BlkOk X.N X.env.scope scope own)
    (hg : ∀ (s : Shared) (H : Hp) (C : Addr) (cL : List (Str × Addr)) (fp : List Addr), DG cl (X.blk s H scope (compEnvC scope cL C X.env) fp) tg S g)
    (ht : ∀ (s : Shared) (H : Hp) (C : Addr) (cL : List (Str × Addr)) (fp : List Addr), PTs (X.blk s H scope (compEnvC scope cL C X.env) fp) ifs (tT cl t))
    (hk : ∀ (s : Shared) (H : Hp) (C : Addr) (cL : List (Str × Addr)) (fp : List Addr), DE cl (X.blk s H scope (compEnvC scope cL C X.env) fp) kx ek)
    (he : ∀ (s : Shared) (H : Hp) (C : Addr) (cL : List (Str × Addr)) (fp : List Addr), DE cl (X.blk s H scope (compEnvC scope cL C X.env) fp) vx e)
    (hS : ∀ i, i ∈ S → i ∈ own.map (·.2) := by decide) (hs : ∀ x, foldedSetIterable iter X.env x = pure x := by intro _; rfl) : DE cl X (.DictComp kx vx [⟨tg, iter, ifs, 0⟩] scope pos) (dcD f g t ek e (own.map (·.2)) freshD) :=
  PEw (pe_dc hc hN hi ok hg ht hk he hs) fun σ H Q h => tDcD hS h fun q w r hp => runNewDctM q w r hp
end
end
end VL

namespace VL
open PySem PySem.Spec PyProof.Rows L2
section
variable {X : Cx} {cl : Cn} {a b c : Expr} {op op' : CmpOp} {pos : Pos} {o o' : D → D → M D} {fa fb fc : Rho → M D}
/-- a < b < c -/
def chainD (o o' : D → D → M D) (fa fb fc : Rho → M D) : Rho → M D := fun ρ => bind (fa ρ) fun x => bind (fb ρ) fun y => bind (o x y) fun z => bind (toB z) fun k => if k then bind (fc ρ) fun u => o' y u else ret (.bl false)
theorem tChainD {σ : Sl} {H : Hp} {Q : VK} (h : tD cl (chainD o o' fa fb fc) σ H Q) : tChain (rD2 cl o) (rD2 cl o') (tD cl fa) (tD cl fb) (tD cl fc) σ H Q := by
  obtain ⟨F, m, vh, ρ, w, r, q⟩ := h
  refine tD_bind w r q fun F1 m1 vh1 H1 x v w1 r1 g1 rv q1 => ?_
  refine tD_bind w1 r1 q1 fun F2 m2 vh2 H2 y u w2 r2 g2 ru q2 => ?_
  refine ⟨F2, m2, vh2, x, y, w2, rv.mono g2, ru, (Run.bind q2).mono fun F3 m3 vh3 H3 z p w3 q3 zv rz => ?_⟩
  obtain ⟨k, rfl, q3⟩ := toB_bind q3
  refine ⟨k, rep_bl rz, ?_⟩
  cases k with
  | true => exact iteT (tD_bind w3 (r2.mono p.gr) q3 fun F4 m4 vh4 H4 c x w4 r4 g4 rx q4 => ⟨F4, m4, vh4, y, c, w4, ru.mono (p.gr.trans g4), rx, q4⟩)
  | false => exact iteF (Run.ret q3 w3 _ (.bl false))
theorem de_chain (ho : OpR X (compareOp op) (rD2 cl o)) (ho' : OpR X (compareOp op') (rD2 cl o')) (ha : DE cl X a fa) (hb : DE cl X b fb) (hc : DE cl X c fc) (hm : lastMarks [op, op'] [b, c] = false := by with_unfolding_all rfl) :
    DE cl X (.Compare a [op, op'] [b, c] pos) (chainD o o' fa fb fc) := PEw (pe_chain ho ho' ha hb hc hm) fun σ H Q h => tChainD h
theorem dt_chain (ho : OpR X (compareOp op) (rD2 cl o)) (ho' : OpR X (compareOp op') (rD2 cl o')) (ha : DE cl X a fa) (hb : DE cl X b fb) (hc : DE cl X c fc) (hm : lastMarks [op, op'] [b, c] = false := by with_unfolding_all rfl) :
    DT cl X (.Compare a [op, op'] [b, c] pos) (fun ρ => bind (chainD o o' fa fb fc ρ) toB) := PTw (pt_chain ho ho' ha hb hc hm) fun σ H Q ⟨F, m, vh, ρ, w, r, q⟩ =>
  tChainD ⟨F, m, vh, ρ, w, r, (Run.bind q).mono fun F1 m1 vh1 H1 x p w1 q1 v rv => by
    cases x with
    | bl k => exact ⟨k, rep_bl rv, Run.ret q1 w1⟩
    | _ => exact False.elim q1⟩
end
end VL

/-! VX: parts that may raise -/
namespace VL
open PySem PySem.Spec PyProof.Rows L2
/-- what a part ends with that may raise -/
inductive Rs (α : Type) where
  | ok (a : α) | ex (d : D)
/-- what is thrown: its class, its dict -/
inductive RepX (cl : Cn) (F : Hp) (m : List Addr) : Value → Option Addr → D → Prop
  | own {c : Nat} {dx : Addr} {fs : List (Str × V)} {ds : List D} : F dx = some (.xd fs) → Reps cl F m (fs.map (·.2)) ds → RepX cl F m (.ref (cl c)) (some dx) (.exc c (fs.map (·.1)) ds)
  | bare {c : Nat} : RepX cl F m (.ref (cl c)) none (.exc c [] [])
/-- what is thrown is taken -/
def Tk (X : Cx) (E : XK) : Prop := L2.Takes X (fun cls d _ H => E cls d H)
section
variable {X : Cx} {cl : Cn} {K : PySem.W.Frag} {F F' F1 F2 : Hp} {m m' m1 m2 : List Addr} {H H' H1 H2 : Hp} {vh vh1 : VH} {ρ : Rho} {σ : Sl} {E : XK}
theorem RepX.mono {c : Value} {dx : Option Addr} {d : D} (g : Gr F m F' m') (r : RepX cl F m c dx d) : RepX cl F' m' c dx d := by
  cases r with
  | own h rs => exact .own (g.ext _ _ h) (rs.mono g)
  | bare => exact .bare
abbrev kX {α : Type} (cl : Cn) (k : Kn α) (E : XK) : Kn (Rs α) := fun F' m' vh' H' r => match r with
  | .ok a => k F' m' vh' H' a
  | .ex d => ∀ c dx, RepX cl F' m' c dx d → E c dx H'
def bindX {α β : Type} (c : M (Rs α)) (k : α → M (Rs β)) : M (Rs β) := bind c fun r => match r with
  | .ok a => k a
  | .ex d => ret (.ex d)
def okE {α : Type} (f : Rho → M α) : Rho → M (Rs α) := fun ρ => bind (f ρ) fun a => ret (.ok a)
def tDX (cl : Cn) (E : XK) (f : Rho → M (Rs D)) : TE := fun σ H Q => ∃ F m vh ρ, Wd cl F m vh H ∧ RS cl F m σ ρ ∧ Run cl F m H (f ρ vh) (kX cl (kV' cl Q) E)
def tDsX (cl : Cn) (E : XK) (f : Rho → M (Rs (List D))) : TA := fun σ H Q => ∃ F m vh ρ, Wd cl F m vh H ∧ RS cl F m σ ρ ∧ Run cl F m H (f ρ vh) (kX cl (kVs cl Q) E)
def tSX (cl : Cn) (E : XK) (g : Rho → M (Rs Out)) : TS := fun D σ H => ∃ F m vh ρ, Wd cl F m vh H ∧ RS cl F m σ ρ ∧ Run cl F m H (g ρ vh) (kX cl (kO cl D) E)
abbrev BkX := Rho → M (Rs Out)
abbrev DEX (cl : Cn) (X : Cx) (E : XK) (e : Expr) (f : Rho → M (Rs D)) : Prop := PE X e (tDX cl E f)
abbrev DAX (cl : Cn) (X : Cx) (E : XK) (es : List Expr) (f : Rho → M (Rs (List D))) : Prop := PA X es (tDsX cl E f)
abbrev DSX (cl : Cn) (X : Cx) (E : XK) (st : Stmt) (g : BkX) : Prop := PS X st (tSX cl E g)
abbrev DSsX (cl : Cn) (X : Cx) (E : XK) (st : List Stmt) (g : BkX) : Prop := PSs X st (tSX cl E g)
theorem runX {α β : Type} {c : M (Rs α)} {g : α → M (Rs β)} {k : Kn β} (h : Run cl F m H (bindX c g vh) (kX cl k E)) : Run cl F m H (c vh) (kX cl (fun F1 m1 vh1 H1 a => Run cl F1 m1 H1 (g a vh1) (kX cl k E)) E) :=
  (Run.bind h).mono fun F1 m1 vh1 H1 a p w q => by
    cases a with
    | ok a => exact q
    | ex d => exact Run.ret q w
theorem runOk {α : Type} {f : Rho → M α} {k : Kn α} (h : Run cl F m H (okE f ρ vh) (kX cl k E)) : Run cl F m H (f ρ vh) k :=
  (Run.bind h).mono fun F1 m1 vh1 H1 a p w q => Run.ret q w
theorem tDX_bind {α : Type} {f : Rho → M (Rs D)} {g : D → M (Rs α)} {k : Kn α} {Q : VK} (w : Wd cl F m vh H) (r : RS cl F m σ ρ) (h : Run cl F m H (bindX (f ρ) g vh) (kX cl k E))
    (hq : ∀ F1 m1 vh1 H1 a v, Wd cl F1 m1 vh1 H1 → RS cl F1 m1 σ ρ → Gr F m F1 m1 → Rep cl F1 m1 v a → Run cl F1 m1 H1 (g a vh1) (kX cl k E) → Q v H1) : tDX cl E f σ H Q :=
  ⟨F, m, vh, ρ, w, r, (runX h).mono fun F1 m1 vh1 H1 a p w1 q => by
    cases a with
    | ok a => exact fun v rv => hq F1 m1 vh1 H1 a v w1 (r.mono p.gr) p.gr rv q
    | ex d => exact q⟩
theorem tDsX_bind {α : Type} {f : Rho → M (Rs (List D))} {g : List D → M (Rs α)} {k : Kn α} {Q : List V → Hp → Prop} (w : Wd cl F m vh H) (r : RS cl F m σ ρ) (h : Run cl F m H (bindX (f ρ) g vh) (kX cl k E))
    (hq : ∀ F1 m1 vh1 H1 a v, Wd cl F1 m1 vh1 H1 → RS cl F1 m1 σ ρ → Gr F m F1 m1 → Reps cl F1 m1 v a → Run cl F1 m1 H1 (g a vh1) (kX cl k E) → Q v H1) : tDsX cl E f σ H Q :=
  ⟨F, m, vh, ρ, w, r, (runX h).mono fun F1 m1 vh1 H1 a p w1 q => by
    cases a with
    | ok a => exact fun v rv => hq F1 m1 vh1 H1 a v w1 (r.mono p.gr) p.gr rv q
    | ex d => exact q⟩
/-! ### parts that do not raise -/
theorem dx_ok {e : Expr} {f : Rho → M D} (h : DE cl X e f) : DEX cl X E e (okE f) := PEw h fun σ H Q ⟨F, m, vh, ρ, w, r, q⟩ => ⟨F, m, vh, ρ, w, r, runOk q⟩
theorem dax_ok {es : List Expr} {f : Rho → M (List D)} (h : DA cl X es f) : DAX cl X E es (okE f) := PAw h fun σ H Q ⟨F, m, vh, ρ, w, r, q⟩ => ⟨F, m, vh, ρ, w, r, runOk q⟩
theorem dsx_ok {st : Stmt} {g : Bk} (h : DS cl X st g) : DSX cl X E st (okE g) := PSw h fun D σ H ⟨F, m, vh, ρ, w, r, q⟩ => ⟨F, m, vh, ρ, w, r, runOk q⟩
theorem dssx_ok {st : List Stmt} {g : Bk} (h : DSs cl X st g) : DSsX cl X E st (okE g) := PSsw h fun D σ H ⟨F, m, vh, ρ, w, r, q⟩ => ⟨F, m, vh, ρ, w, r, runOk q⟩
def consX (f : Rho → M (Rs D)) (g : Rho → M (Rs (List D))) : Rho → M (Rs (List D)) := fun ρ => bindX (f ρ) fun a => bindX (g ρ) fun as => ret (.ok (a :: as))
theorem dax_cons {e : Expr} {es : List Expr} {f : Rho → M (Rs D)} {g : Rho → M (Rs (List D))} (ha : DEX cl X E e f) (hr : DAX cl X E es g) (hs : starEach (e :: es) X.env = (false, eval e X.env) :: starEach es X.env := by rfl) : DAX cl X E (e :: es) (consX f g) :=
  PAw (pa_cons ha hr hs) fun σ H Q ⟨F, m, vh, ρ, w, r, q⟩ => tDX_bind w r q fun F1 m1 vh1 H1 a v w1 r1 g1 rv q1 => tDsX_bind w1 r1 q1 fun F2 m2 vh2 H2 as vs w2 r2 g2 rvs q2 => Run.ret (a := Rs.ok (a :: as)) q2 w2 _ (.cons (rv.mono g2) rvs)
/-! ### statements -/
def seqX (g h : BkX) : BkX := fun ρ => bindX (g ρ) fun o => match o with
  | .nx ρ' => h ρ'
  | o => ret (.ok o)
theorem dssx_cons {st : Stmt} {rest : List Stmt} {g h : BkX} (h1 : DSX cl X E st g) (h2 : DSsX cl X E rest h) : DSsX cl X E (st :: rest) (seqX g h) :=
  PSsw (pss_cons h1 h2) fun D σ H ⟨F, m, vh, ρ, w, r, q⟩ => ⟨F, m, vh, ρ, w, r, (runX q).mono fun F1 m1 vh1 H1 o p w1 q1 => by
    cases o with
    | ex d => exact q1
    | ok o =>
      cases o with
      | nx ρ' => exact fun σ' r' => ⟨F1, m1, vh1, ρ', w1, r', q1⟩
      | rt d => exact Run.ret (a := Rs.ok (Out.rt d)) q1 w1
      | bk ρ' => exact Run.ret (a := Rs.ok (Out.bk ρ')) q1 w1
      | ct ρ' => exact Run.ret (a := Rs.ok (Out.ct ρ')) q1 w1⟩
theorem dssx_one {st : Stmt} {g : BkX} (h1 : DSX cl X E st g) : DSsX cl X E [st] g := pss_one h1
def neverX {α : Type} : Rho → M (Rs α) := fun _ => fail
theorem dsx_never {st : Stmt} : DSX cl X E st neverX := PSw ps_never fun D σ H ⟨F, m, vh, ρ, w, r, q⟩ => q
def ifX (c : Rho → M Bool) (g h : BkX) : BkX := fun ρ => bind (c ρ) fun b => if b then g ρ else h ρ
theorem dsx_if {c : Expr} {a b : List Stmt} {pos : Pos} {f : Rho → M Bool} {g h : BkX} (hc : DT cl X c f) (ha : DSsX cl X E a g) (hb : DSsX cl X E b h) : DSX cl X E (.If c a b pos) (ifX f g h) :=
  PSw (ps_if hc ha hb) fun D σ H ⟨F, m, vh, ρ, w, r, q⟩ => tT_bind w r q fun F1 m1 vh1 H1 b w1 r1 g1 q1 => by
    cases b with
    | true => exact iteT ⟨F1, m1, vh1, ρ, w1, r1, q1⟩
    | false => exact iteF ⟨F1, m1, vh1, ρ, w1, r1, q1⟩
def dropX (f : Rho → M (Rs D)) : BkX := fun ρ => bindX (f ρ) fun _ => ret (.ok (.nx ρ))
theorem dsx_expr {e : Expr} {pos : Pos} {f : Rho → M (Rs D)} (he : DEX cl X E e f) (hs : swapsWith e none pos.line X.env = pure false := by rfl) : DSX cl X E (.Expr e pos) (dropX f) :=
  PSw (ps_expr he hs) fun D σ H ⟨F, m, vh, ρ, w, r, q⟩ => tDX_bind w r q fun F1 m1 vh1 H1 a v w1 r1 g1 rv q1 => Run.ret (a := Rs.ok (Out.nx ρ)) q1 w1 σ r1
def retX (f : Rho → M (Rs D)) : BkX := fun ρ => bindX (f ρ) fun d => ret (.ok (.rt d))
theorem dsx_ret {e : Expr} {pos : Pos} {f : Rho → M (Rs D)} (he : DEX cl X E e f) : DSX cl X E (.Return (some e) pos) (retX f) :=
  PSw (ps_ret he) fun D σ H ⟨F, m, vh, ρ, w, r, q⟩ => tDX_bind w r q fun F1 m1 vh1 H1 a v w1 r1 g1 rv q1 => Run.ret (a := Rs.ok (Out.rt a)) q1 w1 v rv
def setX (f : Rho → M (Rs D)) (i : Nat) : BkX := fun ρ => bindX (f ρ) fun d => ret (.ok (.nx (ρ.set i (some d))))
theorem dsx_set {i : Nat} {x : Str} {e : Expr} {pos pos' : Pos} {f : Rho → M (Rs D)} (he : DEX cl X E e f) (h : ∀ {te : TE}, PE X e te → PS X (.Assign [.Name x pos'] e pos) (tAsg te (gName i))) : DSX cl X E (.Assign [.Name x pos'] e pos) (setX f i) :=
  PSw (h he) fun D σ H ⟨F, m, vh, ρ, w, r, q⟩ => tDX_bind w r q fun F1 m1 vh1 H1 a v w1 r1 g1 rv q1 => Run.ret (a := Rs.ok (Out.nx (ρ.set i (some a)))) q1 w1 _ (r1.set rv i)
def forLX (g : Tg) (b : BkX) : List D → BkX
  | [] => fun ρ => ret (.ok (.nx ρ))
  | d :: ds => fun ρ => bind (g d ρ) fun ρ' => bindX (b ρ') fun o => match o with
      | .nx ρ' => forLX g b ds ρ'
      | .ct ρ' => forLX g b ds ρ'
      | .bk ρ' => ret (.ok (.nx ρ'))
      | .rt d => ret (.ok (.rt d))
def forX (f : Rho → M (List D)) (g : Tg) (b : BkX) : BkX := fun ρ => bind (f ρ) fun items => forLX g b items ρ
theorem dsx_for {tg iter : Expr} {body : List Stmt} {pos : Pos} {f : Rho → M (List D)} {S : List Nat} {g : Tg} {b : BkX} (hp : PassesOwn (model X.prog X.w) X.A X.env X.xe) (hc : X.calm = true) (hi : DI cl X tg iter f) (hg : DG cl X tg S g) (hb : DSsX cl X E body b)
    (hs : ∀ x, foldedSetIterable iter X.env x = pure x := by intro _; rfl) : DSX cl X E (.For tg iter body [] pos) (forX f g b) :=
  PSw (ps_for hp hc hi hg hb hs) fun D σ H ⟨F, m, vh, ρ, w, r, q⟩ => by
    refine tI_bind w r q fun F1 m1 vh1 H1 items J w1 r1 g1 ok q1 => ?_
    obtain ⟨G, Y, wk, hG, hY⟩ := ok
    refine for_it wk (fun i σ H => ∃ F2 m2 vh2 ρ2, Post F1 m1 H1 F2 m2 H ∧ Wd cl F2 m2 vh2 H ∧ RS cl F2 m2 σ ρ2 ∧ Run cl F2 m2 H (forLX g b (items.drop i) ρ2 vh2) (kX cl (kO cl D) E)) ⟨F1, m1, vh1, ρ, .refl, w1, r1, q1⟩ ?_ ?_ ?_
    · rintro i σ H _ ⟨F2, m2, vh2, ρ2, g2, w2, r2, q2⟩
      exact hG F2 m2 vh2 H g2 w2
    · rintro i x σ H H' hi ⟨F2, m2, vh2, ρ2, g2, w2, r2, q2⟩ y
      obtain ⟨F3, d, p3, w3, e, rv⟩ := hY i H x H' F2 m2 vh2 hi g2.gr w2 y
      have q3 := Run.pre q2 p3
      rw [List.drop_eq_getElem_cons hi] at q3
      have ed : items[i] = d := by
        rw [List.getElem?_eq_getElem hi] at e
        exact Option.some.inj e
      rw [ed] at q3
      refine ⟨F3, m2, vh2, ρ2, d, w3, r2.mono p3.gr, rv, (Run.bind q3).mono fun F4 m4 vh4 H4 ρ4 p4 w4 q4 σ4 r4 _ _ => ?_⟩
      refine ⟨F4, m4, vh4, ρ4, w4, r4, (runX q4).mono fun F5 m5 vh5 H5 o p5 w5 q5 => ?_⟩
      have gg := g2.trans (p3.trans (p4.trans p5))
      cases o with
      | ex d => exact q5
      | ok o =>
        cases o with
        | nx ρ' => exact fun σ' r' => ⟨F5, m5, vh5, ρ', gg, w5, r', q5⟩
        | ct ρ' => exact fun σ' r' => ⟨F5, m5, vh5, ρ', gg, w5, r', q5⟩
        | bk ρ' => exact Run.ret (a := Rs.ok (Out.nx ρ')) q5 w5
        | rt d => exact Run.ret (a := Rs.ok (Out.rt d)) q5 w5
    · rintro σ H ⟨F2, m2, vh2, ρ2, g2, w2, r2, q2⟩
      rw [List.drop_length] at q2
      exact Run.ret (a := Rs.ok (Out.nx ρ2)) q2 w2 σ r2
/-! ### displays -/
abbrev denX (o : List D → M D) (fa : Rho → M (Rs (List D))) : Rho → M (Rs D) := fun ρ => bindX (fa ρ) fun a => bind (o a) fun d => ret (.ok d)
theorem dx_tup {es : List Expr} {k : Nat} {pos : Pos} {fs : Rho → M (Rs (List D))} (h : DAX cl X E es fs) : DEX cl X E (.Tuple es k pos) (denX mkTup fs) :=
  PEw (pe_tup h) fun σ H Q ⟨F, m, vh, ρ, w, r, q⟩ => tDsX_bind w r q fun F1 m1 vh1 H1 as vs w1 r1 g1 rvs q1 => by
    have q2 := Run.bind q1
    obtain ⟨hl, q2⟩ := run_if q2
    exact ⟨by rw [rvs.length]; exact le_line hl, fun p hp => runNewTup (q2.mono fun F2 m2 vh2 H2 a p w2 q3 => Run.ret (a := Rs.ok a) q3 w2) w1 rvs hp⟩
end
end VL

/-! VX2: try with several clauses, with names and without -/
namespace VL
open PySem PySem.Spec PyProof.Rows L2
abbrev SuT := Addr → Value → Option Addr → TS
/-- where a suite's ends lead, once the name in slot i is gone -/
def gone (i : Nat) (D : Ends) : Ends := { nx := fun σ H => D.nx (σ.set i none) H, rt := D.rt, bk := fun σ H => D.bk (σ.set i none) H, ct := fun σ H => D.ct (σ.set i none) H }
/-- a clause: its class, the slot of its name, its suite's reading -/
structure Cla where
  c : Value
  i : Option Nat
  ts : SuT
def Cla.go (h : Cla) (D : Ends) (x : Addr) (cls : Value) (dx : Option Addr) (σ : Sl) (H : Hp) : Prop := match h.i with
  | some i => h.ts x cls dx (gone i D) (σ.set i (some (.ref x))) H
  | none => h.ts x cls dx D σ H
def wMix (K : PySem.W.Frag) (D : Ends) : List Cla → WX
  | [] => fun _ _ _ _ => False
  | h :: r => fun cls dx σ H => ∃ b, PySem.W.exmOne K cls h.c = some b ∧ (b = true → ∀ x, H x = none → h.go D x cls dx σ H) ∧ (b = false → wMix K D r cls dx σ H)
inductive ClasOk (X : Cx) : List ExceptHandler → List Cla → Prop
  | nil : ClasOk X [] []
  | bare {x : Str} {c : Value} {ts : SuT} {b : Stmt} {bs : List Stmt} {p q : Pos} {hs : List ExceptHandler} {l : List Cla} (n : Names X x c)
      (ok : ∀ (y : Addr) (oy : Obj) (cls : Value) (dx : Option Addr) (pn : List (Addr × Obj)), Zc cls dx oy → (∃ vs, oy.data = .fields vs) → PSs (X.suite y ((y, oy) :: pn)) (b :: bs) (ts y cls dx)) (r : ClasOk X hs l) :
      ClasOk X (.ExceptHandler (some (.Name x p)) none (b :: bs) q :: hs) (⟨c, none, ts⟩ :: l)
  | named {x nm : Str} {c : Value} {i : Nat} {ts : SuT} {b : Stmt} {bs : List Stmt} {p q : Pos} {hs : List ExceptHandler} {l : List Cla} (n : Names X x c) (hi : X.N[i]? = some nm) (hl : X.env.kindOf nm = some .local)
      (ok : ∀ (y : Addr) (oy : Obj) (cls : Value) (dx : Option Addr) (pn : List (Addr × Obj)), Zc cls dx oy → (∃ vs, oy.data = .fields vs) → PSs (X.suite y ((y, oy) :: pn)) (b :: bs) (ts y cls dx)) (r : ClasOk X hs l) :
      ClasOk X (.ExceptHandler (some (.Name x p)) (some nm) (b :: bs) q :: hs) (⟨c, some i, ts⟩ :: l)
section
variable {X : Cx} {body : List Stmt} {hh : ExceptHandler} {hs : List ExceptHandler} {l : List Cla} {pos : Pos} {tb : WX → TS}
theorem ps_try_mix (st : X.stack = X.env :: X.outer) (fr : X.env.frame = some X.env.locals) (nd : X.N.Nodup)
    (hb : ∀ (W : WX) (pn : List (Addr × Obj)) (xe : Value → Shared → Prop), L2.Takes (X.tr pn xe) W → PassesOwn (model X.prog X.w) X.A X.env xe → PSs (X.tr pn xe) body (tb W))
    (ok : ClasOk X (hh :: hs) l) : PS X (.Try body (hh :: hs) [] [] pos) (fun D σ H => tb (wMix X.K D l) D σ H) := by
  refine ⟨fun pz sz σ H D Iz qz => wpAny_Try_except ?_⟩
  have top : X.A.frames = some (X.env :: X.outer) := Iz.ok.frames.trans (by rw [st])
  refine wpAny_mono ((hb (wMix X.K D l) (X.pn ++ pz) (fun u s1 => wpAny (model X.prog X.w) X.A (noteFrame u X.env) (fun _ s2 => wpAny (model X.prog X.w) X.A (setFlight u none) (fun _ s3 =>
    wpAny (model X.prog X.w) X.A (handleBy u X.env (hh :: hs)) (SP X pz D) X.xe s3) X.xe s2) X.xe s1) ?caught PassesOwn.looking).run [] sz σ H D (Iz.toTry _) qz) ?behind (fun u s1 z => z)
  case behind =>
    intro fl s1 z
    cases fl with
    | ret u =>
      obtain ⟨v1, σ1, G1, I1, r1, z1⟩ := z
      exact ⟨v1, σ1, G1, I1.ofTry Iz.ok, r1, z1⟩
    | next =>
      obtain ⟨σ1, G1, I1, z1⟩ := z
      exact wpAny_execs_nil ⟨σ1, G1, I1.ofTry Iz.ok, z1⟩
    | brk =>
      obtain ⟨σ1, G1, I1, z1⟩ := z
      exact ⟨σ1, G1, I1.ofTry Iz.ok, z1⟩
    | cont =>
      obtain ⟨σ1, G1, I1, z1⟩ := z
      exact ⟨σ1, G1, I1.ofTry Iz.ok, z1⟩
  case caught =>
    intro u s1 air
    obtain ⟨x, B, s0, p0, σ1, G1, cls, dx, rfl, I0, nb, up, sky, nx, os, ag, w⟩ := air
    have I1 : Inv X pz σ1 G1 s0 := I0.ofTry Iz.ok
    show wpAny (model X.prog X.w) X.A (noteFrame (.ref x) X.env) _ _ _
    refine Sky.land (B := B) Zc.steady top fr (by rw [← st]; exact sky) fun h3 fly up3 => ?_
    have I3 : Inv X pz σ1 G1 { s1 with heap := h3 } := I1.landed nb fly.1 (up.trans up3) os ag
    obtain ⟨o3, v3, e3, z3, d3⟩ := fly.there
    have notin : x ∉ frs (X.env :: X.outer) := fun hm => by
      obtain ⟨_, o, e, ne⟩ := fly.2.2.1.mem hm
      rw [e3] at e
      cases e
      exact ne _ d3
    have nL : x ≠ X.env.locals := fun z => notin (List.mem_filterMap.mpr ⟨X.env, List.mem_cons_self, by rw [fr, z]⟩)
    have nF : x ∉ X.fs := fun hm => by
      obtain ⟨e, he, z⟩ := List.mem_filterMap.mp hm
      exact notin (List.mem_filterMap.mpr ⟨e, List.mem_cons_of_mem _ he, z⟩)
    have T3 := I3.suite e3 d3 nx nL nF
    have looks : PySem.W.Looks (model X.prog X.w) h3 (typeOf (.ref x)) cls := fun A Q E s k z => wpAny_typeOf_ref (k _ _ e3) (by rw [z3.1]; exact z)
    have named : ∀ {y : Str} {c : Value} {p : Pos} {Q E : Value → Shared → Prop}, Names X y c → Q c { s1 with heap := h3 } → wpAny (model X.prog X.w) (X.A.mark (some (.ref x))) (eval (.Name y p) X.env) Q E { s1 with heap := h3 } := fun {y c p Q E} n z => by
      obtain ⟨hg, hdb, hm | ⟨hm, hv, hn⟩⟩ := n
      · exact ld_glob (X := X.suite x ((x, o3) :: (X.pn ++ pz))) T3 hg hm z hdb
      · exact ld_blt (X := X.suite x ((x, o3) :: (X.pn ++ pz))) T3 hg hm hv z hn hdb
    have go : ∀ {hs : List ExceptHandler} {l : List Cla}, ClasOk X hs l → wMix X.K D l cls dx σ1 G1 → wpAny (model X.prog X.w) X.A (handleBy (.ref x) X.env hs) (SP X pz D) X.xe { s1 with heap := h3 } := by
      intro hs l k
      induction k with
      | nil => exact fun w => w.elim
      | @bare y c ts b bs p q hs l n ok r ih =>
        rintro ⟨t, e1, yes, no⟩
        refine wpAny_handleBy_cons (codeAny_handlers_test (named n ((PySem.W.exm_one (M := model X.prog X.w) I3.kIn looks e1).here ?_))) (fun z => nomatch z)
        cases t with
        | false =>
          show wpAny _ X.A (handleBy (.ref x) X.env hs) _ _ _
          exact ih (no rfl)
        | true =>
          refine codeAny_handlers_suite (HandSPX.lands_againZ fly fun h4 fly4 up4 => ?_)
          obtain ⟨o4, v4, e4, z4, d4⟩ := fly4.there
          have T4 := (I1.landed nb fly4.1 ((up.trans up3).trans up4) os ag : Inv X pz σ1 G1 { s1 with heap := h4 }).suite e4 d4 nx nL nF
          refine wpAny_mono ((ok x o4 cls dx (X.pn ++ pz) z4 ⟨_, d4⟩).run [] _ _ G1 _ T4 (yes rfl x nx)) (fun fl s6 z => ?_) (fun _ _ z => False.elim z)
          cases fl with
          | ret u =>
            obtain ⟨v6, σ6, G6, T6, r6, z6⟩ := z
            exact ⟨_, _, _, T6.unsuite Iz.ok, r6, z6⟩
          | next =>
            obtain ⟨σ6, G6, T6, z6⟩ := z
            exact ⟨_, _, T6.unsuite Iz.ok, z6⟩
          | brk =>
            obtain ⟨σ6, G6, T6, z6⟩ := z
            exact ⟨_, _, T6.unsuite Iz.ok, z6⟩
          | cont =>
            obtain ⟨σ6, G6, T6, z6⟩ := z
            exact ⟨_, _, T6.unsuite Iz.ok, z6⟩
      | @named y nm c i ts b bs p q hs l n hi hl ok r ih =>
        rintro ⟨t, e1, yes, no⟩
        refine wpAny_handleBy_cons (codeAny_handlers_test (named n ((PySem.W.exm_one (M := model X.prog X.w) I3.kIn looks e1).here ?_))) (fun z => nomatch z)
        cases t with
        | false =>
          show wpAny _ X.A (handleBy (.ref x) X.env hs) _ _ _
          exact ih (no rfl)
        | true =>
          refine codeAny_handlers_suite_as (HandSPX.lands_againZ fly fun h4 fly4 up4 => ?_)
          obtain ⟨o4, v4, e4, z4, d4⟩ := fly4.there
          have T4 := (I1.landed nb fly4.1 ((up.trans up3).trans up4) os ag : Inv X pz σ1 G1 { s1 with heap := h4 }).suite e4 d4 nx nL nF
          refine store_ok (X := X.suite x ((x, o4) :: (X.pn ++ pz))) (v := V.ref x) T4 nd hi (Or.inl hl) rfl (fun s5 T5 => ?_) (Or.inr hl)
          have fin : ∀ {s6 : Shared} {σ6 : Sl} {G6 : Hp} {Q : Shared → Prop}, Inv (X.suite x ((x, o4) :: (X.pn ++ pz))) [] σ6 G6 s6 → (∀ s7, Inv X pz (σ6.set i none) G6 s7 → Q s7) →
              wpAny (model X.prog X.w) X.A (do bindName X.env nm .none; unbindBehindTheSuite X.env nm q) (fun _ s7 => Q s7) X.xe s6 := fun {s6 σ6 G6 Q} T6 z => gone_ok (T6.unsuite Iz.ok) nd hi hl z
          refine wpAny_mono ((ok x o4 cls dx (X.pn ++ pz) z4 ⟨_, d4⟩).run [] s5 _ G1 _ T5 (yes rfl x nx)) (fun fl s6 z => ?_) (fun _ _ z => False.elim z)
          cases fl with
          | ret u =>
            obtain ⟨v6, σ6, G6, T6, r6, z6⟩ := z
            exact fin T6 fun s7 I7 => ⟨_, _, _, I7, r6, z6⟩
          | next =>
            obtain ⟨σ6, G6, T6, z6⟩ := z
            exact fin T6 fun s7 I7 => ⟨_, _, I7, z6⟩
          | brk =>
            obtain ⟨σ6, G6, T6, z6⟩ := z
            exact fin T6 fun s7 I7 => ⟨_, _, I7, z6⟩
          | cont =>
            obtain ⟨σ6, G6, T6, z6⟩ := z
            exact fin T6 fun s7 I7 => ⟨_, _, I7, z6⟩
    exact go ok w
end
end VL

/-! VX3: raise; defs, methods, makings that may raise -/
namespace VL
open PySem PySem.Spec PyProof.Rows L2
/-- what a def promises that may raise -/
def spDX (cl : Cn) (n : Nat) (den : List D → M (Rs D)) : Sp := fun vs H Q E => ∃ F m vh ds, vs.length = n ∧ Wd cl F m vh H ∧ Reps cl F m vs ds ∧ Run cl F m H (den ds vh) (kX cl (kV' cl Q) E)
def denCX (n : Nat) (den : List D → M (Rs D)) (as : List D) : M (Rs D) := if as.length = n then den as else fail
abbrev callX (o : List D → M (Rs D)) (fa : Rho → M (Rs (List D))) : Rho → M (Rs D) := fun ρ => bindX (fa ρ) fun a => o a
def denFX (n : Nat) (g : BkX) (ds : List D) : M (Rs D) := bindX (g (ds.map some ++ List.replicate (n - ds.length) none)) fun o => match o with
  | .nx _ => ret (.ok .non)
  | .rt d => ret (.ok d)
  | _ => fail
/-- C(..) where __init__ may raise -/
def mkDX (c : Nat) (n : Nat) (den : List D → M (Rs D)) (as : List D) : M (Rs D) := fun vh => match denCX n den (.ref vh.length :: as) (vh ++ [some (.obj c [] [])]) with
  | some (.ok .non, vh') => bind (still (.ref vh.length)) (fun d => ret (.ok d)) vh'
  | some (.ex d, vh') => some (.ex d, vh')
  | _ => none
def omethDX (c : Nat) (mt : Str) (n : Nat) (den : List D → M (Rs D)) (fo : Rho → M D) (fs : Rho → M (Rs (List D))) : Rho → M (Rs D) := fun ρ => bind (fo ρ) fun d => fun vh => match objV c vh d with
  | some (ns, vs) => match lookupF ns vs mt with
    | none => bindX (fs ρ) (fun as => denCX n den (d :: as)) vh
    | some _ => none
  | none => none
/-- raise C(e) -/
def raiseX (c : Nat) (f : Str) (fs : Rho → M (List D)) : BkX := fun ρ => bind (fs ρ) fun as => match as with
  | [d] => ret (.ex (.exc c [f] [d]))
  | _ => fail
structure CalE (P : Program) (w : World) (K : PySem.W.Frag) (mg : Str → Option Value) (base : Heap) (cl : Cn) (x : Str) (k n : Nat) (den : List D → M (Rs D)) : Prop where
  ex : ∃ (f : Addr) (fd : FuncData) (ps : List Str), mg x = some (.ref f) ∧ PySem.W.keepIn K (.ref f) = true ∧ FnOk P w K mg base (L2.CX P w) k f fd ps (spDX cl n den) ∧ L2.Binds K fd ps []
structure CalEM (P : Program) (w : World) (K : PySem.W.Frag) (mg : Str → Option Value) (base : Heap) (cl : Cn) (C : Addr) (x : Str) (k n : Nat) (den : List D → M (Rs D)) : Prop where
  ex : ∃ (f : Addr) (fd : FuncData) (ps : List Str), PySem.W.findIn K (.ref C) x = some (some (.ref f)) ∧ PySem.W.isFn K (.ref f) = true ∧ PySem.W.keepIn K (.ref f) = true ∧ FnOk P w K mg base (L2.CX P w) k f fd ps (spDX cl n den) ∧ L2.Binds K fd ps []
section
variable {X : Cx} {cl : Cn} {K : PySem.W.Frag} {F F' F1 F2 : Hp} {m m' m1 m2 : List Addr} {H H' H1 H2 : Hp} {vh vh1 : VH} {ρ : Rho} {σ : Sl} {E : XK}
theorem passE (tk : Tk X E) : Passes (L2.CX X.prog X.w) X E := L2.passes_call tk fun _ _ _ _ h => h
theorem len2 {P : Program} {w : World} {K : PySem.W.Frag} {mg : Str → Option Value} {base : Heap} {k : Nat} {fI C : Addr} {fd : FuncData} {ps : List Str} {f : Str} (F1 : FnOk P w K mg base CX0 k fI fd ps (spX C f)) : ps.length = 2 := by
  have z := F1.len [.ref 0, .non] (fun a => if a = 0 then some (exo 0 C none) else none) (fun _ _ => True) E0 ⟨0, .non, rfl, if_pos rfl, fun _ _ _ => True.intro⟩
  exact z.symm
theorem heapX {a dx : Addr} {o1 o2 o3 o4 : HO} (ha : H a = none) (hd : dx ≠ a) : upd (del (upd (upd (upd H a o1) dx o2) a o3) a) dx o4 = upd H dx o4 := by
  funext b
  by_cases h1 : b = dx
  · subst h1
    rw [upd_same, upd_same]
  · rw [upd_ne h1, upd_ne h1]
    by_cases h2 : b = a
    · subst h2
      rw [del_same, ha]
    · rw [del_ne h2, upd_ne h2, upd_ne h1, upd_ne h2]
theorem dsx_raise {x f nm : Str} {c : Nat} {p pos pos' : Pos} {e : Expr} {fs : Rho → M (List D)} (C : CalX X.prog X.w X.K X.mg X.base (cl c) f nm) (hm : X.mg x = some (.ref (cl c))) (hr : Room 2 X.A) (tk : Tk X E) (hc : X.calm = true) (ha : DA cl X [e] fs) (hg : Gl X x := by rfl)
    (hdb : (x == ("__debug__" : Str)) = false := by decide) (he : starEach [e] X.env = (false, eval e X.env) :: starEach [] X.env := by rfl) (hpl : (backTo pos (starEach [] X.env)).any (·.1) = false := by rfl) :
    DSX cl X E (.Raise (some (.Call (.Name x p) [e] [] pos)) none pos') (raiseX c f fs) := by
  obtain ⟨fI, fd, ps, Ek, F1, b1, b2⟩ := C.ex
  have l2 := len2 F1
  have bb : L2.Binds X.K fd ps [] := fun s us hk hl => by
    rw [List.append_nil] at hl ⊢
    match us, hl.trans l2 with
    | [u, v], _ => exact b1 s u v hk
  refine PSw (L2.ps_raise hc tk (pmk_oex Ek.T Ek.iC Ek.tI F1 hr bb .nil pass0 hg hm ha hdb he hpl)) fun D σ H ⟨F, m, vh, ρ, w, r, q⟩ => ?_
  refine tDs_bind w r q fun F1 m1 vh1 H1 as vs w1 r1 g1 rvs q1 => ?_
  split at q1
  · obtain ⟨y, rfl, ry⟩ := reps1 rvs
    refine ⟨by simp, fun a na => ⟨a, y, rfl, upd_same, fun dx h1 h2 => ?_⟩⟩
    rw [upd_ne h2] at h1
    refine ⟨rfl, dx, [(f, y)], upd_same, by rw [upd_ne h2, upd_same], h1, ?_⟩
    rw [heapX na h2]
    obtain ⟨w2, p2⟩ := w1.frozen (o := .xd [(f, y)]) h1
    exact q1 _ _ _ p2 w2 _ _ (.own (fs := [(f, y)]) upd_same (.cons (ry.mono p2.gr) .nil))
  · exact False.elim q1
/-! ### calls -/
theorem tCallDX {n : Nat} {den : List D → M (Rs D)} {fs : Rho → M (Rs (List D))} {Q : VK} (h : tDX cl E (callX (denCX n den) fs) σ H Q) : tCall (spDX cl n den) [] E (tDsX cl E fs) σ H Q := by
  obtain ⟨F, m, vh, ρ, w, r, q⟩ := h
  refine tDsX_bind w r q fun F1 m1 vh1 H1 as vs w1 r1 g1 rvs q1 => ?_
  obtain ⟨hl, q1⟩ := run_if q1
  exact ⟨F1, m1, vh1, as, by rw [List.append_nil, rvs.length, hl], w1, by rw [List.append_nil]; exact rvs, q1⟩
section
variable {x : Str} {p pos apos : Pos} {e o : Expr} {es : List Expr} {fo : Rho → M D} {fs : Rho → M (Rs (List D))} {k n : Nat} {den : List D → M (Rs D)}
theorem eF (C : CalE X.prog X.w X.K X.mg X.base cl x k n den) (hr : Room k X.A) (tk : Tk X E) (ha : DAX cl X E (e :: es) fs) (hg : Gl X x := by rfl) (hdb : (x == ("__debug__" : Str)) = false := by decide)
    (hs : starEach (e :: es) X.env = (false, eval e X.env) :: starEach es X.env := by rfl) (hpl : (backTo pos (starEach es X.env)).any (·.1) = false := by rfl) : DEX cl X E (.Call (.Name x p) (e :: es) [] pos) (callX (denCX n den) fs) := by
  obtain ⟨f, fd, ps, hm, kp, Fo, hb⟩ := C.ex
  exact PEw (pe_call Fo hr hg hm kp hb .nil (passE tk) ha hdb hs hpl) fun σ H Q h => tCallDX h
theorem eM {c : Nat} {mt : Str} {pl : Sem Bool} (C : CalEM X.prog X.w X.K X.mg X.base cl (cl c) mt k n den) (hc : Cls X.K (cl c)) (hr : Room k X.A) (tk : Tk X E) (ho : DE cl X o fo) (ha : DAX cl X E (e :: es) fs)
    (hs : starEach (e :: es) X.env = (false, eval e X.env) :: starEach es X.env := by rfl) (hpl : (backTo pos (starEach es X.env)).any (·.1) = false := by rfl)
    (ht : eval (.Call (.Attribute o mt apos) (e :: es) [] pos) X.env = (do
      let ov ← eval o X.env
      standAt apos.atName
      let (f, first) ← holding [ov] (getMethod ov mt pl)
      callWith pos f first (backTo pos (starEach (e :: es) X.env)) (backToKw pos (keywordEach [] X.env))) := by rfl) : DEX cl X E (.Call (.Attribute o mt apos) (e :: es) [] pos) (omethDX c mt n den fo fs) := by
  obtain ⟨f, fd, ps, hi, hf, kp, Fo, hb⟩ := C.ex
  refine PEw (pe_meth (pl := pl) ho hc ⟨hi, hf, kp⟩ Fo hr hb .nil (passE tk) ha hs hpl ht) fun σ H Q ⟨F, m, vh, ρ, w, r, q⟩ => tD_bind w r q fun F1 m1 vh1 H1 a v w1 r1 g1 rv q1 => ?_
  cases e1 : objV c vh1 a with
  | none => simp only [e1] at q1; exact False.elim q1
  | some y =>
    obtain ⟨ns, vs⟩ := y
    simp only [e1] at q1
    cases e2 : lookupF ns vs mt with
    | some _ => simp only [e2] at q1; exact False.elim q1
    | none =>
      simp only [e2] at q1
      obtain ⟨b, dx, fs', rfl, hp, ek, ru⟩ := w1.objV rv e1
      subst ek
      refine ⟨b, dx, fs', rfl, hp, (lookupF_rep ru).2 e2, tDsX_bind w1 r1 q1 fun F2 m2 vh2 H2 as vs w2 r2 g2 rvs q2 => ?_⟩
      obtain ⟨hl, q2⟩ := run_if q2
      have rr : Reps cl F2 m2 (.ref b :: (vs ++ [])) (a :: as) := .cons (rv.mono g2) (by rw [List.append_nil]; exact rvs)
      exact ⟨F2, m2, vh2, a :: as, by rw [rr.length, hl], w2, rr, q2⟩
theorem runMakeX {c n : Nat} {den : List D → M (Rs D)} {as : List D} {vs : List V} {Q : VK} (w : Wd cl F m vh H) (r : Reps cl F m vs as) (q : Run cl F m H (mkDX c n den as vh) (kX cl (kV' cl Q) E)) {x dx : Addr} (nx : H x = none) (ndx : H dx = none) (hne : dx ≠ x) :
    spDX cl n den (.ref x :: (vs ++ [])) (upd (upd H dx (.own x)) x (.ins (cl c) dx [])) (fun v H2 => v = .non ∧ Q (.ref x) H2) E := by
  obtain ⟨w1, p1⟩ := w.extra (o := .own x) ndx
  have nx1 : (upd H dx (.own x)) x = none := by rw [upd_ne (Ne.symm hne)]; exact nx
  have z := w1.grown (u := .ins (cl c) dx []) (o := .obj c [] []) nx1 fun P => ⟨dx, [], upd_same, rfl, .nil⟩
  have hlen : m.length = vh.length := w.len
  have hx : (m ++ [x])[vh.length]? = some x := at_snoc hlen
  have rs : Reps cl F (m ++ [x]) (.ref x :: (vs ++ [])) (.ref vh.length :: as) := .cons (.ref hx) (by rw [List.append_nil]; exact r.mono (p1.gr.trans z.2.gr))
  unfold mkDX at q
  cases e : denCX n den (.ref vh.length :: as) (vh ++ [some (.obj c [] [])]) with
  | none => rw [e] at q; exact False.elim q
  | some y =>
    obtain ⟨d, vh'⟩ := y
    have hlA : (D.ref vh.length :: as).length = n := by
      unfold denCX at e
      split at e
      · assumption
      · cases e
    have e' : den (.ref vh.length :: as) (vh ++ [some (.obj c [] [])]) = some (d, vh') := by
      unfold denCX at e
      rw [if_pos hlA] at e
      exact e
    rw [e] at q
    refine ⟨F, m ++ [x], _, _, by rw [rs.length, hlA], z.1, rs, ?_⟩
    rw [e']
    cases d with
    | ex d =>
      intro F2 m2 H2 p2 w2
      exact q F2 m2 H2 ((p1.trans z.2).trans p2) w2
    | ok d =>
      cases d with
      | non =>
        intro F2 m2 H2 p2 w2 v rv
        refine ⟨rep_non rv, ?_⟩
        have q2 : Run cl F m H (bind (still (.ref vh.length)) (fun d => ret (.ok d)) vh') (kX cl (kV' cl Q) E) := q
        exact fin_still w2 (p2.gr.pre _ _ hx) rfl ((Run.bind (Run.pre q2 ((p1.trans z.2).trans p2))).mono fun F3 m3 vh3 H3 a p3 w3 q3 => Run.ret (a := Rs.ok a) q3 w3)
      | _ => exact False.elim q
theorem eN {c : Nat} (C : CalEM X.prog X.w X.K X.mg X.base cl (cl c) "__init__" k n den) (hk : PySem.W.makesIn X.K (cl c) = true) (kc : PySem.W.keepIn X.K (.ref (cl c)) = true) (hm : X.mg x = some (.ref (cl c))) (hr : Room (k + 1) X.A) (tk : Tk X E) (ha : DAX cl X E (e :: es) fs) (hg : Gl X x := by rfl)
    (hdb : (x == ("__debug__" : Str)) = false := by decide) (hs : starEach (e :: es) X.env = (false, eval e X.env) :: starEach es X.env := by rfl) (hpl : (backTo pos (starEach es X.env)).any (·.1) = false := by rfl) : DEX cl X E (.Call (.Name x p) (e :: es) [] pos) (callX (mkDX c n den) fs) := by
  obtain ⟨f, fd, ps, hi, hf, kp, Fo, hb⟩ := C.ex
  exact PEw (pe_make ⟨hk, hi, hf, kc⟩ Fo hr hg hm hb .nil (passE tk) ha hdb hs hpl) fun σ H Q ⟨F, m, vh, ρ, w, r, q⟩ => tDsX_bind w r q fun F1 m1 vh1 H1 as vs w1 r1 g1 rvs q1 => fun x dx nx ndx hne => runMakeX w1 rvs q1 nx ndx hne
end
end
section
variable {P : Program} {w : World} {cl : Cn} {K : PySem.W.Frag} {mg : Str → Option Value} {base : Heap}
theorem fn_DX {x qual : Str} {st : Stmt} {f : Addr} {fd : FuncData} {N ps : List Str} {k : Nat} {g : BkX} (Fu : Fun K x qual st f fd) (S : FnScope N ps (defScope st))
    (hb : ∀ (cdv : Value) (A : Around) (outer : List Env) (s : Shared) (H : Hp) (E : XK), Room k (A.deeper (envOfC qual (defScope st) s.heap.objs.size f cdv)) → Tk (cxOf (L2.CX P w) P w K mg base N qual (defScope st) f cdv A outer s H E) E →
      DSsX cl (cxOf (L2.CX P w) P w K mg base N qual (defScope st) f cdv A outer s H E) E (defBody st) g) :
    FnOk P w K mg base (L2.CX P w) (k + 1) f fd ps (spDX cl ps.length (denFX N.length g)) := by
  refine Fu.okX S (fun vs H Q E h => ?_) (fun cdv A outer s H vs Q E hr h => ?_)
  · obtain ⟨_, _, _, _, e, _⟩ := h
    exact e
  · obtain ⟨F, m, vh, ds, e, wd, r, q⟩ := h
    refine ⟨_, hb cdv A outer s H E hr (L2.takes_of rfl rfl rfl rfl), F, m, vh, _, wd, rs_start N r, (runX q).mono fun F1 m1 vh1 H1 o p w1 q1 => ?_⟩
    cases o with
    | ex d => exact q1
    | ok o =>
      cases o with
      | nx ρ => exact fun σ' _ => Run.ret (a := Rs.ok D.non) q1 w1 _ .non
      | rt d => exact Run.ret (a := Rs.ok d) q1 w1
      | bk ρ => exact False.elim q1
      | ct ρ => exact False.elim q1
end
end VL

/-! VX4: a def that calls what it is handed and tells what is raised; x(lambda: e) -/
namespace VL
open PySem PySem.Spec PyProof.Rows L2
/-- a clause: found = (tag, e.f), or found = (tag, None); e is slot 2, found slot 1 -/
structure Hd where
  c : Nat
  tag : Str
  f : Option Str
def handD (h : Hd) (e : D) : M D := match h.f with
  | some f => bind (fldX h.c f e) fun v => mkTup [.str h.tag, v]
  | none => mkTup [.str h.tag, .non]
def pickD : List Hd → D → M D
  | [], _ => fail
  | h :: r, .exc c ns vs => if c = h.c then handD h (.exc c ns vs) else pickD r (.exc c ns vs)
  | _ :: _, _ => fail
/-- found = None; try: (found =) wrap(ask()) except ..; return found -/
def triedD (wrap : D → M D) (hs : List Hd) (ask : M (Rs D)) : M D := bind ask fun r => match r with
  | .ok d => wrap d
  | .ex e => pickD hs e
def suitT (cl : Cn) (h : Hd) : SuT := fun x cls dx => match h.f with
  | some f => tAsg (tTup (tCons (tC (V.str h.tag)) (tCons (tXf x cls dx (cl h.c) f (tVar 2)) tNil))) (gName 1)
  | none => tAsg (tTup (tCons (tC (V.str h.tag)) (tCons (tC V.non) tNil))) (gName 1)
def claT (cl : Cn) (h : Hd) : Cla := ⟨.ref (cl h.c), h.f.map fun _ => 2, suitT cl h⟩
section
variable {X : Cx} {cl : Cn} {K : PySem.W.Frag} {F F' F1 F2 : Hp} {m m' m1 m2 : List Addr} {H H' H1 H2 : Hp} {vh vh1 : VH} {ρ : Rho} {σ : Sl} {E : XK}
theorem takes_len {W : WX} (tk : L2.Takes X W) : L2.Takes X (fun cls d σ H => σ.length = X.N.length → W cls d σ H) := fun u s' ⟨a, B, sI, pins, σ, H, cls, d, e, I, h1, h2, h3, h4, h5, h6, w⟩ => tk u s' ⟨a, B, sI, pins, σ, H, cls, d, e, I, h1, h2, h3, h4, h5, h6, w I.len⟩
/-- what follows the clauses: the name in slot 1 is returned -/
def backT (Q : VK) : Ends := { nx := fun σ H => ∃ v, σ[1]? = some (some v) ∧ Q v H, rt := Q }
theorem set1 {σ : Sl} {v : Option V} (h : σ.length = 3) : (σ.set 1 v)[1]? = some v := List.getElem?_set_self (by omega)
theorem set2 {σ : Sl} {v : Option V} (h : σ.length = 3) : (σ.set 2 v)[2]? = some v := List.getElem?_set_self (by omega)
theorem hand_ok {h : Hd} {Q : VK} {cls : Value} {dx : Option Addr} {c : Nat} {ns : List Str} {vs : List D} (w : Wd cl F m vh H) (r : RepX cl F m cls dx (.exc c ns vs)) (hc : c = h.c) (hl : σ.length = 3) (q : Run cl F m H (handD h (.exc c ns vs) vh) (kV' cl Q)) (x : Addr) :
    (claT cl h).go (backT Q) x cls dx σ H := by
  obtain ⟨hc', tag, f⟩ := h
  dsimp only at hc
  subst hc
  cases f with
  | none =>
    have q : Run cl F m H (mkTup [.str tag, .non] vh) (kV' cl Q) := q
    obtain ⟨_, q⟩ := run_if q
    show tAsg (tTup (tCons (tC (V.str tag)) (tCons (tC V.non) tNil))) (gName 1) (backT Q) σ H
    exact ⟨le_line (by show 2 ≤ 16777216; decide), fun p hp => ⟨_, set1 hl, runNewTup q w (.cons (.str tag) (.cons .non .nil)) hp⟩⟩
  | some f =>
    have q : Run cl F m H (bind (fldX c f (.exc c ns vs)) (fun v => mkTup [.str tag, v]) vh) (kV' cl Q) := q
    show tAsg (tTup (tCons (tC (V.str tag)) (tCons (tXf x cls dx (cl c) f (tVar 2)) tNil))) (gName 1) (gone 2 (backT Q)) (σ.set 2 (some (.ref x))) H
    have q2 := Run.bind q
    unfold fldX at q2
    simp only [if_true] at q2
    cases e : lookupF ns vs f with
    | none => rw [e] at q2; exact False.elim q2
    | some d =>
      rw [e] at q2
      have q3 : Run cl F m H (mkTup [.str tag, d] vh) (kV' cl Q) := q2 F m H .refl w
      obtain ⟨_, q3⟩ := run_if q3
      cases r with
      | bare => unfold lookupF at e; cases e
      | own h1 rs =>
        obtain ⟨u, l, ru⟩ := (lookupF_rep (j := f) rs).1 d e
        refine ⟨_, set2 hl, rfl, rfl, _, _, u, rfl, w.ext _ _ h1 (fun _ z => by cases z), l, le_line (by show 2 ≤ 16777216; decide), fun p hp => ?_⟩
        have hl2 : (σ.set 2 (some (V.ref x))).length = 3 := by rw [List.length_set, hl]
        refine ⟨.ref p, ?_, runNewTup q3 w (.cons (.str tag) (.cons ru .nil)) hp⟩
        show (List.set (List.set (List.set σ 2 _) 1 _) 2 none)[1]? = _
        rw [List.getElem?_set_ne (by decide)]
        exact set1 hl2
theorem pick_ok {Q : VK} {cls : Value} {dx : Option Addr} {e : D} (w : Wd cl F m vh H) (r : RepX cl F m cls dx e) (hl : σ.length = 3) : ∀ {hs : List Hd}, (∀ h ∈ hs, ∀ c ns vs, e = .exc c ns vs → PySem.W.exmOne K (.ref (cl c)) (.ref (cl h.c)) = some (decide (c = h.c))) →
    Run cl F m H (pickD hs e vh) (kV' cl Q) → wMix K (backT Q) (hs.map (claT cl)) cls dx σ H
  | [], _, q => False.elim q
  | h :: hs, hx, q => by
    have gen : ∀ c ns vs, e = .exc c ns vs → cls = .ref (cl c) → wMix K (backT Q) ((h :: hs).map (claT cl)) cls dx σ H := by
      intro c ns vs he hcls
      subst he
      have ex := hx h (List.mem_cons_self ..) c ns vs rfl
      unfold pickD at q
      subst hcls
      by_cases hc : c = h.c
      · rw [if_pos hc] at q
        refine ⟨true, by rw [decide_eq_true hc] at ex; exact ex, fun _ x _ => hand_ok w r hc hl q x, fun z => nomatch z⟩
      · rw [if_neg hc] at q
        refine ⟨false, by rw [decide_eq_false hc] at ex; exact ex, fun z => (nomatch z), fun _ => pick_ok w r hl (fun h' hh => hx h' (List.mem_cons_of_mem _ hh)) q⟩
    cases r with
    | own h1 rs => exact gen _ _ _ rfl rfl
    | bare => exact gen _ _ _ rfl rfl
/-- what the def asks of what it is handed -/
def TTv (cl : Cn) (tried : M (Rs D) → M D) : (XK → Hp → VK → Prop) → Hp → VK → Prop := fun tl H Q => ∃ F m vh ask, Wd cl F m vh H ∧
  (∀ E Fz mz vhz Hz Q', Post F m H Fz mz Hz → Wd cl Fz mz vhz Hz → Run cl Fz mz Hz (ask vhz) (kX cl (kV' cl Q') E) → tl E Hz Q') ∧ Run cl F m H (tried ask vh) (kV' cl Q)
/-- how the body of the try goes on behind the call -/
def askT (K : PySem.W.Frag) (cl : Cn) (hs : List Hd) (f c' : Addr) (q : Str) (tl : XK → Hp → VK → Prop) (go : Ends → Sl → V → Hp → Prop) (W : WX) : TS := fun D σ H =>
  ∃ Ech : XK, (∀ cls d σ' H', Ech cls d H' → σ'.length = 3 → W cls d σ' H') ∧ σ[0]? = some (some (.ref f)) ∧ H c' = some (LamX.CodeO c' q) ∧ tl Ech H (fun v H1 => go D σ v H1)
/-- ask() alone: found stays None -/
def goN : Ends → Sl → V → Hp → Prop := fun D σ _ H => D.nx σ H
/-- found = (tag, ask()) -/
def goT (tag : Str) : Ends → Sl → V → Hp → Prop := fun D σ v H => [V.str tag, v].length ≤ sizeLine ∧ ∀ p, H p = none → D.nx (σ.set 1 (some (.ref p))) (upd H p (.tup [.str tag, v]))
theorem pick_mem {c : Nat} {ns : List Str} {vs : List D} : ∀ {hs : List Hd} {vh : VH} {y : D × VH}, pickD hs (.exc c ns vs) vh = some y → ∃ h, h ∈ hs ∧ h.c = c
  | [], _, _, e => by cases e
  | h :: hs, vh, y, e => by
    unfold pickD at e
    by_cases hc : c = h.c
    · exact ⟨h, List.mem_cons_self .., hc.symm⟩
    · rw [if_neg hc] at e
      obtain ⟨k, hk, e⟩ := pick_mem e
      exact ⟨k, List.mem_cons_of_mem _ hk, e⟩
theorem tried_run {hs : List Hd} {f c' : Addr} {q : Str} {tl : XK → Hp → VK → Prop} {go : Ends → Sl → V → Hp → Prop} {wrap : D → M D} {Q : VK}
    (hgo : ∀ {F m vh H d v}, Wd cl F m vh H → Rep cl F m v d → Run cl F m H (wrap d vh) (kV' cl Q) → go (backT Q) [some (.ref f), some .non, none] v H)
    (hex : ∀ h ∈ hs, ∀ h' ∈ hs, PySem.W.exmOne K (.ref (cl h.c)) (.ref (cl h'.c)) = some (decide (h.c = h'.c))) (hc : H c' = some (LamX.CodeO c' q)) (h : TTv cl (triedD wrap hs) tl H Q) :
    askT K cl hs f c' q tl go (wMix K (backT Q) (hs.map (claT cl))) (backT Q) [some (.ref f), some .non, none] H := by
  obtain ⟨F, m, vh, ask, w, ha, hr⟩ := h
  refine ⟨fun cls d H' => ∀ σ' : Sl, σ'.length = 3 → wMix K (backT Q) (hs.map (claT cl)) cls d σ' H', fun cls d σ' H' z hl => z σ' hl, rfl, hc, ha _ F m vh H _ .refl w ((Run.bind hr).mono fun F1 m1 vh1 H1 r p w1 q1 => ?_)⟩
  cases r with
  | ok d => exact fun v rv => hgo w1 rv q1
  | ex e =>
    intro cls dx rx σ' hl
    refine pick_ok w1 rx hl (fun h hh c ns vs he => ?_) q1
    subst he
    cases ez : pickD hs (.exc c ns vs) vh1 with
    | none =>
      have q1 : Run cl F1 m1 H1 (pickD hs (.exc c ns vs) vh1) (kV' cl Q) := q1
      rw [ez] at q1
      exact False.elim q1
    | some y =>
      obtain ⟨k, hk, e⟩ := pick_mem ez
      subst e
      exact hex k hk h hh
theorem go_none {f : Addr} {Q : VK} {d : D} {v : V} (w : Wd cl F m vh H) (r : Rep cl F m v d) (q : Run cl F m H (ret D.non vh) (kV' cl Q)) : goN (backT Q) [some (.ref f), some .non, none] v H :=
  ⟨.non, rfl, Run.ret q w _ .non⟩
theorem go_tup {f : Addr} {Q : VK} {d : D} {v : V} {tag : Str} (w : Wd cl F m vh H) (r : Rep cl F m v d) (q : Run cl F m H (mkTup [.str tag, d] vh) (kV' cl Q)) : goT tag (backT Q) [some (.ref f), some .non, none] v H :=
  ⟨le_line (by show 2 ≤ 16777216; decide), fun p hp => ⟨_, rfl, runNewTup (run_if q).2 w (.cons (.str tag) (.cons r .nil)) hp⟩⟩
end
end VL

/-! VX5: tables of code objects in the world; x(lambda: e) -/
namespace VL
open PySem PySem.Spec PyProof.Rows L2
def tabsB : Nat → List Str → VH → Bool
  | _, [], _ => true
  | j, q :: qs, some (.tab i q') :: vh => decide (i = 200 + j) && decide (q' = q) && tabsB (j + 1) qs vh
  | _, _ :: _, _ => false
def tabT (cl : Cn) : Nat → List Str → List (Addr × Str)
  | _, [] => []
  | j, q :: qs => (cl (200 + j), q) :: tabT cl (j + 1) qs
theorem tabsB_at : ∀ {qs : List Str} {j k : Nat} {q : Str} {vh : VH}, tabsB j qs vh = true → qs[k]? = some q → vh[k]? = some (some (.tab (200 + (j + k)) q))
  | [], _, _, _, _, _, e => by simp at e
  | q0 :: qs, j, k, q, [], h, e => by simp [tabsB] at h
  | q0 :: qs, j, k, q, none :: vh, h, e => by simp [tabsB] at h
  | q0 :: qs, j, k, q, some (.lst _) :: vh, h, e => by simp [tabsB] at h
  | q0 :: qs, j, k, q, some (.lstL _) :: vh, h, e => by simp [tabsB] at h
  | q0 :: qs, j, k, q, some (.dct _ _) :: vh, h, e => by simp [tabsB] at h
  | q0 :: qs, j, k, q, some (.dctL _ _) :: vh, h, e => by simp [tabsB] at h
  | q0 :: qs, j, k, q, some (.obj _ _ _) :: vh, h, e => by simp [tabsB] at h
  | q0 :: qs, j, k, q, some (.tab i q') :: vh, h, e => by
    have h : (decide (i = 200 + j) && decide (q' = q0) && tabsB (j + 1) qs vh) = true := h
    simp only [Bool.and_eq_true, decide_eq_true_eq] at h
    obtain ⟨⟨h3, h4⟩, h5⟩ := h
    cases k with
    | zero =>
      simp at e
      subst e h3 h4
      rfl
    | succ k =>
      have z := tabsB_at (k := k) h5 (by simpa using e)
      rw [List.getElem?_cons_succ, z, show j + 1 + k = j + (k + 1) by omega]
theorem tabT_at {cl : Cn} : ∀ {qs : List Str} {j : Nat} {p : Addr × Str}, p ∈ tabT cl j qs → ∃ k, qs[k]? = some p.2 ∧ p.1 = cl (200 + (j + k))
  | [], _, _, h => by cases h
  | q :: qs, j, p, h => by
    rcases List.mem_cons.mp h with rfl | h
    · exact ⟨0, rfl, rfl⟩
    · obtain ⟨k, h1, h2⟩ := tabT_at h
      exact ⟨k + 1, by simpa using h1, by rw [h2, show j + 1 + k = j + (k + 1) by omega]⟩
theorem tabT_mem {cl : Cn} : ∀ {qs : List Str} {j k : Nat} {q : Str}, qs[k]? = some q → (cl (200 + (j + k)), q) ∈ tabT cl j qs
  | [], _, _, _, h => by simp at h
  | q :: qs, j, 0, q', h => by
    simp at h
    subst h
    exact List.mem_cons_self ..
  | q :: qs, j, k + 1, q', h => by
    have z := tabT_mem (cl := cl) (j := j + 1) (k := k) (q := q') (qs := qs) (by simpa using h)
    rw [show j + 1 + k = j + (k + 1) by omega] at z
    exact List.mem_cons_of_mem _ z
section
variable {X : Cx} {cl : Cn} {K : PySem.W.Frag} {F F' F1 F2 : Hp} {m m' m1 m2 : List Addr} {H H' H1 H2 : Hp} {vh vh1 : VH} {ρ : Rho} {σ : Sl} {E : XK}
/-- the ground with what is known newly -/
def grow (F H1 : Hp) : Hp := fun a => match F a with
  | some o => some o
  | none => match H1 a with
    | some (.ext φ) => some (.ext φ)
    | _ => none
theorem grow_old {a : Addr} {o : HO} (h : F a = some o) : grow F H1 a = some o := by unfold grow; rw [h]
theorem grow_ext {a : Addr} {φ : Heap → Prop} (h : F a = none) (h1 : H1 a = some (.ext φ)) : grow F H1 a = some (.ext φ) := by unfold grow; rw [h, h1]
theorem grow_no {a : Addr} (h : F a = none) (h1 : ∀ φ, H1 a ≠ some (.ext φ)) : grow F H1 a = none := by
  unfold grow
  rw [h]
  dsimp only
  split
  · rename_i φ e
    exact absurd e (h1 φ)
  · rfl
theorem grow_new {a : Addr} {o : HO} (h : F a = none) (h1 : grow F H1 a = some o) : ∃ φ, o = .ext φ ∧ H1 a = some (.ext φ) := by
  unfold grow at h1
  rw [h] at h1
  dsimp only at h1
  split at h1
  · rename_i φ e
    cases h1
    exact ⟨φ, rfl, e⟩
  · cases h1
theorem Wd.tabs {qs : List Str} (w : Wd cl F m vh H) (hb : tabsB 0 qs vh = true) : LamX.Tabs (tabT cl 0 qs) H := fun p hp => by
  obtain ⟨k, h1, h2⟩ := tabT_at hp
  have h3 := tabsB_at hb h1
  have hk : k < m.length := by rw [w.len]; exact (List.getElem?_eq_some_iff.mp h3).1
  obtain ⟨_, ea, ps, e1, e2, e3⟩ := w.live k m[k] _ (List.getElem?_eq_getElem hk) h3
  have ea : m[k] = p.1 := by rw [h2]; exact ea
  rw [ea] at e1
  refine ⟨ps, e1, e2, fun pos cv hc => ?_⟩
  obtain ⟨c, z1, z2⟩ := e3 pos cv hc
  exact ⟨c, z1, w.ext _ _ z2 (fun _ z => by unfold LamX.CodeO at z; cases z)⟩
theorem Wd.lam {qs : List Str} (w : Wd cl F m vh H) (hb : tabsB 0 qs vh = true) (h8 : ∀ i, i < 8 → ∃ j q, qs[j]? = some q ∧ cl (200 + i) = cl (200 + j)) (e : LamX.ExtN H H1) (T : LamX.Tabs (tabT cl 0 qs) H1) :
    Wd cl (grow F H1) m vh H1 ∧ Post F m H (grow F H1) m H1 := by
  have nt : ∀ {a o}, F a = some o → H1 a = some o ∨ ∃ ob kvs, o = .dK kvs ∧ H1 a = some (.frz ob o) := fun {a o} h => by
    rcases w.ext0 _ _ h with h1 | ⟨ob, kvs, h1, h2⟩
    · exact Or.inl (e _ _ h1 fun ps z => w.ntb a ps (by rw [h, z]))
    · exact Or.inr ⟨ob, kvs, h1, e _ _ h2 (fun ps z => by cases z)⟩
  -- a table of the world is one of ours
  have at_ : ∀ {a ps}, a ∈ m → H a = some (.tbl ps) → ∃ j q, qs[j]? = some q ∧ a = cl (200 + j) := fun {a ps} ha h => by
    obtain ⟨i, hi, e1⟩ := w.tbm a ps ha h
    obtain ⟨j, q, h1, h2⟩ := h8 i hi
    exact ⟨j, q, h1, e1.trans h2⟩
  have P : Post F m H (grow F H1) m H1 := by
    refine ⟨⟨fun a o h => grow_old h, fun _ _ h => h⟩, fun a o h t n => ⟨e _ _ h t, fun x => ?_, n⟩, fun a o u h => e _ _ h (fun ps z => by cases z)⟩
    cases q : F a with
    | some u => exact grow_old q
    | none =>
      refine grow_no q fun φ z => ?_
      rw [e _ _ h t] at z
      exact x φ (Option.some.inj z)
  refine ⟨⟨fun a o h => ?_, w.len, w.nd, fun a ha => ?_, fun n a mo h1 h2 => ?_, fun a ps h => ?_, fun a ps ha h => ?_⟩, P⟩
  · cases q : F a with
    | some u =>
      rw [grow_old q] at h
      cases h
      exact nt q
    | none =>
      obtain ⟨φ, rfl, z⟩ := grow_new q h
      exact Or.inl z
  · cases q : H a with
    | none => exact absurd q (w.used a ha)
    | some o =>
      by_cases t : ∃ ps, o = .tbl ps
      · obtain ⟨ps, rfl⟩ := t
        obtain ⟨j, qn, e1, e2⟩ := at_ ha q
        obtain ⟨ps', z, _⟩ := T _ (tabT_mem (cl := cl) (j := 0) e1)
        rw [Nat.zero_add, ← e2] at z
        rw [z]
        exact fun z => nomatch z
      · rw [e a o q fun ps z => t ⟨ps, z⟩]
        exact fun z => nomatch z
  · obtain ⟨h3, h4⟩ := w.live n a mo h1 h2
    have hm : a ∈ m := List.mem_of_getElem? h1
    cases mo with
    | lst ds =>
      obtain ⟨us, y1, y2⟩ := h4
      have z := e _ _ y1 (fun ps z => by cases z)
      exact ⟨grow_no h3 (fun φ q => by rw [z] at q; cases q), us, z, y2.mono P.gr⟩
    | dct ks ds =>
      obtain ⟨us, y1, y3, y2⟩ := h4
      have z := e _ _ y1 (fun ps z => by cases z)
      exact ⟨grow_no h3 (fun φ q => by rw [z] at q; cases q), us, z, y3, y2.mono P.gr⟩
    | lstL ds =>
      obtain ⟨ob, us, y1, y2⟩ := h4
      have z := e _ _ y1 (fun ps z => by cases z)
      exact ⟨grow_no h3 (fun φ q => by rw [z] at q; cases q), ob, us, z, y2.mono P.gr⟩
    | dctL ks ds =>
      obtain ⟨ob, us, y1, y3, y2⟩ := h4
      have z := e _ _ y1 (fun ps z => by cases z)
      exact ⟨grow_no h3 (fun φ q => by rw [z] at q; cases q), ob, us, z, y3, y2.mono P.gr⟩
    | obj C ns ds =>
      obtain ⟨dx, us, y1, y3, y2⟩ := h4
      have z := e _ _ y1 (fun ps z => by cases z)
      exact ⟨grow_no h3 (fun φ q => by rw [z] at q; cases q), dx, us, z, y3, y2.mono P.gr⟩
    | tab i qn =>
      obtain ⟨ea, ps, y1, y2, y3⟩ := h4
      obtain ⟨j, q, e1, e2⟩ := at_ hm y1
      have z0 := tabsB_at hb e1
      rw [Nat.zero_add] at z0
      have hk : j < m.length := by rw [w.len]; exact (List.getElem?_eq_some_iff.mp z0).1
      obtain ⟨_, ej, _⟩ := w.live j m[j] _ (List.getElem?_eq_getElem hk) z0
      have eq : n = j := by
        obtain ⟨l1, e3⟩ := List.getElem?_eq_some_iff.mp h1
        exact (List.getElem_inj w.nd).mp (e3.trans (e2.trans ej.symm))
      subst eq
      rw [z0] at h2
      cases h2
      obtain ⟨ps', z1, z2, z3⟩ := T _ (tabT_mem (cl := cl) (j := 0) e1)
      rw [Nat.zero_add, ← e2] at z1
      refine ⟨grow_no h3 (fun φ q => by rw [z1] at q; cases q), e2, ps', z1, z2, fun pos cv hc => ?_⟩
      obtain ⟨c, c1, c2⟩ := z3 pos cv hc
      refine ⟨c, c1, ?_⟩
      cases qc : F c with
      | none => exact grow_ext qc c2
      | some u =>
        rw [grow_old qc]
        rcases nt qc with c3 | ⟨ob, kvs, _, c3⟩
        · rw [c3] at c2
          exact c2
        · rw [c3] at c2
          unfold LamX.CodeO at c2
          cases c2
  · cases q : F a with
    | some u =>
      rw [grow_old q] at h
      cases h
      exact w.ntb a ps q
    | none =>
      obtain ⟨φ, z, _⟩ := grow_new q h
      cases z
  · cases q : H a with
    | none => exact absurd q (w.used a ha)
    | some o =>
      by_cases t : ∃ ps, o = .tbl ps
      · obtain ⟨ps', rfl⟩ := t
        exact w.tbm a ps' ha q
      · rw [e a o q fun ps z => t ⟨ps, z⟩] at h
        exact absurd ⟨ps, Option.some.inj h⟩ t
/-- x(lambda: e) -/
def lamD (qs : List Str) (tried : M (Rs D) → M D) (f : Rho → M (Rs D)) : Rho → M D := fun ρ vh => if tabsB 0 qs vh = true then tried (f ρ) vh else none
theorem de_lam {qs : List Str} {tried : M (Rs D) → M D} {fb : Rho → M (Rs D)} {x a : Str} {g c P : Addr} {k : Nat} {pg : Arguments} {bg : List Stmt} {sg : Scope} {dV kV doc pm cdv ct oc : Value} {an od : Option Addr} {osl : Array (Option Value)} {Ng : List Str}
    {params : Arguments} {body : Expr} {scope : Scope} {p lpos pos : Pos} (h8 : ∀ i, i < 8 → ∃ j q, qs[j]? = some q ∧ cl (200 + i) = cl (200 + j)) (hm : X.mg x = some (.ref g)) (hk : PySem.W.keepIn X.K (.ref g) = true)
    (lk : X.K.lookup g = some ⟨oc, od, .func (PySem.W.fnOf x x pg bg sg dV kV doc pm an cdv ct), osl⟩) (hcg : PySem.W.codeIn X.K cdv x = true) (hb : L2.Binds X.K (PySem.W.fnOf x x pg bg sg dV kV doc pm an cdv ct) [a] []) (Sg : FnScope Ng [a] sg) (hNg : Ng[0]? = some a) (hva : Vis sg a)
    (hG : LamX.GivesTo X Ng x sg g cdv bg a (X.env.qual ++ "<lambda>") (TTv cl tried))
    (TB : LamX.TabB X.base X.mg c P) (hcode : X.env.code = .ref c) (hmT : (P, X.env.qual ++ "<lambda>") ∈ tabT cl 0 qs) (hu : ∀ p ∈ tabT cl 0 qs, p.1 = P → p.2 = X.env.qual ++ "<lambda>") (hr : Room (k + 2) X.A)
    (L : LamX.LamS X.env.scope scope) (hdef : defaultsOf params X.env = ([], []))
    (hbind : ∀ (q : Str) (cl : List (Str × Addr)) (pm cv ctv : Value), bindArgs (PySem.W.kla_fn "<lambda>" q params body scope cl pm cv ctv) ⟨[], []⟩ = pure [])
    (hbody : ∀ (A : Around) (outer : List Env) (s : Shared) (H : Hp) (E : XK) (f c' : Addr), Room k (A.deeper (LamX.lamEnv X scope s.heap.objs.size f c')) → Tk (LamX.lamCx X A outer s H E scope f c') E → DEX cl (LamX.lamCx X A outer s H E scope f c') E body fb)
    (hg : Gl X x := by rfl) (hdb : (x == ("__debug__" : Str)) = false := by decide) (hd : (a == ("__debug__" : Str)) = false := by decide) (hcd : (a == ("__classdict__" : Str)) = false := by decide) :
    DE cl X (.Call (.Name x p) [.Lambda params body scope lpos] [] pos) (lamD qs tried fb) := by
  refine PEw (LamX.pe_lamcall (t := fun E => tDX cl E fb) hg hm hk lk hcg hb Sg hNg hva hG TB hcode hmT hu hr L hdef hbind (fun A outer s H E f c' hr' => hbody A outer s H E f c' hr' (L2.takes_of rfl rfl rfl rfl)) hdb hd hcd) fun σ H Q ⟨F, m, vh, ρ, w, r, q⟩ => ?_
  unfold lamD at q
  split at q
  · rename_i hb
    refine ⟨w.tabs hb, fun H1 e T => ?_⟩
    obtain ⟨w1, p1⟩ := w.lam hb h8 e T
    exact ⟨_, m, vh, fb ρ, w1, fun E Fz mz vhz Hz Q' pz wz qz => ⟨Fz, mz, vhz, ρ, wz, r.mono (p1.gr.trans pz.gr), qz⟩, Run.pre q p1⟩
  · exact False.elim q
end
end VL

/-! VX6: the def that is handed a lambda; defs whose code object is known -/
namespace VL
open PySem PySem.Spec PyProof.Rows L2
/-- the context of the def that is handed the lambda -/
abbrev Zof (X : Cx) (Ng : List Str) (x : Str) (sg : Scope) (g : Addr) (cdg : Value) (s : Shared) (H : Hp) : Cx := cxOf C8.CX0 X.prog X.w X.K X.mg X.base Ng x sg g cdg X.A X.stack s H C8.E0
section
variable {X : Cx} {cl : Cn} {x n0 n1 n2 : Str} {sg : Scope} {g : Addr} {cdg : Value} {bg tb hds : List Stmt} {s1 s3 : Stmt} {q : Str} {hs : List Hd} {go : Ends → Sl → V → Hp → Prop} {wrap : D → M D}
theorem tried_gives {h0 : ExceptHandler} {hds : List ExceptHandler} {pos : Pos} (eb : bg = [s1, .Try tb (h0 :: hds) [] [] pos, s3])
    (h1 : ∀ s H, PS (Zof X [n0, n1, n2] x sg g cdg s H).nox s1 (tAsg (tC V.non) (gName 1)))
    (h3 : ∀ s H, PS (Zof X [n0, n1, n2] x sg g cdg s H).nox s3 (tRet (tVar 1)))
    (ht : ∀ (s : Shared) (H : Hp) (f c' : Addr) (tl : XK → Hp → VK → Prop) (W : WX) (pn : List (Addr × Obj)) (xe : Value → Shared → Prop),
      (∀ (Ech : XK) (p1 p2 : Pos), (∀ cls d σ' H', Ech cls d H' → σ'.length = 3 → W cls d σ' H') → PE ((Zof X [n0, n1, n2] x sg g cdg s H).tr pn xe) (.Call (.Name n0 p1) [] [] p2) (fun σZ HZ Q => σZ[0]? = some (some (.ref f)) ∧ HZ c' = some (LamX.CodeO c' q) ∧ tl Ech HZ Q)) →
      PSs ((Zof X [n0, n1, n2] x sg g cdg s H).tr pn xe) tb (askT X.K cl hs f c' q tl go W))
    (hk : ∀ s H, ClasOk (Zof X [n0, n1, n2] x sg g cdg s H).nox (h0 :: hds) (hs.map (claT cl))) (nd : [n0, n1, n2].Nodup)
    (hgo : ∀ {F m vh H d v f Q}, Wd cl F m vh H → Rep cl F m v d → Run cl F m H (wrap d vh) (kV' cl Q) → go (backT Q) [some (.ref f), some .non, none] v H)
    (hex : ∀ h ∈ hs, ∀ h' ∈ hs, PySem.W.exmOne X.K (.ref (cl h.c)) (.ref (cl h'.c)) = some (decide (h.c = h'.c))) :
    LamX.GivesTo X [n0, n1, n2] x sg g cdg bg n0 q (TTv cl (triedD wrap hs)) := by
  intro f c' s H Q tl act hc h
  subst eb
  refine ⟨_, pss_cons (h1 s H) (pss_cons (ps_try_mix (X := (Zof X [n0, n1, n2] x sg g cdg s H).nox) (tb := fun W => askT X.K cl hs f c' q tl go W) rfl rfl nd (fun W pn xe tk hp => ?_) (hk s H)) (pss_one (h3 s H))), ?_⟩
  · exact ht s H f c' tl W pn xe fun Ech p1 p2 hW => act _ pn xe Ech p1 p2 (takes_len tk) fun cls d σ' H' e hl => hW cls d σ' H' e hl
  · exact tried_run hgo hex hc h
theorem ask_N {Z : Cx} {K : PySem.W.Frag} {f c' : Addr} {tl : XK → Hp → VK → Prop} {W : WX} {p1 p2 p3 : Pos} {n : Str}
    (act : ∀ (Ech : XK) (p1 p2 : Pos), (∀ cls d σ' H', Ech cls d H' → σ'.length = 3 → W cls d σ' H') → PE Z (.Call (.Name n p1) [] [] p2) (fun σZ HZ Q => σZ[0]? = some (some (.ref f)) ∧ HZ c' = some (LamX.CodeO c' q) ∧ tl Ech HZ Q))
    (hs' : swapsWith (.Call (.Name n p1) [] [] p2) none p3.line Z.env = pure false := by rfl) : PSs Z [.Expr (.Call (.Name n p1) [] [] p2) p3] (askT K cl hs f c' q tl goN W) :=
  ⟨fun pins s' σ H' D I ⟨Ech, hW, e1, e2, e3⟩ => (pss_one (ps_expr (act Ech p1 p2 hW) hs')).run pins s' σ H' D I ⟨e1, e2, e3⟩⟩
theorem ask_T {Z : Cx} {K : PySem.W.Frag} {f c' : Addr} {tl : XK → Hp → VK → Prop} {W : WX} {p1 p2 p3 p4 p5 p6 : Pos} {n nf tag : Str} {j : Nat} {k : Nat}
    (act : ∀ (Ech : XK) (p1 p2 : Pos), (∀ cls d σ' H', Ech cls d H' → σ'.length = 3 → W cls d σ' H') → PE Z (.Call (.Name n p1) [] [] p2) (fun σZ HZ Q => σZ[0]? = some (some (.ref f)) ∧ HZ c' = some (LamX.CodeO c' q) ∧ tl Ech HZ Q))
    (ps : ∀ {te : TE}, PE Z (.Tuple [.Constant (.str tag) j p4, .Call (.Name n p1) [] [] p2] k p5) te → PS Z (.Assign [.Name nf p3] (.Tuple [.Constant (.str tag) j p4, .Call (.Name n p1) [] [] p2] k p5) p6) (tAsg te (gName 1)))
    (hs1 : starEach [.Constant (.str tag) j p4, .Call (.Name n p1) [] [] p2] Z.env = (false, eval (.Constant (.str tag) j p4) Z.env) :: starEach [.Call (.Name n p1) [] [] p2] Z.env := by rfl)
    (hs2 : starEach [.Call (.Name n p1) [] [] p2] Z.env = (false, eval (.Call (.Name n p1) [] [] p2) Z.env) :: starEach [] Z.env := by rfl) :
    PSs Z [.Assign [.Name nf p3] (.Tuple [.Constant (.str tag) j p4, .Call (.Name n p1) [] [] p2] k p5) p6] (askT K cl hs f c' q tl (goT tag) W) :=
  ⟨fun pins s' σ H' D I ⟨Ech, hW, e1, e2, e3⟩ => (pss_one (ps (pe_tup (pa_cons pe_str (pa_cons (act Ech p1 p2 hW) pa_nil hs2) hs1)))).run pins s' σ H' D I ⟨e1, e2, e3⟩⟩
/-! ### which error is which -/
theorem exm_cls {K : PySem.W.Frag} {C C' : Addr} {b : Bool} (sb : PySem.W.subIn K (.ref C') (.type "BaseException") = some true) (is : (PySem.W.clsIn K C').isSome = true) (ty : PySem.W.typeIn K (.ref C') = some (.type "type")) (h : PySem.W.subIn K (.ref C) (.ref C') = some b) :
    PySem.W.exmOne K (.ref C) (.ref C') = some b := by
  have e1 : (PySem.W.subIn K (.ref C') (.type "BaseException") == some true) = true := by rw [sb] <;> rfl
  have e3 : (PySem.W.typeIn K (.ref C') == some (.type "type")) = true := by rw [ty] <;> rfl
  unfold PySem.W.exmOne
  rw [if_pos e1]
  show (if ((PySem.W.clsIn K C').isSome && PySem.W.typeIn K (.ref C') == some (.type "type")) = true then _ else _) = _
  rw [is, e3, if_pos (show (true && true) = true from rfl), h]
theorem sub_cls {K : PySem.W.Frag} {C top : Addr} {cd : ClassData} (e1 : PySem.W.clsIn K C = some cd) (e2 : cd.mro = .ref C :: .ref top :: tailVE) (b : Value) : PySem.W.subIn K (.ref C) b = some ((.ref C :: .ref top :: tailVE : List Value).contains b) := by
  show PySem.W.mroIn K _ _ = _
  unfold PySem.W.mroIn
  rw [e1, Option.bind_some, e2, if_neg (by simp)]
/-- the classes of errors, by numbers from a on -/
theorem exm_of {K : PySem.W.Frag} {cl : Cn} {L : List Addr} {top : Addr} {a : Nat} (hl : ∀ i, i < L.length → cl (a + i) = L.getD i 0) (nd : (top :: L).Nodup)
    (hc : ∀ i, i < L.length → ∃ cd, PySem.W.clsIn K (L.getD i 0) = some cd ∧ cd.mro = .ref (L.getD i 0) :: .ref top :: tailVE) (ty : ∀ i, i < L.length → PySem.W.typeIn K (.ref (L.getD i 0)) = some (.type "type")) :
    ∀ i j, i < L.length → j < L.length → PySem.W.exmOne K (.ref (cl (a + i))) (.ref (cl (a + j))) = some (decide (i = j)) := by
  intro i j hi hj
  rw [hl i hi, hl j hj]
  obtain ⟨cd, e1, e2⟩ := hc i hi
  obtain ⟨cd', f1, f2⟩ := hc j hj
  have g : ∀ k, k < L.length → L.getD k 0 = L[k]?.getD 0 := fun k _ => List.getD_eq_getElem?_getD
  have ni : L.getD j 0 ∈ L := by
    rw [g j hj, List.getElem?_eq_getElem hj]
    exact List.getElem_mem hj
  have nt : L.getD j 0 ≠ top := fun z => (List.nodup_cons.mp nd).1 (z ▸ ni)
  refine exm_cls (by rw [sub_cls f1 f2]; congr 1) (by rw [f1]; rfl) (ty j hj) ?_
  rw [sub_cls e1 e2]
  congr 1
  rw [Bool.eq_iff_iff, List.contains_iff_mem, decide_eq_true_iff]
  constructor
  · intro h
    simp only [List.mem_cons, List.not_mem_nil, or_false] at h
    rcases h with h | h | h | h | h | h
    · have h := Value.ref.inj h
      rw [g i hi, g j hj, List.getElem?_eq_getElem hi, List.getElem?_eq_getElem hj] at h
      exact ((List.getElem_inj (List.nodup_cons.mp nd).2).mp h).symm
    · exact absurd (Value.ref.inj h) nt
    all_goals cases h
  · rintro rfl
    exact List.mem_cons_self
end
/-- a def whose code object stands at c -/
structure FunC (K : PySem.W.Frag) (x qual : Str) (st : Stmt) (f c : Addr) (fd : FuncData) : Prop where
  ex : ∃ (oc : Value) (od : Option Addr) (kV doc pm : Value) (an : Option Addr) (ct : Value) (osl : Array (Option Value)),
    fd = PySem.W.fnOf x qual (defArgs st) (defBody st) (defScope st) .none kV doc pm an (.ref c) ct ∧ K.lookup f = some ⟨oc, od, .func fd, osl⟩ ∧ PySem.W.codeIn K (.ref c) qual = true
  kp : PySem.W.keepIn K (.ref f) = true
theorem FunC.fn {K : PySem.W.Frag} {x qual : Str} {st : Stmt} {f c : Addr} {fd : FuncData} (F : FunC K x qual st f c fd) : Fun K x qual st f fd := by
  obtain ⟨oc, od, kV, doc, pm, an, ct, osl, e, lk, hcd⟩ := F.ex
  exact ⟨⟨oc, od, kV, doc, pm, an, .ref c, ct, osl, e, lk, hcd⟩, F.kp⟩
theorem func_mk {K : PySem.W.Frag} {x qual : Str} {st : Stmt} {f c : Addr} {oc : Value} {od an : Option Addr} {osl : Array (Option Value)} {kV doc pm ct : Value} (l : K.lookup f = some ⟨oc, od, .func (PySem.W.fnOf x qual (defArgs st) (defBody st) (defScope st) .none kV doc pm an (.ref c) ct), osl⟩)
    (cd : PySem.W.codeIn K (.ref c) qual = true) (k : PySem.W.keepIn K (.ref f) = true) : FunC K x qual st f c (PySem.W.fnOf x qual (defArgs st) (defBody st) (defScope st) .none kV doc pm an (.ref c) ct) := ⟨⟨oc, od, kV, doc, pm, an, ct, osl, rfl, l, cd⟩, k⟩
section
variable {P : Program} {w : World} {cl : Cn} {K : PySem.W.Frag} {mg : Str → Option Value} {base : Heap}
theorem fn_DC {x qual : Str} {st : Stmt} {f c : Addr} {fd : FuncData} {N ps : List Str} {k : Nat} {g : Bk} (Fu : FunC K x qual st f c fd) (S : FnScope N ps (defScope st))
    (hb : ∀ (A : Around) (outer : List Env) (s : Shared) (H : Hp) (E : XK), Room k (A.deeper (envOfC qual (defScope st) s.heap.objs.size f (.ref c))) → DSs cl (cxOf CX0 P w K mg base N qual (defScope st) f (.ref c) A outer s H E).nox (defBody st) g) :
    FnOk P w K mg base CX0 (k + 1) f fd ps (spD cl ps.length (denF N.length g)) := by
  obtain ⟨oc, od, kV, doc, pm, an, ct, osl, rfl, lk, hcd⟩ := Fu.ex
  refine fn_of lk hcd S (fun vs H Q E h => ?_) fun A outer s H vs Q E hr h => ?_
  · obtain ⟨_, _, _, _, e, _⟩ := h
    exact e
  · obtain ⟨F, m, vh, ds, e, wd, r, q⟩ := h
    refine ⟨_, (hb A outer s H E hr).nox, F, m, vh, _, wd, rs_start N r, (Run.bind q).mono fun F1 m1 vh1 H1 o p w1 q1 => ?_⟩
    cases o with
    | nx ρ => exact fun σ' _ => Run.ret q1 w1 _ .non
    | rt d => exact Run.ret q1 w1
    | bk ρ => exact False.elim q1
    | ct ρ => exact False.elim q1
end
section
variable {X : Cx} {cl : Cn}
/-- x(lambda: e), x as Fun tells of it -/
theorem de_lam' {qs : List Str} {tried : M (Rs D) → M D} {fb : Rho → M (Rs D)} {x a : Str} {st : Stmt} {fd : FuncData} {g c P : Addr} {k : Nat} {Ng : List Str} {params : Arguments} {body : Expr} {scope : Scope} {p lpos pos : Pos} (h8 : ∀ i, i < 8 → ∃ j q, qs[j]? = some q ∧ cl (200 + i) = cl (200 + j))
    (hm : X.mg x = some (.ref g)) (Fu : Fun X.K x x st g fd) (hb : L2.Binds X.K fd [a] []) (Sg : FnScope Ng [a] (defScope st)) (hG : ∀ cdg, LamX.GivesTo X Ng x (defScope st) g cdg (defBody st) a (X.env.qual ++ "<lambda>") (TTv cl tried))
    (TB : LamX.TabB X.base X.mg c P) (hcode : X.env.code = .ref c) (hmT : (P, X.env.qual ++ "<lambda>") ∈ tabT cl 0 qs) (hu : ∀ p ∈ tabT cl 0 qs, p.1 = P → p.2 = X.env.qual ++ "<lambda>") (hr : Room (k + 2) X.A)
    (hbody : ∀ (A : Around) (outer : List Env) (s : Shared) (H : Hp) (E : XK) (f c' : Addr), Room k (A.deeper (LamX.lamEnv X scope s.heap.objs.size f c')) → Tk (LamX.lamCx X A outer s H E scope f c') E → DEX cl (LamX.lamCx X A outer s H E scope f c') E body fb)
    (L : LamX.lamSB X.env.scope scope = true) (hNg : Ng[0]? = some a := by rfl) (hva : Vis (defScope st) a := by first | exact Or.inl rfl | exact Or.inr (Or.inl rfl) | exact Or.inr (Or.inr rfl)) (hdef : defaultsOf params X.env = ([], []) := by rfl)
    (hbind : ∀ (q : Str) (cl : List (Str × Addr)) (pm cv ctv : Value), bindArgs (PySem.W.kla_fn "<lambda>" q params body scope cl pm cv ctv) ⟨[], []⟩ = pure [] := by intro _ _ _ _ _; rfl)
    (hg : Gl X x := by rfl) (hdb : (x == ("__debug__" : Str)) = false := by decide) (hd : (a == ("__debug__" : Str)) = false := by decide) (hcd : (a == ("__classdict__" : Str)) = false := by decide) :
    DE cl X (.Call (.Name x p) [.Lambda params body scope lpos] [] pos) (lamD qs tried fb) := by
  obtain ⟨oc, od, kV, doc, pm, an, cdv, ct, osl, rfl, lk, hc⟩ := Fu.ex
  exact de_lam h8 hm Fu.kp lk hc hb Sg hNg hva (hG cdv) TB hcode hmT hu hr (LamX.lamS_by L) hdef hbind hbody hg hdb hd hcd
end
end VL

/-! VX7: the law's head where the law makes lambdas -/
namespace VL
open PySem PySem.Spec PyProof.Rows L2
def tabVH : Nat → List Str → VH
  | _, [] => []
  | j, q :: qs => some (.tab (200 + j) q) :: tabVH (j + 1) qs
theorem tabVH_len : ∀ {qs : List Str} {j : Nat}, (tabVH j qs).length = qs.length
  | [], _ => rfl
  | q :: qs, j => by
    show (tabVH (j + 1) qs).length + 1 = _
    rw [tabVH_len]
    rfl
theorem tabVH_at : ∀ {qs : List Str} {j k : Nat} {o : MO}, (tabVH j qs)[k]? = some (some o) → ∃ q, qs[k]? = some q ∧ o = .tab (200 + (j + k)) q
  | [], _, _, _, h => by simp [tabVH] at h
  | q :: qs, j, 0, o, h => by
    simp [tabVH] at h
    exact ⟨q, rfl, h.symm⟩
  | q :: qs, j, k + 1, o, h => by
    have h : (tabVH (j + 1) qs)[k]? = some (some o) := h
    obtain ⟨q', h1, h2⟩ := tabVH_at h
    exact ⟨q', by simpa using h1, by rw [h2, show j + 1 + k = j + (k + 1) by omega]⟩
/-- the tables' places -/
def tabP (cl : Cn) (qs : List Str) : List Addr := (List.range qs.length).map fun j => cl (200 + j)
theorem tabP_at {cl : Cn} {qs : List Str} {j : Nat} (h : j < qs.length) : (tabP cl qs)[j]? = some (cl (200 + j)) := by
  unfold tabP
  rw [List.getElem?_map, List.getElem?_range h]
  rfl
theorem hu_of' {cl : Cn} {qs : List Str} {j : Nat} {q : Str} (nd : (tabP cl qs).Nodup) (hj : qs[j]? = some q) : ∀ p ∈ tabT cl 0 qs, p.1 = cl (200 + j) → p.2 = q := fun p hp e => by
  obtain ⟨k, h1, h2⟩ := tabT_at hp
  rw [Nat.zero_add] at h2
  have lk := (List.getElem?_eq_some_iff.mp h1).1
  have lj := (List.getElem?_eq_some_iff.mp hj).1
  have e1 := tabP_at (cl := cl) lk
  have e2 := tabP_at (cl := cl) lj
  rw [← h2, e] at e1
  obtain ⟨l1, e1⟩ := List.getElem?_eq_some_iff.mp e1
  obtain ⟨l2, e2⟩ := List.getElem?_eq_some_iff.mp e2
  have : k = j := (List.getElem_inj nd).mp (e1.trans e2.symm)
  subst this
  rw [h1] at hj
  exact Option.some.inj hj
theorem h8_of {cl : Cn} {qs : List Str} (h0 : 0 < qs.length) (h : ∀ i, qs.length ≤ i → i < 8 → cl (200 + i) = cl 200) : ∀ i, i < 8 → ∃ j q, qs[j]? = some q ∧ cl (200 + i) = cl (200 + j) := fun i hi => by
  by_cases hl : i < qs.length
  · exact ⟨i, _, List.getElem?_eq_getElem hl, rfl⟩
  · exact ⟨0, _, List.getElem?_eq_getElem h0, h i (by omega) hi⟩
def spLawT (K : PySem.W.Frag) (Ps : List Addr) : Sp := fun vs H Q _ => ∃ (a : Addr) (ns : List Int), vs = [V.ref a] ∧ (∀ p ∈ Ps, H p = some (.tbl #[])) ∧ SqL K H a (ns.map V.int) ∧ ns.length ≤ 63 ∧ ∀ H', Q (.bl true) H'
/-- the ground at the start: the script alone -/
def scrF (a : Addr) (o : HO) : Hp := fun b => if b = a then some o else none
theorem scrF_at {a b : Addr} {o u : HO} {H : Hp} (h : H a = some o) (ho : ∀ ps, o ≠ .tbl ps) (e : scrF a o b = some u) : H b = some u ∧ ∀ ps, u ≠ .tbl ps := by
  unfold scrF at e
  by_cases z : b = a
  · subst z
    rw [if_pos rfl] at e
    cases e
    exact ⟨h, ho⟩
  · rw [if_neg z] at e
    cases e
theorem wd_startT {cl : Cn} {H F : Hp} {qs : List Str} (nd : (tabP cl qs).Nodup) (hT : ∀ p ∈ tabP cl qs, H p = some (.tbl #[])) (h8 : qs.length ≤ 8) (hF : ∀ b o, F b = some o → H b = some o ∧ ∀ ps, o ≠ .tbl ps) : Wd cl F (tabP cl qs) (tabVH 0 qs) H := by
  have mem : ∀ {a}, a ∈ tabP cl qs → ∃ j, j < qs.length ∧ a = cl (200 + j) := fun {a} h => by
    obtain ⟨j, h1, h2⟩ := List.mem_map.mp h
    exact ⟨j, List.mem_range.mp h1, h2.symm⟩
  refine ⟨fun a o h => Or.inl (hF a o h).1, by rw [tabVH_len]; simp [tabP], nd, fun a ha => (by rw [hT a ha]; exact fun z => nomatch z), fun n a o h1 h2 => ?_, fun a ps h => ?_, fun a ps ha h => ?_⟩
  · have ha : a ∈ tabP cl qs := List.mem_of_getElem? h1
    have e := hT a ha
    obtain ⟨q, h3, rfl⟩ := tabVH_at h2
    rw [Nat.zero_add]
    have ln := (List.getElem?_eq_some_iff.mp h3).1
    rw [tabP_at ln] at h1
    refine ⟨?_, (Option.some.inj h1).symm, #[], e, True.intro, fun pos cv z => ?_⟩
    · cases f : F a with
      | none => rfl
      | some o =>
        obtain ⟨h4, h5⟩ := hF a o f
        rw [e] at h4
        exact absurd (Option.some.inj h4).symm (h5 _)
    · have z : codeAmong pos [] = some cv := z
      simp [codeAmong] at z
  · exact (hF a _ h).2 ps rfl
  · obtain ⟨j, hj, e⟩ := mem ha
    exact ⟨j, by omega, e⟩
theorem fn_lawT {P : Program} {w : World} {K : PySem.W.Frag} {mg : Str → Option Value} {base : Heap} {cs : Cn} {qs : List Str} {k : Nat} {f : Addr} {fd : FuncData} {x : Str} {den : (List D → M D) → List D → M D}
    (nd : (tabP cs qs).Nodup) (h8 : qs.length ≤ 8)
    (ok : ∀ a L, ListOk (cl2 cs a) K L → FnOk P w K mg base CX0 k f fd [x] (spD (cl2 cs a) 1 (den L)))
    (hm : ∀ (L : List D → M D) (s : D) (ns : List Int), ns.length ≤ 63 → (∀ vh, L [s] vh = new (.lst (ns.map D.int)) vh) → ∃ vh', den L [s] (tabVH 0 qs) = some (.bl true, vh')) : FnOk P w K mg base CX0 k f fd [x] (spLawT K (tabP cs qs)) where
  len := fun vs H Q E ⟨a, ns, e, _⟩ => by rw [e]; rfl
  run := fun A outer s H args us vs Q E hr he hb hv ⟨a, ns, e, hT, hS, hl, hq⟩ => by
    subst e
    have eP : tabP (cl2 cs a) qs = tabP cs qs := by
      unfold tabP
      refine List.map_congr_left fun j _ => ?_
      exact if_neg (by omega)
    have go : ∀ (L : List D → M D) (d : D) (F : Hp), (∀ b o, F b = some o → H b = some o ∧ ∀ ps, o ≠ .tbl ps) → ListOk (cl2 cs a) K L → (∀ vh, L [d] vh = new (.lst (ns.map D.int)) vh) → Rep (cl2 cs a) F (tabP (cl2 cs a) qs) (.ref a) d → codeAny (model P w) A (.call (.ref f) args) (CR CX0 outer P w H s Q E) s := fun L d F hF hL eL r => by
      refine (ok a L hL).run A outer s H args us [.ref a] Q E hr he hb hv ⟨F, _, _, [d], rfl, wd_startT (qs := qs) (by rw [eP]; exact nd) (by rw [eP]; exact hT) h8 hF, .cons r .nil, ?_⟩
      obtain ⟨vh', e⟩ := hm L d ns hl eL
      rw [e]
      intro F' m' H' _ _ v rv
      cases rv
      exact hq H'
    rcases hS with (h | ⟨o, h⟩) | h
    · exact go listMD (.lst (ns.map D.int)) (scrF a (.lst (ns.map V.int))) (fun b u hb => scrF_at h (fun ps z => by cases z) hb) listOk_M (fun vh => rfl) (.lst (if_pos rfl) (Reps.of_ints ns))
    · exact go listMD (.scr ns) (scrF a (.frz o (.lst (ns.map V.int)))) (fun b u hb => scrF_at h (fun ps z => by cases z) hb) listOk_M (fun vh => rfl) (.scr (if_pos rfl))
    · exact go (scrK ns) (.cls 99) (fun _ => none) (fun b u hb => by cases hb) (listOk_K (cl := cl2 cs a) (.inr h)) (fun vh => rfl) (.cls 99)

/-- the head's facts about the tables of code objects -/
abbrev TabAt (q : Program) (K : PySem.W.Frag) (h : Heap) : Prop := ∀ {x : Str} {c P : Addr}, (recsOf q).any (fun e => e.name == x) = true → PySem.W.tabIn K x = some (c, P) → PySem.W.CodeHd h c P ∧ h.get? P = some (PySem.W.tabObj #[])
theorem walkT {l : PySem.W.OpenLaw} {q : Program} {loose : List Str} {XP : (Str → Option Value) → Heap → Prop} {YP : World → Heap → Prop} {d : DefRec} {K : Params → PySem.W.Frag} {x : Str} {k : Nat} (hn : l.most = some 63) (hdf : d.params.defaults = []) (hr : Room k callerA)
    (hY : ∀ (w : World) (h : Heap), YP w h → (K w.params).In h)
    (F : ∀ (w : World) (mg : Str → Option Value) (fa : Addr) (h : Heap), (K w.params).In h → h.Ns mainGlobals mg → mg d.name = some (.ref fa) → TabAt q (K w.params) h →
      ∃ (fd : FuncData) (cs : List (Addr × Addr)), (∀ p ∈ cs, h.get? p.2 = some { cls := .none, data := .fields #[] }) ∧ (∀ p ∈ cs, (K w.params).lookup p.2 = none) ∧ (∀ p ∈ cs, PySem.W.CodeHd h p.1 p.2) ∧ (∀ (s : Shared) (u : Value), BindsTo s fd ⟨[u], []⟩ [(x, u)]) ∧
        ∀ base : Heap, (K w.params).In base → base.Ns mainGlobals mg → (∀ p ∈ cs, LamX.TabB base mg p.1 p.2) → FnOk l.prog w (K w.params) mg base CX0 k fa fd [x] (spLawT (K w.params) (cs.map (·.2)))) :
    PySem.W.WalkO q loose XP YP l.row.toRowW d [] (fun f vs => PySem.call f vs) := by
  refine Att.attach_callB hn hdf fun w s₀ s₁ mg mb fa o pm cd doc a vs ns G Y ho hd hcd hmg hobj hints hlen hbits hg => ?_
  have KX := hY w _ Y
  obtain ⟨fd, cs, hT, nT, C, hb, hF⟩ := F w mg fa _ KX G.T.g hmg (fun hr ht => by
    obtain ⟨e, he⟩ := Option.isSome_iff_exists.mp ((List.find?_isSome (p := fun e : DefRec => e.name == _)).mpr (List.any_eq_true.mp hr))
    exact PySem.W.tab_of G.T KX he ht)
  exact LamX.law_callTs KX G.T.g G.T.b G.T.builtins G.T.nolimit hg hT nT C G.T.bmain hobj hints (Nat.le_trans hlen (by decide)) hr hF hb
    (fun H hH hS => ⟨a, ns, rfl, fun p hp => by
      obtain ⟨z, hz, e⟩ := List.mem_map.mp hp
      rw [← e]
      exact hH z hz, hS, hlen, fun _ => rfl⟩) fun _ _ _ z => z

/-- what the written part tells of a def's table -/
theorem tab_mk {K : PySem.W.Frag} {x : Str} {f c P : Addr} {oc oc2 : Value} {od od2 : Option Addr} {sl sl2 : Array (Option Value)} {fd : FuncData} {vs : Array Value} (a : PySem.W.nsIn K mainGlobals x = some (some (.ref f)))
    (l : K.lookup f = some ⟨oc, od, .func fd, sl⟩) (hc : fd.code = .ref c) (lc : K.lookup c = some ⟨oc2, od2, .fields vs, sl2⟩) (hv : vs[11]? = some (.ref P)) : PySem.W.tabIn K x = some (c, P) := by
  unfold PySem.W.tabIn
  rw [a]
  dsimp only
  rw [l]
  dsimp only
  rw [hc]
  dsimp only
  rw [lc]
  dsimp only
  rw [hv]
theorem noTab_of {K : PySem.W.Frag} {h : Heap} {P : Addr} (X : K.In h) (nt : PySem.W.noTabs K = true) (e : h.get? P = some (PySem.W.tabObj #[])) : K.lookup P = none := by
  cases q : K.lookup P with
  | none => rfl
  | some o =>
    have z := X _ _ q
    rw [e] at z
    cases z
    exact absurd (show false = true from List.all_eq_true.mp nt _ (PySem.W.mem_of_lookupK q)) Bool.false_ne_true
theorem forall_nil {α : Type} {p : α → Prop} : ∀ x ∈ ([] : List α), p x := fun _ h => by cases h
theorem forall_cons {α : Type} {p : α → Prop} {a : α} {l : List α} (h : p a) (t : ∀ x ∈ l, p x) : ∀ x ∈ a :: l, p x := List.forall_mem_cons.mpr ⟨h, t⟩
end VL

/-! VX8: short words -/
namespace VL
open PySem PySem.Spec PyProof.Rows L2
/-- a def that is handed a lambda -/
structure CalT (K : PySem.W.Frag) (mg : Str → Option Value) (x : Str) (st : Stmt) (a : Str) : Prop where
  ex : ∃ (g : Addr) (fd : FuncData), mg x = some (.ref g) ∧ Fun K x x st g fd ∧ L2.Binds K fd [a] []
section
variable {X : Cx} {cl : Cn}
theorem hex_of {K : PySem.W.Frag} {hs : List Hd} {n : Nat} (h : ∀ i j, i < n → j < n → PySem.W.exmOne K (.ref (cl (100 + i))) (.ref (cl (100 + j))) = some (decide (i = j))) (ok : hs.all (fun h => decide (100 ≤ h.c) && decide (h.c < 100 + n)) = true) :
    ∀ h ∈ hs, ∀ h' ∈ hs, PySem.W.exmOne K (.ref (cl h.c)) (.ref (cl h'.c)) = some (decide (h.c = h'.c)) := fun a ha b hb => by
  have z := List.all_eq_true.mp ok
  have za := z a ha
  have zb := z b hb
  simp only [Bool.and_eq_true, decide_eq_true_eq] at za zb
  have e := h (a.c - 100) (b.c - 100) (by omega) (by omega)
  rw [show 100 + (a.c - 100) = a.c by omega, show 100 + (b.c - 100) = b.c by omega] at e
  rw [e]
  congr 1
  rw [Bool.eq_iff_iff, decide_eq_true_iff, decide_eq_true_iff]
  omega
theorem de_lamC {qs : List Str} {tried : M (Rs D) → M D} {fb : Rho → M (Rs D)} {x a : Str} {st : Stmt} {c : Addr} {Ng : List Str} {params : Arguments} {body : Expr} {scope : Scope} {p lpos pos : Pos} (k : Nat) (j : Nat) (C : CalT X.K X.mg x st a) (h8 : ∀ i, i < 8 → ∃ j q, qs[j]? = some q ∧ cl (200 + i) = cl (200 + j))
    (nP : (tabP cl qs).Nodup) (Sg : FnScope Ng [a] (defScope st)) (hG : ∀ g cdg, LamX.GivesTo X Ng x (defScope st) g cdg (defBody st) a (X.env.qual ++ "<lambda>") (TTv cl tried)) (hj : qs[j]? = some (X.env.qual ++ "<lambda>"))
    (TB : LamX.TabB X.base X.mg c (cl (200 + j))) (hcode : X.env.code = .ref c) (hr : Room (k + 2) X.A)
    (hbody : ∀ (A : Around) (outer : List Env) (s : Shared) (H : Hp) (E : XK) (f c' : Addr), Room k (A.deeper (LamX.lamEnv X scope s.heap.objs.size f c')) → Tk (LamX.lamCx X A outer s H E scope f c') E → DEX cl (LamX.lamCx X A outer s H E scope f c') E body fb)
    (L : LamX.lamSB X.env.scope scope = true) (hNg : Ng[0]? = some a := by rfl) (hva : Vis (defScope st) a := by first | exact Or.inl rfl | exact Or.inr (Or.inl rfl) | exact Or.inr (Or.inr rfl)) (hdef : defaultsOf params X.env = ([], []) := by rfl)
    (hbind : ∀ (q : Str) (cl : List (Str × Addr)) (pm cv ctv : Value), bindArgs (PySem.W.kla_fn "<lambda>" q params body scope cl pm cv ctv) ⟨[], []⟩ = pure [] := by intro _ _ _ _ _; rfl)
    (hg : Gl X x := by rfl) (hdb : (x == ("__debug__" : Str)) = false := by decide) (hd : (a == ("__debug__" : Str)) = false := by decide) (hcd : (a == ("__classdict__" : Str)) = false := by decide) :
    DE cl X (.Call (.Name x p) [.Lambda params body scope lpos] [] pos) (lamD qs tried fb) := by
  obtain ⟨g, fd, hm, Fu, hb⟩ := C.ex
  have z := tabT_mem (cl := cl) (j := 0) hj
  rw [Nat.zero_add] at z
  exact de_lam' h8 hm Fu hb Sg (hG g) TB hcode z (hu_of' nP hj) hr hbody L hNg hva hdef hbind hg hdb hd hcd
end

section
variable {X : Cx} {cl : Cn} {E : XK}
theorem de_never {e : Expr} : DE cl X e (fun _ => fail) := ⟨fun pins s σ H Q I ⟨F, m, vh, ρ, w, r, q⟩ => False.elim q⟩
theorem dssx_never {st : List Stmt} : DSsX cl X E st neverX := ⟨fun pins s σ H D I ⟨F, m, vh, ρ, w, r, q⟩ => False.elim q⟩
end
end VL

/-! VX9: xs.insert(i, y) -/
namespace VL
open PySem PySem.Spec PyProof.Rows L2
section
variable {X : Cx} {cl : Cn} {K : PySem.W.Frag} {F F' F1 F2 : Hp} {m m' m1 m2 : List Addr} {H H' H1 H2 : Hp} {vh vh1 : VH} {ρ : Rho} {σ : Sl} {o : Expr} {apos cpos : Pos} {fo : Rho → M D} {fs : Rho → M (List D)}
def rInsert : V → List V → Hp → VK → Prop := fun x vs H Q => ∃ (l : Addr) (xs : List V) (i : Int) (y : V), x = .ref l ∧ vs = [.int i, y] ∧ H l = some (.lst xs) ∧ xs.length < sizeLine ∧ 0 ≤ i ∧ i < 2 ^ 63 ∧
    Q .non (upd H l (.lst (xs.take i.toNat ++ [y] ++ xs.drop i.toNat)))
def insertF (xs : List D) : List D → Option (D × List D)
  | [.int i, y] => if xs.length < line ∧ 0 ≤ i ∧ i < 9223372036854775808 then some (.non, xs.take i.toNat ++ [y] ++ xs.drop i.toNat) else none
  | _ => none
def insertD : D → List D → M D := wrL insertF
theorem r_insert {x : V} {xs : List V} {Q : VK} (h : rDm cl insertD x xs H Q) : rInsert x xs H Q := by
  obtain ⟨F, m, vh, a, as, w, ra, rs, q⟩ := h
  obtain ⟨p, us, ds, y, ys, rfl, hp, ru, e, fin⟩ := runWrL w ra q
  unfold insertF at e
  split at e
  · rename_i i b
    by_cases hl : ds.length < line ∧ 0 ≤ i ∧ i < 9223372036854775808
    · rw [if_pos hl] at e
      cases Option.some.inj e
      cases rs with
      | @cons vi vs d1 ds1 ri rs1 =>
        obtain ⟨v, rfl, rv⟩ := reps1 rs1
        cases rep_int ri
        obtain ⟨F', m', vh', k, g⟩ := fin (us.take i.toNat ++ [v] ++ us.drop i.toNat) (((ru.take _).append (.cons rv .nil)).append (ru.drop _))
        exact ⟨p, us, i, v, rfl, rfl, hp, lt_line (by rw [ru.length]; exact hl.1), hl.2.1, hl.2.2, k _ .non⟩
    · rw [if_neg hl] at e
      cases e
  · cases e
theorem mIns {e e2 : Expr} (ho : DE cl X o fo) (ha : DA cl X [e, e2] fs) (hb : attributeBase o "insert" X.env (eval o X.env) = eval o X.env := by rfl)
    (hf : ((backTo cpos (starEach [e, e2] X.env)).all (fun x => !x.1) && (backToKw cpos (keywordEach [] X.env)).all (fun x => x.1.isSome) && decide (([e, e2] : List Expr).length + ([] : List Keyword).length + (if ([] : List Keyword).isEmpty then 0 else 1) < 30)) = true := by rfl)
    (hl : (apos.endLine == cpos.line) = true := by rfl) (hs : starEach [e, e2] X.env = (false, eval e X.env) :: starEach [e2] X.env := by rfl) (hp : (backTo cpos (starEach [e2] X.env)).any (·.1) = false := by rfl) :
    DE cl X (.Call (.Attribute o "insert" apos) [e, e2] [] cpos) (methD isLst fo fs insertD) :=
  de_bm ho ha (fun h1 h2 => pe_bm PySem.F.plainAttrs_list PySem.F.slot_list_insert PySem.F.type_list_insert mt_insert h1 h2 hb hf hl hs hp) (fun w r h => ty_list w r h) fun _ _ _ _ h => r_insert h
end
end VL

/-! VX10: enumerate of a tuple -/
namespace VL
open PySem PySem.Spec PyProof.Rows L2
open Sem (wp)
open AutoSeq1 (wpAny_loadPart')
theorem meets_enumT (l : Addr) (items : Array Value) (n : Nat) (dct : Option Addr) (sl : Array (Option Value)) :
    Meets (Builtin.«enumerate.__new__» ⟨[.type "enumerate", .ref l], []⟩) (fun _ R s => s.heap.get? l = some { cls := .type "tuple", dict := dct, data := .seq items n, slots := sl } ∧
      R (.ok (.ret (.ref (s.heap.push { cls := .type "tuple_iterator", data := .fields #[.ref l, .int 0 0] }).objs.size)))
        { s with heap := (s.heap.push { cls := .type "tuple_iterator", data := .fields #[.ref l, .int 0 0] }).push { cls := .type "enumerate", data := .fields #[.none, .bool false, .ref s.heap.objs.size, rawInt 0, .none, .none] } }) :=
  .of_wp fun prog w A R s h => by
    obtain ⟨hp, g, d, tk, os⟩ := s; obtain ⟨hl, h⟩ := h
    have hsub := sub_enumerate
    have hL : Heap.IsTuple (Shared.heap ⟨hp, g, d, tk, os⟩) l items := ⟨_, hl, rfl, n, rfl⟩
    wp_walk using wpAny_loadPart' hl
    refine wpAny_stack_any fun st => wpAny_pure ?_
    split
    · rename_i c _ _ _ _ _
      cases (c == Value.type "enumerate")
      · wp_walk using wpAny_loadPart' hl, wpAny_pyIter_tuple hL
        exact ⟨_, rfl, h⟩
      · wp_walk using wpAny_loadPart' hl, wpAny_pyIter_tuple hL
        exact ⟨_, rfl, h⟩
    · wp_walk using wpAny_loadPart' hl, wpAny_pyIter_tuple hL
      exact ⟨_, rfl, h⟩
theorem call_enumT {prog : Program} {w : World} {A : Around} {E : Value → Shared → Prop} {s : Shared} {l : Addr} {items : Array Value} {Q : Value → Shared → Prop} (hL : s.heap.IsTuple l items)
    (h : ∀ h', IsEnum h' (s.heap.objs.size + 1) s.heap.objs.size 0 .none → h'.IsTupleIter s.heap.objs.size l 0 → h'.objs.size = s.heap.objs.size + 2 →
      (∀ b o, s.heap.get? b = some o → h'.get? b = some o) → Q (.ref (s.heap.objs.size + 1)) { s with heap := h' }) :
    wpAny (model prog w) A (call (.type "enumerate") [.ref l]) Q E s := by
  obtain ⟨⟨c, dct, dt, sl⟩, hl, hc, n, hd⟩ := hL
  replace hc : c = .type "tuple" := hc
  replace hd : dt = .seq items n := hd
  subst hc hd
  refine callType_new F.called_enumerate (by decide) (F.typeCall_enumerate_1 _) (F.newCall_enumerate_1 _) (fun obj => F.args_object_init_2 obj _) F.entry_enumerate_new
    (meets_enumT l items n dct sl) ⟨hl, ?_⟩
  have hz : (s.heap.push { cls := .type "tuple_iterator", data := .fields #[.ref l, .int 0 0] }).objs.size = s.heap.objs.size + 1 := Heap.size_push ..
  show _ ∧ _
  rw [hz]
  have he : IsEnum ((s.heap.push { cls := .type "tuple_iterator", data := .fields #[.ref l, .int 0 0] }).push
      { cls := .type "enumerate", data := .fields #[.none, .bool false, .ref s.heap.objs.size, rawInt 0, .none, .none] }) (s.heap.objs.size + 1) s.heap.objs.size 0 .none := by
    have := Heap.get?_push_size (s.heap.push { cls := .type "tuple_iterator", data := .fields #[.ref l, .int 0 0] })
      (o := { cls := .type "enumerate", data := .fields #[.none, .bool false, .ref s.heap.objs.size, rawInt 0, .none, .none] }) rfl
    rw [hz] at this; exact this
  refine ⟨⟨_, he, rfl⟩, h _ he ⟨_, Heap.get?_push_of_some _ (Heap.get?_push_size _ rfl), rfl, rfl⟩ (by rw [Heap.size_push, hz]) fun b o x => Heap.get?_push_of_some _ (Heap.get?_push_of_some _ x)⟩
/-- the tuple at a as it stands at each turn, each item in a new pair -/
def IteT (K : PySem.W.Frag) (a : Addr) : It :=
  ⟨fun i H => ∃ (xs : List V) (x : V), SqT K H a xs ∧ xs[i]? = some x, fun i H v H' => ∃ T x, v = .ref T ∧ H T = none ∧ H' = upd H T (.tup [.int (i : Nat), x]) ∧ ∀ xs, SqT K H a xs → xs[i]? = some x, fun i H => ∃ xs : List V, SqT K H a xs ∧ i = xs.length⟩
theorem enum_apart {h : Heap} {e it a : Addr} {i : Int} {old : Value} {items : Array Value} (he : IsEnum h e it i old) (hT : h.IsTuple a items) : e ≠ a := by
  intro z
  subst z
  obtain ⟨o, ho, hc, _⟩ := hT
  have := (show h.get? e = _ from he).symm.trans ho
  cases Option.some.inj this
  exact absurd (Value.type.inj hc) (by decide)
theorem iter_apart {h : Heap} {it a : Addr} {i : Nat} {items : Array Value} (hi : h.IsTupleIter it a i) (hT : h.IsTuple a items) : a ≠ it := by
  intro z
  subst z
  obtain ⟨o, ho, hc, _⟩ := hT
  obtain ⟨o', ho', hc', _⟩ := hi
  cases Option.some.inj (ho.symm.trans ho')
  rw [hc] at hc'
  exact absurd (Value.type.inj hc') (by decide)
theorem turn_enumT {P : Program} {w : World} {K : PySem.W.Frag} {elts : List Expr} {kk : Nat} {tpos : Pos} (a e it : Addr) :
    Turn P w K (.Tuple elts kk tpos) (IteT K a) [e, it] e (fun i h => (∃ old, IsEnum h e it ((i : Nat) : Int) old) ∧ h.IsTupleIter it a i ∧ e ≠ it) where
  mem := by simp
  obj := fun i h st b hb => by
    obtain ⟨⟨old, he⟩, ⟨o, ho, hc, hd⟩, _⟩ := st
    have e' : b = e ∨ b = it := by simpa using hb
    rcases e' with z | z
    · rw [z]; exact ⟨_, he, fun v q => nomatch q⟩
    · rw [z]; exact ⟨o, ho, fun v q => by rw [hd] at q; cases q⟩
  keep := fun i h h' st k => let ⟨⟨old, he⟩, hi, hne⟩ := st; ⟨⟨old, k e (by simp) _ he⟩, hi.at fun o q => k it (by simp) o q, hne⟩
  item := by
    intro X hP hw hK hc i pins s σ H E I hf st hg
    subst hP hw hK
    obtain ⟨⟨old, he⟩, hit, hne⟩ := st
    obtain ⟨xs, x, hq, hx⟩ := hg
    obtain ⟨its, rv, p, hz⟩ := I.tuple hq
    obtain ⟨u, hu, ru⟩ := rv.get hx
    have pT : s.heap.IsTuple a its.toArray := p
    have hel : e < s.heap.objs.size := Heap.lt_size he
    have hil : it < s.heap.objs.size := by obtain ⟨_, q, _⟩ := hit; exact Heap.lt_size q
    have hea := enum_apart he pT
    have hai := iter_apart hit pT
    have hlt : i < its.toArray.size := by
      rw [List.size_toArray]
      exact (List.getElem?_eq_some_iff.mp hu).1
    refine wpAny_pyNext_enum_itemD (Draws.tuple (A := X.A.in1) (I.ok.hd hc) it a hai its.toArray) he ⟨hit, pT⟩ hlt hne (by simp [hne, hea]) fun x1 h' tk hx1 ho hit' hT hsz hk => ?_
    have ex : x1 = u := by
      have : its[i]? = some x1 := by simpa using hx1
      rw [hu] at this
      exact (Option.some.inj this).symm
    subst ex
    refine ⟨_, rfl, wpAny_letOwnedTupleGo_enum (s := { s with heap := h', toks := tk + 1 }) ho fun h'' he' sb => ?_⟩
    have hT2 : h''.get? s.heap.objs.size = some { cls := .type "tuple", data := .seq #[.int i tk, x1] } := (sb.2 _ (Nat.ne_of_gt hel)).trans hT
    have new : ObjOk X.prog X.w (upd H s.heap.objs.size (.tup [.int (i : Nat), x])) h'' s.heap.objs.size (.tup [.int (i : Nat), x]) :=
      ⟨by show 2 ≤ sizeLine; decide, [.int i tk, x1], .cons ⟨_, rfl⟩ (.cons ru .nil), ⟨_, hT2, rfl, _, rfl⟩⟩
    have I1 : Inv X pins σ (upd H s.heap.objs.size (.tup [.int (i : Nat), x])) { s with heap := h'', toks := tk + 1 } :=
      I.turnedNew (ch := [e, it]) (fun b ob hb q => (sb.2 b (fun z => hb (by simp [z]))).trans (hk b ob (fun z => hb (by simp [z])) (fun z => hb (by simp [z])) q)) hf (Nat.le_refl _) new
    refine ⟨.ref s.heap.objs.size, _, I1, rfl, ⟨_, x, rfl, I.hok.fresh (Nat.le_refl _), rfl, fun ys hy => by rw [I.tuple_inj hy hq]; exact hx⟩, ⟨⟨x1, ?_⟩, hit'.1.at fun o q => (sb.2 it (Ne.symm hne)).trans q, hne⟩, fun b hb => ?_⟩
    · have e1 : ((i + 1 : Nat) : Int) = (i : Int) + 1 := by omega
      rw [e1]; exact he'
    · have hb' : b < s.heap.objs.size := by
        have e' : b = e ∨ b = it := by simpa using hb
        rcases e' with z | z
        · rw [z]; exact hel
        · rw [z]; exact hil
      rw [upd_ne (Nat.ne_of_lt hb')]
      exact (hf b hb).1
  done := by
    intro X hP hw hK hc i pins s σ H E I hf st hg
    subst hP hw hK
    obtain ⟨⟨old, he⟩, hit, hne⟩ := st
    obtain ⟨xs, hq, hx⟩ := hg
    obtain ⟨its, rv, p, hz⟩ := I.tuple hq
    have pT : s.heap.IsTuple a its.toArray := p
    obtain ⟨f0, f1, f2, f3, f4, f5⟩ := hf it (by simp)
    have hl := rv.length
    have hn : i = its.toArray.size := by rw [List.size_toArray]; omega
    subst hn
    exact wpAny_pyNext_enum_endD (Draws.tuple (A := X.A.in1) (I.ok.hd hc) it a (iter_apart hit pT) its.toArray) he ⟨hit, pT⟩ fun h' eb => ⟨rfl, I.turned (t' := s.toks) (fun b o hb q => eb b o hb q) f0 f1 f3 f4 f5⟩
  self := fun A i s Q E st h => let ⟨⟨_, he⟩, _⟩ := st; wpAny_pyIter_enum he h
def iEnumB (K : PySem.W.Frag) (ta : TA) : TI := fun σ H R => ta σ H fun vs H1 => ∃ a xs, vs = [.ref a] ∧ ((SqL K H1 a xs ∧ R (Ite K a) H1) ∨ (SqT K H1 a xs ∧ R (IteT K a) H1))
theorem pi_enumB {X : Cx} {e : Expr} {ta : TA} {p pos tpos : Pos} {elts : List Expr} {kk : Nat} (hg : Gl X "enumerate") (hm : X.mg "enumerate" = none) (ha : PA X [e] ta) (hs : starEach [e] X.env = [(false, eval e X.env)] := by rfl) :
    PI X (.Tuple elts kk tpos) (.Call (.Name "enumerate" p) [e] [] pos) (iEnumB X.K ta) := by
  refine ⟨fun pins s σ H R I h => ?_⟩
  refine Call_ (ld_blt I hg hm boot_enumerate (PyProof.Rows.callWith_type1 (thn (ha.run pos pins s σ H _ I h) fun us s1 ⟨vs, H1, I1, r1, q1⟩ => ?_) hs rfl))
  obtain ⟨a, xs, ex, hqq⟩ := q1
  subst ex
  cases r1 with
  | cons r rr =>
    cases rr
    cases r
    rcases hqq with ⟨hq, q⟩ | ⟨hq, q⟩
    · obtain ⟨its, rv, p', hz⟩ := I1.list hq
      refine call_enumerate_list p'.isList fun h' he hit hsz hk => wpAny_pyIter_enum he ?_
      have I2 : Inv X pins σ H1 { s1 with heap := h' } := I1.kept (t' := s1.toks) hk
      refine ⟨s1.heap.objs.size + 1, [s1.heap.objs.size + 1, s1.heap.objs.size], _, _, H1, rfl, I2, turn_enum a (s1.heap.objs.size + 1) s1.heap.objs.size, ⟨⟨.none, he⟩, hit, Nat.succ_ne_self _⟩, fun b hb => ?_, q⟩
      have e' : b = s1.heap.objs.size + 1 ∨ b = s1.heap.objs.size := by simpa using hb
      have hle : s1.heap.objs.size ≤ b := by
        rcases e' with z | z
        · rw [z]; exact Nat.le_add_right _ _
        · rw [z]; exact Nat.le_refl _
      exact I1.fpOk hle (I1.hok.fresh hle)
    · obtain ⟨its, rv, p', hz⟩ := I1.tuple hq
      refine call_enumT (items := its.toArray) p' fun h' he hit hsz hk => wpAny_pyIter_enum he ?_
      have I2 : Inv X pins σ H1 { s1 with heap := h' } := I1.kept (t' := s1.toks) hk
      refine ⟨s1.heap.objs.size + 1, [s1.heap.objs.size + 1, s1.heap.objs.size], _, _, H1, rfl, I2, turn_enumT a (s1.heap.objs.size + 1) s1.heap.objs.size, ⟨⟨.none, he⟩, hit, Nat.succ_ne_self _⟩, fun b hb => ?_, q⟩
      have e' : b = s1.heap.objs.size + 1 ∨ b = s1.heap.objs.size := by simpa using hb
      have hle : s1.heap.objs.size ≤ b := by
        rcases e' with z | z
        · rw [z]; exact Nat.le_add_right _ _
        · rw [z]; exact Nat.le_refl _
      exact I1.fpOk hle (I1.hok.fresh hle)
section
variable {X : Cx} {cl : Cn} {K : PySem.W.Frag} {F F' F1 F2 : Hp} {m m' m1 m2 : List Addr} {H H' H1 H2 : Hp} {vh vh1 : VH} {ρ : Rho} {σ : Sl} {tg : Expr}
theorem walk_enumT {a : Addr} {xs : List V} : Walk (IteT K a) xs.length (fun H => SqT K H a xs) (YPair (fun i => some (.int (i : Nat))) (fun i => xs[i]?)) := by
  refine ⟨fun i _ hi q => ⟨xs, xs[i], q, by simp [hi]⟩, fun _ q => ⟨xs, q, rfl⟩, fun i H v H' _ q y => ?_⟩
  obtain ⟨T, x, h1, h2, h3, h4⟩ := y
  exact ⟨T, .int (i : Nat), x, h1, h2, h3, rfl, h4 xs q⟩
theorem itOk_enumT {xs : List D} {a : Addr} {us : List V} (e1 : F a = some (.tup us)) (r1 : Reps cl F m us xs) : ItOk cl F m H (enumL xs) (IteT K a) := by
  refine itOk_pair (n := us.length) (by simp [r1.length]) walk_enumT (fun F2 m2 vh2 H2 g w => w.sqT (g.gr.ext _ _ e1)) (fun i v e hi => ?_) fun i v e _ => r1.get' e
  have : v = .int (i : Nat) := (Option.some.inj e).symm
  subst this
  refine ⟨.int (i : Nat), ?_, .int _⟩
  rw [r1.length] at hi
  simp [hi]
/-- enumerate(xs) of a list or a tuple -/
def enumBIt : List D → M (List D)
  | [.ref n] => fun vh => (lckAt vh[n]?).map fun xs => (enumL xs, vh)
  | [.lst xs] => ret (enumL xs)
  | [.tup xs] => ret (enumL xs)
  | _ => fail
theorem di_enumB {a e : Expr} {fs : Rho → M (List D)} (ha : DA cl X [a] fs) (hb : ∀ {ta : TA}, PA X [a] ta → PI X tg e (iEnumB X.K ta)) : DI cl X tg e (fun ρ => bind (fs ρ) enumBIt) :=
  PIw (hb ha) fun σ H R ⟨F, m, vh, ρ, w, r, q⟩ => tDs_bind w r q fun F1 m1 vh1 H1 as vs w1 r1 g1 rvs q1 => by
    unfold enumBIt at q1
    split at q1
    · rename_i n
      obtain ⟨v, rfl, rv⟩ := reps1 rvs
      cases e1 : lckAt vh1[n]? with
      | none => rw [e1] at q1; exact False.elim q1
      | some xs =>
        rw [e1] at q1
        obtain ⟨a, o, us, rfl, ea, ru⟩ := w1.refLck rv e1
        exact ⟨a, us, rfl, .inl ⟨.inl (.inr ⟨o, ea⟩), Run.ret (a := enumL xs) q1 w1 _ (itOk_enumL ea ru)⟩⟩
    · obtain ⟨v, rfl, rv⟩ := reps1 rvs
      obtain ⟨a, us, rfl, ea, rs⟩ := rep_lst rv
      exact ⟨a, us, rfl, .inl ⟨w1.sqL ea, Run.ret q1 w1 _ (itOk_enum ea rs)⟩⟩
    · rename_i xs
      obtain ⟨v, rfl, rv⟩ := reps1 rvs
      cases rv with
      | @tup a us _ ea rs => exact ⟨a, us, rfl, .inr ⟨w1.sqT ea, Run.ret (a := enumL xs) q1 w1 _ (itOk_enumT ea rs)⟩⟩
    · exact False.elim q1
end
end VL

/-! VX11: max(a, b), min(a, b) of two ints -/
namespace VL
open PySem PySem.Spec PyProof.Rows L2
section
variable {X : Cx} {cl : Cn} {K : PySem.W.Frag} {F F' F1 F2 : Hp} {m m' m1 m2 : List Addr} {H H' H1 H2 : Hp} {vh vh1 : VH} {ρ : Rho} {σ : Sl}
theorem b_max : bootBuiltins "max" = some (.builtin "max") := by decide +kernel
theorem b_min : bootBuiltins "min" = some (.builtin "min") := by decide +kernel
def max2R (_ : VH) : List D → Option D
  | [.int i, .int j] => some (.int (if j > i then j else i))
  | _ => none
def min2R (_ : VH) : List D → Option D
  | [.int i, .int j] => some (.int (if j < i then j else i))
  | _ => none
def max2D : List D → M D := pureD max2R
def min2D : List D → M D := pureD min2R
theorem crr_max2 (hc : X.calm = true) : CallR X (.builtin "max") (rDs cl max2D) := by
  intro pins s σ H xs us Q I r q
  obtain ⟨F, m, vh, as, w, ra, q⟩ := q
  obtain ⟨d, e, q⟩ := run_pure q
  unfold max2R at e
  split at e
  · obtain ⟨v, u, rfl, rv, ru⟩ := reps2 ra
    cases rep_int rv
    cases rep_int ru
    cases Option.some.inj e
    exact call_max2 hc pins s σ H _ us Q I r ⟨_, _, rfl, Run.ret q w _ (.int _)⟩
  · cases e
theorem crr_min2 (hc : X.calm = true) : CallR X (.builtin "min") (rDs cl min2D) := by
  intro pins s σ H xs us Q I r q
  obtain ⟨F, m, vh, as, w, ra, q⟩ := q
  obtain ⟨d, e, q⟩ := run_pure q
  unfold min2R at e
  split at e
  · obtain ⟨v, u, rfl, rv, ru⟩ := reps2 ra
    cases rep_int rv
    cases rep_int ru
    cases Option.some.inj e
    exact call_min2 hc pins s σ H _ us Q I r ⟨_, _, rfl, Run.ret q w _ (.int _)⟩
  · cases e
end
end VL

/-! VH1: the end over the head by one kernel run -/
namespace VL
open PySem PySem.Spec PyProof.Rows L2
open He (ga ma codeOf tabOf cT)
section
variable {K : PySem.W.Frag} {h : Heap}
theorem funC_of {p : Str × Option Str} {x qual : Str} {st : Stmt} {fd : FuncData} (F : Fun K x qual st (He.fAd K p) fd) : FunC K x qual st (He.fAd K p) (codeOf K p) fd := by
  obtain ⟨oc, od, kV, doc, pm, an, cdv, ct, osl, e, lk, hcd⟩ := F.ex
  obtain ⟨c, rfl⟩ := He.codeIn_ref hcd
  have ec := He.codeOf_eq lk (c := c) (by rw [e])
  rw [ec]
  exact ⟨⟨oc, od, kV, doc, pm, an, ct, osl, e, lk, hcd⟩, F.kp⟩
end
open He in
theorem walkX {l : PySem.W.OpenLaw} {q : Program} {loose : List Str} {XP : (Str → Option Value) → Heap → Prop} {d : DefRec} {x : Str} {k n : Nat} {fa : List Fa} {fn : List DefD} {ts : List He.Tab} {tf : List Defn} {ex : PySem.W.Frag → Bool} (hn : l.most = some 63) (hdf : d.params.defaults = []) (hr : Room k callerA)
    (F : ∀ (w : World) (mg : Str → Option Value) (f : Addr) (h : Heap) (K : PySem.W.Frag), K.In h → h.Ns mainGlobals mg → mg d.name = some (.ref f) → SaysX fa fn ts tf ex w h K →
      ∃ (fd : FuncData) (cs : List (Addr × Addr)), (∀ p ∈ cs, h.get? p.2 = some { cls := .none, data := .fields #[] }) ∧ (∀ p ∈ cs, K.lookup p.2 = none) ∧ (∀ p ∈ cs, PySem.W.CodeHd h p.1 p.2) ∧ (∀ (s : Shared) (u : Value), BindsTo s fd ⟨[u], []⟩ [(x, u)]) ∧
        ∀ base : Heap, K.In base → base.Ns mainGlobals mg → (∀ p ∈ cs, LamX.TabB base mg p.1 p.2) → FnOk l.prog w K mg base CX0 k f fd [x] (spLawT K (cs.map (·.2)))) :
    PySem.W.WalkO q loose XP (hookX n fa fn ts tf ex).says l.row.toRowW d [] (fun f vs => PySem.call f vs) :=
  LamX.walk_ofTsE (CX := fun _ => CX0) hn (by decide) hdf hr (fun w mg f h ⟨K, KX, c⟩ G hmg => by
    obtain ⟨fd, cs, hT, nT, C, hb, hF⟩ := F w mg f h K KX G hmg c
    refine ⟨K, KX, fd, cs, spLawT K (cs.map (·.2)), hT, nT, C, hb, fun H a ns hl _ hH hS => ⟨a, ns, rfl, fun p hp => ?_, hS, hl, fun _ => rfl⟩, hF⟩
    obtain ⟨z, hz, e⟩ := List.mem_map.mp hp
    rw [← e]
    exact hH z hz) fun _ _ _ _ _ z => z
end VL

namespace K41
open PySem PySem.Spec PyProof.Rows L2 VL
def qsL : List Str := [(("law" : Str) ++ ".<locals>.") ++ "<lambda>"]
def top (i : Nat) : Stmt := PySem.Challenge.pw_repeatnets_k41_boxes_refused.main.body.getD i (.Pass ⟨0, 0, 0, 0⟩)
def fuelW : Nat := 100000
structure Tx (K : PySem.W.Frag) (mg : Str → Option Value) (cl : Cn) : Prop where
  b_all : mg "all" = none
  b_bool : mg "bool" = none
  b_dict : mg "dict" = none
  b_enumerate : mg "enumerate" = none
  b_int : mg "int" = none
  b_isinstance : mg "isinstance" = none
  b_len : mg "len" = none
  b_list : mg "list" = none
  b_range : mg "range" = none
  b_str : mg "str" = none
  b_tuple : mg "tuple" = none
  b_zip : mg "zip" = none
  c_SIGNS : ∃ t, mg "SIGNS" = some (.str "abcdefghijklmnopqrstuvwxyz0123456789." t)
  c_MOST_CELLS : ∃ t, mg "MOST_CELLS" = some (.int 40 t)
  c_MOST_AXES : ∃ t, mg "MOST_AXES" = some (.int 4 t)
  g_Net : mg "Net" = some (.ref (cl 0))
  cl_Net : Cls K (cl 0)
  mk_Net : PySem.W.makesIn K (cl 0) = true
  kc_Net : PySem.W.keepIn K (.ref (cl 0)) = true
  n_Net__named : NoAttr K (cl 0) "_named"
  n_Net__rooms : NoAttr K (cl 0) "_rooms"
  n_Net__ties : NoAttr K (cl 0) "_ties"
  n_Net_axes : NoAttr K (cl 0) "axes"
  g_NoTie : mg "NoTie" = some (.ref (cl 100))
  xf_NoTie : XfC K (cl 100)
  no_NoTie : NoAttr K (cl 100) "name"
  g_BadNumber : mg "BadNumber" = some (.ref (cl 101))
  xf_BadNumber : XfC K (cl 101)
  no_BadNumber : NoAttr K (cl 101) "number"
  g_NoAxis : mg "NoAxis" = some (.ref (cl 102))
  xf_NoAxis : XfC K (cl 102)
  no_NoAxis : NoAttr K (cl 102) "axis"
  g_BadSizes : mg "BadSizes" = some (.ref (cl 103))
  xf_BadSizes : XfC K (cl 103)
  no_BadSizes : NoAttr K (cl 103) "sizes"
  exm : ∀ i j, i < 4 → j < 4 → PySem.W.exmOne K (.ref (cl (100 + i))) (.ref (cl (100 + j))) = some (decide (i = j))
  nP : (tabP cl qsL).Nodup
  h8 : ∀ i, i < 8 → ∃ j q, qsL[j]? = some q ∧ cl (200 + i) = cl (200 + j)
section
variable {P : Program} {w : World} {K : PySem.W.Frag} {mg : Str → Option Value} {base : Heap} {cl : Cn}
/-! #### _law_start -/
abbrev s__law_start : Stmt := top 85
abbrev N__law_start : List Str := ["_law_script"]
theorem sc__law_start : FnScope ["_law_script"] ["_law_script"] (defScope s__law_start) := ⟨rfl, rfl, rfl, by decide +kernel, rfl, by decide +kernel, by decide +kernel⟩
def g__law_start (L : List D → M D) : Bk := (retS (denA mkLstM (consA (denA L (consA (var 0) nilA)) (consA (kst (.int 0)) (consA (kst (.int 0)) (consA (kst (.int 11)) nilA))))))
def d__law_start (L : List D → M D) : List D → M D := denF 1 (g__law_start L)
theorem ok__law_start {f : Addr} {fd : FuncData} {L : List D → M D} (T : Tx K mg cl) (hL : ListOk cl K L) (Fu : Fun K "_law_start" "_law_start" s__law_start f fd) (hm : mg "_law_start" = some (.ref f)) : Cal P w K mg base cl "_law_start" 1 1 (d__law_start L) := by
  have nd := sc__law_start.nd
  have body : FnOk P w K mg base CX0 1 f fd ["_law_script"] (spD cl 1 (d__law_start L)) := fn_D Fu sc__law_start (fun cdv A outer s H E hr => (dss_one (ds_ret (de_lstM (da_cons (bT (hL _ rfl) b_list T.b_list (da_cons (vr 0) da_nil)) (da_cons kInt (da_cons kInt (da_cons kInt da_nil))))))))
  exact ⟨f, fd, ["_law_script"], hm, Fu.kp, body, Fu.binds (ps := ["_law_script"]) fun _ _ _ _ _ _ us hl => match us, hl with | [_], _ => rfl⟩
/-! #### _law_draw -/
abbrev s__law_draw : Stmt := top 86
abbrev N__law_draw : List Str := ["_law_stream", "_law_many", "_law_mixed", "_law_cell", "_law_digit"]
theorem sc__law_draw : FnScope ["_law_stream", "_law_many", "_law_mixed", "_law_cell", "_law_digit"] ["_law_stream", "_law_many"] (defScope s__law_draw) := ⟨rfl, rfl, rfl, by decide +kernel, rfl, by decide +kernel, by decide +kernel⟩
def g__law_draw : Bk := (seqS (asgS (den2 addD (den2 ixD (var 0) (kst (.int 2))) (kst (.int 1))) (subG (var 0) (kst (.int 2))))
  (seqS (ifS (andB (cmpT eqD (den2 ixD (var 0) (kst (.int 1))) (kst (.int 0))) (cmpT neD (den2 ixD (var 0) (kst (.int 0))) (denA mkLst nilA)))
  (seqS (asgS (methD isLst (den2 ixD (var 0) (kst (.int 0))) (consA (kst (.int 0)) nilA) popAtD) (nameG 3))
  (seqS (asgS (den2 modD (denA intD (consA (den2 addD (den2 addD (den2 mulD (den2 ixD (var 0) (kst (.int 3))) (kst (.int 8191))) (var 3)) (kst (.int 3))) nilA)) (kst (.int 2147483647))) (subG (var 0) (kst (.int 3))))
  (asgS (ifD (cmpT geD (var 3) (den2 powD (kst (.int 10)) (kst (.int 18)))) (var 3) (kst (.int 0))) (subG (var 0) (kst (.int 1)))))) nopS)
  (seqS (ifS (cmpT gtD (den2 ixD (var 0) (kst (.int 1))) (kst (.int 0)))
  (seqS (asgS (den2 modD (denA intD (consA (den2 ixD (var 0) (kst (.int 1))) nilA)) (var 1)) (nameG 4))
  (seqS (asgS (den2 fdivD (den2 ixD (var 0) (kst (.int 1))) (var 1)) (subG (var 0) (kst (.int 1))))
  (retS (var 4)))) nopS)
  (seqS (asgS (den2 modD (denA intD (consA (den2 powD (den2 addD (den2 addD (den2 ixD (var 0) (kst (.int 3))) (den2 mulD (kst (.int 7919)) (den2 ixD (var 0) (kst (.int 2))))) (kst (.int 104729))) (kst (.int 5))) nilA)) (kst (.int 2147483629))) (nameG 2))
  (retS (den2 modD (den2 modD (denA intD (consA (den2 powD (den2 addD (den2 addD (den2 mulD (var 2) (kst (.int 48271))) (den2 mulD (kst (.int 30011)) (den2 ixD (var 0) (kst (.int 2))))) (kst (.int 29))) (kst (.int 3))) nilA)) (kst (.int 1000000007))) (var 1)))))))
def d__law_draw : List D → M D := denF 5 g__law_draw
theorem ok__law_draw {f : Addr} {fd : FuncData} (T : Tx K mg cl) (Fu : Fun K "_law_draw" "_law_draw" s__law_draw f fd) (hm : mg "_law_draw" = some (.ref f)) : Cal P w K mg base cl "_law_draw" 1 2 d__law_draw := by
  have nd := sc__law_draw.nd
  have body : FnOk P w K mg base CX0 1 f fd ["_law_stream", "_law_many"] (spD cl 2 d__law_draw) := fn_D Fu sc__law_draw (fun cdv A outer s H E hr => (dss_cons (xDput (hu_of hr) (de_op op_addD (de_ix (ix_D (hu_of hr)) (vr 0) kInt (fun _ _ => rfl)) kInt) (vr 0) kInt)
  (dss_cons (ds_if (dt_w (dw_and (dt_cmp (op_eqD' (hr.units)) (de_ix (ix_D (hu_of hr)) (vr 0) kInt (fun _ _ => rfl)) kInt (nomark _)) (dw_and1 (dt_cmp (op_neD' (hr.units)) (de_ix (ix_D (hu_of hr)) (vr 0) kInt (fun _ _ => rfl)) (de_lst da_nil) (nomark _)))))
  (dss_cons (ds_set (mPopAt (de_ix (ix_D (hu_of hr)) (vr 0) kInt (fun _ _ => rfl)) (da_cons kInt da_nil)) fun h => ps_set (i := 3) nd rfl (by first | exact Or.inl rfl | exact Or.inr rfl) h)
  (dss_cons (xDput (hu_of hr) (de_op op_modD (bT cr_int b_int T.b_int (da_cons (de_op op_addD (de_op op_addD (de_op op_mulD (de_ix (ix_D (hu_of hr)) (vr 0) kInt (fun _ _ => rfl)) kInt) (vr 3)) kInt) da_nil)) kInt) (vr 0) kInt)
  (dss_one (xDput (hu_of hr) (de_ifExp (dt_cmp op_geD (vr 3) (de_op op_powD kInt kInt) (nomark _)) (vr 3) kInt) (vr 0) kInt)))) dss_nil)
  (dss_cons (ds_if (dt_cmp op_gtD (de_ix (ix_D (hu_of hr)) (vr 0) kInt (fun _ _ => rfl)) kInt (nomark _))
  (dss_cons (ds_set (de_op op_modD (bT cr_int b_int T.b_int (da_cons (de_ix (ix_D (hu_of hr)) (vr 0) kInt (fun _ _ => rfl)) da_nil)) (vr 1)) fun h => ps_set (i := 4) nd rfl (by first | exact Or.inl rfl | exact Or.inr rfl) h)
  (dss_cons (xDput (hu_of hr) (de_op op_fdivD (de_ix (ix_D (hu_of hr)) (vr 0) kInt (fun _ _ => rfl)) (vr 1)) (vr 0) kInt)
  (dss_one (ds_ret (vr 4))))) dss_nil)
  (dss_cons (ds_set (de_op op_modD (bT cr_int b_int T.b_int (da_cons (de_op op_powD (de_op op_addD (de_op op_addD (de_ix (ix_D (hu_of hr)) (vr 0) kInt (fun _ _ => rfl)) (de_op op_mulD kInt (de_ix (ix_D (hu_of hr)) (vr 0) kInt (fun _ _ => rfl)))) kInt) kInt) da_nil)) kInt) fun h => ps_set (i := 2) nd rfl (by first | exact Or.inl rfl | exact Or.inr rfl) h)
  (dss_one (ds_ret (de_op op_modD (de_op op_modD (bT cr_int b_int T.b_int (da_cons (de_op op_powD (de_op op_addD (de_op op_addD (de_op op_mulD (vr 2) kInt) (de_op op_mulD kInt (de_ix (ix_D (hu_of hr)) (vr 0) kInt (fun _ _ => rfl)))) kInt) kInt) da_nil)) kInt) (vr 1)))))))))
  exact ⟨f, fd, ["_law_stream", "_law_many"], hm, Fu.kp, body, Fu.binds (ps := ["_law_stream", "_law_many"]) fun _ _ _ _ _ _ us hl => match us, hl with | [_, _], _ => rfl⟩
/-! #### _law_pick -/
abbrev s__law_pick : Stmt := top 87
abbrev N__law_pick : List Str := ["_law_stream", "_law_some"]
theorem sc__law_pick : FnScope ["_law_stream", "_law_some"] ["_law_stream", "_law_some"] (defScope s__law_pick) := ⟨rfl, rfl, rfl, by decide +kernel, rfl, by decide +kernel, by decide +kernel⟩
def g__law_pick : Bk := (retS (den2 ixD (var 1) (denA (denC 2 d__law_draw) (consA (var 0) (consA (denA lenD (consA (var 1) nilA)) nilA)))))
def d__law_pick : List D → M D := denF 2 g__law_pick
theorem ok__law_pick {f : Addr} {fd : FuncData} (T : Tx K mg cl) (C__law_draw : Cal P w K mg base cl "_law_draw" 1 2 d__law_draw) (Fu : Fun K "_law_pick" "_law_pick" s__law_pick f fd) (hm : mg "_law_pick" = some (.ref f)) : Cal P w K mg base cl "_law_pick" 2 2 d__law_pick := by
  have nd := sc__law_pick.nd
  have body : FnOk P w K mg base CX0 2 f fd ["_law_stream", "_law_some"] (spD cl 2 d__law_pick) := fn_D Fu sc__law_pick (fun cdv A outer s H E hr => (dss_one (ds_ret (de_ix (ix_D (hu_of hr)) (vr 1) (cF C__law_draw (hr.mono (by decide)) (da_cons (vr 0) (da_cons (bB cr_len b_len T.b_len (da_cons (vr 1) da_nil)) da_nil))) (fun _ _ => rfl)))))
  exact ⟨f, fd, ["_law_stream", "_law_some"], hm, Fu.kp, body, Fu.binds (ps := ["_law_stream", "_law_some"]) fun _ _ _ _ _ _ us hl => match us, hl with | [_, _], _ => rfl⟩
/-! #### _law_n_words -/
abbrev s__law_n_words : Stmt := top 82
abbrev N__law_n_words : List Str := ["_law_stream", "_law_many", "_law_found", "_law_k", "_law_word", "_law_spare", "_law_sign", "_law_letter", "_law_x"]
theorem sc__law_n_words : FnScope ["_law_stream", "_law_many", "_law_found", "_law_k", "_law_word", "_law_spare", "_law_sign", "_law_letter", "_law_x"] ["_law_stream", "_law_many"] (defScope s__law_n_words) := ⟨rfl, rfl, rfl, by decide +kernel, rfl, by decide +kernel, by decide +kernel⟩
def g__law_n_words : Bk := (seqS (asgS (denA mkLstM nilA) (nameG 2))
  (seqS (forS (argI range1It (consA (var 1) nilA)) (nameG 3)
  (seqS (asgS (methD isStr (kst (.str "")) (consA (lcD (argI range1It (consA (den2 addD (kst (.int 1)) (denA (denC 2 d__law_draw) (consA (var 0) (consA (kst (.int 4)) nilA)))) nilA)) (nameG 6) yesT (denA (denC 2 d__law_pick) (consA (var 0) (consA (kst (.str "abcxyz019.")) nilA))) [6] still0) nilA) joinD) (nameG 4))
  (seqS (asgS (den2 addD (denA mkLst (consA (var 4) nilA)) (lcD (seqI (kst (.str "abcdefghijklmnopqrstuvwxyz"))) (nameG 7) yesT (den2 addD (var 7) (kst (.str "q"))) [7] still0)) (nameG 5))
  (dropS (methD isLst (var 2) (consA (den2 ixD (lcD (seqI (var 5)) (nameG 8) (cmpT ninD (var 8) (var 2)) (var 8) [8] still0) (kst (.int 0))) nilA) appendD)))))
  (retS (stE (var 2)))))
def d__law_n_words : List D → M D := denF 9 g__law_n_words
theorem ok__law_n_words {f : Addr} {fd : FuncData} (T : Tx K mg cl) (C__law_draw : Cal P w K mg base cl "_law_draw" 1 2 d__law_draw) (C__law_pick : Cal P w K mg base cl "_law_pick" 2 2 d__law_pick) (Fu : Fun K "_law_n_words" "_law_n_words" s__law_n_words f fd) (hm : mg "_law_n_words" = some (.ref f)) : Cal P w K mg base cl "_law_n_words" 3 2 d__law_n_words := by
  have nd := sc__law_n_words.nd
  have body : FnOk P w K mg base CX0 3 f fd ["_law_stream", "_law_many"] (spD cl 2 d__law_n_words) := fn_D Fu sc__law_n_words (fun cdv A outer s H E hr => (dss_cons (ds_set (de_lstM da_nil) fun h => ps_set (i := 2) nd rfl (by first | exact Or.inl rfl | exact Or.inr rfl) h)
  (dss_cons (ds_for PassesOwn.never rfl (di_range1 (da_cons (vr 1) da_nil) fun h => pi_range1 (by rfl) T.b_range h) (dg_name' (pg_name (i := 3) nd rfl (by first | exact Or.inl rfl | exact Or.inr rfl)))
  (dss_cons (ds_set (mJoin kStr (da_cons (de_lc (own := [("_law_sign", 6)]) rfl nd (di_range1 (da_cons (de_op op_addD kInt (cF C__law_draw (hr.mono (by decide)) (da_cons (vr 0) (da_cons kInt da_nil)))) da_nil) fun h => pi_range1 (by rfl) T.b_range h) (blkOk_by (show blkC N__law_n_words (defScope s__law_n_words) _ _ = true from by decide +kernel)) (fun _ _ _ _ _ => (dg_name' (pg_name (i := 6) nd rfl (by first | exact Or.inl rfl | exact Or.inr rfl)))) (fun _ _ _ _ _ => dts_nil) (fun _ _ _ _ _ => (cF C__law_pick (hr.mono (by decide)) (da_cons (vr 0) (da_cons kStr da_nil))))) da_nil)) fun h => ps_set (i := 4) nd rfl (by first | exact Or.inl rfl | exact Or.inr rfl) h)
  (dss_cons (ds_set (de_op op_addD (de_lst (da_cons (vr 4) da_nil)) (de_lc (own := [("_law_letter", 7)]) rfl nd (di_seq kStr) (blkOk_by (show blkC N__law_n_words (defScope s__law_n_words) _ _ = true from by decide +kernel)) (fun _ _ _ _ _ => (dg_name' (pg_name (i := 7) nd rfl (by first | exact Or.inl rfl | exact Or.inr rfl)))) (fun _ _ _ _ _ => dts_nil) (fun _ _ _ _ _ => (de_op op_addD (vr 7) kStr)))) fun h => ps_set (i := 5) nd rfl (by first | exact Or.inl rfl | exact Or.inr rfl) h)
  (dss_one (ds_expr (mApp (vr 2) (da_cons (de_ix (ix_D (hu_of hr)) (de_lc (own := [("_law_x", 8)]) rfl nd (di_seq (vr 5)) (blkOk_by (show blkC N__law_n_words (defScope s__law_n_words) _ _ = true from by decide +kernel)) (fun _ _ _ _ _ => (dg_name' (pg_name (i := 8) nd rfl (by first | exact Or.inl rfl | exact Or.inr rfl)))) (fun _ _ _ _ _ => (dts_one (dt_cmp (op_ninD (hu_of hr)) (vr 8) (vr 2) (by rfl)))) (fun _ _ _ _ _ => (vr 8))) kInt (fun _ _ => rfl)) da_nil)))))))
  (dss_one (ds_ret (de_still (vr 2)))))))
  exact ⟨f, fd, ["_law_stream", "_law_many"], hm, Fu.kp, body, Fu.binds (ps := ["_law_stream", "_law_many"]) fun _ _ _ _ _ _ us hl => match us, hl with | [_, _], _ => rfl⟩
/-! #### _law_n_plan -/
abbrev s__law_n_plan : Stmt := top 83
abbrev N__law_n_plan : List Str := ["_law_stream", "_law_axes", "_law_halls", "_law_many", "_law_wide", "_law_names", "_law_count", "_law_ties", "_law_k", "_law_name", "_law_start_here", "_law_end", "_law_step", "_law_axis"]
theorem sc__law_n_plan : FnScope ["_law_stream", "_law_axes", "_law_halls", "_law_many", "_law_wide", "_law_names", "_law_count", "_law_ties", "_law_k", "_law_name", "_law_start_here", "_law_end", "_law_step", "_law_axis"] ["_law_stream", "_law_axes", "_law_halls", "_law_many", "_law_wide"] (defScope s__law_n_plan) := ⟨rfl, rfl, rfl, by decide +kernel, rfl, by decide +kernel, by decide +kernel⟩
def g__law_n_plan : Bk := (seqS (asgS (denA (denC 2 d__law_n_words) (consA (var 0) (consA (den2 addD (kst (.int 1)) (denA (denC 2 d__law_draw) (consA (var 0) (consA (var 2) nilA)))) nilA))) (nameG 5))
  (seqS (parS 6 7 (consA (den2 addD (kst (.int 1)) (denA (denC 2 d__law_draw) (consA (var 0) (consA (var 3) nilA)))) (consA (denA mkLstM nilA) nilA)))
  (seqS (forS (argI enumIt (consA (denA (denC 2 d__law_n_words) (consA (var 0) (consA (var 6) nilA))) nilA)) (unpG 2 (consG (nameG 8) (consG (nameG 9) nilG)))
  (seqS (parS 10 11 (consA (denA (denC 2 d__law_pick) (consA (var 0) (consA (var 5) nilA))) (consA (denA (denC 2 d__law_pick) (consA (var 0) (consA (var 5) nilA))) nilA)))
  (seqS (ifS (andB (cmpT ltD (var 8) (denA lenD (consA (var 5) nilA))) (cmpT gtD (denA (denC 2 d__law_draw) (consA (var 0) (consA (kst (.int 4)) nilA))) (kst (.int 0))))
  (parS 10 11 (consA (den2 ixD (var 5) (var 8)) (consA (den2 ixD (var 5) (den2 modD (den2 addD (var 8) (kst (.int 1))) (denA lenD (consA (var 5) nilA)))) nilA))) nopS)
  (seqS (asgS (lcD (argI range1It (consA (var 1) nilA)) (nameG 13) yesT (den2 subD (denA (denC 2 d__law_draw) (consA (var 0) (consA (den2 addD (den2 mulD (kst (.int 2)) (var 4)) (kst (.int 1))) nilA))) (var 4)) [13] still0) (nameG 12))
  (dropS (methD isLst (var 7) (consA (denA mkTup (consA (var 9) (consA (var 10) (consA (var 11) (consA (denA tupleD (consA (var 12) nilA)) nilA))))) nilA) appendD))))))
  (retS (denA mkTup (consA (var 1) (consA (var 5) (consA (stE (var 7)) nilA))))))))
def d__law_n_plan : List D → M D := denF 14 g__law_n_plan
theorem ok__law_n_plan {f : Addr} {fd : FuncData} (T : Tx K mg cl) (C__law_draw : Cal P w K mg base cl "_law_draw" 1 2 d__law_draw) (C__law_n_words : Cal P w K mg base cl "_law_n_words" 3 2 d__law_n_words) (C__law_pick : Cal P w K mg base cl "_law_pick" 2 2 d__law_pick) (Fu : Fun K "_law_n_plan" "_law_n_plan" s__law_n_plan f fd) (hm : mg "_law_n_plan" = some (.ref f)) : Cal P w K mg base cl "_law_n_plan" 4 5 d__law_n_plan := by
  have nd := sc__law_n_plan.nd
  have body : FnOk P w K mg base CX0 4 f fd ["_law_stream", "_law_axes", "_law_halls", "_law_many", "_law_wide"] (spD cl 5 d__law_n_plan) := fn_D Fu sc__law_n_plan (fun cdv A outer s H E hr => (dss_cons (ds_set (cF C__law_n_words (hr.mono (by decide)) (da_cons (vr 0) (da_cons (de_op op_addD kInt (cF C__law_draw (hr.mono (by decide)) (da_cons (vr 0) (da_cons (vr 2) da_nil)))) da_nil))) fun h => ps_set (i := 5) nd rfl (by first | exact Or.inl rfl | exact Or.inr rfl) h)
  (dss_cons (ds_par (da_cons (de_op op_addD kInt (cF C__law_draw (hr.mono (by decide)) (da_cons (vr 0) (da_cons (vr 3) da_nil)))) (da_cons (de_lstM da_nil) da_nil)) fun h => ps_par (i := 6) (j := 7) rfl nd rfl rfl (by decide) rfl rfl h (by rfl))
  (dss_cons (ds_for PassesOwn.never rfl (di_enum (da_cons (cF C__law_n_words (hr.mono (by decide)) (da_cons (vr 0) (da_cons (vr 6) da_nil))) da_nil) fun h => pi_enum (by rfl) T.b_enumerate h) (dg_unp rfl (dgs_cons (dg_name' (pg_name (i := 8) nd rfl (by first | exact Or.inl rfl | exact Or.inr rfl))) (dgs_cons (dg_name' (pg_name (i := 9) nd rfl (by first | exact Or.inl rfl | exact Or.inr rfl))) dgs_nil)))
  (dss_cons (ds_par (da_cons (cF C__law_pick (hr.mono (by decide)) (da_cons (vr 0) (da_cons (vr 5) da_nil))) (da_cons (cF C__law_pick (hr.mono (by decide)) (da_cons (vr 0) (da_cons (vr 5) da_nil))) da_nil)) fun h => ps_par (i := 10) (j := 11) rfl nd rfl rfl (by decide) rfl rfl h (by rfl))
  (dss_cons (ds_if (dt_w (dw_and (dt_cmp op_ltD (vr 8) (bB cr_len b_len T.b_len (da_cons (vr 5) da_nil)) (nomark _)) (dw_and1 (dt_cmp op_gtD (cF C__law_draw (hr.mono (by decide)) (da_cons (vr 0) (da_cons kInt da_nil))) kInt (nomark _)))))
  (dss_one (ds_par (da_cons (de_ix (ix_D (hu_of hr)) (vr 5) (vr 8) (fun _ _ => rfl)) (da_cons (de_ix (ix_D (hu_of hr)) (vr 5) (de_op op_modD (de_op op_addD (vr 8) kInt) (bB cr_len b_len T.b_len (da_cons (vr 5) da_nil))) (fun _ _ => rfl)) da_nil)) fun h => ps_par (i := 10) (j := 11) rfl nd rfl rfl (by decide) rfl rfl h (by rfl))) dss_nil)
  (dss_cons (ds_setLc (i := 12) (own := [("_law_axis", 13)]) rfl nd rfl rfl (sw_true rfl rfl rfl (by decide +kernel)) (di_range1 (da_cons (vr 1) da_nil) fun h => pi_range1 (by rfl) T.b_range h) (blkOk_by (show blkC N__law_n_plan (defScope s__law_n_plan) _ _ = true from by decide +kernel)) (fun _ _ _ _ _ => (dg_name' (pg_name (i := 13) nd rfl (by first | exact Or.inl rfl | exact Or.inr rfl)))) (fun _ _ _ _ _ => dts_nil) (fun _ _ _ _ _ => (de_op op_subD (cF C__law_draw (hr.mono (by decide)) (da_cons (vr 0) (da_cons (de_op op_addD (de_op op_mulD kInt (vr 4)) kInt) da_nil))) (vr 4))))
  (dss_one (ds_expr (mApp (vr 7) (da_cons (de_tup (da_cons (vr 9) (da_cons (vr 10) (da_cons (vr 11) (da_cons (bT cr_tuple b_tuple T.b_tuple (da_cons (vr 12) da_nil)) da_nil))))) da_nil))))))))
  (dss_one (ds_ret (de_tup (da_cons (vr 1) (da_cons (vr 5) (da_cons (de_still (vr 7)) da_nil))))))))))
  exact ⟨f, fd, ["_law_stream", "_law_axes", "_law_halls", "_law_many", "_law_wide"], hm, Fu.kp, body, Fu.binds (ps := ["_law_stream", "_law_axes", "_law_halls", "_law_many", "_law_wide"]) fun _ _ _ _ _ _ us hl => match us, hl with | [_, _, _, _, _], _ => rfl⟩
/-! #### is_whole -/
abbrev s_is_whole : Stmt := top 15
abbrev N_is_whole : List Str := ["thing"]
theorem sc_is_whole : FnScope ["thing"] ["thing"] (defScope s_is_whole) := ⟨rfl, rfl, rfl, by decide +kernel, rfl, by decide +kernel, by decide +kernel⟩
def g_is_whole : Bk := (retS (andD (denA isiD (consA (var 0) (consA (kst (.ty "int")) nilA))) (den1 notD (denA isiD (consA (var 0) (consA (kst (.ty "bool")) nilA))))))
def d_is_whole : List D → M D := denF 1 g_is_whole
theorem ok_is_whole {f : Addr} {fd : FuncData} (T : Tx K mg cl) (Fu : Fun K "is_whole" "is_whole" s_is_whole f fd) (hm : mg "is_whole" = some (.ref f)) : Cal P w K mg base cl "is_whole" 1 1 d_is_whole := by
  have nd := sc_is_whole.nd
  have body : FnOk P w K mg base CX0 1 f fd ["thing"] (spD cl 1 d_is_whole) := fn_D Fu sc_is_whole (fun cdv A outer s H E hr => (dss_one (ds_ret (de_and (bB cr_isi b_isinstance T.b_isinstance (da_cons (vr 0) (da_cons (kTy b_int T.b_int) da_nil))) (de_one (de_not (bB cr_isi b_isinstance T.b_isinstance (da_cons (vr 0) (da_cons (kTy b_bool T.b_bool) da_nil)))))))))
  exact ⟨f, fd, ["thing"], hm, Fu.kp, body, Fu.binds (ps := ["thing"]) fun _ _ _ _ _ _ us hl => match us, hl with | [_], _ => rfl⟩
/-! #### is_between -/
abbrev s_is_between : Stmt := top 16
abbrev N_is_between : List Str := ["thing", "least", "most"]
theorem sc_is_between : FnScope ["thing", "least", "most"] ["thing", "least", "most"] (defScope s_is_between) := ⟨rfl, rfl, rfl, by decide +kernel, rfl, by decide +kernel, by decide +kernel⟩
def g_is_between : Bk := (retS (andD (denA (denC 1 d_is_whole) (consA (var 0) nilA)) (chainD leD leD (var 1) (var 0) (var 2))))
def d_is_between : List D → M D := denF 3 g_is_between
theorem ok_is_between {f : Addr} {fd : FuncData} (T : Tx K mg cl) (C_is_whole : Cal P w K mg base cl "is_whole" 1 1 d_is_whole) (Fu : Fun K "is_between" "is_between" s_is_between f fd) (hm : mg "is_between" = some (.ref f)) : Cal P w K mg base cl "is_between" 2 3 d_is_between := by
  have nd := sc_is_between.nd
  have body : FnOk P w K mg base CX0 2 f fd ["thing", "least", "most"] (spD cl 3 d_is_between) := fn_D Fu sc_is_between (fun cdv A outer s H E hr => (dss_one (ds_ret (de_and (cF C_is_whole (hr.mono (by decide)) (da_cons (vr 0) da_nil)) (de_one (de_chain op_leD op_leD (vr 1) (vr 0) (vr 2)))))))
  exact ⟨f, fd, ["thing", "least", "most"], hm, Fu.kp, body, Fu.binds (ps := ["thing", "least", "most"]) fun _ _ _ _ _ _ us hl => match us, hl with | [_, _, _], _ => rfl⟩
/-! #### is_list -/
abbrev s_is_list : Stmt := top 17
abbrev N_is_list : List Str := ["thing"]
theorem sc_is_list : FnScope ["thing"] ["thing"] (defScope s_is_list) := ⟨rfl, rfl, rfl, by decide +kernel, rfl, by decide +kernel, by decide +kernel⟩
def g_is_list : Bk := (retS (denA isiD (consA (var 0) (consA (denA mkTup (consA (kst (.ty "list")) (consA (kst (.ty "tuple")) nilA))) nilA))))
def d_is_list : List D → M D := denF 1 g_is_list
theorem ok_is_list {f : Addr} {fd : FuncData} (T : Tx K mg cl) (Fu : Fun K "is_list" "is_list" s_is_list f fd) (hm : mg "is_list" = some (.ref f)) : Cal P w K mg base cl "is_list" 1 1 d_is_list := by
  have nd := sc_is_list.nd
  have body : FnOk P w K mg base CX0 1 f fd ["thing"] (spD cl 1 d_is_list) := fn_D Fu sc_is_list (fun cdv A outer s H E hr => (dss_one (ds_ret (bB cr_isi b_isinstance T.b_isinstance (da_cons (vr 0) (da_cons (de_tup (da_cons (kTy b_list T.b_list) (da_cons (kTy b_tuple T.b_tuple) da_nil))) da_nil))))))
  exact ⟨f, fd, ["thing"], hm, Fu.kp, body, Fu.binds (ps := ["thing"]) fun _ _ _ _ _ _ us hl => match us, hl with | [_], _ => rfl⟩
/-! #### is_name -/
abbrev s_is_name : Stmt := top 18
abbrev N_is_name : List Str := ["thing", "sign"]
theorem sc_is_name : FnScope ["thing", "sign"] ["thing"] (defScope s_is_name) := ⟨rfl, rfl, rfl, by decide +kernel, rfl, by decide +kernel, by decide +kernel⟩
def g_is_name : Bk := (retS (andD (denA isiD (consA (var 0) (consA (kst (.ty "str")) nilA))) (andD (den2 gtD (denA lenD (consA (var 0) nilA)) (kst (.int 0))) (denA allD (consA (lcD (seqI (var 0)) (nameG 1) yesT (den2 inD (var 1) (kst (.str "abcdefghijklmnopqrstuvwxyz0123456789."))) [1] still0) nilA)))))
def d_is_name : List D → M D := denF 2 g_is_name
theorem ok_is_name {f : Addr} {fd : FuncData} (T : Tx K mg cl) (Fu : Fun K "is_name" "is_name" s_is_name f fd) (hm : mg "is_name" = some (.ref f)) : Cal P w K mg base cl "is_name" 1 1 d_is_name := by
  have nd := sc_is_name.nd
  have body : FnOk P w K mg base CX0 1 f fd ["thing"] (spD cl 1 d_is_name) := fn_D Fu sc_is_name (fun cdv A outer s H E hr => (dss_one (ds_ret (de_and (bB cr_isi b_isinstance T.b_isinstance (da_cons (vr 0) (da_cons (kTy b_str T.b_str) da_nil))) (de_and (de_cmp op_gtD (bB cr_len b_len T.b_len (da_cons (vr 0) da_nil)) kInt (nomark _)) (de_one (bB (crr_all rfl) b_all T.b_all (da_cons (de_lc (own := [("sign", 1)]) rfl nd (di_seq (vr 0)) (blkOk_by (show blkC N_is_name (defScope s_is_name) _ _ = true from by decide +kernel)) (fun _ _ _ _ _ => (dg_name' (pg_name (i := 1) nd rfl (by first | exact Or.inl rfl | exact Or.inr rfl)))) (fun _ _ _ _ _ => dts_nil) (fun _ _ _ _ _ => (de_cmp (op_inD (hu_of hr)) (vr 1) (kGs T.c_SIGNS) (by rfl)))) da_nil))))))))
  exact ⟨f, fd, ["thing"], hm, Fu.kp, body, Fu.binds (ps := ["thing"]) fun _ _ _ _ _ _ us hl => match us, hl with | [_], _ => rfl⟩
/-! #### are_rooms -/
abbrev s_are_rooms : Stmt := top 34
abbrev N_are_rooms : List Str := ["thing", "word"]
theorem sc_are_rooms : FnScope ["thing", "word"] ["thing"] (defScope s_are_rooms) := ⟨rfl, rfl, rfl, by decide +kernel, rfl, by decide +kernel, by decide +kernel⟩
def g_are_rooms : Bk := (seqS (ifS (orB (notB (valT (denA (denC 1 d_is_list) (consA (var 0) nilA)))) (orB (cmpT eqD (denA lenD (consA (var 0) nilA)) (kst (.int 0))) (notB (valT (denA allD (consA (lockL 0 (lcD (seqI (var 0)) (nameG 1) yesT (denA (denC 1 d_is_name) (consA (var 1) nilA)) [1] still0)) nilA))))))
  (retS (kst (.bl false))) nopS)
  (retS (den2 eqD (denA lenD (consA (lockL 0 (dcD (seqI (var 0)) (nameG 1) yesT (var 1) (kst (.bl true)) [1] stillD)) nilA)) (denA lenD (consA (var 0) nilA)))))
def d_are_rooms : List D → M D := denF 2 g_are_rooms
theorem ok_are_rooms {f : Addr} {fd : FuncData} (T : Tx K mg cl) (C_is_list : Cal P w K mg base cl "is_list" 1 1 d_is_list) (C_is_name : Cal P w K mg base cl "is_name" 1 1 d_is_name) (Fu : Fun K "are_rooms" "are_rooms" s_are_rooms f fd) (hm : mg "are_rooms" = some (.ref f)) : Cal P w K mg base cl "are_rooms" 2 1 d_are_rooms := by
  have nd := sc_are_rooms.nd
  have body : FnOk P w K mg base CX0 2 f fd ["thing"] (spD cl 1 d_are_rooms) := fn_D Fu sc_are_rooms (fun cdv A outer s H E hr => (dss_cons (ds_if (dt_w (dw_or (dt_not (dt_val (cF C_is_list (hr.mono (by decide)) (da_cons (vr 0) da_nil)))) (dw_or (dt_cmp (op_eqD' (hr.units)) (bB cr_len b_len T.b_len (da_cons (vr 0) da_nil)) kInt (nomark _)) (dw_or1 (dt_not (dt_val (bB (crr_all rfl) b_all T.b_all (da_cons (deL 0 (de_lc (own := [("word", 1)]) rfl nd (di_seq (vr 0)) (blkOk_by (show blkC N_are_rooms (defScope s_are_rooms) _ _ = true from by decide +kernel)) (fun _ _ _ _ _ => (dg_name' (pg_name (i := 1) nd rfl (by first | exact Or.inl rfl | exact Or.inr rfl)))) (fun _ _ _ _ _ => dts_nil) (fun _ _ _ _ _ => (cF C_is_name (hr.mono (by decide)) (da_cons (vr 1) da_nil))))) da_nil))))))))
  (dss_one (ds_ret kBl)) dss_nil)
  (dss_one (ds_ret (de_cmp (op_eqD' (hr.units)) (bB cr_len b_len T.b_len (da_cons (deL 0 (de_dc (own := [("word", 1)]) rfl nd (di_seq (vr 0)) (blkOk_by (show blkC N_are_rooms (defScope s_are_rooms) _ _ = true from by decide +kernel)) (fun _ _ _ _ _ => (dg_name' (pg_name (i := 1) nd rfl (by first | exact Or.inl rfl | exact Or.inr rfl)))) (fun _ _ _ _ _ => dts_nil) (fun _ _ _ _ _ => (vr 1)) (fun _ _ _ _ _ => kBl))) da_nil)) (bB cr_len b_len T.b_len (da_cons (vr 0) da_nil)) (nomark _))))))
  exact ⟨f, fd, ["thing"], hm, Fu.kp, body, Fu.binds (ps := ["thing"]) fun _ _ _ _ _ _ us hl => match us, hl with | [_], _ => rfl⟩
/-! #### is_key -/
abbrev s_is_key : Stmt := top 19
abbrev N_is_key : List Str := ["thing", "table"]
theorem sc_is_key : FnScope ["thing", "table"] ["thing", "table"] (defScope s_is_key) := ⟨rfl, rfl, rfl, by decide +kernel, rfl, by decide +kernel, by decide +kernel⟩
def g_is_key : Bk := (retS (andD (denA isiD (consA (var 0) (consA (kst (.ty "str")) nilA))) (den2 inD (var 0) (var 1))))
def d_is_key : List D → M D := denF 2 g_is_key
theorem ok_is_key {f : Addr} {fd : FuncData} (T : Tx K mg cl) (Fu : Fun K "is_key" "is_key" s_is_key f fd) (hm : mg "is_key" = some (.ref f)) : Cal P w K mg base cl "is_key" 1 2 d_is_key := by
  have nd := sc_is_key.nd
  have body : FnOk P w K mg base CX0 1 f fd ["thing", "table"] (spD cl 2 d_is_key) := fn_D Fu sc_is_key (fun cdv A outer s H E hr => (dss_one (ds_ret (de_and (bB cr_isi b_isinstance T.b_isinstance (da_cons (vr 0) (da_cons (kTy b_str T.b_str) da_nil))) (de_one (de_cmp (op_inD (hu_of hr)) (vr 0) (vr 1) (by rfl)))))))
  exact ⟨f, fd, ["thing", "table"], hm, Fu.kp, body, Fu.binds (ps := ["thing", "table"]) fun _ _ _ _ _ _ us hl => match us, hl with | [_, _], _ => rfl⟩
/-! #### are_whole -/
abbrev s_are_whole : Stmt := top 20
abbrev N_are_whole : List Str := ["thing", "many", "number"]
theorem sc_are_whole : FnScope ["thing", "many", "number"] ["thing", "many"] (defScope s_are_whole) := ⟨rfl, rfl, rfl, by decide +kernel, rfl, by decide +kernel, by decide +kernel⟩
def g_are_whole : Bk := (retS (andD (denA (denC 1 d_is_list) (consA (var 0) nilA)) (andD (den2 eqD (denA lenD (consA (var 0) nilA)) (var 1)) (denA allD (consA (lockL 0 (lcD (seqI (var 0)) (nameG 2) yesT (denA (denC 1 d_is_whole) (consA (var 2) nilA)) [2] still0)) nilA)))))
def d_are_whole : List D → M D := denF 3 g_are_whole
theorem ok_are_whole {f : Addr} {fd : FuncData} (T : Tx K mg cl) (C_is_list : Cal P w K mg base cl "is_list" 1 1 d_is_list) (C_is_whole : Cal P w K mg base cl "is_whole" 1 1 d_is_whole) (Fu : Fun K "are_whole" "are_whole" s_are_whole f fd) (hm : mg "are_whole" = some (.ref f)) : Cal P w K mg base cl "are_whole" 2 2 d_are_whole := by
  have nd := sc_are_whole.nd
  have body : FnOk P w K mg base CX0 2 f fd ["thing", "many"] (spD cl 2 d_are_whole) := fn_D Fu sc_are_whole (fun cdv A outer s H E hr => (dss_one (ds_ret (de_and (cF C_is_list (hr.mono (by decide)) (da_cons (vr 0) da_nil)) (de_and (de_cmp (op_eqD' (hr.units)) (bB cr_len b_len T.b_len (da_cons (vr 0) da_nil)) (vr 1) (nomark _)) (de_one (bB (crr_all rfl) b_all T.b_all (da_cons (deL 0 (de_lc (own := [("number", 2)]) rfl nd (di_seq (vr 0)) (blkOk_by (show blkC N_are_whole (defScope s_are_whole) _ _ = true from by decide +kernel)) (fun _ _ _ _ _ => (dg_name' (pg_name (i := 2) nd rfl (by first | exact Or.inl rfl | exact Or.inr rfl)))) (fun _ _ _ _ _ => dts_nil) (fun _ _ _ _ _ => (cF C_is_whole (hr.mono (by decide)) (da_cons (vr 2) da_nil))))) da_nil))))))))
  exact ⟨f, fd, ["thing", "many"], hm, Fu.kp, body, Fu.binds (ps := ["thing", "many"]) fun _ _ _ _ _ _ us hl => match us, hl with | [_, _], _ => rfl⟩
/-! #### is_tie -/
abbrev s_is_tie : Stmt := top 35
abbrev N_is_tie : List Str := ["axes", "rooms", "thing", "name", "start", "end", "step"]
theorem sc_is_tie : FnScope ["axes", "rooms", "thing", "name", "start", "end", "step"] ["axes", "rooms", "thing"] (defScope s_is_tie) := ⟨rfl, rfl, rfl, by decide +kernel, rfl, by decide +kernel, by decide +kernel⟩
def g_is_tie : Bk := (seqS (ifS (orB (notB (valT (denA (denC 1 d_is_list) (consA (var 2) nilA)))) (cmpT neD (denA lenD (consA (var 2) nilA)) (kst (.int 4))))
  (retS (kst (.bl false))) nopS)
  (seqS (asgS (var 2) (unpG 4 (consG (nameG 3) (consG (nameG 4) (consG (nameG 5) (consG (nameG 6) nilG))))))
  (retS (andD (denA (denC 1 d_is_name) (consA (var 3) nilA)) (andD (denA (denC 2 d_is_key) (consA (var 4) (consA (var 1) nilA))) (andD (denA (denC 2 d_is_key) (consA (var 5) (consA (var 1) nilA))) (denA (denC 2 d_are_whole) (consA (var 6) (consA (var 0) nilA)))))))))
def d_is_tie : List D → M D := denF 7 g_is_tie
theorem ok_is_tie {f : Addr} {fd : FuncData} (T : Tx K mg cl) (C_are_whole : Cal P w K mg base cl "are_whole" 2 2 d_are_whole) (C_is_key : Cal P w K mg base cl "is_key" 1 2 d_is_key) (C_is_list : Cal P w K mg base cl "is_list" 1 1 d_is_list) (C_is_name : Cal P w K mg base cl "is_name" 1 1 d_is_name) (Fu : Fun K "is_tie" "is_tie" s_is_tie f fd) (hm : mg "is_tie" = some (.ref f)) : Cal P w K mg base cl "is_tie" 3 3 d_is_tie := by
  have nd := sc_is_tie.nd
  have body : FnOk P w K mg base CX0 3 f fd ["axes", "rooms", "thing"] (spD cl 3 d_is_tie) := fn_D Fu sc_is_tie (fun cdv A outer s H E hr => (dss_cons (ds_if (dt_w (dw_or (dt_not (dt_val (cF C_is_list (hr.mono (by decide)) (da_cons (vr 2) da_nil)))) (dw_or1 (dt_cmp (op_neD' (hr.units)) (bB cr_len b_len T.b_len (da_cons (vr 2) da_nil)) kInt (nomark _)))))
  (dss_one (ds_ret kBl)) dss_nil)
  (dss_cons (ds_asg (vr 2) (dg_unp rfl (dgs_cons (dg_name' (pg_name (i := 3) nd rfl (by first | exact Or.inl rfl | exact Or.inr rfl))) (dgs_cons (dg_name' (pg_name (i := 4) nd rfl (by first | exact Or.inl rfl | exact Or.inr rfl))) (dgs_cons (dg_name' (pg_name (i := 5) nd rfl (by first | exact Or.inl rfl | exact Or.inr rfl))) (dgs_cons (dg_name' (pg_name (i := 6) nd rfl (by first | exact Or.inl rfl | exact Or.inr rfl))) dgs_nil))))))
  (dss_one (ds_ret (de_and (cF C_is_name (hr.mono (by decide)) (da_cons (vr 3) da_nil)) (de_and (cF C_is_key (hr.mono (by decide)) (da_cons (vr 4) (da_cons (vr 1) da_nil))) (de_and (cF C_is_key (hr.mono (by decide)) (da_cons (vr 5) (da_cons (vr 1) da_nil))) (de_one (cF C_are_whole (hr.mono (by decide)) (da_cons (vr 6) (da_cons (vr 0) da_nil))))))))))))
  exact ⟨f, fd, ["axes", "rooms", "thing"], hm, Fu.kp, body, Fu.binds (ps := ["axes", "rooms", "thing"]) fun _ _ _ _ _ _ us hl => match us, hl with | [_, _, _], _ => rfl⟩
/-! #### first_no_tie -/
abbrev s_first_no_tie : Stmt := top 36
abbrev N_first_no_tie : List Str := ["axes", "rooms", "taken", "ties", "known", "names", "index", "thing", "room"]
theorem sc_first_no_tie : FnScope ["axes", "rooms", "taken", "ties", "known", "names", "index", "thing", "room"] ["axes", "rooms", "taken", "ties"] (defScope s_first_no_tie) := ⟨rfl, rfl, rfl, by decide +kernel, rfl, by decide +kernel, by decide +kernel⟩
def g_first_no_tie : Bk := (seqS (ifS (notB (valT (denA (denC 1 d_is_list) (consA (var 3) nilA))))
  (retS (kst (.int 0))) nopS)
  (seqS (lockL 1 (asgS (dcD (seqI (var 1)) (nameG 8) yesT (var 8) (kst (.bl true)) [8] stillD) (nameG 4)))
  (seqS (asgS (fun _ => freshD ([], [])) (nameG 5))
  (seqS (lockL 3 (forS (argI enumIt (consA (var 3) nilA)) (unpG 2 (consG (nameG 6) (consG (nameG 7) nilG)))
  (seqS (ifS (orB (notB (valT (denA (denC 3 d_is_tie) (consA (var 0) (consA (var 4) (consA (var 7) nilA)))))) (orB (cmpT inD (den2 ixD (var 7) (kst (.int 0))) (var 2)) (cmpT inD (den2 ixD (var 7) (kst (.int 0))) (var 5))))
  (retS (var 6)) nopS)
  (asgS (kst (.bl true)) (subG (var 5) (den2 ixD (var 7) (kst (.int 0))))))))
  (retS (kst .non))))))
def d_first_no_tie : List D → M D := denF 9 g_first_no_tie
theorem ok_first_no_tie {f : Addr} {fd : FuncData} (T : Tx K mg cl) (C_is_list : Cal P w K mg base cl "is_list" 1 1 d_is_list) (C_is_tie : Cal P w K mg base cl "is_tie" 3 3 d_is_tie) (Fu : Fun K "first_no_tie" "first_no_tie" s_first_no_tie f fd) (hm : mg "first_no_tie" = some (.ref f)) : Cal P w K mg base cl "first_no_tie" 4 4 d_first_no_tie := by
  have nd := sc_first_no_tie.nd
  have body : FnOk P w K mg base CX0 4 f fd ["axes", "rooms", "taken", "ties"] (spD cl 4 d_first_no_tie) := fn_D Fu sc_first_no_tie (fun cdv A outer s H E hr => (dss_cons (ds_if (dt_not (dt_val (cF C_is_list (hr.mono (by decide)) (da_cons (vr 3) da_nil))))
  (dss_one (ds_ret kInt)) dss_nil)
  (dss_cons (dsL 1 (ds_setDc (i := 4) (own := [("room", 8)]) rfl nd rfl rfl (swD rfl rfl rfl (by decide +kernel)) (di_seq (vr 1)) (blkOk_by (show blkC N_first_no_tie (defScope s_first_no_tie) _ _ = true from by decide +kernel)) (fun _ _ _ _ _ => (dg_name' (pg_name (i := 8) nd rfl (by first | exact Or.inl rfl | exact Or.inr rfl)))) (fun _ _ _ _ _ => dts_nil) (fun _ _ _ _ _ => (vr 8)) (fun _ _ _ _ _ => kBl)))
  (dss_cons (ds_set de_dnewM fun h => ps_set (i := 5) nd rfl (by first | exact Or.inl rfl | exact Or.inr rfl) h)
  (dss_cons (dsL 3 (ds_for PassesOwn.never rfl (di_enum (da_cons (vr 3) da_nil) fun h => pi_enum (by rfl) T.b_enumerate h) (dg_unp rfl (dgs_cons (dg_name' (pg_name (i := 6) nd rfl (by first | exact Or.inl rfl | exact Or.inr rfl))) (dgs_cons (dg_name' (pg_name (i := 7) nd rfl (by first | exact Or.inl rfl | exact Or.inr rfl))) dgs_nil)))
  (dss_cons (ds_if (dt_w (dw_or (dt_not (dt_val (cF C_is_tie (hr.mono (by decide)) (da_cons (vr 0) (da_cons (vr 4) (da_cons (vr 7) da_nil)))))) (dw_or (dt_cmp (op_inD (hu_of hr)) (de_ix (ix_D (hu_of hr)) (vr 7) kInt (fun _ _ => rfl)) (vr 2) (by rfl)) (dw_or1 (dt_cmp (op_inD (hu_of hr)) (de_ix (ix_D (hu_of hr)) (vr 7) kInt (fun _ _ => rfl)) (vr 5) (by rfl))))))
  (dss_one (ds_ret (vr 6))) dss_nil)
  (dss_one (xDput (hu_of hr) kBl (vr 5) (de_ix (ix_D (hu_of hr)) (vr 7) kInt (fun _ _ => rfl)))))))
  (dss_one (ds_ret kNon)))))))
  exact ⟨f, fd, ["axes", "rooms", "taken", "ties"], hm, Fu.kp, body, Fu.binds (ps := ["axes", "rooms", "taken", "ties"]) fun _ _ _ _ _ _ us hl => match us, hl with | [_, _, _, _], _ => rfl⟩
/-! #### Net.__init__ -/
abbrev s_Net___init__ : Stmt := inClass (top 37) 0
abbrev N_Net___init__ : List Str := ["self", "axes", "rooms", "ties", "index", "tie", "name", "start", "end", "step"]
theorem sc_Net___init__ : FnScope ["self", "axes", "rooms", "ties", "index", "tie", "name", "start", "end", "step"] ["self", "axes", "rooms", "ties"] (defScope s_Net___init__) := ⟨rfl, rfl, rfl, by decide +kernel, rfl, by decide +kernel, by decide +kernel⟩
def g_Net___init__ : Bk := (seqS (ifS (notB (valT (denA (denC 3 d_is_between) (consA (var 1) (consA (kst (.int 0)) (consA (kst (.int 4)) nilA))))))
  neverS nopS)
  (seqS (ifS (notB (valT (denA (denC 1 d_are_rooms) (consA (var 2) nilA))))
  neverS nopS)
  (seqS (asgS (denA (denC 4 d_first_no_tie) (consA (var 1) (consA (var 2) (consA (fun _ => stillD ([], [])) (consA (var 3) nilA))))) (nameG 4))
  (seqS (ifS (cmpT isNotD (var 4) (kst .non))
  neverS nopS)
  (seqS (fldS 0 "axes" (var 0) (var 1))
  (seqS (fldS 0 "_rooms" (var 0) (denA tupleD (consA (var 2) nilA)))
  (seqS (fldS 0 "_ties" (var 0) (denA tupleD (consA (lockL 3 (lcD (seqI (var 3)) (unpG 4 (consG (nameG 6) (consG (nameG 7) (consG (nameG 8) (consG (nameG 9) nilG))))) yesT (denA mkTup (consA (var 6) (consA (var 7) (consA (var 8) (consA (denA tupleD (consA (var 9) nilA)) nilA))))) [6, 7, 8, 9] still0)) nilA)))
  (fldS 0 "_named" (var 0) (dcD (seqI (den1 (fldD 0 "_ties") (var 0))) (nameG 5) yesT (den2 ixD (var 5) (kst (.int 0))) (var 5) [5] stillD)))))))))
def d_Net___init__ : List D → M D := denF 10 g_Net___init__
theorem ok_Net___init__ {f : Addr} {fd : FuncData} (T : Tx K mg cl) (C_are_rooms : Cal P w K mg base cl "are_rooms" 2 1 d_are_rooms) (C_first_no_tie : Cal P w K mg base cl "first_no_tie" 4 4 d_first_no_tie) (C_is_between : Cal P w K mg base cl "is_between" 2 3 d_is_between) (Fu : Fun K "__init__" "Net.__init__" s_Net___init__ f fd) (hi : PySem.W.findIn K (.ref (cl 0)) "__init__" = some (some (.ref f))) (hf : PySem.W.isFn K (.ref f) = true) : CalM P w K mg base cl (cl 0) "__init__" 5 4 d_Net___init__ := by
  have nd := sc_Net___init__.nd
  have body : FnOk P w K mg base CX0 5 f fd ["self", "axes", "rooms", "ties"] (spD cl 4 d_Net___init__) := fn_D Fu sc_Net___init__ (fun cdv A outer s H E hr => (dss_cons (ds_if (dt_not (dt_val (cF C_is_between (hr.mono (by decide)) (da_cons (vr 1) (da_cons kInt (da_cons (kGi T.c_MOST_AXES) da_nil))))))
  (dss_one ds_never) dss_nil)
  (dss_cons (ds_if (dt_not (dt_val (cF C_are_rooms (hr.mono (by decide)) (da_cons (vr 2) da_nil))))
  (dss_one ds_never) dss_nil)
  (dss_cons (ds_set (cF C_first_no_tie (hr.mono (by decide)) (da_cons (vr 1) (da_cons (vr 2) (da_cons de_dnew (da_cons (vr 3) da_nil))))) fun h => ps_set (i := 4) nd rfl (by first | exact Or.inl rfl | exact Or.inr rfl) h)
  (dss_cons (ds_if (dt_cmp op_isNotD (vr 4) kNon (nomark _))
  (dss_one ds_never) dss_nil)
  (dss_cons (ds_fld (vr 0) (vr 1) T.cl_Net T.n_Net_axes fun h1 h2 => ps_fld h1 h2 rfl)
  (dss_cons (ds_fld (vr 0) (bT cr_tuple b_tuple T.b_tuple (da_cons (vr 2) da_nil)) T.cl_Net T.n_Net__rooms fun h1 h2 => ps_fld h1 h2 rfl)
  (dss_cons (ds_fld (vr 0) (bT cr_tuple b_tuple T.b_tuple (da_cons (deL 3 (de_lc (own := [("name", 6), ("start", 7), ("end", 8), ("step", 9)]) rfl nd (di_seq (vr 3)) (blkOk_by (show blkC N_Net___init__ (defScope s_Net___init__) _ _ = true from by decide +kernel)) (fun _ _ _ _ _ => (dg_unp rfl (dgs_cons (dg_name' (pg_name (i := 6) nd rfl (by first | exact Or.inl rfl | exact Or.inr rfl))) (dgs_cons (dg_name' (pg_name (i := 7) nd rfl (by first | exact Or.inl rfl | exact Or.inr rfl))) (dgs_cons (dg_name' (pg_name (i := 8) nd rfl (by first | exact Or.inl rfl | exact Or.inr rfl))) (dgs_cons (dg_name' (pg_name (i := 9) nd rfl (by first | exact Or.inl rfl | exact Or.inr rfl))) dgs_nil)))))) (fun _ _ _ _ _ => dts_nil) (fun _ _ _ _ _ => (de_tup (da_cons (vr 6) (da_cons (vr 7) (da_cons (vr 8) (da_cons (bT cr_tuple b_tuple T.b_tuple (da_cons (vr 9) da_nil)) da_nil)))))))) da_nil)) T.cl_Net T.n_Net__ties fun h1 h2 => ps_fld h1 h2 rfl)
  (dss_one (ds_fld (vr 0) (de_dc (own := [("tie", 5)]) rfl nd (di_seq (fF T.cl_Net T.n_Net__ties (vr 0))) (blkOk_by (show blkC N_Net___init__ (defScope s_Net___init__) _ _ = true from by decide +kernel)) (fun _ _ _ _ _ => (dg_name' (pg_name (i := 5) nd rfl (by first | exact Or.inl rfl | exact Or.inr rfl)))) (fun _ _ _ _ _ => dts_nil) (fun _ _ _ _ _ => (de_ix (ix_D (hu_of hr)) (vr 5) kInt (fun _ _ => rfl))) (fun _ _ _ _ _ => (vr 5))) T.cl_Net T.n_Net__named fun h1 h2 => ps_fld h1 h2 rfl))))))))))
  exact ⟨f, fd, ["self", "axes", "rooms", "ties"], hi, hf, Fu.kp, body, Fu.binds (ps := ["self", "axes", "rooms", "ties"]) fun _ _ _ _ _ _ us hl => match us, hl with | [_, _, _, _], _ => rfl⟩
/-! #### _law_n_made -/
abbrev s__law_n_made : Stmt := top 84
abbrev N__law_n_made : List Str := ["_law_plan"]
theorem sc__law_n_made : FnScope ["_law_plan"] ["_law_plan"] (defScope s__law_n_made) := ⟨rfl, rfl, rfl, by decide +kernel, rfl, by decide +kernel, by decide +kernel⟩
def g__law_n_made : Bk := (retS (denA (mkD 0 4 d_Net___init__) (consA (den2 ixD (var 0) (kst (.int 0))) (consA (den2 ixD (var 0) (kst (.int 1))) (consA (den2 ixD (var 0) (kst (.int 2))) nilA)))))
def d__law_n_made : List D → M D := denF 1 g__law_n_made
theorem ok__law_n_made {f : Addr} {fd : FuncData} (T : Tx K mg cl) (C_Net___init__ : CalM P w K mg base cl (cl 0) "__init__" 5 4 d_Net___init__) (Fu : Fun K "_law_n_made" "_law_n_made" s__law_n_made f fd) (hm : mg "_law_n_made" = some (.ref f)) : Cal P w K mg base cl "_law_n_made" 7 1 d__law_n_made := by
  have nd := sc__law_n_made.nd
  have body : FnOk P w K mg base CX0 7 f fd ["_law_plan"] (spD cl 1 d__law_n_made) := fn_D Fu sc__law_n_made (fun cdv A outer s H E hr => (dss_one (ds_ret (cN C_Net___init__ T.mk_Net T.kc_Net T.g_Net (hr.mono (by decide)) (da_cons (de_ix (ix_D (hu_of hr)) (vr 0) kInt (fun _ _ => rfl)) (da_cons (de_ix (ix_D (hu_of hr)) (vr 0) kInt (fun _ _ => rfl)) (da_cons (de_ix (ix_D (hu_of hr)) (vr 0) kInt (fun _ _ => rfl)) da_nil)))))))
  exact ⟨f, fd, ["_law_plan"], hm, Fu.kp, body, Fu.binds (ps := ["_law_plan"]) fun _ _ _ _ _ _ us hl => match us, hl with | [_], _ => rfl⟩
/-! #### _law_tried -/
abbrev s__law_tried : Stmt := top 90
abbrev N__law_tried : List Str := ["_law_ask", "_law_found", "e"]
theorem sc__law_tried : FnScope ["_law_ask", "_law_found", "e"] ["_law_ask"] (defScope s__law_tried) := ⟨rfl, rfl, rfl, by decide +kernel, rfl, by decide +kernel, by decide +kernel⟩
def h__law_tried : List Hd := [⟨103, "sizes", some "sizes"⟩, ⟨102, "axis", some "axis"⟩, ⟨101, "number", some "number"⟩, ⟨100, "tie", some "name"⟩]
def t__law_tried : M (Rs D) → M D := triedD (fun _ => ret .non) h__law_tried
theorem gv__law_tried {X : Cx} (T : Tx X.K X.mg cl) {g : Addr} {cdg : Value} {q : Str} : LamX.GivesTo X N__law_tried "_law_tried" (defScope s__law_tried) g cdg (defBody s__law_tried) "_law_ask" q (TTv cl t__law_tried) := by
  have nd := sc__law_tried.nd
  exact tried_gives (hs := h__law_tried) (go := goN) rfl (fun s H => ps_set (i := 1) nd rfl (Or.inl rfl) pe_non) (fun s H => ps_ret (pv 1)) (fun s H f c' tl W pn xe act => ask_N act) (fun s H => (.named ⟨rfl, by decide, Or.inl T.g_BadSizes⟩ rfl rfl (fun y oy cls dx pn hz hf => pss_one (ps_set (i := 1) nd rfl (Or.inl rfl) (pe_tup (pa_cons pe_str (pa_cons (pe_xf T.xf_BadSizes T.no_BadSizes hz hf (pv 2)) pa_nil))))) (.named ⟨rfl, by decide, Or.inl T.g_NoAxis⟩ rfl rfl (fun y oy cls dx pn hz hf => pss_one (ps_set (i := 1) nd rfl (Or.inl rfl) (pe_tup (pa_cons pe_str (pa_cons (pe_xf T.xf_NoAxis T.no_NoAxis hz hf (pv 2)) pa_nil))))) (.named ⟨rfl, by decide, Or.inl T.g_BadNumber⟩ rfl rfl (fun y oy cls dx pn hz hf => pss_one (ps_set (i := 1) nd rfl (Or.inl rfl) (pe_tup (pa_cons pe_str (pa_cons (pe_xf T.xf_BadNumber T.no_BadNumber hz hf (pv 2)) pa_nil))))) (.named ⟨rfl, by decide, Or.inl T.g_NoTie⟩ rfl rfl (fun y oy cls dx pn hz hf => pss_one (ps_set (i := 1) nd rfl (Or.inl rfl) (pe_tup (pa_cons pe_str (pa_cons (pe_xf T.xf_NoTie T.no_NoTie hz hf (pv 2)) pa_nil))))) .nil))))) nd (fun w r q => go_none w r q) (hex_of T.exm rfl)
/-! #### are_counts -/
abbrev s_are_counts : Stmt := top 21
abbrev N_are_counts : List Str := ["thing", "many", "number"]
theorem sc_are_counts : FnScope ["thing", "many", "number"] ["thing", "many"] (defScope s_are_counts) := ⟨rfl, rfl, rfl, by decide +kernel, rfl, by decide +kernel, by decide +kernel⟩
def g_are_counts : Bk := (retS (andD (denA (denC 2 d_are_whole) (consA (var 0) (consA (var 1) nilA))) (denA allD (consA (lcD (seqI (var 0)) (nameG 2) yesT (den2 geD (var 2) (kst (.int 1))) [2] still0) nilA))))
def d_are_counts : List D → M D := denF 3 g_are_counts
theorem ok_are_counts {f : Addr} {fd : FuncData} (T : Tx K mg cl) (C_are_whole : Cal P w K mg base cl "are_whole" 2 2 d_are_whole) (Fu : Fun K "are_counts" "are_counts" s_are_counts f fd) (hm : mg "are_counts" = some (.ref f)) : Cal P w K mg base cl "are_counts" 3 2 d_are_counts := by
  have nd := sc_are_counts.nd
  have body : FnOk P w K mg base CX0 3 f fd ["thing", "many"] (spD cl 2 d_are_counts) := fn_D Fu sc_are_counts (fun cdv A outer s H E hr => (dss_one (ds_ret (de_and (cF C_are_whole (hr.mono (by decide)) (da_cons (vr 0) (da_cons (vr 1) da_nil))) (de_one (bB (crr_all rfl) b_all T.b_all (da_cons (de_lc (own := [("number", 2)]) rfl nd (di_seq (vr 0)) (blkOk_by (show blkC N_are_counts (defScope s_are_counts) _ _ = true from by decide +kernel)) (fun _ _ _ _ _ => (dg_name' (pg_name (i := 2) nd rfl (by first | exact Or.inl rfl | exact Or.inr rfl)))) (fun _ _ _ _ _ => dts_nil) (fun _ _ _ _ _ => (de_cmp op_geD (vr 2) kInt (nomark _)))) da_nil)))))))
  exact ⟨f, fd, ["thing", "many"], hm, Fu.kp, body, Fu.binds (ps := ["thing", "many"]) fun _ _ _ _ _ _ us hl => match us, hl with | [_, _], _ => rfl⟩
/-! #### BadSizes.__init__ -/
abbrev s_BadSizes___init__ : Stmt := inClass (top 12) 0
theorem sc_BadSizes : FnScope ["self", "sizes"] ["self", "sizes"] (defScope s_BadSizes___init__) := ⟨rfl, rfl, rfl, by decide +kernel, rfl, by decide +kernel, by decide +kernel⟩
theorem ok_BadSizes {f : Addr} {fd : FuncData} (T : Tx K mg cl) (E : ExK K (cl 103) f) (Fu : Fun K "__init__" "BadSizes.__init__" s_BadSizes___init__ f fd) : CalX P w K mg base (cl 103) "sizes" "sizes" := by
  have nd := sc_BadSizes.nd
  have b1 : L2.Binds K fd ["self", "sizes"] [] := Fu.binds (ps := ["self", "sizes"]) fun _ _ _ _ _ _ us hl => match us, hl with | [_, _], _ => rfl
  exact ⟨f, fd, ["self", "sizes"], E, fn_X Fu sc_BadSizes E.T T.no_BadSizes (fun cdv A outer s H E => pss_one (ps_ost (pv 0) (pv 1))), fun s self u h => by simpa using b1 s [self, u] h rfl, fun s self u h => by obtain ⟨_, _, _, _, _, _, _, _, _, rfl, _, _⟩ := Fu.ex; exact .of_eq rfl⟩
/-! #### ask_sizes^ -/
abbrev s_ask_sizes : Stmt := top 26
abbrev N_ask_sizes : List Str := ["axes", "sizes"]
theorem sc_ask_sizes : FnScope ["axes", "sizes"] ["axes", "sizes"] (defScope s_ask_sizes) := ⟨rfl, rfl, rfl, by decide +kernel, rfl, by decide +kernel, by decide +kernel⟩
def xg_ask_sizes : BkX := (ifX (notB (valT (denA (denC 2 d_are_counts) (consA (var 1) (consA (var 0) nilA)))))
  (raiseX 103 "sizes" (consA (var 1) nilA)) (okE nopS))
def x_ask_sizes : List D → M (Rs D) := denFX 2 xg_ask_sizes
theorem okx_ask_sizes {f : Addr} {fd : FuncData} (T : Tx K mg cl) (C_are_counts : Cal P w K mg base cl "are_counts" 3 2 d_are_counts) (C_BadSizes : CalX P w K mg base (cl 103) "sizes" "sizes") (Fu : Fun K "ask_sizes" "ask_sizes" s_ask_sizes f fd) (hm : mg "ask_sizes" = some (.ref f)) : CalE P w K mg base cl "ask_sizes" 4 2 x_ask_sizes := by
  have nd := sc_ask_sizes.nd
  have body : FnOk P w K mg base (L2.CX P w) 4 f fd ["axes", "sizes"] (spDX cl 2 x_ask_sizes) := fn_DX Fu sc_ask_sizes (fun cdv A outer s H E hr tk => (dssx_one (dsx_if (dt_not (dt_val (cF C_are_counts (hr.mono (by decide)) (da_cons (vr 1) (da_cons (vr 0) da_nil)))))
  (dssx_one (dsx_raise C_BadSizes T.g_BadSizes (hr.mono (by decide)) tk rfl (da_cons (vr 1) da_nil))) (dssx_ok dss_nil))))
  exact ⟨f, fd, ["axes", "sizes"], hm, Fu.kp, body, Fu.binds (ps := ["axes", "sizes"]) fun _ _ _ _ _ _ us hl => match us, hl with | [_, _], _ => rfl⟩
/-! #### box_way^ -/
abbrev s_box_way : Stmt := top 67
abbrev N_box_way : List Str := ["net", "sizes"]
theorem sc_box_way : FnScope ["net", "sizes"] ["net", "sizes"] (defScope s_box_way) := ⟨rfl, rfl, rfl, by decide +kernel, rfl, by decide +kernel, by decide +kernel⟩
def xg_box_way : BkX := (seqX (dropX (callX (denCX 2 x_ask_sizes) (okE (consA (den1 (fldD 0 "axes") (var 0)) (consA (var 1) nilA)))))
  neverX)
def x_box_way : List D → M (Rs D) := denFX 2 xg_box_way
theorem okx_box_way {f : Addr} {fd : FuncData} (T : Tx K mg cl) (C_ask_sizes_X : CalE P w K mg base cl "ask_sizes" 4 2 x_ask_sizes) (Fu : Fun K "box_way" "box_way" s_box_way f fd) (hm : mg "box_way" = some (.ref f)) : CalE P w K mg base cl "box_way" 5 2 x_box_way := by
  have nd := sc_box_way.nd
  have body : FnOk P w K mg base (L2.CX P w) 5 f fd ["net", "sizes"] (spDX cl 2 x_box_way) := fn_DX Fu sc_box_way (fun cdv A outer s H E hr tk => (dssx_cons (dsx_expr (eF C_ask_sizes_X (hr.mono (by decide)) tk (dax_ok (da_cons (fF T.cl_Net T.n_Net_axes (vr 0)) (da_cons (vr 1) da_nil)))))
  dssx_never))
  exact ⟨f, fd, ["net", "sizes"], hm, Fu.kp, body, Fu.binds (ps := ["net", "sizes"]) fun _ _ _ _ _ _ us hl => match us, hl with | [_, _], _ => rfl⟩
/-! #### is_box_way^ -/
abbrev s_is_box_way : Stmt := top 68
abbrev N_is_box_way : List Str := ["net", "sizes", "thing", "hall", "names", "room", "place", "name", "_", "start", "end", "step", "number", "more"]
theorem sc_is_box_way : FnScope ["net", "sizes", "thing", "hall", "names", "room", "place", "name", "_", "start", "end", "step", "number", "more"] ["net", "sizes", "thing"] (defScope s_is_box_way) := ⟨rfl, rfl, rfl, by decide +kernel, rfl, by decide +kernel, by decide +kernel⟩
def xg_is_box_way : BkX := (seqX (dropX (callX (denCX 2 x_ask_sizes) (okE (consA (den1 (fldD 0 "axes") (var 0)) (consA (var 1) nilA)))))
  neverX)
def x_is_box_way : List D → M (Rs D) := denFX 14 xg_is_box_way
theorem okx_is_box_way {f : Addr} {fd : FuncData} (T : Tx K mg cl) (C_ask_sizes_X : CalE P w K mg base cl "ask_sizes" 4 2 x_ask_sizes) (Fu : Fun K "is_box_way" "is_box_way" s_is_box_way f fd) (hm : mg "is_box_way" = some (.ref f)) : CalE P w K mg base cl "is_box_way" 5 3 x_is_box_way := by
  have nd := sc_is_box_way.nd
  have body : FnOk P w K mg base (L2.CX P w) 5 f fd ["net", "sizes", "thing"] (spDX cl 3 x_is_box_way) := fn_DX Fu sc_is_box_way (fun cdv A outer s H E hr tk => (dssx_cons (dsx_expr (eF C_ask_sizes_X (hr.mono (by decide)) tk (dax_ok (da_cons (fF T.cl_Net T.n_Net_axes (vr 0)) (da_cons (vr 1) da_nil)))))
  dssx_never))
  exact ⟨f, fd, ["net", "sizes", "thing"], hm, Fu.kp, body, Fu.binds (ps := ["net", "sizes", "thing"]) fun _ _ _ _ _ _ us hl => match us, hl with | [_, _, _], _ => rfl⟩
/-! #### longest_way^ -/
abbrev s_longest_way : Stmt := top 69
abbrev N_longest_way : List Str := ["net", "sizes"]
theorem sc_longest_way : FnScope ["net", "sizes"] ["net", "sizes"] (defScope s_longest_way) := ⟨rfl, rfl, rfl, by decide +kernel, rfl, by decide +kernel, by decide +kernel⟩
def xg_longest_way : BkX := (seqX (dropX (callX (denCX 2 x_ask_sizes) (okE (consA (den1 (fldD 0 "axes") (var 0)) (consA (var 1) nilA)))))
  neverX)
def x_longest_way : List D → M (Rs D) := denFX 2 xg_longest_way
theorem okx_longest_way {f : Addr} {fd : FuncData} (T : Tx K mg cl) (C_ask_sizes_X : CalE P w K mg base cl "ask_sizes" 4 2 x_ask_sizes) (Fu : Fun K "longest_way" "longest_way" s_longest_way f fd) (hm : mg "longest_way" = some (.ref f)) : CalE P w K mg base cl "longest_way" 5 2 x_longest_way := by
  have nd := sc_longest_way.nd
  have body : FnOk P w K mg base (L2.CX P w) 5 f fd ["net", "sizes"] (spDX cl 2 x_longest_way) := fn_DX Fu sc_longest_way (fun cdv A outer s H E hr tk => (dssx_cons (dsx_expr (eF C_ask_sizes_X (hr.mono (by decide)) tk (dax_ok (da_cons (fF T.cl_Net T.n_Net_axes (vr 0)) (da_cons (vr 1) da_nil)))))
  dssx_never))
  exact ⟨f, fd, ["net", "sizes"], hm, Fu.kp, body, Fu.binds (ps := ["net", "sizes"]) fun _ _ _ _ _ _ us hl => match us, hl with | [_, _], _ => rfl⟩
/-! #### _law_same -/
abbrev s__law_same : Stmt := top 88
abbrev N__law_same : List Str := ["_law_found", "_law_due", "_law_x", "_law_y"]
theorem sc__law_same : FnScope ["_law_found", "_law_due", "_law_x", "_law_y"] ["_law_found", "_law_due"] (defScope s__law_same) := ⟨rfl, rfl, rfl, by decide +kernel, rfl, by decide +kernel, by decide +kernel⟩
def g__law_same (rec : List D → M D) : Bk := (seqS (ifS (valT (denA isiD (consA (var 1) (consA (denA mkTup (consA (kst (.ty "list")) (consA (kst (.ty "tuple")) nilA))) nilA))))
  (seqS (ifS (orB (cmpT neD (denA isiD (consA (var 0) (consA (kst (.ty "list")) nilA))) (denA isiD (consA (var 1) (consA (kst (.ty "list")) nilA)))) (cmpT neD (denA isiD (consA (var 0) (consA (kst (.ty "tuple")) nilA))) (denA isiD (consA (var 1) (consA (kst (.ty "tuple")) nilA)))))
  (retS (kst (.bl false))) nopS)
  (retS (andD (den2 eqKD (denA lenD (consA (var 0) nilA)) (denA lenD (consA (var 1) nilA))) (denA allD (consA (lcD (argI zipMIt (consA (var 0) (consA (var 1) nilA))) (unpG 2 (consG (nameG 2) (consG (nameG 3) nilG))) yesT (denA (denC 2 rec) (consA (var 2) (consA (var 3) nilA))) [2, 3] still0) nilA))))) nopS)
  (seqS (ifS (valT (denA isiD (consA (var 1) (consA (kst (.ty "int")) nilA))))
  (retS (andD (denA isiD (consA (var 0) (consA (kst (.ty "int")) nilA))) (andD (den2 eqKD (denA isiD (consA (var 0) (consA (kst (.ty "bool")) nilA))) (denA isiD (consA (var 1) (consA (kst (.ty "bool")) nilA)))) (den2 eqKD (var 0) (var 1))))) nopS)
  (retS (andD (den2 isBlD (denA isiD (consA (var 0) (consA (denA mkTup (consA (kst (.ty "int")) (consA (kst (.ty "list")) (consA (kst (.ty "tuple")) nilA)))) nilA))) (kst (.bl false))) (den2 eqKD (var 0) (var 1))))))
def d__law_same : Nat → List D → M D
  | 0 => fun _ => fail
  | n + 1 => denF 4 (g__law_same (d__law_same n))
theorem ok__law_same {f : Addr} {fd : FuncData} (T : Tx K mg cl) (Fu : Fun K "_law_same" "_law_same" s__law_same f fd) (hm : mg "_law_same" = some (.ref f)) : ∀ n : Nat, Cal P w K mg base cl "_law_same" (1 + n) 2 (d__law_same n) := by
  have nd := sc__law_same.nd
  intro n
  induction n with
  | zero => exact ⟨f, fd, ["_law_found", "_law_due"], hm, Fu.kp, fn_none, Fu.binds (ps := ["_law_found", "_law_due"]) fun _ _ _ _ _ _ us hl => match us, hl with | [_, _], _ => rfl⟩
  | succ n ih =>
    have C_rec := ih
    have body : FnOk P w K mg base CX0 (1 + n + 1) f fd ["_law_found", "_law_due"] (spD cl 2 (d__law_same (n + 1))) := fn_D Fu sc__law_same (fun cdv A outer s H E hr => (dss_cons (ds_if (dt_val (bB cr_isi b_isinstance T.b_isinstance (da_cons (vr 1) (da_cons (de_tup (da_cons (kTy b_list T.b_list) (da_cons (kTy b_tuple T.b_tuple) da_nil))) da_nil))))
  (dss_cons (ds_if (dt_w (dw_or (dt_cmp (op_neD' (hr.units)) (bB cr_isi b_isinstance T.b_isinstance (da_cons (vr 0) (da_cons (kTy b_list T.b_list) da_nil))) (bB cr_isi b_isinstance T.b_isinstance (da_cons (vr 1) (da_cons (kTy b_list T.b_list) da_nil))) (nomark _)) (dw_or1 (dt_cmp (op_neD' (hr.units)) (bB cr_isi b_isinstance T.b_isinstance (da_cons (vr 0) (da_cons (kTy b_tuple T.b_tuple) da_nil))) (bB cr_isi b_isinstance T.b_isinstance (da_cons (vr 1) (da_cons (kTy b_tuple T.b_tuple) da_nil))) (nomark _)))))
  (dss_one (ds_ret kBl)) dss_nil)
  (dss_one (ds_ret (de_and (de_cmp (op_eqKD (hu66 hr)) (bB cr_len b_len T.b_len (da_cons (vr 0) da_nil)) (bB cr_len b_len T.b_len (da_cons (vr 1) da_nil)) (nomark _)) (de_one (bB (crr_all rfl) b_all T.b_all (da_cons (de_lc (own := [("_law_x", 2), ("_law_y", 3)]) rfl nd (di_zipM (da_cons (vr 0) (da_cons (vr 1) da_nil)) (by rfl) T.b_zip) (blkOk_by (show blkC N__law_same (defScope s__law_same) _ _ = true from by decide +kernel)) (fun _ _ _ _ _ => (dg_unp rfl (dgs_cons (dg_name' (pg_name (i := 2) nd rfl (by first | exact Or.inl rfl | exact Or.inr rfl))) (dgs_cons (dg_name' (pg_name (i := 3) nd rfl (by first | exact Or.inl rfl | exact Or.inr rfl))) dgs_nil)))) (fun _ _ _ _ _ => dts_nil) (fun _ _ _ _ _ => (cF C_rec (hr.mono (by omega)) (da_cons (vr 2) (da_cons (vr 3) da_nil))))) da_nil))))))) dss_nil)
  (dss_cons (ds_if (dt_val (bB cr_isi b_isinstance T.b_isinstance (da_cons (vr 1) (da_cons (kTy b_int T.b_int) da_nil))))
  (dss_one (ds_ret (de_and (bB cr_isi b_isinstance T.b_isinstance (da_cons (vr 0) (da_cons (kTy b_int T.b_int) da_nil))) (de_and (de_cmp (op_eqKD (hu66 hr)) (bB cr_isi b_isinstance T.b_isinstance (da_cons (vr 0) (da_cons (kTy b_bool T.b_bool) da_nil))) (bB cr_isi b_isinstance T.b_isinstance (da_cons (vr 1) (da_cons (kTy b_bool T.b_bool) da_nil))) (nomark _)) (de_one (de_cmp (op_eqKD (hu66 hr)) (vr 0) (vr 1) (nomark _))))))) dss_nil)
  (dss_one (ds_ret (de_and (de_cmp op_isBlD (bB cr_isi b_isinstance T.b_isinstance (da_cons (vr 0) (da_cons (de_tup (da_cons (kTy b_int T.b_int) (da_cons (kTy b_list T.b_list) (da_cons (kTy b_tuple T.b_tuple) da_nil)))) da_nil))) kBl (nomark _)) (de_one (de_cmp (op_eqKD (hu66 hr)) (vr 0) (vr 1) (nomark _)))))))))
    exact ⟨f, fd, ["_law_found", "_law_due"], hm, Fu.kp, body, Fu.binds (ps := ["_law_found", "_law_due"]) fun _ _ _ _ _ _ us hl => match us, hl with | [_, _], _ => rfl⟩
/-! #### _law_frozen -/
abbrev s__law_frozen : Stmt := top 89
abbrev N__law_frozen : List Str := ["_law_thing", "_law_key", "_law_part"]
theorem sc__law_frozen : FnScope ["_law_thing", "_law_key", "_law_part"] ["_law_thing"] (defScope s__law_frozen) := ⟨rfl, rfl, rfl, by decide +kernel, rfl, by decide +kernel, by decide +kernel⟩
def g__law_frozen (rec : List D → M D) : Bk := (seqS (ifS (valT (denA isiD (consA (var 0) (consA (kst (.ty "dict")) nilA))))
  (retS (denA dictD (consA (lockV 0 (lcD (keysIt 0) (nameG 1) yesT (denA mkTup (consA (var 1) (consA (denA (denC 1 rec) (consA (den2 ixD (var 0) (var 1)) nilA)) nilA))) [1] still0)) nilA))) nopS)
  (retS (ifD (valT (denA isiD (consA (var 0) (consA (denA mkTup (consA (kst (.ty "list")) (consA (kst (.ty "tuple")) nilA))) nilA)))) (denA tupleD (consA (lockL 0 (lcD (seqI (var 0)) (nameG 2) yesT (denA (denC 1 rec) (consA (var 2) nilA)) [2] still0)) nilA)) (var 0))))
def d__law_frozen : Nat → List D → M D
  | 0 => fun _ => fail
  | n + 1 => denF 3 (g__law_frozen (d__law_frozen n))
theorem ok__law_frozen {f : Addr} {fd : FuncData} (T : Tx K mg cl) (Fu : Fun K "_law_frozen" "_law_frozen" s__law_frozen f fd) (hm : mg "_law_frozen" = some (.ref f)) : ∀ n : Nat, Cal P w K mg base cl "_law_frozen" (1 + n) 1 (d__law_frozen n) := by
  have nd := sc__law_frozen.nd
  intro n
  induction n with
  | zero => exact ⟨f, fd, ["_law_thing"], hm, Fu.kp, fn_none, Fu.binds (ps := ["_law_thing"]) fun _ _ _ _ _ _ us hl => match us, hl with | [_], _ => rfl⟩
  | succ n ih =>
    have C_rec := ih
    have body : FnOk P w K mg base CX0 (1 + n + 1) f fd ["_law_thing"] (spD cl 1 (d__law_frozen (n + 1))) := fn_D Fu sc__law_frozen (fun cdv A outer s H E hr => (dss_cons (ds_if (dt_val (bB cr_isi b_isinstance T.b_isinstance (da_cons (vr 0) (da_cons (kTy b_dict T.b_dict) da_nil))))
  (dss_one (ds_ret (bT (cr_dict rfl) b_dict T.b_dict (da_cons (de_lcK (own := [("_law_key", 1)]) rfl nd (pv 0) (blkOk_by (show blkC N__law_frozen (defScope s__law_frozen) _ _ = true from by decide +kernel)) (fun _ _ _ _ _ => (dg_name' (pg_name (i := 1) nd rfl (by first | exact Or.inl rfl | exact Or.inr rfl)))) (fun _ _ _ _ _ => dts_nil) (fun _ _ _ _ _ => (de_tup (da_cons (vr 1) (da_cons (cF C_rec (hr.mono (by omega)) (da_cons (de_ix (ix_D (hu_of hr)) (vr 0) (vr 1) (fun _ _ => rfl)) da_nil)) da_nil))))) da_nil)))) dss_nil)
  (dss_one (ds_ret (de_ifExp (dt_val (bB cr_isi b_isinstance T.b_isinstance (da_cons (vr 0) (da_cons (de_tup (da_cons (kTy b_list T.b_list) (da_cons (kTy b_tuple T.b_tuple) da_nil))) da_nil)))) (bT cr_tuple b_tuple T.b_tuple (da_cons (deL 0 (de_lc (own := [("_law_part", 2)]) rfl nd (di_seq (vr 0)) (blkOk_by (show blkC N__law_frozen (defScope s__law_frozen) _ _ = true from by decide +kernel)) (fun _ _ _ _ _ => (dg_name' (pg_name (i := 2) nd rfl (by first | exact Or.inl rfl | exact Or.inr rfl)))) (fun _ _ _ _ _ => dts_nil) (fun _ _ _ _ _ => (cF C_rec (hr.mono (by omega)) (da_cons (vr 2) da_nil))))) da_nil)) (vr 0))))))
    exact ⟨f, fd, ["_law_thing"], hm, Fu.kp, body, Fu.binds (ps := ["_law_thing"]) fun _ _ _ _ _ _ us hl => match us, hl with | [_], _ => rfl⟩
/-! #### NoAxis.__init__ -/
abbrev s_NoAxis___init__ : Stmt := inClass (top 11) 0
theorem sc_NoAxis : FnScope ["self", "axis"] ["self", "axis"] (defScope s_NoAxis___init__) := ⟨rfl, rfl, rfl, by decide +kernel, rfl, by decide +kernel, by decide +kernel⟩
theorem ok_NoAxis {f : Addr} {fd : FuncData} (T : Tx K mg cl) (E : ExK K (cl 102) f) (Fu : Fun K "__init__" "NoAxis.__init__" s_NoAxis___init__ f fd) : CalX P w K mg base (cl 102) "axis" "axis" := by
  have nd := sc_NoAxis.nd
  have b1 : L2.Binds K fd ["self", "axis"] [] := Fu.binds (ps := ["self", "axis"]) fun _ _ _ _ _ _ us hl => match us, hl with | [_, _], _ => rfl
  exact ⟨f, fd, ["self", "axis"], E, fn_X Fu sc_NoAxis E.T T.no_NoAxis (fun cdv A outer s H E => pss_one (ps_ost (pv 0) (pv 1))), fun s self u h => by simpa using b1 s [self, u] h rfl, fun s self u h => by obtain ⟨_, _, _, _, _, _, _, _, _, rfl, _, _⟩ := Fu.ex; exact .of_eq rfl⟩
/-! #### ask_axis^ -/
abbrev s_ask_axis : Stmt := top 24
abbrev N_ask_axis : List Str := ["net", "axis"]
theorem sc_ask_axis : FnScope ["net", "axis"] ["net", "axis"] (defScope s_ask_axis) := ⟨rfl, rfl, rfl, by decide +kernel, rfl, by decide +kernel, by decide +kernel⟩
def xg_ask_axis : BkX := (ifX (notB (valT (denA (denC 3 d_is_between) (consA (var 1) (consA (kst (.int 0)) (consA (den2 subD (den1 (fldD 0 "axes") (var 0)) (kst (.int 1))) nilA))))))
  (raiseX 102 "axis" (consA (var 1) nilA)) (okE nopS))
def x_ask_axis : List D → M (Rs D) := denFX 2 xg_ask_axis
theorem okx_ask_axis {f : Addr} {fd : FuncData} (T : Tx K mg cl) (C_NoAxis : CalX P w K mg base (cl 102) "axis" "axis") (C_is_between : Cal P w K mg base cl "is_between" 2 3 d_is_between) (Fu : Fun K "ask_axis" "ask_axis" s_ask_axis f fd) (hm : mg "ask_axis" = some (.ref f)) : CalE P w K mg base cl "ask_axis" 3 2 x_ask_axis := by
  have nd := sc_ask_axis.nd
  have body : FnOk P w K mg base (L2.CX P w) 3 f fd ["net", "axis"] (spDX cl 2 x_ask_axis) := fn_DX Fu sc_ask_axis (fun cdv A outer s H E hr tk => (dssx_one (dsx_if (dt_not (dt_val (cF C_is_between (hr.mono (by decide)) (da_cons (vr 1) (da_cons kInt (da_cons (de_op op_subD (fF T.cl_Net T.n_Net_axes (vr 0)) kInt) da_nil))))))
  (dssx_one (dsx_raise C_NoAxis T.g_NoAxis (hr.mono (by decide)) tk rfl (da_cons (vr 1) da_nil))) (dssx_ok dss_nil))))
  exact ⟨f, fd, ["net", "axis"], hm, Fu.kp, body, Fu.binds (ps := ["net", "axis"]) fun _ _ _ _ _ _ us hl => match us, hl with | [_, _], _ => rfl⟩
/-! #### BadNumber.__init__ -/
abbrev s_BadNumber___init__ : Stmt := inClass (top 10) 0
theorem sc_BadNumber : FnScope ["self", "number"] ["self", "number"] (defScope s_BadNumber___init__) := ⟨rfl, rfl, rfl, by decide +kernel, rfl, by decide +kernel, by decide +kernel⟩
theorem ok_BadNumber {f : Addr} {fd : FuncData} (T : Tx K mg cl) (E : ExK K (cl 101) f) (Fu : Fun K "__init__" "BadNumber.__init__" s_BadNumber___init__ f fd) : CalX P w K mg base (cl 101) "number" "number" := by
  have nd := sc_BadNumber.nd
  have b1 : L2.Binds K fd ["self", "number"] [] := Fu.binds (ps := ["self", "number"]) fun _ _ _ _ _ _ us hl => match us, hl with | [_, _], _ => rfl
  exact ⟨f, fd, ["self", "number"], E, fn_X Fu sc_BadNumber E.T T.no_BadNumber (fun cdv A outer s H E => pss_one (ps_ost (pv 0) (pv 1))), fun s self u h => by simpa using b1 s [self, u] h rfl, fun s self u h => by obtain ⟨_, _, _, _, _, _, _, _, _, rfl, _, _⟩ := Fu.ex; exact .of_eq rfl⟩
/-! #### ask_cells^ -/
abbrev s_ask_cells : Stmt := top 25
abbrev N_ask_cells : List Str := ["number"]
theorem sc_ask_cells : FnScope ["number"] ["number"] (defScope s_ask_cells) := ⟨rfl, rfl, rfl, by decide +kernel, rfl, by decide +kernel, by decide +kernel⟩
def xg_ask_cells : BkX := (ifX (notB (valT (denA (denC 3 d_is_between) (consA (var 0) (consA (kst (.int 1)) (consA (kst (.int 40)) nilA))))))
  (raiseX 101 "number" (consA (var 0) nilA)) (okE nopS))
def x_ask_cells : List D → M (Rs D) := denFX 1 xg_ask_cells
theorem okx_ask_cells {f : Addr} {fd : FuncData} (T : Tx K mg cl) (C_BadNumber : CalX P w K mg base (cl 101) "number" "number") (C_is_between : Cal P w K mg base cl "is_between" 2 3 d_is_between) (Fu : Fun K "ask_cells" "ask_cells" s_ask_cells f fd) (hm : mg "ask_cells" = some (.ref f)) : CalE P w K mg base cl "ask_cells" 3 1 x_ask_cells := by
  have nd := sc_ask_cells.nd
  have body : FnOk P w K mg base (L2.CX P w) 3 f fd ["number"] (spDX cl 1 x_ask_cells) := fn_DX Fu sc_ask_cells (fun cdv A outer s H E hr tk => (dssx_one (dsx_if (dt_not (dt_val (cF C_is_between (hr.mono (by decide)) (da_cons (vr 0) (da_cons kInt (da_cons (kGi T.c_MOST_CELLS) da_nil))))))
  (dssx_one (dsx_raise C_BadNumber T.g_BadNumber (hr.mono (by decide)) tk rfl (da_cons (vr 0) da_nil))) (dssx_ok dss_nil))))
  exact ⟨f, fd, ["number"], hm, Fu.kp, body, Fu.binds (ps := ["number"]) fun _ _ _ _ _ _ us hl => match us, hl with | [_], _ => rfl⟩
/-! #### boxed^ -/
abbrev s_boxed : Stmt := top 70
abbrev N_boxed : List Str := ["net", "axis", "size"]
theorem sc_boxed : FnScope ["net", "axis", "size"] ["net", "axis", "size"] (defScope s_boxed) := ⟨rfl, rfl, rfl, by decide +kernel, rfl, by decide +kernel, by decide +kernel⟩
def xg_boxed : BkX := (seqX (dropX (callX (denCX 2 x_ask_axis) (okE (consA (var 0) (consA (var 1) nilA)))))
  (seqX (dropX (callX (denCX 1 x_ask_cells) (okE (consA (var 2) nilA))))
  neverX))
def x_boxed : List D → M (Rs D) := denFX 3 xg_boxed
theorem okx_boxed {f : Addr} {fd : FuncData} (T : Tx K mg cl) (C_ask_axis_X : CalE P w K mg base cl "ask_axis" 3 2 x_ask_axis) (C_ask_cells_X : CalE P w K mg base cl "ask_cells" 3 1 x_ask_cells) (Fu : Fun K "boxed" "boxed" s_boxed f fd) (hm : mg "boxed" = some (.ref f)) : CalE P w K mg base cl "boxed" 4 3 x_boxed := by
  have nd := sc_boxed.nd
  have body : FnOk P w K mg base (L2.CX P w) 4 f fd ["net", "axis", "size"] (spDX cl 3 x_boxed) := fn_DX Fu sc_boxed (fun cdv A outer s H E hr tk => (dssx_cons (dsx_expr (eF C_ask_axis_X (hr.mono (by decide)) tk (dax_ok (da_cons (vr 0) (da_cons (vr 1) da_nil)))))
  (dssx_cons (dsx_expr (eF C_ask_cells_X (hr.mono (by decide)) tk (dax_ok (da_cons (vr 2) da_nil))))
  dssx_never)))
  exact ⟨f, fd, ["net", "axis", "size"], hm, Fu.kp, body, Fu.binds (ps := ["net", "axis", "size"]) fun _ _ _ _ _ _ us hl => match us, hl with | [_, _, _], _ => rfl⟩
/-! #### NoTie.__init__ -/
abbrev s_NoTie___init__ : Stmt := inClass (top 7) 0
theorem sc_NoTie : FnScope ["self", "name"] ["self", "name"] (defScope s_NoTie___init__) := ⟨rfl, rfl, rfl, by decide +kernel, rfl, by decide +kernel, by decide +kernel⟩
theorem ok_NoTie {f : Addr} {fd : FuncData} (T : Tx K mg cl) (E : ExK K (cl 100) f) (Fu : Fun K "__init__" "NoTie.__init__" s_NoTie___init__ f fd) : CalX P w K mg base (cl 100) "name" "name" := by
  have nd := sc_NoTie.nd
  have b1 : L2.Binds K fd ["self", "name"] [] := Fu.binds (ps := ["self", "name"]) fun _ _ _ _ _ _ us hl => match us, hl with | [_, _], _ => rfl
  exact ⟨f, fd, ["self", "name"], E, fn_X Fu sc_NoTie E.T T.no_NoTie (fun cdv A outer s H E => pss_one (ps_ost (pv 0) (pv 1))), fun s self u h => by simpa using b1 s [self, u] h rfl, fun s self u h => by obtain ⟨_, _, _, _, _, _, _, _, _, rfl, _, _⟩ := Fu.ex; exact .of_eq rfl⟩
/-! #### Net.__contains__ -/
abbrev s_Net___contains__ : Stmt := inClass (top 37) 9
abbrev N_Net___contains__ : List Str := ["self", "thing"]
theorem sc_Net___contains__ : FnScope ["self", "thing"] ["self", "thing"] (defScope s_Net___contains__) := ⟨rfl, rfl, rfl, by decide +kernel, rfl, by decide +kernel, by decide +kernel⟩
def g_Net___contains__ : Bk := (retS (denA (denC 2 d_is_key) (consA (var 1) (consA (den1 (fldD 0 "_named") (var 0)) nilA))))
def d_Net___contains__ : List D → M D := denF 2 g_Net___contains__
theorem ok_Net___contains__ {f : Addr} {fd : FuncData} (T : Tx K mg cl) (C_is_key : Cal P w K mg base cl "is_key" 1 2 d_is_key) (Fu : Fun K "__contains__" "Net.__contains__" s_Net___contains__ f fd) (hi : PySem.W.findIn K (.ref (cl 0)) "__contains__" = some (some (.ref f))) (hf : PySem.W.isFn K (.ref f) = true) : CalM P w K mg base cl (cl 0) "__contains__" 2 2 d_Net___contains__ := by
  have nd := sc_Net___contains__.nd
  have body : FnOk P w K mg base CX0 2 f fd ["self", "thing"] (spD cl 2 d_Net___contains__) := fn_D Fu sc_Net___contains__ (fun cdv A outer s H E hr => (dss_one (ds_ret (cF C_is_key (hr.mono (by decide)) (da_cons (vr 1) (da_cons (fF T.cl_Net T.n_Net__named (vr 0)) da_nil))))))
  exact ⟨f, fd, ["self", "thing"], hi, hf, Fu.kp, body, Fu.binds (ps := ["self", "thing"]) fun _ _ _ _ _ _ us hl => match us, hl with | [_, _], _ => rfl⟩
/-! #### ask_unlike_names^ -/
abbrev s_ask_unlike_names : Stmt := top 74
abbrev N_ask_unlike_names : List Str := ["net", "names", "stood", "name"]
theorem sc_ask_unlike_names : FnScope ["net", "names", "stood", "name"] ["net", "names"] (defScope s_ask_unlike_names) := ⟨rfl, rfl, rfl, by decide +kernel, rfl, by decide +kernel, by decide +kernel⟩
def xg_ask_unlike_names : BkX := (seqX (ifX (notB (valT (denA (denC 1 d_is_list) (consA (var 1) nilA))))
  (raiseX 100 "name" (consA (var 1) nilA)) (okE nopS))
  (seqX (okE (asgS (fun _ => freshD ([], [])) (nameG 2)))
  (forX (seqI (var 1)) (nameG 3)
  (seqX (ifX (orB (cmpT (chkO 0 (ownNinD d_Net___contains__)) (var 3) (var 0)) (cmpT inD (var 3) (var 2)))
  (raiseX 100 "name" (consA (var 3) nilA)) (okE nopS))
  (okE (asgS (kst (.bl true)) (subG (var 2) (var 3))))))))
def x_ask_unlike_names : List D → M (Rs D) := denFX 4 xg_ask_unlike_names
theorem okx_ask_unlike_names {f : Addr} {fd : FuncData} (T : Tx K mg cl) (C_Net___contains__ : CalM P w K mg base cl (cl 0) "__contains__" 2 2 d_Net___contains__) (C_NoTie : CalX P w K mg base (cl 100) "name" "name") (C_is_list : Cal P w K mg base cl "is_list" 1 1 d_is_list) (Fu : Fun K "ask_unlike_names" "ask_unlike_names" s_ask_unlike_names f fd) (hm : mg "ask_unlike_names" = some (.ref f)) : CalE P w K mg base cl "ask_unlike_names" 3 2 x_ask_unlike_names := by
  have nd := sc_ask_unlike_names.nd
  have body : FnOk P w K mg base (L2.CX P w) 3 f fd ["net", "names"] (spDX cl 2 x_ask_unlike_names) := fn_DX Fu sc_ask_unlike_names (fun cdv A outer s H E hr tk => (dssx_cons (dsx_if (dt_not (dt_val (cF C_is_list (hr.mono (by decide)) (da_cons (vr 1) da_nil))))
  (dssx_one (dsx_raise C_NoTie T.g_NoTie (hr.mono (by decide)) tk rfl (da_cons (vr 1) da_nil))) (dssx_ok dss_nil))
  (dssx_cons (dsx_ok (ds_set de_dnewM fun h => ps_set (i := 2) nd rfl (by first | exact Or.inl rfl | exact Or.inr rfl) h))
  (dssx_one (dsx_for (L2.passes_of rfl) rfl (di_seq (vr 1)) (dg_name' (pg_name (i := 3) nd rfl (by first | exact Or.inl rfl | exact Or.inr rfl)))
  (dssx_cons (dsx_if (dt_w (dw_or (dt_cmp (oNin C_Net___contains__ (hr.mono (by decide))) (vr 3) (vr 0) (by rfl)) (dw_or1 (dt_cmp (op_inD (hu_of hr)) (vr 3) (vr 2) (by rfl)))))
  (dssx_one (dsx_raise C_NoTie T.g_NoTie (hr.mono (by decide)) tk rfl (da_cons (vr 3) da_nil))) (dssx_ok dss_nil))
  (dssx_one (dsx_ok (xDput (hu_of hr) kBl (vr 2) (vr 3))))))))))
  exact ⟨f, fd, ["net", "names"], hm, Fu.kp, body, Fu.binds (ps := ["net", "names"]) fun _ _ _ _ _ _ us hl => match us, hl with | [_, _], _ => rfl⟩
/-! #### cuts^ -/
abbrev s_cuts : Stmt := top 73
abbrev N_cuts : List Str := ["net", "names", "cut"]
theorem sc_cuts : FnScope ["net", "names", "cut"] ["net", "names"] (defScope s_cuts) := ⟨rfl, rfl, rfl, by decide +kernel, rfl, by decide +kernel, by decide +kernel⟩
def xg_cuts : BkX := (seqX (dropX (callX (denCX 2 x_ask_unlike_names) (okE (consA (var 0) (consA (var 1) nilA)))))
  neverX)
def x_cuts : List D → M (Rs D) := denFX 3 xg_cuts
theorem okx_cuts {f : Addr} {fd : FuncData} (T : Tx K mg cl) (C_ask_unlike_names_X : CalE P w K mg base cl "ask_unlike_names" 3 2 x_ask_unlike_names) (Fu : Fun K "cuts" "cuts" s_cuts f fd) (hm : mg "cuts" = some (.ref f)) : CalE P w K mg base cl "cuts" 4 2 x_cuts := by
  have nd := sc_cuts.nd
  have body : FnOk P w K mg base (L2.CX P w) 4 f fd ["net", "names"] (spDX cl 2 x_cuts) := fn_DX Fu sc_cuts (fun cdv A outer s H E hr tk => (dssx_cons (dsx_expr (eF C_ask_unlike_names_X (hr.mono (by decide)) tk (dax_ok (da_cons (vr 0) (da_cons (vr 1) da_nil)))))
  dssx_never))
  exact ⟨f, fd, ["net", "names"], hm, Fu.kp, body, Fu.binds (ps := ["net", "names"]) fun _ _ _ _ _ _ us hl => match us, hl with | [_, _], _ => rfl⟩
/-! #### Net.ties -/
abbrev s_Net_ties : Stmt := inClass (top 37) 2
abbrev N_Net_ties : List Str := ["self"]
theorem sc_Net_ties : FnScope ["self"] ["self"] (defScope s_Net_ties) := ⟨rfl, rfl, rfl, by decide +kernel, rfl, by decide +kernel, by decide +kernel⟩
def g_Net_ties : Bk := (retS (denA listD (consA (den1 (fldD 0 "_ties") (var 0)) nilA)))
def d_Net_ties : List D → M D := denF 1 g_Net_ties
theorem ok_Net_ties {f : Addr} {fd : FuncData} (T : Tx K mg cl) (Fu : Fun K "ties" "Net.ties" s_Net_ties f fd) (hi : PySem.W.findIn K (.ref (cl 0)) "ties" = some (some (.ref f))) (hf : PySem.W.isFn K (.ref f) = true) : CalM P w K mg base cl (cl 0) "ties" 1 1 d_Net_ties := by
  have nd := sc_Net_ties.nd
  have body : FnOk P w K mg base CX0 1 f fd ["self"] (spD cl 1 d_Net_ties) := fn_D Fu sc_Net_ties (fun cdv A outer s H E hr => (dss_one (ds_ret (bT cr_list b_list T.b_list (da_cons (fF T.cl_Net T.n_Net__ties (vr 0)) da_nil)))))
  exact ⟨f, fd, ["self"], hi, hf, Fu.kp, body, Fu.binds (ps := ["self"]) fun _ _ _ _ _ _ us hl => match us, hl with | [_], _ => rfl⟩
/-! #### law -/
abbrev s_law : Stmt := top 91
abbrev N_law : List Str := ["_law_script", "_law_stream", "_law_turn", "_law_found", "_law_axes", "_law_plan", "_law_made", "_law_names", "_law_fine", "_law_some", "_law_odd", "_law_at", "_law_handed", "_law_row"]
theorem sc_law : FnScope ["_law_script", "_law_stream", "_law_turn", "_law_found", "_law_axes", "_law_plan", "_law_made", "_law_names", "_law_fine", "_law_some", "_law_odd", "_law_at", "_law_handed", "_law_row"] ["_law_script"] (defScope s_law) := ⟨rfl, rfl, rfl, by decide +kernel, rfl, by decide +kernel, by decide +kernel⟩
def g_law (L : List D → M D) : Bk := (seqS (asgS (denA (denC 1 (d__law_start L)) (consA (var 0) nilA)) (nameG 1))
  (seqS (forS (argI range1It (consA (kst (.int 4)) nilA)) (nameG 2)
  (seqS (asgS (den2 addD (kst (.int 1)) (denA (denC 2 d__law_draw) (consA (var 1) (consA (kst (.int 3)) nilA)))) (nameG 4))
  (seqS (asgS (denA (denC 5 d__law_n_plan) (consA (var 1) (consA (var 4) (consA (kst (.int 3)) (consA (kst (.int 5)) (consA (kst (.int 2)) nilA)))))) (nameG 5))
  (seqS (asgS (denA mkTup (consA (denA (denC 1 d__law_n_made) (consA (var 5) nilA)) (consA (lcD (seqI (den2 ixD (var 5) (kst (.int 2)))) (nameG 13) yesT (den2 ixD (var 13) (kst (.int 0))) [13] still0) nilA))) (unpG 2 (consG (nameG 6) (consG (nameG 7) nilG))))
  (seqS (asgS (den2 mulD (denA mkLst (consA (kst (.int 2)) nilA)) (var 4)) (nameG 8))
  (seqS (asgS (denA mkLst (consA (kst .non) (consA (kst (.int 5)) (consA (kst (.str "12")) (consA (fun _ => stillD ([], [])) (consA (den2 addD (var 8) (denA mkLst (consA (kst (.int 1)) nilA))) (consA (sliceD (var 8) (optI (kst (.int 1))) noI) (consA (den2 addD (sliceD (var 8) (optI (kst (.int 1))) noI) (denA mkLst (consA (kst (.int 0)) nilA))) (consA (den2 addD (sliceD (var 8) (optI (kst (.int 1))) noI) (denA mkLst (consA (den1 negD (kst (.int 1))) nilA))) nilA))))))))) (nameG 9))
  (seqS (forS (seqI (den2 addD (var 9) (denA mkLst (consA (den2 addD (sliceD (var 8) (optI (kst (.int 1))) noI) (denA mkLst (consA (kst (.bl true)) nilA))) (consA (den2 mulD (denA mkLst (consA (kst .non) nilA)) (var 4)) nilA))))) (nameG 10)
  (seqS (asgS (denA mkLstM (consA (lamD qsL t__law_tried (callX (denCX 2 x_box_way) (okE (consA (var 6) (consA (var 10) nilA))))) nilA)) (nameG 3))
  (seqS (dropS (methD isLst (var 3) (consA (lamD qsL t__law_tried (callX (denCX 3 x_is_box_way) (okE (consA (var 6) (consA (var 10) (consA (kst .non) nilA)))))) nilA) appendD))
  (seqS (dropS (methD isLst (var 3) (consA (lamD qsL t__law_tried (callX (denCX 2 x_longest_way) (okE (consA (var 6) (consA (var 10) nilA))))) nilA) appendD))
  (ifS (notB (valT (denA (denC 2 (d__law_same 6)) (consA (denA (denC 1 (d__law_frozen 5)) (consA (var 3) nilA)) (consA (denA (denC 1 (d__law_frozen 5)) (consA (den2 mulD (denA mkLst (consA (denA mkTup (consA (kst (.str "sizes")) (consA (var 10) nilA))) nilA)) (kst (.int 3))) nilA)) nilA)))))
  (retS (kst (.bl false))) nopS)))))
  (seqS (forS (seqI (denA mkLst (consA (kst .non) (consA (den1 negD (kst (.int 1))) (consA (var 4) (consA (kst (.str "0")) (consA (kst (.bl true)) (consA (denA mkTup (consA (kst (.int 0)) nilA)) (consA (denA mkLst (consA (kst (.int 0)) nilA)) (consA (fun _ => stillD ([], [])) nilA)))))))))) (nameG 10)
  (ifS (notB (valT (denA (denC 2 (d__law_same 6)) (consA (denA (denC 1 (d__law_frozen 5)) (consA (lamD qsL t__law_tried (callX (denCX 3 x_boxed) (okE (consA (var 6) (consA (var 10) (consA (kst .non) nilA)))))) nilA)) (consA (denA mkTup (consA (kst (.str "axis")) (consA (denA (denC 1 (d__law_frozen 5)) (consA (var 10) nilA)) nilA))) nilA)))))
  (retS (kst (.bl false))) nopS))
  (seqS (forS (seqI (denA mkLst (consA (kst .non) (consA (kst (.int 0)) (consA (den1 negD (kst (.int 1))) (consA (kst (.int 41)) (consA (kst (.str "1")) (consA (kst (.bl true)) (consA (denA mkTup (consA (kst (.int 1)) nilA)) (consA (denA mkLst (consA (kst (.int 1)) nilA)) (consA (fun _ => stillD ([], [])) nilA))))))))))) (nameG 10)
  (ifS (notB (valT (denA (denC 2 (d__law_same 6)) (consA (denA (denC 1 (d__law_frozen 5)) (consA (lamD qsL t__law_tried (callX (denCX 3 x_boxed) (okE (consA (var 6) (consA (kst (.int 0)) (consA (var 10) nilA)))))) nilA)) (consA (denA mkTup (consA (kst (.str "number")) (consA (denA (denC 1 (d__law_frozen 5)) (consA (var 10) nilA)) nilA))) nilA)))))
  (retS (kst (.bl false))) nopS))
  (seqS (forS (seqI (denA mkLst (consA (kst .non) (consA (kst (.int 5)) (consA (den2 ixD (var 7) (kst (.int 0))) (consA (fun _ => stillD ([], [])) (consA (kst (.bl true)) nilA))))))) (nameG 10)
  (ifS (notB (valT (denA (denC 2 (d__law_same 6)) (consA (lamD qsL t__law_tried (callX (denCX 2 x_cuts) (okE (consA (var 6) (consA (var 10) nilA))))) (consA (denA mkTup (consA (kst (.str "tie")) (consA (var 10) nilA))) nilA)))))
  (retS (kst (.bl false))) nopS))
  (seqS (forS (seqI (denA mkLst (consA (kst .non) (consA (kst (.int 5)) (consA (kst (.str "")) (consA (kst (.str "Q")) (consA (den2 addD (den2 ixD (var 7) (kst (.int 0))) (kst (.str "qq"))) (consA (denA mkLst (consA (den2 ixD (var 7) (kst (.int 0))) nilA)) (consA (denA mkTup (consA (den2 ixD (var 7) (kst (.int 0))) nilA)) (consA (kst (.bl true)) (consA (den2 ixD (var 7) (kst (.int 0))) nilA))))))))))) (nameG 10)
  (seqS (asgS (den2 addD (kst (.int 1)) (denA (denC 2 d__law_draw) (consA (var 1) (consA (denA lenD (consA (var 7) nilA)) nilA)))) (nameG 11))
  (seqS (asgS (den2 addD (den2 addD (den2 addD (sliceD (var 7) noI (optI (var 11))) (denA mkLst (consA (var 10) nilA))) (sliceD (var 7) (optI (var 11)) noI)) (denA mkLst (consA (kst .non) nilA))) (nameG 12))
  (ifS (notB (valT (denA (denC 2 (d__law_same 6)) (consA (denA (denC 1 (d__law_frozen 5)) (consA (lamD qsL t__law_tried (callX (denCX 2 x_cuts) (okE (consA (var 6) (consA (var 12) nilA))))) nilA)) (consA (denA mkTup (consA (kst (.str "tie")) (consA (denA (denC 1 (d__law_frozen 5)) (consA (var 10) nilA)) nilA))) nilA)))))
  (retS (kst (.bl false))) nopS))))
  (ifS (cmpT neD (omethD 0 "ties" 1 d_Net_ties (var 6) nilA) (den2 ixD (var 5) (kst (.int 2))))
  (retS (kst (.bl false))) nopS))))))))))))
  (seqS (asgS (lamD qsL t__law_tried (callX (denCX 2 x_box_way) (okE (consA (denA (mkD 0 4 d_Net___init__) (consA (kst (.int 0)) (consA (denA mkLst (consA (kst (.str "a")) nilA)) (consA (denA mkLst nilA) nilA)))) (consA (denA mkLst (consA (kst (.int 1)) nilA)) nilA))))) (nameG 3))
  (retS (denA (denC 2 (d__law_same 6)) (consA (denA (denC 1 (d__law_frozen 5)) (consA (var 3) nilA)) (consA (denA mkTup (consA (kst (.str "sizes")) (consA (denA mkTup (consA (kst (.int 1)) nilA)) nilA))) nilA)))))))
def d_law (L : List D → M D) : List D → M D := denF 14 (g_law L)
theorem body_law {f : Addr} {fd : FuncData} {L : List D → M D} (T : Tx K mg cl) (C_Net___init__ : CalM P w K mg base cl (cl 0) "__init__" 5 4 d_Net___init__) (C_Net_ties : CalM P w K mg base cl (cl 0) "ties" 1 1 d_Net_ties) (C__law_draw : Cal P w K mg base cl "_law_draw" 1 2 d__law_draw) (C__law_frozen : Cal P w K mg base cl "_law_frozen" 6 1 (d__law_frozen 5)) (C__law_n_made : Cal P w K mg base cl "_law_n_made" 7 1 d__law_n_made) (C__law_n_plan : Cal P w K mg base cl "_law_n_plan" 4 5 d__law_n_plan) (C__law_same : Cal P w K mg base cl "_law_same" 7 2 (d__law_same 6)) (C__law_start : Cal P w K mg base cl "_law_start" 1 1 (d__law_start L)) (C__law_tried : CalT K mg "_law_tried" s__law_tried "_law_ask") (C_box_way_X : CalE P w K mg base cl "box_way" 5 2 x_box_way) (C_boxed_X : CalE P w K mg base cl "boxed" 4 3 x_boxed) (C_cuts_X : CalE P w K mg base cl "cuts" 4 2 x_cuts) (C_is_box_way_X : CalE P w K mg base cl "is_box_way" 5 3 x_is_box_way) (C_longest_way_X : CalE P w K mg base cl "longest_way" 5 2 x_longest_way) {c : Addr} (TB : LamX.TabB base mg c (cl 200)) (Fu : FunC K "law" "law" s_law f c fd) : FnOk P w K mg base CX0 9 f fd ["_law_script"] (spD cl 1 (d_law L)) := by
  have nd := sc_law.nd
  exact fn_DC Fu sc_law (fun A outer s H E hr => (dss_cons (ds_set (cF C__law_start (hr.mono (by decide)) (da_cons (vr 0) da_nil)) fun h => ps_set (i := 1) nd rfl (by first | exact Or.inl rfl | exact Or.inr rfl) h)
  (dss_cons (ds_for PassesOwn.never rfl (di_range1 (da_cons kInt da_nil) fun h => pi_range1 (by rfl) T.b_range h) (dg_name' (pg_name (i := 2) nd rfl (by first | exact Or.inl rfl | exact Or.inr rfl)))
  (dss_cons (ds_set (de_op op_addD kInt (cF C__law_draw (hr.mono (by decide)) (da_cons (vr 1) (da_cons kInt da_nil)))) fun h => ps_set (i := 4) nd rfl (by first | exact Or.inl rfl | exact Or.inr rfl) h)
  (dss_cons (ds_set (cF C__law_n_plan (hr.mono (by decide)) (da_cons (vr 1) (da_cons (vr 4) (da_cons kInt (da_cons kInt (da_cons kInt da_nil)))))) fun h => ps_set (i := 5) nd rfl (by first | exact Or.inl rfl | exact Or.inr rfl) h)
  (dss_cons (ds_asg (de_tup (da_cons (cF C__law_n_made (hr.mono (by decide)) (da_cons (vr 5) da_nil)) (da_cons (de_lc (own := [("_law_row", 13)]) rfl nd (di_seq (de_ix (ix_D (hu_of hr)) (vr 5) kInt (fun _ _ => rfl))) (blkOk_by (show blkC N_law (defScope s_law) _ _ = true from by decide +kernel)) (fun _ _ _ _ _ => (dg_name' (pg_name (i := 13) nd rfl (by first | exact Or.inl rfl | exact Or.inr rfl)))) (fun _ _ _ _ _ => dts_nil) (fun _ _ _ _ _ => (de_ix (ix_D (hu_of hr)) (vr 13) kInt (fun _ _ => rfl)))) da_nil))) (dg_unp rfl (dgs_cons (dg_name' (pg_name (i := 6) nd rfl (by first | exact Or.inl rfl | exact Or.inr rfl))) (dgs_cons (dg_name' (pg_name (i := 7) nd rfl (by first | exact Or.inl rfl | exact Or.inr rfl))) dgs_nil))))
  (dss_cons (ds_set (de_op op_mulD (de_lst (da_cons kInt da_nil)) (vr 4)) fun h => ps_set (i := 8) nd rfl (by first | exact Or.inl rfl | exact Or.inr rfl) h)
  (dss_cons (ds_set (de_lst (da_cons kNon (da_cons kInt (da_cons kStr (da_cons de_dnew (da_cons (de_op op_addD (vr 8) (de_lst (da_cons kInt da_nil))) (da_cons (de_slice (vr 8) (do_some kInt) do_none) (da_cons (de_op op_addD (de_slice (vr 8) (do_some kInt) do_none) (de_lst (da_cons kInt da_nil))) (da_cons (de_op op_addD (de_slice (vr 8) (do_some kInt) do_none) (de_lst (da_cons (de_un un_negD kInt) da_nil))) da_nil))))))))) fun h => ps_set (i := 9) nd rfl (by first | exact Or.inl rfl | exact Or.inr rfl) h)
  (dss_cons (ds_for PassesOwn.never rfl (di_seq (de_op op_addD (vr 9) (de_lst (da_cons (de_op op_addD (de_slice (vr 8) (do_some kInt) do_none) (de_lst (da_cons kBl da_nil))) (da_cons (de_op op_mulD (de_lst (da_cons kNon da_nil)) (vr 4)) da_nil))))) (dg_name' (pg_name (i := 10) nd rfl (by first | exact Or.inl rfl | exact Or.inr rfl)))
  (dss_cons (ds_set (de_lstM (da_cons (de_lamC 5 0 C__law_tried T.h8 T.nP sc__law_tried (fun g cdg => gv__law_tried T) rfl TB rfl (hr.mono (by decide)) (fun A outer s H E f c' hr tk => (eF C_box_way_X (hr.mono (by decide)) tk (dax_ok (da_cons (vr 6) (da_cons (vr 10) da_nil))))) (show LamX.lamSB (defScope s_law) _ = true from by decide +kernel)) da_nil)) fun h => ps_set (i := 3) nd rfl (by first | exact Or.inl rfl | exact Or.inr rfl) h)
  (dss_cons (ds_expr (mApp (vr 3) (da_cons (de_lamC 5 0 C__law_tried T.h8 T.nP sc__law_tried (fun g cdg => gv__law_tried T) rfl TB rfl (hr.mono (by decide)) (fun A outer s H E f c' hr tk => (eF C_is_box_way_X (hr.mono (by decide)) tk (dax_ok (da_cons (vr 6) (da_cons (vr 10) (da_cons kNon da_nil)))))) (show LamX.lamSB (defScope s_law) _ = true from by decide +kernel)) da_nil)))
  (dss_cons (ds_expr (mApp (vr 3) (da_cons (de_lamC 5 0 C__law_tried T.h8 T.nP sc__law_tried (fun g cdg => gv__law_tried T) rfl TB rfl (hr.mono (by decide)) (fun A outer s H E f c' hr tk => (eF C_longest_way_X (hr.mono (by decide)) tk (dax_ok (da_cons (vr 6) (da_cons (vr 10) da_nil))))) (show LamX.lamSB (defScope s_law) _ = true from by decide +kernel)) da_nil)))
  (dss_one (ds_if (dt_not (dt_val (cF C__law_same (hr.mono (by decide)) (da_cons (cF C__law_frozen (hr.mono (by decide)) (da_cons (vr 3) da_nil)) (da_cons (cF C__law_frozen (hr.mono (by decide)) (da_cons (de_op op_mulD (de_lst (da_cons (de_tup (da_cons kStr (da_cons (vr 10) da_nil))) da_nil)) kInt) da_nil)) da_nil)))))
  (dss_one (ds_ret kBl)) dss_nil))))))
  (dss_cons (ds_for PassesOwn.never rfl (di_seq (de_lst (da_cons kNon (da_cons (de_un un_negD kInt) (da_cons (vr 4) (da_cons kStr (da_cons kBl (da_cons (de_tup (da_cons kInt da_nil)) (da_cons (de_lst (da_cons kInt da_nil)) (da_cons de_dnew da_nil)))))))))) (dg_name' (pg_name (i := 10) nd rfl (by first | exact Or.inl rfl | exact Or.inr rfl)))
  (dss_one (ds_if (dt_not (dt_val (cF C__law_same (hr.mono (by decide)) (da_cons (cF C__law_frozen (hr.mono (by decide)) (da_cons (de_lamC 4 0 C__law_tried T.h8 T.nP sc__law_tried (fun g cdg => gv__law_tried T) rfl TB rfl (hr.mono (by decide)) (fun A outer s H E f c' hr tk => (eF C_boxed_X (hr.mono (by decide)) tk (dax_ok (da_cons (vr 6) (da_cons (vr 10) (da_cons kNon da_nil)))))) (show LamX.lamSB (defScope s_law) _ = true from by decide +kernel)) da_nil)) (da_cons (de_tup (da_cons kStr (da_cons (cF C__law_frozen (hr.mono (by decide)) (da_cons (vr 10) da_nil)) da_nil))) da_nil)))))
  (dss_one (ds_ret kBl)) dss_nil)))
  (dss_cons (ds_for PassesOwn.never rfl (di_seq (de_lst (da_cons kNon (da_cons kInt (da_cons (de_un un_negD kInt) (da_cons kInt (da_cons kStr (da_cons kBl (da_cons (de_tup (da_cons kInt da_nil)) (da_cons (de_lst (da_cons kInt da_nil)) (da_cons de_dnew da_nil))))))))))) (dg_name' (pg_name (i := 10) nd rfl (by first | exact Or.inl rfl | exact Or.inr rfl)))
  (dss_one (ds_if (dt_not (dt_val (cF C__law_same (hr.mono (by decide)) (da_cons (cF C__law_frozen (hr.mono (by decide)) (da_cons (de_lamC 4 0 C__law_tried T.h8 T.nP sc__law_tried (fun g cdg => gv__law_tried T) rfl TB rfl (hr.mono (by decide)) (fun A outer s H E f c' hr tk => (eF C_boxed_X (hr.mono (by decide)) tk (dax_ok (da_cons (vr 6) (da_cons kInt (da_cons (vr 10) da_nil)))))) (show LamX.lamSB (defScope s_law) _ = true from by decide +kernel)) da_nil)) (da_cons (de_tup (da_cons kStr (da_cons (cF C__law_frozen (hr.mono (by decide)) (da_cons (vr 10) da_nil)) da_nil))) da_nil)))))
  (dss_one (ds_ret kBl)) dss_nil)))
  (dss_cons (ds_for PassesOwn.never rfl (di_seq (de_lst (da_cons kNon (da_cons kInt (da_cons (de_ix (ix_D (hu_of hr)) (vr 7) kInt (fun _ _ => rfl)) (da_cons de_dnew (da_cons kBl da_nil))))))) (dg_name' (pg_name (i := 10) nd rfl (by first | exact Or.inl rfl | exact Or.inr rfl)))
  (dss_one (ds_if (dt_not (dt_val (cF C__law_same (hr.mono (by decide)) (da_cons (de_lamC 4 0 C__law_tried T.h8 T.nP sc__law_tried (fun g cdg => gv__law_tried T) rfl TB rfl (hr.mono (by decide)) (fun A outer s H E f c' hr tk => (eF C_cuts_X (hr.mono (by decide)) tk (dax_ok (da_cons (vr 6) (da_cons (vr 10) da_nil))))) (show LamX.lamSB (defScope s_law) _ = true from by decide +kernel)) (da_cons (de_tup (da_cons kStr (da_cons (vr 10) da_nil))) da_nil)))))
  (dss_one (ds_ret kBl)) dss_nil)))
  (dss_cons (ds_for PassesOwn.never rfl (di_seq (de_lst (da_cons kNon (da_cons kInt (da_cons kStr (da_cons kStr (da_cons (de_op op_addD (de_ix (ix_D (hu_of hr)) (vr 7) kInt (fun _ _ => rfl)) kStr) (da_cons (de_lst (da_cons (de_ix (ix_D (hu_of hr)) (vr 7) kInt (fun _ _ => rfl)) da_nil)) (da_cons (de_tup (da_cons (de_ix (ix_D (hu_of hr)) (vr 7) kInt (fun _ _ => rfl)) da_nil)) (da_cons kBl (da_cons (de_ix (ix_D (hu_of hr)) (vr 7) kInt (fun _ _ => rfl)) da_nil))))))))))) (dg_name' (pg_name (i := 10) nd rfl (by first | exact Or.inl rfl | exact Or.inr rfl)))
  (dss_cons (ds_set (de_op op_addD kInt (cF C__law_draw (hr.mono (by decide)) (da_cons (vr 1) (da_cons (bB cr_len b_len T.b_len (da_cons (vr 7) da_nil)) da_nil)))) fun h => ps_set (i := 11) nd rfl (by first | exact Or.inl rfl | exact Or.inr rfl) h)
  (dss_cons (ds_set (de_op op_addD (de_op op_addD (de_op op_addD (de_slice (vr 7) do_none (do_some (vr 11))) (de_lst (da_cons (vr 10) da_nil))) (de_slice (vr 7) (do_some (vr 11)) do_none)) (de_lst (da_cons kNon da_nil))) fun h => ps_set (i := 12) nd rfl (by first | exact Or.inl rfl | exact Or.inr rfl) h)
  (dss_one (ds_if (dt_not (dt_val (cF C__law_same (hr.mono (by decide)) (da_cons (cF C__law_frozen (hr.mono (by decide)) (da_cons (de_lamC 4 0 C__law_tried T.h8 T.nP sc__law_tried (fun g cdg => gv__law_tried T) rfl TB rfl (hr.mono (by decide)) (fun A outer s H E f c' hr tk => (eF C_cuts_X (hr.mono (by decide)) tk (dax_ok (da_cons (vr 6) (da_cons (vr 12) da_nil))))) (show LamX.lamSB (defScope s_law) _ = true from by decide +kernel)) da_nil)) (da_cons (de_tup (da_cons kStr (da_cons (cF C__law_frozen (hr.mono (by decide)) (da_cons (vr 10) da_nil)) da_nil))) da_nil)))))
  (dss_one (ds_ret kBl)) dss_nil)))))
  (dss_one (ds_if (dt_cmp (op_neD' (hr.units)) (cM0 C_Net_ties T.cl_Net (hr.mono (by decide)) (vr 6)) (de_ix (ix_D (hu_of hr)) (vr 5) kInt (fun _ _ => rfl)) (nomark _))
  (dss_one (ds_ret kBl)) dss_nil)))))))))))))
  (dss_cons (ds_set (de_lamC 6 0 C__law_tried T.h8 T.nP sc__law_tried (fun g cdg => gv__law_tried T) rfl TB rfl (hr.mono (by decide)) (fun A outer s H E f c' hr tk => (eF C_box_way_X (hr.mono (by decide)) tk (dax_ok (da_cons (cN C_Net___init__ T.mk_Net T.kc_Net T.g_Net (hr.mono (by decide)) (da_cons kInt (da_cons (de_lst (da_cons kStr da_nil)) (da_cons (de_lst da_nil) da_nil)))) (da_cons (de_lst (da_cons kInt da_nil)) da_nil))))) (show LamX.lamSB (defScope s_law) _ = true from by decide +kernel)) fun h => ps_set (i := 3) nd rfl (by first | exact Or.inl rfl | exact Or.inr rfl) h)
  (dss_one (ds_ret (cF C__law_same (hr.mono (by decide)) (da_cons (cF C__law_frozen (hr.mono (by decide)) (da_cons (vr 3) da_nil)) (da_cons (de_tup (da_cons kStr (da_cons (de_tup (da_cons kInt da_nil)) da_nil))) da_nil)))))))))
theorem all_mk {l : PySem.W.OpenLaw} {w : World} {K : PySem.W.Frag} {h : Heap} {mg : Str → Option Value} {fa KNetError KNoTie KBadNumber KNoAxis KBadSizes f_NoTie f_BadNumber f_NoAxis f_BadSizes KNet f__law_start f__law_draw f__law_pick f__law_n_words f__law_n_plan f_is_whole f_is_between f_is_list f_is_name f_are_rooms f_is_key f_are_whole f_is_tie f_first_no_tie f_Net___init__ f__law_n_made f__law_tried f_are_counts f_ask_sizes f_box_way f_is_box_way f_longest_way f__law_same f__law_frozen f_ask_axis f_ask_cells f_boxed f_Net___contains__ f_ask_unlike_names f_cuts f_Net_ties f_law c_law P_law : Addr} (X : K.In h) (G : h.Ns mainGlobals mg) (hfa : mg "law" = some (.ref fa))
    (a_NoTie : PySem.W.nsIn K mainGlobals "NoTie" = some (some (.ref KNoTie)))
    (ty_NoTie : PySem.W.typeIn K (.ref KNoTie) = some (.type "type"))
    (c_NoTie : ∃ cd, PySem.W.clsIn K KNoTie = some cd ∧ cd.mro = .ref KNoTie :: .ref KNetError :: [.type "ValueError", .type "Exception", .type "BaseException", .type "object"])
    (sb_NoTie : PySem.W.subIn K (.ref KNoTie) (.type "BaseException") = some true)
    (ga_NoTie : PySem.W.findIn K (.ref KNoTie) "__getattribute__" = some (some (.builtin "BaseException.__getattribute__")))
    (gt_NoTie : PySem.W.findIn K (.ref KNoTie) "__getattr__" = some none)
    (hd_NoTie : PySem.W.hasDictIn K KNoTie = true)
    (no_NoTie : PySem.W.findIn K (.ref KNoTie) "name" = some none)
    (kc_NoTie : PySem.W.keepIn K (.ref KNoTie) = true)
    (o_NoTie : ∃ nm q N bs bm sn sub ab col dd k0 k1 k2 k3 k5, K.lookup KNoTie = some (excClassObj nm q KNoTie N bs bm true sn sub ab col dd k0 k1 k2 k3 k5 "ValueError.__new__") ∧ PySem.HandSPX.refsVE bm = true)
    (sa_NoTie : PySem.W.findIn K (.ref KNoTie) "__setattr__" = some (some (.builtin "object.__setattr__")))
    (i_NoTie : PySem.W.findIn K (.ref KNoTie) "__init__" = some (some (.ref f_NoTie)))
    (ti_NoTie : PySem.W.typeIn K (.ref f_NoTie) = some (.type "function"))
    (F_NoTie : ∃ fd, Fun K "__init__" "NoTie.__init__" s_NoTie___init__ f_NoTie fd)
    (a_BadNumber : PySem.W.nsIn K mainGlobals "BadNumber" = some (some (.ref KBadNumber)))
    (ty_BadNumber : PySem.W.typeIn K (.ref KBadNumber) = some (.type "type"))
    (c_BadNumber : ∃ cd, PySem.W.clsIn K KBadNumber = some cd ∧ cd.mro = .ref KBadNumber :: .ref KNetError :: [.type "ValueError", .type "Exception", .type "BaseException", .type "object"])
    (sb_BadNumber : PySem.W.subIn K (.ref KBadNumber) (.type "BaseException") = some true)
    (ga_BadNumber : PySem.W.findIn K (.ref KBadNumber) "__getattribute__" = some (some (.builtin "BaseException.__getattribute__")))
    (gt_BadNumber : PySem.W.findIn K (.ref KBadNumber) "__getattr__" = some none)
    (hd_BadNumber : PySem.W.hasDictIn K KBadNumber = true)
    (no_BadNumber : PySem.W.findIn K (.ref KBadNumber) "number" = some none)
    (kc_BadNumber : PySem.W.keepIn K (.ref KBadNumber) = true)
    (o_BadNumber : ∃ nm q N bs bm sn sub ab col dd k0 k1 k2 k3 k5, K.lookup KBadNumber = some (excClassObj nm q KBadNumber N bs bm true sn sub ab col dd k0 k1 k2 k3 k5 "ValueError.__new__") ∧ PySem.HandSPX.refsVE bm = true)
    (sa_BadNumber : PySem.W.findIn K (.ref KBadNumber) "__setattr__" = some (some (.builtin "object.__setattr__")))
    (i_BadNumber : PySem.W.findIn K (.ref KBadNumber) "__init__" = some (some (.ref f_BadNumber)))
    (ti_BadNumber : PySem.W.typeIn K (.ref f_BadNumber) = some (.type "function"))
    (F_BadNumber : ∃ fd, Fun K "__init__" "BadNumber.__init__" s_BadNumber___init__ f_BadNumber fd)
    (a_NoAxis : PySem.W.nsIn K mainGlobals "NoAxis" = some (some (.ref KNoAxis)))
    (ty_NoAxis : PySem.W.typeIn K (.ref KNoAxis) = some (.type "type"))
    (c_NoAxis : ∃ cd, PySem.W.clsIn K KNoAxis = some cd ∧ cd.mro = .ref KNoAxis :: .ref KNetError :: [.type "ValueError", .type "Exception", .type "BaseException", .type "object"])
    (sb_NoAxis : PySem.W.subIn K (.ref KNoAxis) (.type "BaseException") = some true)
    (ga_NoAxis : PySem.W.findIn K (.ref KNoAxis) "__getattribute__" = some (some (.builtin "BaseException.__getattribute__")))
    (gt_NoAxis : PySem.W.findIn K (.ref KNoAxis) "__getattr__" = some none)
    (hd_NoAxis : PySem.W.hasDictIn K KNoAxis = true)
    (no_NoAxis : PySem.W.findIn K (.ref KNoAxis) "axis" = some none)
    (kc_NoAxis : PySem.W.keepIn K (.ref KNoAxis) = true)
    (o_NoAxis : ∃ nm q N bs bm sn sub ab col dd k0 k1 k2 k3 k5, K.lookup KNoAxis = some (excClassObj nm q KNoAxis N bs bm true sn sub ab col dd k0 k1 k2 k3 k5 "ValueError.__new__") ∧ PySem.HandSPX.refsVE bm = true)
    (sa_NoAxis : PySem.W.findIn K (.ref KNoAxis) "__setattr__" = some (some (.builtin "object.__setattr__")))
    (i_NoAxis : PySem.W.findIn K (.ref KNoAxis) "__init__" = some (some (.ref f_NoAxis)))
    (ti_NoAxis : PySem.W.typeIn K (.ref f_NoAxis) = some (.type "function"))
    (F_NoAxis : ∃ fd, Fun K "__init__" "NoAxis.__init__" s_NoAxis___init__ f_NoAxis fd)
    (a_BadSizes : PySem.W.nsIn K mainGlobals "BadSizes" = some (some (.ref KBadSizes)))
    (ty_BadSizes : PySem.W.typeIn K (.ref KBadSizes) = some (.type "type"))
    (c_BadSizes : ∃ cd, PySem.W.clsIn K KBadSizes = some cd ∧ cd.mro = .ref KBadSizes :: .ref KNetError :: [.type "ValueError", .type "Exception", .type "BaseException", .type "object"])
    (sb_BadSizes : PySem.W.subIn K (.ref KBadSizes) (.type "BaseException") = some true)
    (ga_BadSizes : PySem.W.findIn K (.ref KBadSizes) "__getattribute__" = some (some (.builtin "BaseException.__getattribute__")))
    (gt_BadSizes : PySem.W.findIn K (.ref KBadSizes) "__getattr__" = some none)
    (hd_BadSizes : PySem.W.hasDictIn K KBadSizes = true)
    (no_BadSizes : PySem.W.findIn K (.ref KBadSizes) "sizes" = some none)
    (kc_BadSizes : PySem.W.keepIn K (.ref KBadSizes) = true)
    (o_BadSizes : ∃ nm q N bs bm sn sub ab col dd k0 k1 k2 k3 k5, K.lookup KBadSizes = some (excClassObj nm q KBadSizes N bs bm true sn sub ab col dd k0 k1 k2 k3 k5 "ValueError.__new__") ∧ PySem.HandSPX.refsVE bm = true)
    (sa_BadSizes : PySem.W.findIn K (.ref KBadSizes) "__setattr__" = some (some (.builtin "object.__setattr__")))
    (i_BadSizes : PySem.W.findIn K (.ref KBadSizes) "__init__" = some (some (.ref f_BadSizes)))
    (ti_BadSizes : PySem.W.typeIn K (.ref f_BadSizes) = some (.type "function"))
    (F_BadSizes : ∃ fd, Fun K "__init__" "BadSizes.__init__" s_BadSizes___init__ f_BadSizes fd)
    (xnd : [KNetError, KNoTie, KBadNumber, KNoAxis, KBadSizes].Nodup)
    (a_Net : PySem.W.nsIn K mainGlobals "Net" = some (some (.ref KNet)))
    (a__law_start : PySem.W.nsIn K mainGlobals "_law_start" = some (some (.ref f__law_start))) (F__law_start : ∃ fd, Fun K "_law_start" "_law_start" s__law_start f__law_start fd)
    (a__law_draw : PySem.W.nsIn K mainGlobals "_law_draw" = some (some (.ref f__law_draw))) (F__law_draw : ∃ fd, Fun K "_law_draw" "_law_draw" s__law_draw f__law_draw fd)
    (a__law_pick : PySem.W.nsIn K mainGlobals "_law_pick" = some (some (.ref f__law_pick))) (F__law_pick : ∃ fd, Fun K "_law_pick" "_law_pick" s__law_pick f__law_pick fd)
    (a__law_n_words : PySem.W.nsIn K mainGlobals "_law_n_words" = some (some (.ref f__law_n_words))) (F__law_n_words : ∃ fd, Fun K "_law_n_words" "_law_n_words" s__law_n_words f__law_n_words fd)
    (a__law_n_plan : PySem.W.nsIn K mainGlobals "_law_n_plan" = some (some (.ref f__law_n_plan))) (F__law_n_plan : ∃ fd, Fun K "_law_n_plan" "_law_n_plan" s__law_n_plan f__law_n_plan fd)
    (a_is_whole : PySem.W.nsIn K mainGlobals "is_whole" = some (some (.ref f_is_whole))) (F_is_whole : ∃ fd, Fun K "is_whole" "is_whole" s_is_whole f_is_whole fd)
    (a_is_between : PySem.W.nsIn K mainGlobals "is_between" = some (some (.ref f_is_between))) (F_is_between : ∃ fd, Fun K "is_between" "is_between" s_is_between f_is_between fd)
    (a_is_list : PySem.W.nsIn K mainGlobals "is_list" = some (some (.ref f_is_list))) (F_is_list : ∃ fd, Fun K "is_list" "is_list" s_is_list f_is_list fd)
    (a_is_name : PySem.W.nsIn K mainGlobals "is_name" = some (some (.ref f_is_name))) (F_is_name : ∃ fd, Fun K "is_name" "is_name" s_is_name f_is_name fd)
    (a_are_rooms : PySem.W.nsIn K mainGlobals "are_rooms" = some (some (.ref f_are_rooms))) (F_are_rooms : ∃ fd, Fun K "are_rooms" "are_rooms" s_are_rooms f_are_rooms fd)
    (a_is_key : PySem.W.nsIn K mainGlobals "is_key" = some (some (.ref f_is_key))) (F_is_key : ∃ fd, Fun K "is_key" "is_key" s_is_key f_is_key fd)
    (a_are_whole : PySem.W.nsIn K mainGlobals "are_whole" = some (some (.ref f_are_whole))) (F_are_whole : ∃ fd, Fun K "are_whole" "are_whole" s_are_whole f_are_whole fd)
    (a_is_tie : PySem.W.nsIn K mainGlobals "is_tie" = some (some (.ref f_is_tie))) (F_is_tie : ∃ fd, Fun K "is_tie" "is_tie" s_is_tie f_is_tie fd)
    (a_first_no_tie : PySem.W.nsIn K mainGlobals "first_no_tie" = some (some (.ref f_first_no_tie))) (F_first_no_tie : ∃ fd, Fun K "first_no_tie" "first_no_tie" s_first_no_tie f_first_no_tie fd)
    (a_Net___init__ : PySem.W.findIn K (.ref KNet) "__init__" = some (some (.ref f_Net___init__))) (i_Net___init__ : PySem.W.isFn K (.ref f_Net___init__) = true) (F_Net___init__ : ∃ fd, Fun K "__init__" "Net.__init__" s_Net___init__ f_Net___init__ fd)
    (a__law_n_made : PySem.W.nsIn K mainGlobals "_law_n_made" = some (some (.ref f__law_n_made))) (F__law_n_made : ∃ fd, Fun K "_law_n_made" "_law_n_made" s__law_n_made f__law_n_made fd)
    (a__law_tried : PySem.W.nsIn K mainGlobals "_law_tried" = some (some (.ref f__law_tried))) (F__law_tried : ∃ fd, Fun K "_law_tried" "_law_tried" s__law_tried f__law_tried fd)
    (a_are_counts : PySem.W.nsIn K mainGlobals "are_counts" = some (some (.ref f_are_counts))) (F_are_counts : ∃ fd, Fun K "are_counts" "are_counts" s_are_counts f_are_counts fd)
    (a_ask_sizes : PySem.W.nsIn K mainGlobals "ask_sizes" = some (some (.ref f_ask_sizes))) (F_ask_sizes : ∃ fd, Fun K "ask_sizes" "ask_sizes" s_ask_sizes f_ask_sizes fd)
    (a_box_way : PySem.W.nsIn K mainGlobals "box_way" = some (some (.ref f_box_way))) (F_box_way : ∃ fd, Fun K "box_way" "box_way" s_box_way f_box_way fd)
    (a_is_box_way : PySem.W.nsIn K mainGlobals "is_box_way" = some (some (.ref f_is_box_way))) (F_is_box_way : ∃ fd, Fun K "is_box_way" "is_box_way" s_is_box_way f_is_box_way fd)
    (a_longest_way : PySem.W.nsIn K mainGlobals "longest_way" = some (some (.ref f_longest_way))) (F_longest_way : ∃ fd, Fun K "longest_way" "longest_way" s_longest_way f_longest_way fd)
    (a__law_same : PySem.W.nsIn K mainGlobals "_law_same" = some (some (.ref f__law_same))) (F__law_same : ∃ fd, Fun K "_law_same" "_law_same" s__law_same f__law_same fd)
    (a__law_frozen : PySem.W.nsIn K mainGlobals "_law_frozen" = some (some (.ref f__law_frozen))) (F__law_frozen : ∃ fd, Fun K "_law_frozen" "_law_frozen" s__law_frozen f__law_frozen fd)
    (a_ask_axis : PySem.W.nsIn K mainGlobals "ask_axis" = some (some (.ref f_ask_axis))) (F_ask_axis : ∃ fd, Fun K "ask_axis" "ask_axis" s_ask_axis f_ask_axis fd)
    (a_ask_cells : PySem.W.nsIn K mainGlobals "ask_cells" = some (some (.ref f_ask_cells))) (F_ask_cells : ∃ fd, Fun K "ask_cells" "ask_cells" s_ask_cells f_ask_cells fd)
    (a_boxed : PySem.W.nsIn K mainGlobals "boxed" = some (some (.ref f_boxed))) (F_boxed : ∃ fd, Fun K "boxed" "boxed" s_boxed f_boxed fd)
    (a_Net___contains__ : PySem.W.findIn K (.ref KNet) "__contains__" = some (some (.ref f_Net___contains__))) (i_Net___contains__ : PySem.W.isFn K (.ref f_Net___contains__) = true) (F_Net___contains__ : ∃ fd, Fun K "__contains__" "Net.__contains__" s_Net___contains__ f_Net___contains__ fd)
    (a_ask_unlike_names : PySem.W.nsIn K mainGlobals "ask_unlike_names" = some (some (.ref f_ask_unlike_names))) (F_ask_unlike_names : ∃ fd, Fun K "ask_unlike_names" "ask_unlike_names" s_ask_unlike_names f_ask_unlike_names fd)
    (a_cuts : PySem.W.nsIn K mainGlobals "cuts" = some (some (.ref f_cuts))) (F_cuts : ∃ fd, Fun K "cuts" "cuts" s_cuts f_cuts fd)
    (a_Net_ties : PySem.W.findIn K (.ref KNet) "ties" = some (some (.ref f_Net_ties))) (i_Net_ties : PySem.W.isFn K (.ref f_Net_ties) = true) (F_Net_ties : ∃ fd, Fun K "ties" "Net.ties" s_Net_ties f_Net_ties fd)
    (a_law : PySem.W.nsIn K mainGlobals "law" = some (some (.ref f_law))) (F_law : ∃ fd, FunC K "law" "law" s_law f_law c_law fd)
    (t_law : PySem.W.CodeHd h c_law P_law ∧ h.get? P_law = some (PySem.W.tabObj #[])) (u_law : K.lookup P_law = none)
    (pg_Net : PySem.W.plainGet K KNet Str.empty = true)
    (hd_Net : PySem.W.hasDictIn K KNet = true)
    (po_Net : PySem.W.plainOver K KNet = true)
    (sa_Net : PySem.W.findIn K (.ref KNet) "__setattr__" = some (some (.builtin "object.__setattr__")))
    (mk_Net : PySem.W.makesIn K KNet = true)
    (kc_Net : PySem.W.keepIn K (.ref KNet) = true)
    (n_Net__named : PySem.W.findIn K (.ref KNet) "_named" = some none)
    (n_Net__rooms : PySem.W.findIn K (.ref KNet) "_rooms" = some none)
    (n_Net__ties : PySem.W.findIn K (.ref KNet) "_ties" = some none)
    (n_Net_axes : PySem.W.findIn K (.ref KNet) "axes" = some none)
    (z_all : PySem.W.nsIn K mainGlobals "all" = some none)
    (z_bool : PySem.W.nsIn K mainGlobals "bool" = some none)
    (z_dict : PySem.W.nsIn K mainGlobals "dict" = some none)
    (z_enumerate : PySem.W.nsIn K mainGlobals "enumerate" = some none)
    (z_int : PySem.W.nsIn K mainGlobals "int" = some none)
    (z_isinstance : PySem.W.nsIn K mainGlobals "isinstance" = some none)
    (z_len : PySem.W.nsIn K mainGlobals "len" = some none)
    (z_list : PySem.W.nsIn K mainGlobals "list" = some none)
    (z_range : PySem.W.nsIn K mainGlobals "range" = some none)
    (z_str : PySem.W.nsIn K mainGlobals "str" = some none)
    (z_tuple : PySem.W.nsIn K mainGlobals "tuple" = some none)
    (z_zip : PySem.W.nsIn K mainGlobals "zip" = some none)
    {s_SIGNS : Str} {t_SIGNS : Tok} (c_SIGNS : PySem.W.nsIn K mainGlobals "SIGNS" = some (some (.str s_SIGNS t_SIGNS))) (e_SIGNS : s_SIGNS = ("abcdefghijklmnopqrstuvwxyz0123456789." : Str))
    {t_MOST_CELLS : Tok} (c_MOST_CELLS : PySem.W.nsIn K mainGlobals "MOST_CELLS" = some (some (.int 40 t_MOST_CELLS)))
    {t_MOST_AXES : Tok} (c_MOST_AXES : PySem.W.nsIn K mainGlobals "MOST_AXES" = some (some (.int 4 t_MOST_AXES)))
    (pnd : [P_law].Nodup)
    (math : ∀ (L : List D → M D) (s : D) (ns : List Int), ns.length ≤ 63 → (∀ vh, L [s] vh = new (.lst (ns.map D.int)) vh) → ∃ vh', d_law L [s] (tabVH 0 qsL) = some (.bl true, vh')) :
    ∃ (fd : FuncData) (cs : List (Addr × Addr)), (∀ p ∈ cs, h.get? p.2 = some { cls := .none, data := .fields #[] }) ∧ (∀ p ∈ cs, K.lookup p.2 = none) ∧ (∀ p ∈ cs, PySem.W.CodeHd h p.1 p.2) ∧ (∀ (s : Shared) (u : Value), BindsTo s fd ⟨[u], []⟩ [("_law_script", u)]) ∧ ∀ base : Heap, K.In base → base.Ns mainGlobals mg → (∀ p ∈ cs, LamX.TabB base mg p.1 p.2) → FnOk l.prog w K mg base CX0 9 fa fd ["_law_script"] (spLawT K (cs.map (·.2))) := by
  have e := hfa.symm.trans (PySem.W.mg_of X G a_law)
  cases e
  obtain ⟨_, F_NoTie⟩ := F_NoTie
  obtain ⟨_, F_BadNumber⟩ := F_BadNumber
  obtain ⟨_, F_NoAxis⟩ := F_NoAxis
  obtain ⟨_, F_BadSizes⟩ := F_BadSizes
  obtain ⟨_, F__law_start⟩ := F__law_start
  obtain ⟨_, F__law_draw⟩ := F__law_draw
  obtain ⟨_, F__law_pick⟩ := F__law_pick
  obtain ⟨_, F__law_n_words⟩ := F__law_n_words
  obtain ⟨_, F__law_n_plan⟩ := F__law_n_plan
  obtain ⟨_, F_is_whole⟩ := F_is_whole
  obtain ⟨_, F_is_between⟩ := F_is_between
  obtain ⟨_, F_is_list⟩ := F_is_list
  obtain ⟨_, F_is_name⟩ := F_is_name
  obtain ⟨_, F_are_rooms⟩ := F_are_rooms
  obtain ⟨_, F_is_key⟩ := F_is_key
  obtain ⟨_, F_are_whole⟩ := F_are_whole
  obtain ⟨_, F_is_tie⟩ := F_is_tie
  obtain ⟨_, F_first_no_tie⟩ := F_first_no_tie
  obtain ⟨_, F_Net___init__⟩ := F_Net___init__
  obtain ⟨_, F__law_n_made⟩ := F__law_n_made
  obtain ⟨_, F__law_tried⟩ := F__law_tried
  obtain ⟨_, F_are_counts⟩ := F_are_counts
  obtain ⟨_, F_ask_sizes⟩ := F_ask_sizes
  obtain ⟨_, F_box_way⟩ := F_box_way
  obtain ⟨_, F_is_box_way⟩ := F_is_box_way
  obtain ⟨_, F_longest_way⟩ := F_longest_way
  obtain ⟨_, F__law_same⟩ := F__law_same
  obtain ⟨_, F__law_frozen⟩ := F__law_frozen
  obtain ⟨_, F_ask_axis⟩ := F_ask_axis
  obtain ⟨_, F_ask_cells⟩ := F_ask_cells
  obtain ⟨_, F_boxed⟩ := F_boxed
  obtain ⟨_, F_Net___contains__⟩ := F_Net___contains__
  obtain ⟨_, F_ask_unlike_names⟩ := F_ask_unlike_names
  obtain ⟨_, F_cuts⟩ := F_cuts
  obtain ⟨_, F_Net_ties⟩ := F_Net_ties
  obtain ⟨_, F_law⟩ := F_law
  subst e_SIGNS
  have T : ∀ a, Tx K mg (cl2 (fun c => if 200 ≤ c then P_law else if c = 100 then KNoTie else if c = 101 then KBadNumber else if c = 102 then KNoAxis else if c = 103 then KBadSizes else KNet) a) := fun a => ⟨PySem.W.mg_none_of X G z_all, PySem.W.mg_none_of X G z_bool, PySem.W.mg_none_of X G z_dict, PySem.W.mg_none_of X G z_enumerate, PySem.W.mg_none_of X G z_int, PySem.W.mg_none_of X G z_isinstance, PySem.W.mg_none_of X G z_len, PySem.W.mg_none_of X G z_list, PySem.W.mg_none_of X G z_range, PySem.W.mg_none_of X G z_str, PySem.W.mg_none_of X G z_tuple, PySem.W.mg_none_of X G z_zip, ⟨_, PySem.W.mg_of X G c_SIGNS⟩, ⟨_, PySem.W.mg_of X G c_MOST_CELLS⟩, ⟨_, PySem.W.mg_of X G c_MOST_AXES⟩, PySem.W.mg_of X G a_Net, ⟨pg_Net, hd_Net, po_Net, sa_Net⟩, mk_Net, kc_Net, n_Net__named, n_Net__rooms, n_Net__ties, n_Net_axes, PySem.W.mg_of X G a_NoTie, ⟨ga_NoTie, gt_NoTie, sb_NoTie, hd_NoTie⟩, no_NoTie, PySem.W.mg_of X G a_BadNumber, ⟨ga_BadNumber, gt_BadNumber, sb_BadNumber, hd_BadNumber⟩, no_BadNumber, PySem.W.mg_of X G a_NoAxis, ⟨ga_NoAxis, gt_NoAxis, sb_NoAxis, hd_NoAxis⟩, no_NoAxis, PySem.W.mg_of X G a_BadSizes, ⟨ga_BadSizes, gt_BadSizes, sb_BadSizes, hd_BadSizes⟩, no_BadSizes, VL.exm_of (L := [KNoTie, KBadNumber, KNoAxis, KBadSizes]) (top := KNetError) (fun i hi => match i, hi with | 0, _ => rfl | 1, _ => rfl | 2, _ => rfl | 3, _ => rfl | _ + 4, h => absurd h (by simp)) xnd (fun i hi => match i, hi with | 0, _ => c_NoTie | 1, _ => c_BadNumber | 2, _ => c_NoAxis | 3, _ => c_BadSizes | _ + 4, h => absurd h (by simp)) (fun i hi => match i, hi with | 0, _ => ty_NoTie | 1, _ => ty_BadNumber | 2, _ => ty_NoAxis | 3, _ => ty_BadSizes | _ + 4, h => absurd h (by simp)), pnd, h8_of (by decide) (fun i h1 h2 => match i, h1, h2 with | 0, h, _ => absurd h (by decide) | 1, _, _ => rfl | 2, _, _ => rfl | 3, _, _ => rfl | 4, _, _ => rfl | 5, _, _ => rfl | 6, _, _ => rfl | 7, _, _ => rfl | _ + 8, _, h => absurd h (by omega))⟩
  have F0 := F_law
  obtain ⟨oc, od, kV, doc, pm, an, ct, osl, rfl, lk, hcd⟩ := F0.ex
  refine ⟨PySem.W.fnOf "law" "law" (defArgs s_law) (defBody s_law) (defScope s_law) .none kV doc pm an (.ref c_law) ct, [(c_law, P_law)], (forall_cons t_law.2 forall_nil), (forall_cons u_law forall_nil), (forall_cons t_law.1 forall_nil), fun s v => .of_eq rfl, fun base hK hN hTB => fn_lawT (cs := fun c => if 200 ≤ c then P_law else if c = 100 then KNoTie else if c = 101 then KBadNumber else if c = 102 then KNoAxis else if c = 103 then KBadSizes else KNet) (qs := qsL) (den := d_law) pnd (by decide) (fun a L hL => ?_) math⟩
  have TB_law : LamX.TabB base mg c_law P_law := hTB (c_law, P_law) (by simp)
  have C__law_start := ok__law_start (P := l.prog) (w := w) (base := base) (T a) hL F__law_start (PySem.W.mg_of X G a__law_start)
  have C__law_draw := ok__law_draw (P := l.prog) (w := w) (base := base) (T a) F__law_draw (PySem.W.mg_of X G a__law_draw)
  have C__law_pick := ok__law_pick (P := l.prog) (w := w) (base := base) (T a) C__law_draw F__law_pick (PySem.W.mg_of X G a__law_pick)
  have C__law_n_words := ok__law_n_words (P := l.prog) (w := w) (base := base) (T a) C__law_draw C__law_pick F__law_n_words (PySem.W.mg_of X G a__law_n_words)
  have C__law_n_plan := ok__law_n_plan (P := l.prog) (w := w) (base := base) (T a) C__law_draw C__law_n_words C__law_pick F__law_n_plan (PySem.W.mg_of X G a__law_n_plan)
  have C_is_whole := ok_is_whole (P := l.prog) (w := w) (base := base) (T a) F_is_whole (PySem.W.mg_of X G a_is_whole)
  have C_is_between := ok_is_between (P := l.prog) (w := w) (base := base) (T a) C_is_whole F_is_between (PySem.W.mg_of X G a_is_between)
  have C_is_list := ok_is_list (P := l.prog) (w := w) (base := base) (T a) F_is_list (PySem.W.mg_of X G a_is_list)
  have C_is_name := ok_is_name (P := l.prog) (w := w) (base := base) (T a) F_is_name (PySem.W.mg_of X G a_is_name)
  have C_are_rooms := ok_are_rooms (P := l.prog) (w := w) (base := base) (T a) C_is_list C_is_name F_are_rooms (PySem.W.mg_of X G a_are_rooms)
  have C_is_key := ok_is_key (P := l.prog) (w := w) (base := base) (T a) F_is_key (PySem.W.mg_of X G a_is_key)
  have C_are_whole := ok_are_whole (P := l.prog) (w := w) (base := base) (T a) C_is_list C_is_whole F_are_whole (PySem.W.mg_of X G a_are_whole)
  have C_is_tie := ok_is_tie (P := l.prog) (w := w) (base := base) (T a) C_are_whole C_is_key C_is_list C_is_name F_is_tie (PySem.W.mg_of X G a_is_tie)
  have C_first_no_tie := ok_first_no_tie (P := l.prog) (w := w) (base := base) (T a) C_is_list C_is_tie F_first_no_tie (PySem.W.mg_of X G a_first_no_tie)
  have C_Net___init__ := ok_Net___init__ (P := l.prog) (w := w) (base := base) (T a) C_are_rooms C_first_no_tie C_is_between F_Net___init__ a_Net___init__ i_Net___init__
  have C__law_n_made := ok__law_n_made (P := l.prog) (w := w) (base := base) (T a) C_Net___init__ F__law_n_made (PySem.W.mg_of X G a__law_n_made)
  have C__law_tried : CalT K mg "_law_tried" s__law_tried "_law_ask" := ⟨f__law_tried, _, PySem.W.mg_of X G a__law_tried, F__law_tried, F__law_tried.binds (ps := ["_law_ask"]) fun _ _ _ _ _ _ us hl => match us, hl with | [_], _ => rfl⟩
  have C_are_counts := ok_are_counts (P := l.prog) (w := w) (base := base) (T a) C_are_whole F_are_counts (PySem.W.mg_of X G a_are_counts)
  have C_BadSizes := ok_BadSizes (P := l.prog) (w := w) (base := base) (T a) ⟨⟨o_BadSizes, sa_BadSizes, sb_BadSizes, ty_BadSizes, kc_BadSizes⟩, i_BadSizes, ti_BadSizes⟩ F_BadSizes
  have C_ask_sizes_X := okx_ask_sizes (P := l.prog) (w := w) (base := base) (T a) C_are_counts C_BadSizes F_ask_sizes (PySem.W.mg_of X G a_ask_sizes)
  have C_box_way_X := okx_box_way (P := l.prog) (w := w) (base := base) (T a) C_ask_sizes_X F_box_way (PySem.W.mg_of X G a_box_way)
  have C_is_box_way_X := okx_is_box_way (P := l.prog) (w := w) (base := base) (T a) C_ask_sizes_X F_is_box_way (PySem.W.mg_of X G a_is_box_way)
  have C_longest_way_X := okx_longest_way (P := l.prog) (w := w) (base := base) (T a) C_ask_sizes_X F_longest_way (PySem.W.mg_of X G a_longest_way)
  have C__law_same := ok__law_same (P := l.prog) (w := w) (base := base) (T a) F__law_same (PySem.W.mg_of X G a__law_same) 6
  have C__law_frozen := ok__law_frozen (P := l.prog) (w := w) (base := base) (T a) F__law_frozen (PySem.W.mg_of X G a__law_frozen) 5
  have C_NoAxis := ok_NoAxis (P := l.prog) (w := w) (base := base) (T a) ⟨⟨o_NoAxis, sa_NoAxis, sb_NoAxis, ty_NoAxis, kc_NoAxis⟩, i_NoAxis, ti_NoAxis⟩ F_NoAxis
  have C_ask_axis_X := okx_ask_axis (P := l.prog) (w := w) (base := base) (T a) C_NoAxis C_is_between F_ask_axis (PySem.W.mg_of X G a_ask_axis)
  have C_BadNumber := ok_BadNumber (P := l.prog) (w := w) (base := base) (T a) ⟨⟨o_BadNumber, sa_BadNumber, sb_BadNumber, ty_BadNumber, kc_BadNumber⟩, i_BadNumber, ti_BadNumber⟩ F_BadNumber
  have C_ask_cells_X := okx_ask_cells (P := l.prog) (w := w) (base := base) (T a) C_BadNumber C_is_between F_ask_cells (PySem.W.mg_of X G a_ask_cells)
  have C_boxed_X := okx_boxed (P := l.prog) (w := w) (base := base) (T a) C_ask_axis_X C_ask_cells_X F_boxed (PySem.W.mg_of X G a_boxed)
  have C_NoTie := ok_NoTie (P := l.prog) (w := w) (base := base) (T a) ⟨⟨o_NoTie, sa_NoTie, sb_NoTie, ty_NoTie, kc_NoTie⟩, i_NoTie, ti_NoTie⟩ F_NoTie
  have C_Net___contains__ := ok_Net___contains__ (P := l.prog) (w := w) (base := base) (T a) C_is_key F_Net___contains__ a_Net___contains__ i_Net___contains__
  have C_ask_unlike_names_X := okx_ask_unlike_names (P := l.prog) (w := w) (base := base) (T a) C_Net___contains__ C_NoTie C_is_list F_ask_unlike_names (PySem.W.mg_of X G a_ask_unlike_names)
  have C_cuts_X := okx_cuts (P := l.prog) (w := w) (base := base) (T a) C_ask_unlike_names_X F_cuts (PySem.W.mg_of X G a_cuts)
  have C_Net_ties := ok_Net_ties (P := l.prog) (w := w) (base := base) (T a) F_Net_ties a_Net_ties i_Net_ties
  exact body_law (T a) C_Net___init__ C_Net_ties C__law_draw C__law_frozen C__law_n_made C__law_n_plan C__law_same C__law_start C__law_tried C_box_way_X C_boxed_X C_cuts_X C_is_box_way_X C_longest_way_X TB_law F_law
end
end K41

namespace K41
open PySem VL L2
/-- the stream: what is left of the script, the great number, the count, the mix -/
structure SS where
  xs : List Int
  p : Int
  c : Int
  m : Int
def SS.vh (s : SS) (t : VH) : VH := some (.tab 200 (qsL.getD 0 "")) :: some (.lst (s.xs.map D.int)) :: some (.lst [.ref 1, .int s.p, .int s.c, .int s.m]) :: t
structure SS.Ok (k : Nat) (s : SS) : Prop where
  c0 : 0 ≤ s.c
  ck : s.c ≤ k
  m0 : 0 ≤ s.m
  m1 : s.m < 2147483647
  xl : s.xs.length ≤ 63
section
variable {s : SS} {t : VH} {k : Nat}
theorem ix_s0 : ixD (.ref 2) (.int 0) (s.vh t) = some (.ref 1, s.vh t) := rfl
theorem ix_s1 : ixD (.ref 2) (.int 1) (s.vh t) = some (.int s.p, s.vh t) := rfl
theorem ix_s2 : ixD (.ref 2) (.int 2) (s.vh t) = some (.int s.c, s.vh t) := rfl
theorem ix_s3 : ixD (.ref 2) (.int 3) (s.vh t) = some (.int s.m, s.vh t) := rfl
theorem set_s1 {p : Int} : setD (.ref 2) (.int 1) (.int p) (s.vh t) = some (.non, SS.vh { s with p := p } t) := rfl
theorem set_s2 {c : Int} : setD (.ref 2) (.int 2) (.int c) (s.vh t) = some (.non, SS.vh { s with c := c } t) := rfl
theorem set_s3 {m : Int} : setD (.ref 2) (.int 3) (.int m) (s.vh t) = some (.non, SS.vh { s with m := m } t) := rfl
theorem toPys_ints : ∀ xs : List Int, toPys (xs.map D.int) = some (xs.map PyData.int)
  | [] => rfl
  | x :: xs => by
    rw [List.map_cons]
    unfold toPys
    rw [toPys_ints xs]
    rfl
theorem eq_int {i j : Int} {vh : VH} : eqD (.int i) (.int j) vh = some (.bl (i == j), vh) := rfl
theorem isLst0 : isLst (s.vh t) (.ref 1) = true := rfl
theorem pop_s {x : Int} {xs : List Int} (e : s.xs = x :: xs) : popAtD (.ref 1) [.int 0] (s.vh t) = some (.int x, SS.vh { s with xs := xs } t) := by
  unfold SS.vh
  rw [e]
  rfl
end

theorem canLay_ints : ∀ xs : List Int, PyData.canLayAll0 (xs.map PyData.int) = true
  | [] => rfl
  | x :: xs => by
    rw [List.map_cons, PyData.canLayAll0, canLay_ints xs]
    rfl
theorem depth_ints : ∀ xs : List Int, PyData.depthAll (xs.map PyData.int) = 0
  | [] => rfl
  | x :: xs => by
    rw [List.map_cons, PyData.depthAll, depth_ints xs]
    rfl
theorem shaped_ints (xs : List Int) : SeqAt.shaped (.list (xs.map PyData.int)) = true := by
  have a : PyData.canLay0 (.list (xs.map PyData.int)) = true := canLay_ints xs
  have b : PyData.depth (.list (xs.map PyData.int)) = 1 := by
    rw [PyData.depth, depth_ints]
  unfold SeqAt.shaped
  rw [a, b]
  rfl
theorem ne_nil {s : SS} {t : VH} : neD (.ref 1) (.lst []) (s.vh t) = some (.bl (decide (s.xs ≠ [])), s.vh t) := by
  have a : topPy (s.vh t) (.ref 1) = some (.list (s.xs.map PyData.int)) := by
    show (toPys (s.xs.map D.int)).map PyData.list = _
    rw [toPys_ints]
    rfl
  have b : topPy (s.vh t) (.lst []) = some (.list []) := rfl
  have c : SeqAt.shaped (.list ([] : List PyData)) = true := shaped_ints []
  unfold neD eqPy
  simp only [a, b, shaped_ints, c, Bool.and_self, if_true]
  cases s.xs <;> rfl
theorem pow10 : powD (.int 10) (.int 18) = VL.ret (.int 1000000000000000000) := by
  show (if decide ((0 : Int) ≤ 18 ∧ (18 : Int) ≤ 1000000 ∧ (10 : Int).natAbs < 18446744073709551616) = true then VL.ret (D.int (10 ^ (18 : Int).toNat)) else VL.fail) = _
  rw [if_pos (by decide)]
  rfl
theorem mod_int {i j : Int} (h : j ≠ 0) : modD (.int i) (.int j) = VL.ret (.int (i.fmod j)) := by
  unfold modD VL.opI
  exact if_pos (decide_eq_true h)
theorem fdiv_int {i j : Int} (h : j ≠ 0) (h2 : j.natAbs < 1073741824) : fdivD (.int i) (.int j) = VL.ret (.int (i.fdiv j)) := by
  unfold fdivD VL.opI
  exact if_pos (decide_eq_true ⟨h, h2⟩)
theorem pow_int {i j : Int} (h0 : 0 ≤ j) (h1 : j ≤ 1000000) (h2 : i.natAbs < 18446744073709551616) : powD (.int i) (.int j) = VL.ret (.int (i ^ j.toNat)) := by
  unfold powD VL.opI
  exact if_pos (decide_eq_true ⟨h0, h1, h2⟩)
theorem mul_int {i j : Int} (h : -18446744073709551616 < j ∧ j < 18446744073709551616) : mulD (.int i) (.int j) = VL.ret (.int (i * j)) := by
  unfold mulD
  dsimp only
  rw [if_pos (decide_eq_true (Or.inr h))]
theorem mul_intL {i j : Int} (h : -18446744073709551616 < i ∧ i < 18446744073709551616) : mulD (.int i) (.int j) = VL.ret (.int (i * j)) := by
  unfold mulD
  dsimp only
  rw [if_pos (decide_eq_true (Or.inl h))]
theorem add_int {i j : Int} : addD (.int i) (.int j) = VL.ret (.int (i + j)) := rfl
theorem int_int {i : Int} {vh : VH} : intD [.int i] vh = some (.int i, vh) := rfl
theorem gt_int {i j : Int} : gtD (.int i) (.int j) = VL.ret (.bl (decide (j < i))) := rfl
theorem ge_int {i j : Int} : geD (.int i) (.int j) = VL.ret (.bl (decide (j ≤ i))) := rfl
theorem lt_int {i j : Int} : ltD (.int i) (.int j) = VL.ret (.bl (decide (i < j))) := rfl
theorem mkLst_nil : mkLst [] = VL.ret (.lst []) := rfl
theorem fm {i n : Int} (h : 0 < n) : 0 ≤ i.fmod n ∧ i.fmod n < n := by
  rw [Int.fmod_eq_emod_of_nonneg _ (Int.le_of_lt h)]
  exact ⟨Int.emod_nonneg _ (by omega), Int.emod_lt_of_pos _ h⟩
theorem sq {g h : Bk} {ρ ρ' : Rho} {vh vh' : VH} (e : g ρ vh = some (.nx ρ', vh')) : seqS g h ρ vh = h ρ' vh' := by
  unfold seqS VL.bind
  rw [e]
theorem denF_rt {n : Nat} {g : Bk} {ds : List D} {d : D} {vh vh' : VH} (h : g (ds.map some ++ List.replicate (n - ds.length) none) vh = some (.rt d, vh')) : denF n g ds vh = some (d, vh') := by
  unfold denF VL.bind
  rw [h]
  rfl
def drawA : Bk := asgS (den2 addD (den2 ixD (var 0) (kst (.int 2))) (kst (.int 1))) (subG (var 0) (kst (.int 2)))
def drawI : Bk := ifS (andB (cmpT eqD (den2 ixD (var 0) (kst (.int 1))) (kst (.int 0))) (cmpT neD (den2 ixD (var 0) (kst (.int 0))) (denA mkLst nilA)))
  (seqS (asgS (methD isLst (den2 ixD (var 0) (kst (.int 0))) (consA (kst (.int 0)) nilA) popAtD) (nameG 3))
  (seqS (asgS (den2 modD (denA intD (consA (den2 addD (den2 addD (den2 mulD (den2 ixD (var 0) (kst (.int 3))) (kst (.int 8191))) (var 3)) (kst (.int 3))) nilA)) (kst (.int 2147483647))) (subG (var 0) (kst (.int 3))))
  (asgS (ifD (cmpT geD (var 3) (den2 powD (kst (.int 10)) (kst (.int 18)))) (var 3) (kst (.int 0))) (subG (var 0) (kst (.int 1)))))) nopS
def drawB : Bk := (seqS (ifS (cmpT gtD (den2 ixD (var 0) (kst (.int 1))) (kst (.int 0)))
  (seqS (asgS (den2 modD (denA intD (consA (den2 ixD (var 0) (kst (.int 1))) nilA)) (var 1)) (nameG 4))
  (seqS (asgS (den2 fdivD (den2 ixD (var 0) (kst (.int 1))) (var 1)) (subG (var 0) (kst (.int 1))))
  (retS (var 4)))) nopS)
  (seqS (asgS (den2 modD (denA intD (consA (den2 powD (den2 addD (den2 addD (den2 ixD (var 0) (kst (.int 3))) (den2 mulD (kst (.int 7919)) (den2 ixD (var 0) (kst (.int 2))))) (kst (.int 104729))) (kst (.int 5))) nilA)) (kst (.int 2147483629))) (nameG 2))
  (retS (den2 modD (den2 modD (denA intD (consA (den2 powD (den2 addD (den2 addD (den2 mulD (var 2) (kst (.int 48271))) (den2 mulD (kst (.int 30011)) (den2 ixD (var 0) (kst (.int 2))))) (kst (.int 29))) (kst (.int 3))) nilA)) (kst (.int 1000000007))) (var 1)))))
theorem g_draw : g__law_draw = seqS drawA (seqS drawI drawB) := rfl
theorem draw_ok {s : SS} {t : VH} {k : Nat} (h : s.Ok k) (hk : k < 1099511627776) {n : Int} (h0 : 0 < n) (h1 : n < 1073741824) :
    ∃ (j : Int) (s' : SS), d__law_draw [.ref 2, .int n] (s.vh t) = some (.int j, s'.vh t) ∧ 0 ≤ j ∧ j < n ∧ s'.Ok (k + 1) := by
  obtain ⟨xs, p, c, m⟩ := s
  obtain ⟨c0, ck, m0, m1, xl⟩ := h
  dsimp only at c0 ck m0 m1 xl
  have hn : n ≠ 0 := by omega
  -- behind the first step: the great number, what is left, the mix
  have fin : ∀ (ys : List Int) (q m' : Int) (a : Option D), ys.length ≤ 63 → 0 ≤ m' → m' < 2147483647 → ∃ (j : Int) (s' : SS),
      drawB [some (.ref 2), some (.int n), none, a, none] (SS.vh ⟨ys, q, c + 1, m'⟩ t) = some (.rt (.int j), s'.vh t) ∧ 0 ≤ j ∧ j < n ∧ s'.Ok (k + 1) := by
    intro ys q m' a hy hm0 hm1
    by_cases hq : 0 < q
    · refine ⟨q.fmod n, ⟨ys, q.fdiv n, c + 1, m'⟩, ?_, (fm h0).1, (fm h0).2, ⟨by dsimp only; omega, by dsimp only; omega, hm0, hm1, hy⟩⟩
      simp only [VL.bind, VL.ret, VL.fail, denF, denA, den1, den2, denC, consA, nilA, var, kst, seqS, nopS, ifS, retS, asgS, nameG, subG, dropS, cmpT, valT, andB, orB, notB, toB, ifD, andD, orD, notD, methD, List.map_cons, List.map_nil, List.cons_append, List.nil_append, List.length_cons, List.length_nil, List.replicate, List.getElem?_cons_zero, List.getElem?_cons_succ, List.set_cons_zero, List.set_cons_succ, List.set_nil, List.getElem?_nil, Option.map_some, Option.map_none, Option.bind_some, Option.bind_none, if_true, if_false, Bool.false_eq_true, reduceIte, Nat.reduceAdd, Nat.reduceSub, Int.reduceAdd, Int.reduceNeg, drawB, ix_s1, gt_int, decide_eq_true hq, int_int, mod_int hn, fdiv_int hn (by omega : n.natAbs < 1073741824), set_s1]
    · have b1 : (m' + 7919 * (c + 1) + 104729).natAbs < 18446744073709551616 := by omega
      have b2 : (Int.fmod ((m' + 7919 * (c + 1) + 104729) ^ (5 : Int).toNat) 2147483629 * 48271 + 30011 * (c + 1) + 29).natAbs < 18446744073709551616 := by
        have f := fm (i := (m' + 7919 * (c + 1) + 104729) ^ (5 : Int).toNat) (n := 2147483629) (by decide)
        generalize Int.fmod ((m' + 7919 * (c + 1) + 104729) ^ (5 : Int).toNat) 2147483629 = z at f ⊢
        omega
      refine ⟨Int.fmod (Int.fmod ((Int.fmod ((m' + 7919 * (c + 1) + 104729) ^ (5 : Int).toNat) 2147483629 * 48271 + 30011 * (c + 1) + 29) ^ (3 : Int).toNat) 1000000007) n, ⟨ys, q, c + 1, m'⟩, ?_, (fm h0).1, (fm h0).2, ⟨by dsimp only; omega, by dsimp only; omega, hm0, hm1, hy⟩⟩
      simp only [VL.bind, VL.ret, VL.fail, denF, denA, den1, den2, denC, consA, nilA, var, kst, seqS, nopS, ifS, retS, asgS, nameG, subG, dropS, cmpT, valT, andB, orB, notB, toB, ifD, andD, orD, notD, methD, List.map_cons, List.map_nil, List.cons_append, List.nil_append, List.length_cons, List.length_nil, List.replicate, List.getElem?_cons_zero, List.getElem?_cons_succ, List.set_cons_zero, List.set_cons_succ, List.set_nil, List.getElem?_nil, Option.map_some, Option.map_none, Option.bind_some, Option.bind_none, if_true, if_false, Bool.false_eq_true, reduceIte, Nat.reduceAdd, Nat.reduceSub, Int.reduceAdd, Int.reduceNeg, drawB, ix_s1, ix_s2, ix_s3, gt_int, decide_eq_false hq, int_int, mod_int hn, mod_int (j := 2147483629) (by decide), mod_int (j := 1000000007) (by decide), add_int, mul_intL (i := 7919) (by decide), mul_intL (i := 30011) (by decide), mul_int (j := 48271) (by decide), pow_int (j := 5) (by decide) (by decide) b1, pow_int (j := 3) (by decide) (by decide) b2]
  have stA : drawA [some (.ref 2), some (.int n), none, none, none] (SS.vh ⟨xs, p, c, m⟩ t) = some (.nx [some (.ref 2), some (.int n), none, none, none], SS.vh ⟨xs, p, c + 1, m⟩ t) := by
    simp only [VL.bind, VL.ret, VL.fail, denF, denA, den1, den2, denC, consA, nilA, var, kst, seqS, nopS, ifS, retS, asgS, nameG, subG, dropS, cmpT, valT, andB, orB, notB, toB, ifD, andD, orD, notD, methD, List.map_cons, List.map_nil, List.cons_append, List.nil_append, List.length_cons, List.length_nil, List.replicate, List.getElem?_cons_zero, List.getElem?_cons_succ, List.set_cons_zero, List.set_cons_succ, List.set_nil, List.getElem?_nil, Option.map_some, Option.map_none, Option.bind_some, Option.bind_none, if_true, if_false, Bool.false_eq_true, reduceIte, Nat.reduceAdd, Nat.reduceSub, Int.reduceAdd, Int.reduceNeg, drawA, ix_s2, add_int, set_s2]
  by_cases hp : p = 0 ∧ xs ≠ []
  · obtain ⟨rfl, hx⟩ := hp
    cases xs with
    | nil => exact absurd rfl hx
    | cons x ys =>
      have f := fm (i := m * 8191 + x + 3) (n := 2147483647) (by decide)
      have stI : drawI [some (.ref 2), some (.int n), none, none, none] (SS.vh ⟨x :: ys, 0, c + 1, m⟩ t) = some (.nx [some (.ref 2), some (.int n), none, some (.int x), none], SS.vh ⟨ys, if 1000000000000000000 ≤ x then x else 0, c + 1, (m * 8191 + x + 3).fmod 2147483647⟩ t) := by
        simp only [VL.bind, VL.ret, VL.fail, denF, denA, den1, den2, denC, consA, nilA, var, kst, seqS, nopS, ifS, retS, asgS, nameG, subG, dropS, cmpT, valT, andB, orB, notB, toB, ifD, andD, orD, notD, methD, List.map_cons, List.map_nil, List.cons_append, List.nil_append, List.length_cons, List.length_nil, List.replicate, List.getElem?_cons_zero, List.getElem?_cons_succ, List.set_cons_zero, List.set_cons_succ, List.set_nil, List.getElem?_nil, Option.map_some, Option.map_none, Option.bind_some, Option.bind_none, if_true, if_false, Bool.false_eq_true, reduceIte, Nat.reduceAdd, Nat.reduceSub, Int.reduceAdd, Int.reduceNeg, drawI, ix_s0, ix_s1, ix_s3, eq_int, beq_self_eq_true, mkLst_nil, ne_nil, ne_eq, reduceCtorEq, not_false_eq_true, decide_true, isLst0, pop_s (s := ⟨x :: ys, 0, c + 1, m⟩) rfl, mul_int (j := 8191) (by decide), add_int, int_int, mod_int (j := 2147483647) (by decide), set_s3, pow10, ge_int]
        by_cases hc : 1000000000000000000 ≤ x
        · simp only [hc, decide_true, if_true, VL.ret, set_s1]
        · simp only [hc, decide_false, if_false, Bool.false_eq_true, VL.ret, set_s1]
      obtain ⟨j, s', e, r⟩ := fin ys (if 1000000000000000000 ≤ x then x else 0) _ (some (.int x)) (by simp at xl; omega) f.1 f.2
      exact ⟨j, s', denF_rt (by rw [g_draw]; exact (sq stA).trans ((sq stI).trans e)), r⟩
  · have stI : drawI [some (.ref 2), some (.int n), none, none, none] (SS.vh ⟨xs, p, c + 1, m⟩ t) = some (.nx [some (.ref 2), some (.int n), none, none, none], SS.vh ⟨xs, p, c + 1, m⟩ t) := by
      by_cases h1 : p = 0
      · have hx : xs = [] := Classical.byContradiction fun z => hp ⟨h1, z⟩
        subst h1 hx
        simp only [VL.bind, VL.ret, VL.fail, denF, denA, den1, den2, denC, consA, nilA, var, kst, seqS, nopS, ifS, retS, asgS, nameG, subG, dropS, cmpT, valT, andB, orB, notB, toB, ifD, andD, orD, notD, methD, List.map_cons, List.map_nil, List.cons_append, List.nil_append, List.length_cons, List.length_nil, List.replicate, List.getElem?_cons_zero, List.getElem?_cons_succ, List.set_cons_zero, List.set_cons_succ, List.set_nil, List.getElem?_nil, Option.map_some, Option.map_none, Option.bind_some, Option.bind_none, if_true, if_false, Bool.false_eq_true, reduceIte, Nat.reduceAdd, Nat.reduceSub, Int.reduceAdd, Int.reduceNeg, drawI, ix_s0, ix_s1, eq_int, beq_self_eq_true, mkLst_nil, ne_nil, ne_eq, not_true_eq_false, decide_false]
      · simp only [VL.bind, VL.ret, VL.fail, denF, denA, den1, den2, denC, consA, nilA, var, kst, seqS, nopS, ifS, retS, asgS, nameG, subG, dropS, cmpT, valT, andB, orB, notB, toB, ifD, andD, orD, notD, methD, List.map_cons, List.map_nil, List.cons_append, List.nil_append, List.length_cons, List.length_nil, List.replicate, List.getElem?_cons_zero, List.getElem?_cons_succ, List.set_cons_zero, List.set_cons_succ, List.set_nil, List.getElem?_nil, Option.map_some, Option.map_none, Option.bind_some, Option.bind_none, if_true, if_false, Bool.false_eq_true, reduceIte, Nat.reduceAdd, Nat.reduceSub, Int.reduceAdd, Int.reduceNeg, drawI, ix_s1, eq_int, beq_eq_false_iff_ne.mpr h1]
    obtain ⟨j, s', e, r⟩ := fin xs p m none xl m0 m1
    exact ⟨j, s', denF_rt (by rw [g_draw]; exact (sq stA).trans ((sq stI).trans e)), r⟩
end K41

namespace K41
open PySem VL L2
theorem atI_nat {α : Type} {xs : List α} {j : Int} (h0 : 0 ≤ j) (h : j < xs.length) : ∃ x, x ∈ xs ∧ atI xs j = some x := by
  unfold atI ixN
  rw [if_pos h0, if_pos h]
  have hl : j.toNat < xs.length := by omega
  exact ⟨xs[j.toNat], List.getElem_mem hl, by simp [hl]⟩
theorem len_lst {ds : List D} {vh : VH} : lenD [.lst ds] vh = some (.int (ds.length : Nat), vh) := rfl
theorem len_str {z : Str} {vh : VH} (h : z.length ≤ line) : lenD [.str z] vh = some (.int (z.length : Nat), vh) := by
  have e : lenR vh [.str z] = some (.int (z.length : Nat)) := if_pos h
  unfold lenD pureD
  rw [e]
  rfl
section
variable {s : SS} {t : VH} {k : Nat}
theorem pick_lst (h : s.Ok k) (hk : k < 1099511627776) {ds : List D} (h0 : 0 < ds.length) (h1 : ds.length < 1000000000) :
    ∃ (d : D) (s' : SS), d__law_pick [.ref 2, .lst ds] (s.vh t) = some (d, s'.vh t) ∧ d ∈ ds ∧ s'.Ok (k + 1) := by
  obtain ⟨j, s', e, j0, j1, ok⟩ := draw_ok (t := t) h hk (n := (ds.length : Nat)) (by omega) (by omega)
  obtain ⟨x, hx, ex⟩ := atI_nat (xs := ds) j0 j1
  have e2 : ixD (.lst ds) (.int j) (s'.vh t) = some (x, s'.vh t) := by
    show (atI ds j).map _ = _
    rw [ex]
    rfl
  exact ⟨x, s', by simp only [VL.bind, VL.ret, VL.fail, denF, denA, den1, den2, denC, consA, nilA, var, kst, seqS, nopS, ifS, retS, asgS, nameG, subG, dropS, cmpT, valT, andB, orB, notB, toB, ifD, andD, orD, notD, methD, List.map_cons, List.map_nil, List.cons_append, List.nil_append, List.length_cons, List.length_nil, List.replicate, List.getElem?_cons_zero, List.getElem?_cons_succ, List.set_cons_zero, List.set_cons_succ, List.set_nil, List.getElem?_nil, Option.map_some, Option.map_none, Option.bind_some, Option.bind_none, if_true, if_false, Bool.false_eq_true, reduceIte, Nat.reduceAdd, Nat.reduceSub, Int.reduceAdd, Int.reduceNeg, d__law_pick, g__law_pick, len_lst, e, e2], hx, ok⟩
theorem pick_str (h : s.Ok k) (hk : k < 1099511627776) {z : Str} (h0 : 0 < z.length) (h1 : z.length < 1000000) :
    ∃ (c : Nat) (s' : SS), d__law_pick [.ref 2, .str z] (s.vh t) = some (.str ⟨#[c]⟩, s'.vh t) ∧ c ∈ z.cps.toList ∧ s'.Ok (k + 1) := by
  obtain ⟨j, s', e, j0, j1, ok⟩ := draw_ok (t := t) h hk (n := (z.length : Nat)) (by omega) (by omega)
  have hl : z.length ≤ line := by show z.length ≤ 16777216; omega
  obtain ⟨x, hx, ex⟩ := atI_nat (xs := z.cps.toList) j0 (by rw [Array.length_toList]; exact j1)
  have e2 : ixD (.str z) (.int j) (s'.vh t) = some (.str ⟨#[x]⟩, s'.vh t) := by
    show ((if z.length ≤ line then (atI z.cps.toList j).map fun c => D.str ⟨#[c]⟩ else none).map fun b => (b, s'.vh t)) = _
    rw [if_pos hl, ex]
    rfl
  exact ⟨x, s', by simp only [VL.bind, VL.ret, VL.fail, denF, denA, den1, den2, denC, consA, nilA, var, kst, seqS, nopS, ifS, retS, asgS, nameG, subG, dropS, cmpT, valT, andB, orB, notB, toB, ifD, andD, orD, notD, methD, List.map_cons, List.map_nil, List.cons_append, List.nil_append, List.length_cons, List.length_nil, List.replicate, List.getElem?_cons_zero, List.getElem?_cons_succ, List.set_cons_zero, List.set_cons_succ, List.set_nil, List.getElem?_nil, Option.map_some, Option.map_none, Option.bind_some, Option.bind_none, if_true, if_false, Bool.false_eq_true, reduceIte, Nat.reduceAdd, Nat.reduceSub, Int.reduceAdd, Int.reduceNeg, d__law_pick, g__law_pick, len_str hl, e, e2], hx, ok⟩
/-- a comprehension whose parts draw once a turn -/
theorem comp_draws {g : Tg} {c : Rho → M Bool} {e : Rho → M D} {ρ : Rho} {Y : D → Prop} (B : Nat) (step : ∀ (d : D) (s : SS) (k : Nat), s.Ok k → k < B → ∃ (ρ' : Rho) (y : D) (s' : SS), g d ρ (s.vh t) = some (ρ', s.vh t) ∧ c ρ' (s.vh t) = some (true, s.vh t) ∧ e ρ' (s.vh t) = some (y, s'.vh t) ∧ Y y ∧ s'.Ok (k + 1)) :
    ∀ (items : List D) (s : SS) (k : Nat), s.Ok k → k + items.length ≤ B → ∃ (ys : List D) (s' : SS), compL g c e ρ items (s.vh t) = some (ys, s'.vh t) ∧ ys.length = items.length ∧ (∀ y ∈ ys, Y y) ∧ s'.Ok (k + items.length)
  | [], s, k, h, _ => ⟨[], s, rfl, rfl, by simp, h⟩
  | d :: ds, s, k, h, hk => by
    rw [List.length_cons] at hk
    obtain ⟨ρ', y, s1, e1, e2, e3, hy, h1⟩ := step d s k h (by omega)
    obtain ⟨ys, s2, e4, hl, hys, h2⟩ := comp_draws B step ds s1 (k + 1) h1 (by omega)
    refine ⟨y :: ys, s2, ?_, by simp [hl], by simpa using ⟨hy, hys⟩, by rw [List.length_cons]; rw [show k + (ds.length + 1) = k + 1 + ds.length by omega]; exact h2⟩
    simp only [compL, VL.bind, e1, e2, e3, e4, if_true, VL.ret]
end
/-- a comprehension that changes nothing -/
theorem comp_pure {g : Tg} {c : Rho → M Bool} {e : Rho → M D} {ρ : Rho} {vh : VH} {p : D → Bool} {f : D → D} : ∀ (items : List D),
    (∀ d ∈ items, ∃ ρ', g d ρ vh = some (ρ', vh) ∧ c ρ' vh = some (p d, vh) ∧ (p d = true → e ρ' vh = some (f d, vh))) → compL g c e ρ items vh = some ((items.filter p).map f, vh)
  | [], _ => rfl
  | d :: ds, h => by
    obtain ⟨ρ', e1, e2, e3⟩ := h d (List.mem_cons_self ..)
    have ih := comp_pure ds fun x hx => h x (List.mem_cons_of_mem _ hx)
    cases q : p d with
    | true => simp only [compL, VL.bind, e1, e2, q, e3 q, ih, if_true, VL.ret, List.filter_cons, List.map_cons]
    | false => simp only [compL, VL.bind, e1, e2, q, ih, Bool.false_eq_true, if_false, List.filter_cons]
/-- .. without a test -/
theorem comp_map {g : Tg} {e : Rho → M D} {ρ : Rho} {vh : VH} {f : D → D} (items : List D) (h : ∀ d ∈ items, ∃ ρ', g d ρ vh = some (ρ', vh) ∧ e ρ' vh = some (f d, vh)) : compL g yesT e ρ items vh = some (items.map f, vh) := by
  have z := comp_pure (c := yesT) (p := fun _ => true) (f := f) (g := g) (e := e) (ρ := ρ) (vh := vh) items fun d hd => by
    obtain ⟨ρ', a, b⟩ := h d hd
    exact ⟨ρ', a, rfl, fun _ => b⟩
  rw [z, show items.filter (fun _ => true) = items from List.filter_eq_self.mpr fun _ _ => rfl]
theorem joinL_nil : ∀ xs : List (List Nat), TL.joinL [] xs = xs.flatten
  | [] => rfl
  | [x] => by simp [TL.joinL]
  | x :: y :: r => by
    rw [TL.joinL, joinL_nil (y :: r)]
    simp
end K41

namespace K41
open PySem VL L2
theorem SS.Ok.mono {s : SS} {k k' : Nat} (h : s.Ok k) (l : k ≤ k') : s.Ok k' := ⟨h.c0, by have := h.ck; omega, h.m0, h.m1, h.xl⟩
theorem lc_eq {f : Rho → M (List D)} {g : Tg} {c : Rho → M Bool} {e : Rho → M D} {vs : List Nat} {mk : List D → M D} {ρ : Rho} {vh vh1 vh2 : VH} {items ys : List D} (hf : f ρ vh = some (items, vh1)) (hl : items.length < line)
    (hc : compL g c e (wipeR ρ vs) items vh1 = some (ys, vh2)) : lcD f g c e vs mk ρ vh = mk ys vh2 := by
  unfold lcD VL.bind
  simp only [hf, if_pos hl, VL.bind, hc]
theorem for_inv {g : Tg} {b : Bk} {items : List D} {ρ : Rho} {vh : VH} (I : Nat → Rho → VH → Prop) (h0 : I 0 ρ vh)
    (step : ∀ (i : Nat) (d : D) (ρ : Rho) (vh : VH), items[i]? = some d → I i ρ vh → ∃ (ρ' : Rho) (ρ1 : Rho) (vh' : VH), g d ρ vh = some (ρ1, vh) ∧ b ρ1 vh = some (.nx ρ', vh') ∧ I (i + 1) ρ' vh') :
    ∃ (ρ' : Rho) (vh' : VH), forL g b items ρ vh = some (.nx ρ', vh') ∧ I items.length ρ' vh' := by
  have go : ∀ (n : Nat) (xs : List D) (ρ : Rho) (vh : VH), xs = items.drop n → n ≤ items.length → I n ρ vh → ∃ (ρ' : Rho) (vh' : VH), forL g b xs ρ vh = some (.nx ρ', vh') ∧ I items.length ρ' vh' := by
    intro n xs
    induction xs generalizing n with
    | nil =>
      intro ρ vh e hn h
      have : n = items.length := by
        have z := congrArg List.length e
        simp at z
        omega
      exact ⟨ρ, vh, rfl, this ▸ h⟩
    | cons d ds ih =>
      intro ρ vh e hn h
      have hlt : n < items.length := by
        have z := congrArg List.length e
        simp at z
        omega
      rw [List.drop_eq_getElem_cons hlt] at e
      obtain ⟨rfl, rfl⟩ := List.cons.inj e
      obtain ⟨ρ', ρ1, vh', e1, e2, h'⟩ := step n _ ρ vh (List.getElem?_eq_getElem hlt) h
      obtain ⟨ρ2, vh2, e3, h2⟩ := ih (n + 1) ρ' vh' rfl (by omega) h'
      refine ⟨ρ2, vh2, ?_, h2⟩
      simp only [forL, VL.bind, e1, e2, e3]
  exact go 0 items ρ vh rfl (Nat.zero_le _) h0
/-! ### the words -/
def Sg : List Nat := ("abcdefghijklmnopqrstuvwxyz0123456789." : Str).cps.toList
/-- a word that the law makes -/
structure Wo (l : List Nat) : Prop where
  n0 : 0 < l.length
  n1 : l.length ≤ 16
  ok : ∀ c ∈ l, c ∈ Sg
def strD' (l : List Nat) : D := .str ⟨l.toArray⟩
/-- .. that does not begin with r. -/
def NoR (l : List Nat) : Prop := (∀ w, l ≠ 113 :: 46 :: w) ∧ ∀ w, 0 < w.length → l ≠ w ++ [113, 113]
def ten : List Nat := ("abcxyz019." : Str).cps.toList
theorem ten_sg : ∀ c ∈ ten, c ∈ Sg ∧ c ≠ 113 := by decide +kernel
def abc : List Nat := ("abcdefghijklmnopqrstuvwxyz" : Str).cps.toList
theorem abc_sg : ∀ c ∈ abc, c ∈ Sg := by decide +kernel
theorem abc_nd : abc.Nodup := by decide +kernel
theorem abc_len : abc.length = 26 := by decide +kernel
theorem wo_ten {l : List Nat} (h0 : 0 < l.length) (h1 : l.length ≤ 16) (h : ∀ c ∈ l, c ∈ ten) : Wo l ∧ NoR l :=
  ⟨⟨h0, h1, fun c hc => (ten_sg c (h c hc)).1⟩, fun w e => (ten_sg 113 (h 113 (by rw [e]; simp))).2 rfl, fun w _ e => (ten_sg 113 (h 113 (by rw [e]; simp))).2 rfl⟩
theorem wo_abc {c : Nat} (h : c ∈ abc) : Wo [c, 113] ∧ NoR [c, 113] :=
  ⟨⟨by simp, by simp, fun x hx => by
    rcases List.mem_cons.mp hx with rfl | hx
    · exact abc_sg _ h
    · rw [List.mem_singleton.mp hx]
      decide +kernel⟩, fun w e => (by injection e with e1 e2; injection e2 with e3 e4; cases e3), fun w hw e => by have := congrArg List.length e; rw [List.length_append] at this; simp only [List.length_cons, List.length_nil] at this; omega⟩
section
variable {s : SS} {t : VH} {k : Nat}
theorem at_end {x : Option MO} : (s.vh (t ++ [x]))[t.length + 3]? = some x := by
  unfold SS.vh
  rw [List.getElem?_cons_succ, List.getElem?_cons_succ, List.getElem?_cons_succ]
  simp
theorem set_end {x y : Option MO} : (s.vh (t ++ [x])).set (t.length + 3) y = s.vh (t ++ [y]) := by
  unfold SS.vh
  rw [List.set_cons_succ, List.set_cons_succ, List.set_cons_succ]
  simp
theorem lst_end {xs : List D} : lstV (s.vh (t ++ [some (.lst xs)])) (.ref (t.length + 3)) = some xs := by
  show lstAt _ = _
  rw [at_end]
  rfl
theorem app_end {xs : List D} {d : D} (h : xs.length < line) : appendD (.ref (t.length + 3)) [d] (s.vh (t ++ [some (.lst xs)])) = some (.non, s.vh (t ++ [some (.lst (xs ++ [d]))])) := by
  show ((lstAt _).bind fun xs => (appendF xs [d]).map fun p => (p.1, (s.vh _).set (t.length + 3) (some (.lst p.2)))) = _
  rw [at_end]
  show ((if xs.length < line then some (D.non, xs ++ [d]) else none).map fun p => (p.1, (s.vh _).set (t.length + 3) (some (.lst p.2)))) = _
  rw [if_pos h]
  show some (D.non, (s.vh _).set (t.length + 3) _) = _
  rw [set_end]
theorem new_end {o : MO} : new o (s.vh t) = some (.ref (t.length + 3), s.vh (t ++ [some o])) := rfl
end
end K41

namespace K41
open PySem VL L2
def wB1 : Bk := asgS (methD isStr (kst (.str "")) (consA (lcD (argI range1It (consA (den2 addD (kst (.int 1)) (denA (denC 2 d__law_draw) (consA (var 0) (consA (kst (.int 4)) nilA)))) nilA)) (nameG 6) yesT (denA (denC 2 d__law_pick) (consA (var 0) (consA (kst (.str "abcxyz019.")) nilA))) [6] still0) nilA) joinD) (nameG 4)
def wB2 : Bk := asgS (den2 addD (denA mkLst (consA (var 4) nilA)) (lcD (seqI (kst (.str "abcdefghijklmnopqrstuvwxyz"))) (nameG 7) yesT (den2 addD (var 7) (kst (.str "q"))) [7] still0)) (nameG 5)
def wB3 : Bk := dropS (methD isLst (var 2) (consA (den2 ixD (lcD (seqI (var 5)) (nameG 8) (cmpT ninD (var 8) (var 2)) (var 8) [8] still0) (kst (.int 0))) nilA) appendD)
theorem g_words : g__law_n_words = seqS (asgS (denA mkLstM nilA) (nameG 2)) (seqS (forS (argI range1It (consA (var 1) nilA)) (nameG 3) (seqS wB1 (seqS wB2 wB3))) (retS (stE (var 2)))) := rfl
theorem range_ok {n : Int} {vh : VH} (h0 : 0 ≤ n) (h1 : n < 1000000000) : range1It [.int n] vh = some (rangeL 0 n.toNat, vh) := by
  show (if -(2 ^ 62) ≤ n ∧ n < 2 ^ 62 then VL.ret (rangeL 0 n.toNat) else VL.fail) vh = _
  rw [if_pos (by constructor <;> omega)]
  rfl
theorem range_len (n : Nat) : (rangeL 0 n).length = n := by simp [rangeL]
theorem signs_of : ∀ {ys : List D}, (∀ y ∈ ys, ∃ c, c ∈ ten ∧ y = D.str ⟨#[c]⟩) → ∃ cs : List Nat, ys = cs.map (fun c => D.str ⟨#[c]⟩) ∧ ∀ c ∈ cs, c ∈ ten
  | [], _ => ⟨[], rfl, by simp⟩
  | y :: ys, h => by
    obtain ⟨c, hc, rfl⟩ := h y (List.mem_cons_self ..)
    obtain ⟨cs, rfl, h2⟩ := signs_of fun y hy => h y (List.mem_cons_of_mem _ hy)
    exact ⟨c :: cs, rfl, by simpa using ⟨hc, h2⟩⟩
theorem strsOf_signs : ∀ cs : List Nat, strsOf (cs.map fun c => D.str ⟨#[c]⟩) = some (cs.map fun c => (⟨#[c]⟩ : Str))
  | [] => rfl
  | c :: cs => by
    rw [List.map_cons, strsOf, strsOf_signs cs]
    rfl
theorem flat_one : ∀ cs : List Nat, (cs.map fun c => [c]).flatten = cs
  | [] => rfl
  | c :: cs => by
    rw [List.map_cons, List.flatten_cons, flat_one cs]
    rfl
theorem join_ok {cs : List Nat} {vh : VH} (h : cs.length ≤ 1000) : joinD (.str "") [.lst (cs.map fun c => D.str ⟨#[c]⟩)] vh = some (strD' cs, vh) := by
  have e : ("" : Str) = SX.S [] := by decide +kernel
  have l : ((cs.map fun c => (⟨#[c]⟩ : Str)).map (·.length)).sum + (cs.map fun c => (⟨#[c]⟩ : Str)).length * ("" : Str).length ≤ line := by
    have a : ((cs.map fun c => (⟨#[c]⟩ : Str)).map (·.length)).sum = cs.length := by
      rw [List.map_map]
      induction cs with
      | nil => rfl
      | cons c cs ih =>
        rw [List.map_cons, List.sum_cons, ih (by simp at h; omega), List.length_cons]
        show 1 + _ = _
        omega
    have b : ("" : Str).length = 0 := by decide +kernel
    rw [a, b]
    show _ ≤ 16777216
    omega
  have j : Txt.join (SX.S []) (cs.map fun c => (⟨#[c]⟩ : Str)) = SX.S cs := by
    have z := SX.join_S [] (cs.map fun c => [c])
    rw [joinL_nil, List.map_map] at z
    rw [show (cs.map fun c => (⟨#[c]⟩ : Str)) = cs.map (SX.S ∘ fun c => [c]) from rfl, z]
    congr
    exact flat_one cs
  unfold joinD pureD joinR
  simp only [seqV, Option.bind_some, strsOf_signs, if_pos l]
  rw [e, j]
  rfl
section
variable {s : SS} {t : VH} {k : Nat}
theorem wB1_ok (h : s.Ok k) (hk : k < 1000000000) (x1 x2 a3 a4 a5 : Option D) : ∃ (l : List Nat) (s' : SS), wB1 [some (.ref 2), x1, x2, a3, a4, a5, none, none, none] (s.vh t) = some (.nx [some (.ref 2), x1, x2, a3, some (strD' l), a5, none, none, none], s'.vh t) ∧ Wo l ∧ NoR l ∧ s'.Ok (k + 5) := by
  obtain ⟨j, s1, e1, j0, j1, h1⟩ := draw_ok (t := t) h (by omega) (n := 4) (by decide) (by decide)
  have er : (argI range1It (consA (den2 addD (kst (.int 1)) (denA (denC 2 d__law_draw) (consA (var 0) (consA (kst (.int 4)) nilA)))) nilA)) [some (.ref 2), x1, x2, a3, a4, a5, none, none, none] (s.vh t) = some (rangeL 0 (1 + j).toNat, s1.vh t) := by
    simp only [VL.bind, VL.ret, VL.fail, denF, denA, den1, den2, denC, consA, nilA, var, kst, seqS, nopS, ifS, retS, asgS, nameG, subG, dropS, cmpT, valT, andB, orB, notB, toB, ifD, andD, orD, notD, methD, List.map_cons, List.map_nil, List.cons_append, List.nil_append, List.length_cons, List.length_nil, List.replicate, List.getElem?_cons_zero, List.getElem?_cons_succ, List.set_cons_zero, List.set_cons_succ, List.set_nil, List.getElem?_nil, Option.map_some, Option.map_none, Option.bind_some, Option.bind_none, if_true, if_false, Bool.false_eq_true, reduceIte, Nat.reduceAdd, Nat.reduceSub, Int.reduceAdd, Int.reduceNeg, argI, e1, add_int, range_ok (n := 1 + j) (by omega) (by omega)]
  obtain ⟨ys, s2, e2, hl, hy, h2⟩ := comp_draws (t := t) (g := nameG 6) (c := yesT) (e := denA (denC 2 d__law_pick) (consA (var 0) (consA (kst (.str "abcxyz019.")) nilA))) (ρ := wipeR [some (.ref 2), x1, x2, a3, a4, a5, none, none, none] [6]) (Y := fun y => ∃ c, c ∈ ten ∧ y = D.str ⟨#[c]⟩) (k + 5) (fun d s k' hs hk' => by
    obtain ⟨c, s', e, hc, ho⟩ := pick_str (t := t) hs (by omega) (z := "abcxyz019.") (by decide +kernel) (by decide +kernel)
    exact ⟨_, _, s', rfl, rfl, by simp only [VL.bind, VL.ret, VL.fail, denF, denA, den1, den2, denC, consA, nilA, var, kst, seqS, nopS, ifS, retS, asgS, nameG, subG, dropS, cmpT, valT, andB, orB, notB, toB, ifD, andD, orD, notD, methD, List.map_cons, List.map_nil, List.cons_append, List.nil_append, List.length_cons, List.length_nil, List.replicate, List.getElem?_cons_zero, List.getElem?_cons_succ, List.set_cons_zero, List.set_cons_succ, List.set_nil, List.getElem?_nil, Option.map_some, Option.map_none, Option.bind_some, Option.bind_none, if_true, if_false, Bool.false_eq_true, reduceIte, Nat.reduceAdd, Nat.reduceSub, Int.reduceAdd, Int.reduceNeg, wipeR, e], ⟨c, hc, rfl⟩, ho⟩) (rangeL 0 (1 + j).toNat) s1 (k + 1) h1 (by rw [range_len]; omega)
  rw [range_len] at hl h2
  obtain ⟨cs, rfl, hc⟩ := signs_of hy
  rw [List.length_map] at hl
  have el := lc_eq (mk := still0) er (by rw [range_len]; show _ < 16777216; omega) e2
  obtain ⟨wo, nr⟩ := wo_ten (l := cs) (by omega) (by omega) hc
  refine ⟨cs, s2, ?_, wo, nr, h2.mono (by omega)⟩
  have c0 : isStr (s.vh t) (.str "") = true := rfl
  simp only [VL.bind, VL.ret, VL.fail, denF, denA, den1, den2, denC, consA, nilA, var, kst, seqS, nopS, ifS, retS, asgS, nameG, subG, dropS, cmpT, valT, andB, orB, notB, toB, ifD, andD, orD, notD, methD, List.map_cons, List.map_nil, List.cons_append, List.nil_append, List.length_cons, List.length_nil, List.replicate, List.getElem?_cons_zero, List.getElem?_cons_succ, List.set_cons_zero, List.set_cons_succ, List.set_nil, List.getElem?_nil, Option.map_some, Option.map_none, Option.bind_some, Option.bind_none, if_true, if_false, Bool.false_eq_true, reduceIte, Nat.reduceAdd, Nat.reduceSub, Int.reduceAdd, Int.reduceNeg, wB1, c0, el, still0, join_ok (cs := cs) (vh := s2.vh t) (by omega)]
end
end K41

namespace K41
open PySem VL L2
theorem strD_inj {a b : List Nat} (h : strD' a = strD' b) : a = b := by
  injection h with h
  exact SX.S_inj h
theorem eqF_str (a b : List Nat) : eqF (strD' a) (strD' b) = decide (a = b) := by
  show (SX.S a == SX.S b) = _
  by_cases h : a = b
  · subst h
    simp
  · rw [decide_eq_false h]
    exact beq_eq_false_iff_ne.mpr fun e => h (SX.S_inj e)
theorem flat_strs : ∀ ws : List (List Nat), (ws.map strD').all flatD = true
  | [] => rfl
  | w :: ws => by
    rw [List.map_cons, List.all_cons, flat_strs ws]
    rfl
theorem any_strs (a : List Nat) : ∀ ws : List (List Nat), ((ws.map strD').any fun d => eqF d (strD' a)) = decide (a ∈ ws)
  | [] => rfl
  | w :: ws => by
    rw [List.map_cons, List.any_cons, any_strs a ws, eqF_str]
    by_cases h : w = a
    · subst h
      simp
    · simp [h, Ne.symm h]
theorem add_str {a b : List Nat} (h : a.length + b.length ≤ 10000) : addD (strD' a) (strD' b) = VL.ret (strD' (a ++ b)) := by
  have l : (SX.S a).length + (SX.S b).length ≤ line := by
    rw [SX.S_len, SX.S_len]
    show _ ≤ 16777216
    omega
  show (if (SX.S a).length + (SX.S b).length ≤ line then VL.ret (D.str (SX.S a ++ SX.S b)) else VL.fail) = _
  rw [if_pos l]
  congr 2
  show (⟨a.toArray ++ b.toArray⟩ : Str) = ⟨(a ++ b).toArray⟩
  simp
theorem nd_le {α : Type} [DecidableEq α] : ∀ {xs ys : List α}, xs.Nodup → (∀ x, x ∈ xs → x ∈ ys) → xs.length ≤ ys.length
  | [], _, _, _ => Nat.zero_le _
  | x :: xs, ys, nd, h => by
    obtain ⟨n1, n2⟩ := List.nodup_cons.mp nd
    have hx : x ∈ ys := h x (List.mem_cons_self ..)
    have ih := nd_le (ys := ys.erase x) n2 fun y hy => (List.mem_erase_of_ne (show y ≠ x from fun e => n1 (by rw [← e]; exact hy))).mpr (h y (List.mem_cons_of_mem _ hy))
    rw [List.length_erase_of_mem hx] at ih
    have : 0 < ys.length := List.length_pos_of_mem hx
    rw [List.length_cons]
    omega
def spare (l : List Nat) : List (List Nat) := l :: abc.map fun c => [c, 113]
theorem spare_ok {l : List Nat} (w : Wo l) (n : NoR l) : ∀ x ∈ spare l, Wo x ∧ NoR x := fun x hx => by
  rcases List.mem_cons.mp hx with rfl | hx
  · exact ⟨w, n⟩
  · obtain ⟨c, hc, rfl⟩ := List.mem_map.mp hx
    exact wo_abc hc
theorem free_one (l : List Nat) {ws : List (List Nat)} (h : ws.length ≤ 25) : ∃ x xs, (spare l).filter (fun x => !decide (x ∈ ws)) = x :: xs := by
  cases e : (spare l).filter (fun x => !decide (x ∈ ws)) with
  | cons x xs => exact ⟨x, xs, rfl⟩
  | nil =>
    exfalso
    have sub : ∀ x, x ∈ abc.map (fun c => [c, 113]) → x ∈ ws := fun x hx => Classical.byContradiction fun n => by
      have : x ∈ (spare l).filter (fun x => !decide (x ∈ ws)) := List.mem_filter.mpr ⟨List.mem_cons_of_mem _ hx, by simp [n]⟩
      rw [e] at this
      cases this
    have nd : (abc.map fun c => [c, 113]).Nodup := by decide +kernel
    have := nd_le nd sub
    rw [List.length_map, abc_len] at this
    omega
section
variable {s : SS} {t : VH} {k : Nat}
theorem wB2_ok (l : List Nat) (hl : l.length ≤ 16) (vh : VH) (x0 x1 x2 a3 a5 : Option D) : wB2 [x0, x1, x2, a3, some (strD' l), a5, none, none, none] vh = some (.nx [x0, x1, x2, a3, some (strD' l), some (.lst ((spare l).map strD')), none, none, none], vh) := by
  have q : (D.str "q") = strD' [113] := by
    show D.str _ = D.str _
    congr 1
  have z := comp_map (g := nameG 7) (e := den2 addD (var 7) (kst (.str "q"))) (ρ := wipeR [x0, x1, x2, a3, some (strD' l), a5, none, none, none] [7]) (vh := vh) (f := fun d => match d with | .str c => .str (c ++ ⟨#[113]⟩) | d => d) (abc.map fun c => D.str ⟨#[c]⟩) (fun d hd => by
    obtain ⟨c, hc, rfl⟩ := List.mem_map.mp hd
    refine ⟨_, rfl, ?_⟩
    have a := add_str (a := [c]) (b := [113]) (by simp)
    have a' : addD (D.str ⟨#[c]⟩) (strD' [113]) = VL.ret (D.str (⟨#[c]⟩ ++ ⟨#[113]⟩)) := a
    simp only [VL.bind, VL.ret, VL.fail, denF, denA, den1, den2, denC, consA, nilA, var, kst, seqS, nopS, ifS, retS, asgS, nameG, subG, dropS, cmpT, valT, andB, orB, notB, toB, ifD, andD, orD, notD, methD, List.map_cons, List.map_nil, List.cons_append, List.nil_append, List.length_cons, List.length_nil, List.replicate, List.getElem?_cons_zero, List.getElem?_cons_succ, List.set_cons_zero, List.set_cons_succ, List.set_nil, List.getElem?_nil, Option.map_some, Option.map_none, Option.bind_some, Option.bind_none, if_true, if_false, Bool.false_eq_true, reduceIte, Nat.reduceAdd, Nat.reduceSub, Int.reduceAdd, Int.reduceNeg, wipeR, q, a'])
  have el := lc_eq (f := seqI (kst (.str "abcdefghijklmnopqrstuvwxyz"))) (mk := still0) (vs := [7]) (ρ := [x0, x1, x2, a3, some (strD' l), a5, none, none, none]) (vh := vh) (items := abc.map fun c => D.str ⟨#[c]⟩) rfl (by rw [List.length_map, abc_len]; decide) z
  have m1 : mkLst [strD' l] = VL.ret (.lst [strD' l]) := rfl
  have e2 : ((abc.map fun c => D.str ⟨#[c]⟩).map fun d => (match d with | .str c => .str (c ++ ⟨#[113]⟩) | d => d : D)) = (abc.map fun c => [c, 113]).map strD' := by
    rw [List.map_map, List.map_map]
    rfl
  rw [e2] at el
  have ad : addD (.lst [strD' l]) (.lst ((abc.map fun c => [c, 113]).map strD')) vh = some (.lst ((spare l).map strD'), vh) := by
    show (if [strD' l].length + ((abc.map fun c => [c, 113]).map strD').length ≤ line then some (D.lst ([strD' l] ++ (abc.map fun c => [c, 113]).map strD'), vh) else none) = _
    rw [if_pos (by rw [List.length_map, List.length_map, abc_len]; show 1 + 26 ≤ 16777216; decide)]
    rfl
  simp only [VL.bind, VL.ret, VL.fail, denF, denA, den1, den2, denC, consA, nilA, var, kst, seqS, nopS, ifS, retS, asgS, nameG, subG, dropS, cmpT, valT, andB, orB, notB, toB, ifD, andD, orD, notD, methD, List.map_cons, List.map_nil, List.cons_append, List.nil_append, List.length_cons, List.length_nil, List.replicate, List.getElem?_cons_zero, List.getElem?_cons_succ, List.set_cons_zero, List.set_cons_succ, List.set_nil, List.getElem?_nil, Option.map_some, Option.map_none, Option.bind_some, Option.bind_none, if_true, if_false, Bool.false_eq_true, reduceIte, Nat.reduceAdd, Nat.reduceSub, Int.reduceAdd, Int.reduceNeg, wB2, m1, el, still0, ad]
theorem wB3_ok (l : List Nat) (ws : List (List Nat)) (hw : ws.length ≤ 25) (x0 x1 a3 a4 : Option D) : ∃ x, x ∈ spare l ∧ x ∉ ws ∧
    wB3 [x0, x1, some (.ref (t.length + 3)), a3, a4, some (.lst ((spare l).map strD')), none, none, none] (s.vh (t ++ [some (.lst (ws.map strD'))])) =
      some (.nx [x0, x1, some (.ref (t.length + 3)), a3, a4, some (.lst ((spare l).map strD')), none, none, none], s.vh (t ++ [some (.lst ((ws ++ [x]).map strD'))])) := by
  obtain ⟨x, xs, e⟩ := free_one l hw
  have hx : x ∈ (spare l).filter (fun x => !decide (x ∈ ws)) := by rw [e]; exact List.mem_cons_self ..
  obtain ⟨h1, h2⟩ := List.mem_filter.mp hx
  have h2 : x ∉ ws := by simpa using h2
  refine ⟨x, h1, h2, ?_⟩
  have z := comp_pure (g := nameG 8) (c := cmpT ninD (var 8) (var 2)) (e := var 8) (ρ := wipeR [x0, x1, some (.ref (t.length + 3)), a3, a4, some (.lst ((spare l).map strD')), none, none, none] [8]) (vh := s.vh (t ++ [some (.lst (ws.map strD'))]))
    (p := fun d => !((ws.map strD').any fun y => eqF y d)) (f := fun d => d) ((spare l).map strD') (fun d hd => by
      obtain ⟨y, hy, rfl⟩ := List.mem_map.mp hd
      have ni : ninD (strD' y) (.ref (t.length + 3)) (s.vh (t ++ [some (.lst (ws.map strD'))])) = some (.bl (!((ws.map strD').any fun d => eqF d (strD' y))), s.vh (t ++ [some (.lst (ws.map strD'))])) := by
        have i : inRes (s.vh (t ++ [some (.lst (ws.map strD'))])) (strD' y) (.ref (t.length + 3)) = some ((ws.map strD').any fun d => eqF d (strD' y)) := by
          have sv : seqV (s.vh (t ++ [some (.lst (ws.map strD'))])) (.ref (t.length + 3)) = some (ws.map strD') := lst_end
          unfold inRes
          simp only [sv]
          rw [if_pos (by rw [flat_strs]; rfl)]
        unfold ninD
        rw [i]
        rfl
      exact ⟨_, rfl, by simp only [VL.bind, VL.ret, VL.fail, denF, denA, den1, den2, denC, consA, nilA, var, kst, seqS, nopS, ifS, retS, asgS, nameG, subG, dropS, cmpT, valT, andB, orB, notB, toB, ifD, andD, orD, notD, methD, List.map_cons, List.map_nil, List.cons_append, List.nil_append, List.length_cons, List.length_nil, List.replicate, List.getElem?_cons_zero, List.getElem?_cons_succ, List.set_cons_zero, List.set_cons_succ, List.set_nil, List.getElem?_nil, Option.map_some, Option.map_none, Option.bind_some, Option.bind_none, if_true, if_false, Bool.false_eq_true, reduceIte, Nat.reduceAdd, Nat.reduceSub, Int.reduceAdd, Int.reduceNeg, wipeR, ni], fun _ => by simp only [VL.bind, VL.ret, VL.fail, denF, denA, den1, den2, denC, consA, nilA, var, kst, seqS, nopS, ifS, retS, asgS, nameG, subG, dropS, cmpT, valT, andB, orB, notB, toB, ifD, andD, orD, notD, methD, List.map_cons, List.map_nil, List.cons_append, List.nil_append, List.length_cons, List.length_nil, List.replicate, List.getElem?_cons_zero, List.getElem?_cons_succ, List.set_cons_zero, List.set_cons_succ, List.set_nil, List.getElem?_nil, Option.map_some, Option.map_none, Option.bind_some, Option.bind_none, if_true, if_false, Bool.false_eq_true, reduceIte, Nat.reduceAdd, Nat.reduceSub, Int.reduceAdd, Int.reduceNeg, wipeR]⟩)
  have el := lc_eq (f := seqI (var 5)) (mk := still0) (vs := [8]) (ρ := [x0, x1, some (.ref (t.length + 3)), a3, a4, some (.lst ((spare l).map strD')), none, none, none]) (items := (spare l).map strD') rfl (by
    rw [List.length_map]
    show (abc.map _).length + 1 < line
    rw [List.length_map, abc_len]
    decide) z
  have ef : (((spare l).map strD').filter fun d => !((ws.map strD').any fun y => eqF y d)).map (fun d => d) = strD' x :: xs.map strD' := by
    rw [List.map_id', List.filter_map]
    have : ((fun d => !((ws.map strD').any fun y => eqF y d)) ∘ strD') = fun x => !decide (x ∈ ws) := by
      funext y
      show (!_) = _
      rw [any_strs]
    rw [this, e]
    rfl
  rw [ef] at el
  have i0 : ∀ vh, ixD (.lst (strD' x :: xs.map strD')) (.int 0) vh = some (strD' x, vh) := fun vh => by
    show (atI (strD' x :: xs.map strD') 0).map _ = _
    unfold atI ixN
    rw [if_pos (by decide), if_pos (by rw [List.length_cons]; omega)]
    rfl
  have c0 : isLst (s.vh (t ++ [some (.lst (ws.map strD'))])) (.ref (t.length + 3)) = true := by
    unfold isLst
    rw [lst_end]
    rfl
  have ap := app_end (s := s) (t := t) (xs := ws.map strD') (d := strD' x) (by rw [List.length_map]; show _ < 16777216; omega)
  have em : (ws ++ [x]).map strD' = ws.map strD' ++ [strD' x] := by simp
  rw [em]
  simp only [VL.bind, VL.ret, VL.fail, denF, denA, den1, den2, denC, consA, nilA, var, kst, seqS, nopS, ifS, retS, asgS, nameG, subG, dropS, cmpT, valT, andB, orB, notB, toB, ifD, andD, orD, notD, methD, List.map_cons, List.map_nil, List.cons_append, List.nil_append, List.length_cons, List.length_nil, List.replicate, List.getElem?_cons_zero, List.getElem?_cons_succ, List.set_cons_zero, List.set_cons_succ, List.set_nil, List.getElem?_nil, Option.map_some, Option.map_none, Option.bind_some, Option.bind_none, if_true, if_false, Bool.false_eq_true, reduceIte, Nat.reduceAdd, Nat.reduceSub, Int.reduceAdd, Int.reduceNeg, wB3, c0, el, still0, i0, ap]
end
end K41

namespace K41
open PySem VL L2
theorem sq_nx {g h : Bk} {ρ ρ' : Rho} {vh vh' : VH} {o : Out} (e : g ρ vh = some (.nx ρ', vh')) {r : Option (Out × VH)} (e2 : h ρ' vh' = r) : seqS g h ρ vh = r := (sq e).trans e2
section
variable {s : SS} {t : VH} {k : Nat}
theorem words_ok (h : s.Ok k) {n : Int} (n0 : 0 ≤ n) (n1 : n ≤ 25) (hk : k < 100000000) : ∃ (ws : List (List Nat)) (s' : SS), d__law_n_words [.ref 2, .int n] (s.vh t) = some (.lst (ws.map strD'), s'.vh (t ++ [none])) ∧
    ws.length = n.toNat ∧ ws.Nodup ∧ (∀ w ∈ ws, Wo w ∧ NoR w) ∧ s'.Ok (k + 5 * n.toNat) := by
  have e0 : (asgS (denA mkLstM nilA) (nameG 2)) [some (.ref 2), some (.int n), none, none, none, none, none, none, none] (s.vh t) = some (.nx [some (.ref 2), some (.int n), some (.ref (t.length + 3)), none, none, none, none, none, none], s.vh (t ++ [some (.lst [])])) := rfl
  have er : (argI range1It (consA (var 1) nilA)) [some (.ref 2), some (.int n), some (.ref (t.length + 3)), none, none, none, none, none, none] (s.vh (t ++ [some (.lst [])])) = some (rangeL 0 n.toNat, s.vh (t ++ [some (.lst [])])) := by
    simp only [VL.bind, VL.ret, VL.fail, denF, denA, den1, den2, denC, consA, nilA, var, kst, seqS, nopS, ifS, retS, asgS, nameG, subG, dropS, cmpT, valT, andB, orB, notB, toB, ifD, andD, orD, notD, methD, List.map_cons, List.map_nil, List.cons_append, List.nil_append, List.length_cons, List.length_nil, List.replicate, List.getElem?_cons_zero, List.getElem?_cons_succ, List.set_cons_zero, List.set_cons_succ, List.set_nil, List.getElem?_nil, Option.map_some, Option.map_none, Option.bind_some, Option.bind_none, if_true, if_false, Bool.false_eq_true, reduceIte, Nat.reduceAdd, Nat.reduceSub, Int.reduceAdd, Int.reduceNeg, argI, range_ok n0 (by omega : n < 1000000000)]
  obtain ⟨ρ', vh', e1, a, b, c, ws, s', rfl, rfl, hl, nd, hw, ho⟩ := for_inv (g := nameG 3) (b := seqS wB1 (seqS wB2 wB3)) (items := rangeL 0 n.toNat) (ρ := [some (.ref 2), some (.int n), some (.ref (t.length + 3)), none, none, none, none, none, none]) (vh := s.vh (t ++ [some (.lst [])]))
    (fun i ρ vh => ∃ (a b c : Option D) (ws : List (List Nat)) (s' : SS), ρ = [some (.ref 2), some (.int n), some (.ref (t.length + 3)), a, b, c, none, none, none] ∧ vh = s'.vh (t ++ [some (.lst (ws.map strD'))]) ∧ ws.length = i ∧ ws.Nodup ∧ (∀ w ∈ ws, Wo w ∧ NoR w) ∧ s'.Ok (k + 5 * i))
    ⟨none, none, none, [], s, rfl, rfl, rfl, .nil, by simp, h⟩ (fun i d ρ vh hd ⟨a, b, c, ws, s1, e1, e2, hl, nd, hw, ho⟩ => by
      subst e1 e2
      have hi : i < n.toNat := by
        have z := (List.getElem?_eq_some_iff.mp hd).1
        rw [range_len] at z
        exact z
      obtain ⟨l, s2, f1, wo, nr, h2⟩ := wB1_ok (t := t ++ [some (.lst (ws.map strD'))]) ho (by omega) (some (.int n)) (some (.ref (t.length + 3))) (some d) b c
      have f2 := wB2_ok l wo.n1 (s2.vh (t ++ [some (.lst (ws.map strD'))])) (some (.ref 2)) (some (.int n)) (some (.ref (t.length + 3))) (some d) c
      obtain ⟨x, x1, x2, f3⟩ := wB3_ok (s := s2) (t := t) l ws (by omega) (some (.ref 2)) (some (.int n)) (some d) (some (strD' l))
      refine ⟨_, _, _, rfl, (sq f1).trans ((sq f2).trans f3), some d, some (strD' l), _, ws ++ [x], s2, rfl, rfl, by simp [hl], ?_, ?_, h2.mono (by omega)⟩
      · rw [List.nodup_append]
        exact ⟨nd, by simp, fun y hy z hz => by
          rw [List.mem_singleton.mp hz]
          exact fun e => x2 (by rw [← e]; exact hy)⟩
      · intro w hw'
        rcases List.mem_append.mp hw' with z | z
        · exact hw w z
        · rw [List.mem_singleton.mp z]
          exact spare_ok wo nr x x1)
  rw [range_len] at hl ho
  have ef : (forS (argI range1It (consA (var 1) nilA)) (nameG 3) (seqS wB1 (seqS wB2 wB3))) [some (.ref 2), some (.int n), some (.ref (t.length + 3)), none, none, none, none, none, none] (s.vh (t ++ [some (.lst [])])) = some (.nx [some (.ref 2), some (.int n), some (.ref (t.length + 3)), a, b, c, none, none, none], s'.vh (t ++ [some (.lst (ws.map strD'))])) := by
    unfold forS VL.bind
    rw [er]
    exact e1
  have st : still (.ref (t.length + 3)) (s'.vh (t ++ [some (MO.lst (ws.map strD'))])) = some (D.lst (ws.map strD'), s'.vh (t ++ [none])) := by
    show (match (s'.vh (t ++ [some (MO.lst (ws.map strD'))]))[t.length + 3]? with
      | some (some o) => (stillO o).map fun d => (d, (s'.vh (t ++ [some (MO.lst (ws.map strD'))])).set (t.length + 3) none)
      | _ => none) = _
    rw [at_end]
    show some (D.lst _, (s'.vh (t ++ [some (MO.lst (ws.map strD'))])).set (t.length + 3) none) = _
    rw [set_end]
  refine ⟨ws, s', denF_rt ?_, hl, nd, hw, ho⟩
  rw [g_words]
  refine (sq e0).trans ((sq ef).trans ?_)
  simp only [VL.bind, VL.ret, VL.fail, denF, denA, den1, den2, denC, consA, nilA, var, kst, seqS, nopS, ifS, retS, asgS, nameG, subG, dropS, cmpT, valT, andB, orB, notB, toB, ifD, andD, orD, notD, methD, List.map_cons, List.map_nil, List.cons_append, List.nil_append, List.length_cons, List.length_nil, List.replicate, List.getElem?_cons_zero, List.getElem?_cons_succ, List.set_cons_zero, List.set_cons_succ, List.set_nil, List.getElem?_nil, Option.map_some, Option.map_none, Option.bind_some, Option.bind_none, if_true, if_false, Bool.false_eq_true, reduceIte, Nat.reduceAdd, Nat.reduceSub, Int.reduceAdd, Int.reduceNeg, stE, st]
end
end K41

namespace K41
open PySem VL L2
/-! ### a plan: rooms and rows -/
structure Row where
  nm : List Nat
  st : List Nat
  en : List Nat
  step : List Int
def Row.d (r : Row) : D := .tup [strD' r.nm, strD' r.st, strD' r.en, .tup (r.step.map D.int)]
def pP1 : Bk := parS 10 11 (consA (denA (denC 2 d__law_pick) (consA (var 0) (consA (var 5) nilA))) (consA (denA (denC 2 d__law_pick) (consA (var 0) (consA (var 5) nilA))) nilA))
def pP2 : Bk := ifS (andB (cmpT ltD (var 8) (denA lenD (consA (var 5) nilA))) (cmpT gtD (denA (denC 2 d__law_draw) (consA (var 0) (consA (kst (.int 4)) nilA))) (kst (.int 0))))
  (parS 10 11 (consA (den2 ixD (var 5) (var 8)) (consA (den2 ixD (var 5) (den2 modD (den2 addD (var 8) (kst (.int 1))) (denA lenD (consA (var 5) nilA)))) nilA))) nopS
def pP3 : Bk := asgS (lcD (argI range1It (consA (var 1) nilA)) (nameG 13) yesT (den2 subD (denA (denC 2 d__law_draw) (consA (var 0) (consA (den2 addD (den2 mulD (kst (.int 2)) (var 4)) (kst (.int 1))) nilA))) (var 4)) [13] still0) (nameG 12)
def pP4 : Bk := dropS (methD isLst (var 7) (consA (denA mkTup (consA (var 9) (consA (var 10) (consA (var 11) (consA (denA tupleD (consA (var 12) nilA)) nilA))))) nilA) appendD)
def pA : Bk := asgS (denA (denC 2 d__law_n_words) (consA (var 0) (consA (den2 addD (kst (.int 1)) (denA (denC 2 d__law_draw) (consA (var 0) (consA (var 2) nilA)))) nilA))) (nameG 5)
def pB : Bk := parS 6 7 (consA (den2 addD (kst (.int 1)) (denA (denC 2 d__law_draw) (consA (var 0) (consA (var 3) nilA)))) (consA (denA mkLstM nilA) nilA))
def pI : Rho → M (List D) := argI enumIt (consA (denA (denC 2 d__law_n_words) (consA (var 0) (consA (var 6) nilA))) nilA)
def pG : Tg := unpG 2 (consG (nameG 8) (consG (nameG 9) nilG))
theorem g_plan : g__law_n_plan = seqS pA (seqS pB (seqS (forS pI pG (seqS pP1 (seqS pP2 (seqS pP3 pP4)))) (retS (denA mkTup (consA (var 1) (consA (var 5) (consA (stE (var 7)) nilA))))))) := rfl
section
variable {s : SS} {u v : VH} {k : Nat}
theorem at_mid {x : Option MO} : (s.vh (u ++ x :: v))[u.length + 3]? = some x := by
  unfold SS.vh
  rw [List.getElem?_cons_succ, List.getElem?_cons_succ, List.getElem?_cons_succ]
  simp
theorem set_mid {x y : Option MO} : (s.vh (u ++ x :: v)).set (u.length + 3) y = s.vh (u ++ y :: v) := by
  unfold SS.vh
  rw [List.set_cons_succ, List.set_cons_succ, List.set_cons_succ]
  simp
theorem lst_mid {xs : List D} : lstV (s.vh (u ++ some (.lst xs) :: v)) (.ref (u.length + 3)) = some xs := by
  show lstAt _ = _
  rw [at_mid]
  rfl
theorem isl_mid {xs : List D} : isLst (s.vh (u ++ some (.lst xs) :: v)) (.ref (u.length + 3)) = true := by
  unfold isLst
  rw [lst_mid]
  rfl
theorem app_mid {xs : List D} {d : D} (h : xs.length < line) : appendD (.ref (u.length + 3)) [d] (s.vh (u ++ some (.lst xs) :: v)) = some (.non, s.vh (u ++ some (.lst (xs ++ [d])) :: v)) := by
  show ((lstAt _).bind fun xs => (appendF xs [d]).map fun p => (p.1, (s.vh _).set (u.length + 3) (some (.lst p.2)))) = _
  rw [at_mid]
  show ((if xs.length < line then some (D.non, xs ++ [d]) else none).map fun p => (p.1, (s.vh _).set (u.length + 3) (some (.lst p.2)))) = _
  rw [if_pos h]
  show some (D.non, (s.vh _).set (u.length + 3) _) = _
  rw [set_mid]
theorem still_mid {xs : List D} : still (.ref (u.length + 3)) (s.vh (u ++ some (.lst xs) :: v)) = some (.lst xs, s.vh (u ++ none :: v)) := by
  show (match (s.vh (u ++ some (MO.lst xs) :: v))[u.length + 3]? with
    | some (some o) => (stillO o).map fun d => (d, (s.vh (u ++ some (MO.lst xs) :: v)).set (u.length + 3) none)
    | _ => none) = _
  rw [at_mid]
  show some (D.lst _, (s.vh (u ++ some (MO.lst xs) :: v)).set (u.length + 3) none) = _
  rw [set_mid]
end
theorem of_strs {ws : List (List Nat)} {d : D} (h : d ∈ ws.map strD') : ∃ w, w ∈ ws ∧ d = strD' w := by
  obtain ⟨w, hw, rfl⟩ := List.mem_map.mp h
  exact ⟨w, hw, rfl⟩
section
variable {s : SS} {t : VH} {k : Nat} {ns : List (List Nat)}
theorem pP1_ok (h : s.Ok k) (hk : k < 1000000000) (h0 : 0 < ns.length) (h1 : ns.length ≤ 1000) (x1 x2 x3 x4 x6 x7 x8 x9 x10 x11 x12 x13 : Option D) : ∃ (a b : List Nat) (s' : SS),
    pP1 [some (.ref 2), x1, x2, x3, x4, some (.lst (ns.map strD')), x6, x7, x8, x9, x10, x11, x12, x13] (s.vh t) = some (.nx [some (.ref 2), x1, x2, x3, x4, some (.lst (ns.map strD')), x6, x7, x8, x9, some (strD' a), some (strD' b), x12, x13], s'.vh t) ∧ a ∈ ns ∧ b ∈ ns ∧ s'.Ok (k + 2) := by
  obtain ⟨d1, s1, e1, m1, o1⟩ := pick_lst (t := t) h (by omega) (ds := ns.map strD') (by rw [List.length_map]; exact h0) (by rw [List.length_map]; omega)
  obtain ⟨d2, s2, e2, m2, o2⟩ := pick_lst (t := t) o1 (by omega) (ds := ns.map strD') (by rw [List.length_map]; exact h0) (by rw [List.length_map]; omega)
  obtain ⟨a, ha, rfl⟩ := of_strs m1
  obtain ⟨b, hb, rfl⟩ := of_strs m2
  exact ⟨a, b, s2, by simp only [VL.bind, VL.ret, VL.fail, denF, denA, den1, den2, denC, consA, nilA, var, kst, seqS, nopS, ifS, retS, asgS, nameG, subG, dropS, cmpT, valT, andB, orB, notB, toB, ifD, andD, orD, notD, methD, List.map_cons, List.map_nil, List.cons_append, List.nil_append, List.length_cons, List.length_nil, List.replicate, List.getElem?_cons_zero, List.getElem?_cons_succ, List.set_cons_zero, List.set_cons_succ, List.set_nil, List.getElem?_nil, Option.map_some, Option.map_none, Option.bind_some, Option.bind_none, if_true, if_false, Bool.false_eq_true, reduceIte, Nat.reduceAdd, Nat.reduceSub, Int.reduceAdd, Int.reduceNeg, pP1, parS, e1, e2], ha, hb, o2⟩
theorem pP2_ok (h : s.Ok k) (hk : k < 1000000000) (h0 : 0 < ns.length) (h1 : ns.length ≤ 1000) (i : Nat) {a b : List Nat} (ha : a ∈ ns) (hb : b ∈ ns) (x1 x2 x3 x4 x6 x7 x9 x12 x13 : Option D) : ∃ (a' b' : List Nat) (s' : SS),
    pP2 [some (.ref 2), x1, x2, x3, x4, some (.lst (ns.map strD')), x6, x7, some (.int (i : Nat)), x9, some (strD' a), some (strD' b), x12, x13] (s.vh t) = some (.nx [some (.ref 2), x1, x2, x3, x4, some (.lst (ns.map strD')), x6, x7, some (.int (i : Nat)), x9, some (strD' a'), some (strD' b'), x12, x13], s'.vh t) ∧ a' ∈ ns ∧ b' ∈ ns ∧ s'.Ok (k + 1) := by
  by_cases hi : (i : Int) < (ns.map strD').length
  · obtain ⟨j, s1, e1, j0, j1, o1⟩ := draw_ok (t := t) h (by omega) (n := 4) (by decide) (by decide)
    by_cases hj : 0 < j
    · have hl : ((ns.map strD').length : Int) ≠ 0 := by rw [List.length_map]; omega
      have f := fm (i := (i : Int) + 1) (n := ((ns.map strD').length : Int)) (by rw [List.length_map]; omega)
      obtain ⟨d1, m1, g1⟩ := atI_nat (xs := ns.map strD') (j := (i : Int)) (by omega) hi
      obtain ⟨d2, m2, g2⟩ := atI_nat (xs := ns.map strD') f.1 f.2
      obtain ⟨a', ha', rfl⟩ := of_strs m1
      obtain ⟨b', hb', rfl⟩ := of_strs m2
      have i1 : ixD (.lst (ns.map strD')) (.int (i : Nat)) (s1.vh t) = some (strD' a', s1.vh t) := by
        show (atI _ _).map _ = _
        rw [g1]
        rfl
      have i2 : ixD (.lst (ns.map strD')) (.int (((i : Int) + 1).fmod ((ns.map strD').length : Nat))) (s1.vh t) = some (strD' b', s1.vh t) := by
        show (atI _ _).map _ = _
        rw [g2]
        rfl
      exact ⟨a', b', s1, by simp only [VL.bind, VL.ret, VL.fail, denF, denA, den1, den2, denC, consA, nilA, var, kst, seqS, nopS, ifS, retS, asgS, nameG, subG, dropS, cmpT, valT, andB, orB, notB, toB, ifD, andD, orD, notD, methD, List.map_cons, List.map_nil, List.cons_append, List.nil_append, List.length_cons, List.length_nil, List.replicate, List.getElem?_cons_zero, List.getElem?_cons_succ, List.set_cons_zero, List.set_cons_succ, List.set_nil, List.getElem?_nil, Option.map_some, Option.map_none, Option.bind_some, Option.bind_none, if_true, if_false, Bool.false_eq_true, reduceIte, Nat.reduceAdd, Nat.reduceSub, Int.reduceAdd, Int.reduceNeg, pP2, parS, len_lst, lt_int, decide_eq_true hi, e1, gt_int, decide_eq_true hj, add_int, mod_int hl, i1, i2], ha', hb', o1⟩
    · exact ⟨a, b, s1, by simp only [VL.bind, VL.ret, VL.fail, denF, denA, den1, den2, denC, consA, nilA, var, kst, seqS, nopS, ifS, retS, asgS, nameG, subG, dropS, cmpT, valT, andB, orB, notB, toB, ifD, andD, orD, notD, methD, List.map_cons, List.map_nil, List.cons_append, List.nil_append, List.length_cons, List.length_nil, List.replicate, List.getElem?_cons_zero, List.getElem?_cons_succ, List.set_cons_zero, List.set_cons_succ, List.set_nil, List.getElem?_nil, Option.map_some, Option.map_none, Option.bind_some, Option.bind_none, if_true, if_false, Bool.false_eq_true, reduceIte, Nat.reduceAdd, Nat.reduceSub, Int.reduceAdd, Int.reduceNeg, pP2, parS, len_lst, lt_int, decide_eq_true hi, e1, gt_int, decide_eq_false hj], ha, hb, o1⟩
  · exact ⟨a, b, s, by simp only [VL.bind, VL.ret, VL.fail, denF, denA, den1, den2, denC, consA, nilA, var, kst, seqS, nopS, ifS, retS, asgS, nameG, subG, dropS, cmpT, valT, andB, orB, notB, toB, ifD, andD, orD, notD, methD, List.map_cons, List.map_nil, List.cons_append, List.nil_append, List.length_cons, List.length_nil, List.replicate, List.getElem?_cons_zero, List.getElem?_cons_succ, List.set_cons_zero, List.set_cons_succ, List.set_nil, List.getElem?_nil, Option.map_some, Option.map_none, Option.bind_some, Option.bind_none, if_true, if_false, Bool.false_eq_true, reduceIte, Nat.reduceAdd, Nat.reduceSub, Int.reduceAdd, Int.reduceNeg, pP2, parS, len_lst, lt_int, decide_eq_false hi], ha, hb, h.mono (by omega)⟩
theorem ints_of : ∀ {ys : List D}, (∀ y ∈ ys, ∃ i : Int, y = D.int i) → ∃ is : List Int, ys = is.map D.int
  | [], _ => ⟨[], rfl⟩
  | y :: ys, h => by
    obtain ⟨i, rfl⟩ := h y (List.mem_cons_self ..)
    obtain ⟨is, rfl⟩ := ints_of fun y hy => h y (List.mem_cons_of_mem _ hy)
    exact ⟨i :: is, rfl⟩
theorem pP3_ok (h : s.Ok k) (hk : k < 1000000000) {ax w : Int} (a0 : 0 ≤ ax) (a1 : ax ≤ 1000) (w0 : 0 ≤ w) (w1 : w ≤ 1000) (x2 x3 x5 x6 x7 x8 x9 x10 x11 x12 x13 : Option D) : ∃ (is : List Int) (s' : SS),
    pP3 [some (.ref 2), some (.int ax), x2, x3, some (.int w), x5, x6, x7, x8, x9, x10, x11, x12, x13] (s.vh t) = some (.nx [some (.ref 2), some (.int ax), x2, x3, some (.int w), x5, x6, x7, x8, x9, x10, x11, some (.lst (is.map D.int)), x13], s'.vh t) ∧ is.length = ax.toNat ∧ s'.Ok (k + ax.toNat) := by
  obtain ⟨ys, s2, e2, hl, hy, h2⟩ := comp_draws (t := t) (g := nameG 13) (c := yesT) (e := den2 subD (denA (denC 2 d__law_draw) (consA (var 0) (consA (den2 addD (den2 mulD (kst (.int 2)) (var 4)) (kst (.int 1))) nilA))) (var 4)) (ρ := wipeR [some (.ref 2), some (.int ax), x2, x3, some (.int w), x5, x6, x7, x8, x9, x10, x11, x12, x13] [13]) (Y := fun y => ∃ i : Int, y = D.int i) (k + ax.toNat) (fun d s k' hs hk' => by
    obtain ⟨j, s1, e1, j0, j1, o1⟩ := draw_ok (t := t) hs (by omega) (n := 2 * w + 1) (by omega) (by omega)
    have sb : subD (.int j) (.int w) = VL.ret (.int (j - w)) := rfl
    exact ⟨_, .int (j - w), s1, rfl, rfl, by simp only [VL.bind, VL.ret, VL.fail, denF, denA, den1, den2, denC, consA, nilA, var, kst, seqS, nopS, ifS, retS, asgS, nameG, subG, dropS, cmpT, valT, andB, orB, notB, toB, ifD, andD, orD, notD, methD, List.map_cons, List.map_nil, List.cons_append, List.nil_append, List.length_cons, List.length_nil, List.replicate, List.getElem?_cons_zero, List.getElem?_cons_succ, List.set_cons_zero, List.set_cons_succ, List.set_nil, List.getElem?_nil, Option.map_some, Option.map_none, Option.bind_some, Option.bind_none, if_true, if_false, Bool.false_eq_true, reduceIte, Nat.reduceAdd, Nat.reduceSub, Int.reduceAdd, Int.reduceNeg, wipeR, mul_intL (i := 2) (by decide), add_int, e1, sb], ⟨_, rfl⟩, o1⟩) (rangeL 0 ax.toNat) s k h (by rw [range_len]; omega)
  rw [range_len] at hl h2
  obtain ⟨is, rfl⟩ := ints_of hy
  have el := lc_eq (f := argI range1It (consA (var 1) nilA)) (mk := still0) (vs := [13]) (ρ := [some (.ref 2), some (.int ax), x2, x3, some (.int w), x5, x6, x7, x8, x9, x10, x11, x12, x13]) (vh := s.vh t) (by simp only [VL.bind, VL.ret, VL.fail, denF, denA, den1, den2, denC, consA, nilA, var, kst, seqS, nopS, ifS, retS, asgS, nameG, subG, dropS, cmpT, valT, andB, orB, notB, toB, ifD, andD, orD, notD, methD, List.map_cons, List.map_nil, List.cons_append, List.nil_append, List.length_cons, List.length_nil, List.replicate, List.getElem?_cons_zero, List.getElem?_cons_succ, List.set_cons_zero, List.set_cons_succ, List.set_nil, List.getElem?_nil, Option.map_some, Option.map_none, Option.bind_some, Option.bind_none, if_true, if_false, Bool.false_eq_true, reduceIte, Nat.reduceAdd, Nat.reduceSub, Int.reduceAdd, Int.reduceNeg, argI, range_ok (n := ax) a0 (by omega)]) (by rw [range_len]; show _ < 16777216; omega) e2
  exact ⟨is, s2, by simp only [VL.bind, VL.ret, VL.fail, denF, denA, den1, den2, denC, consA, nilA, var, kst, seqS, nopS, ifS, retS, asgS, nameG, subG, dropS, cmpT, valT, andB, orB, notB, toB, ifD, andD, orD, notD, methD, List.map_cons, List.map_nil, List.cons_append, List.nil_append, List.length_cons, List.length_nil, List.replicate, List.getElem?_cons_zero, List.getElem?_cons_succ, List.set_cons_zero, List.set_cons_succ, List.set_nil, List.getElem?_nil, Option.map_some, Option.map_none, Option.bind_some, Option.bind_none, if_true, if_false, Bool.false_eq_true, reduceIte, Nat.reduceAdd, Nat.reduceSub, Int.reduceAdd, Int.reduceNeg, pP3, el, still0], by simpa using hl, h2⟩
end
end K41

namespace K41
open PySem VL L2
section
variable {s : SS} {t u v : VH} {k : Nat} {ns ws : List (List Nat)}
theorem pP4_ok (r : Row) (rows : List Row) (hr : rows.length ≤ 1000) (x0 x1 x2 x3 x4 x5 x6 x8 x13 : Option D) :
    pP4 [x0, x1, x2, x3, x4, x5, x6, some (.ref (u.length + 3)), x8, some (strD' r.nm), some (strD' r.st), some (strD' r.en), some (.lst (r.step.map D.int)), x13] (s.vh (u ++ some (.lst (rows.map Row.d)) :: v)) =
      some (.nx [x0, x1, x2, x3, x4, x5, x6, some (.ref (u.length + 3)), x8, some (strD' r.nm), some (strD' r.st), some (strD' r.en), some (.lst (r.step.map D.int)), x13], s.vh (u ++ some (.lst ((rows ++ [r]).map Row.d)) :: v)) := by
  have tu : ∀ (xs : List D) (vh : VH), tupleD [.lst xs] vh = some (.tup xs, vh) := fun _ _ => rfl
  have mt : ∀ a b c d : D, mkTup [a, b, c, d] = VL.ret (.tup [a, b, c, d]) := fun _ _ _ _ => rfl
  have ap := app_mid (s := s) (u := u) (v := v) (xs := rows.map Row.d) (d := r.d) (by rw [List.length_map]; show _ < 16777216; omega)
  have em : (rows ++ [r]).map Row.d = rows.map Row.d ++ [r.d] := by simp
  rw [em]
  unfold Row.d at ap ⊢
  simp only [VL.bind, VL.ret, VL.fail, denF, denA, den1, den2, denC, consA, nilA, var, kst, seqS, nopS, ifS, retS, asgS, nameG, subG, dropS, cmpT, valT, andB, orB, notB, toB, ifD, andD, orD, notD, methD, List.map_cons, List.map_nil, List.cons_append, List.nil_append, List.length_cons, List.length_nil, List.replicate, List.getElem?_cons_zero, List.getElem?_cons_succ, List.set_cons_zero, List.set_cons_succ, List.set_nil, List.getElem?_nil, Option.map_some, Option.map_none, Option.bind_some, Option.bind_none, if_true, if_false, Bool.false_eq_true, reduceIte, Nat.reduceAdd, Nat.reduceSub, Int.reduceAdd, Int.reduceNeg, pP4, isl_mid, tu, mt, ap]
theorem enum_at {xs : List (List Nat)} {i : Nat} {d : D} (h : (enumL (xs.map strD'))[i]? = some d) : ∃ w, xs[i]? = some w ∧ d = .tup [.int (i : Nat), strD' w] := by
  unfold enumL pairL at h
  rw [List.getElem?_map] at h
  obtain ⟨p, hp, rfl⟩ := Option.map_eq_some_iff.mp h
  obtain ⟨h1, h2⟩ := List.getElem?_zip_eq_some.mp hp
  rw [List.getElem?_map] at h2
  obtain ⟨w, hw, e⟩ := Option.map_eq_some_iff.mp h2
  rw [List.getElem?_map] at h1
  obtain ⟨j, hj, e1⟩ := Option.map_eq_some_iff.mp h1
  have : j = i := by
    obtain ⟨hl, ej⟩ := List.getElem?_eq_some_iff.mp hj
    simp at ej
    exact ej.symm
  subst this
  exact ⟨w, hw, by rw [← e, ← e1]⟩
theorem enum_len {xs : List D} : (enumL xs).length = xs.length := by simp [enumL, pairL]
structure RowOk (ns : List (List Nat)) (ax : Int) (r : Row) : Prop where
  st : r.st ∈ ns
  en : r.en ∈ ns
  le : r.step.length = ax.toNat
theorem plan_loop (h : s.Ok k) (hk : k < 10000000) {ax w : Int} (a0 : 0 ≤ ax) (a1 : ax ≤ 4) (w0 : 0 ≤ w) (w1 : w ≤ 1000) (h0 : 0 < ns.length) (h1 : ns.length ≤ 100) (hws : ws.length ≤ 100) (x2 x3 x6 : Option D) :
    ∃ (x8 x9 x10 x11 x12 : Option D) (rows : List Row) (s' : SS), forL pG (seqS pP1 (seqS pP2 (seqS pP3 pP4))) (enumL (ws.map strD')) [some (.ref 2), some (.int ax), x2, x3, some (.int w), some (.lst (ns.map strD')), x6, some (.ref (u.length + 3)), none, none, none, none, none, none] (s.vh (u ++ some (.lst []) :: v)) =
      some (.nx [some (.ref 2), some (.int ax), x2, x3, some (.int w), some (.lst (ns.map strD')), x6, some (.ref (u.length + 3)), x8, x9, x10, x11, x12, none], s'.vh (u ++ some (.lst (rows.map Row.d)) :: v)) ∧
      rows.map Row.nm = ws ∧ (∀ r ∈ rows, RowOk ns ax r) ∧ s'.Ok (k + 7 * ws.length) := by
  obtain ⟨ρ', vh', e, x8, x9, x10, x11, x12, rows, s', rfl, rfl, hn, hr, ho⟩ := for_inv (g := pG) (b := seqS pP1 (seqS pP2 (seqS pP3 pP4))) (items := enumL (ws.map strD')) (ρ := [some (.ref 2), some (.int ax), x2, x3, some (.int w), some (.lst (ns.map strD')), x6, some (.ref (u.length + 3)), none, none, none, none, none, none]) (vh := s.vh (u ++ some (.lst []) :: v))
    (fun i ρ vh => ∃ (x8 x9 x10 x11 x12 : Option D) (rows : List Row) (s' : SS), ρ = [some (.ref 2), some (.int ax), x2, x3, some (.int w), some (.lst (ns.map strD')), x6, some (.ref (u.length + 3)), x8, x9, x10, x11, x12, none] ∧ vh = s'.vh (u ++ some (.lst (rows.map Row.d)) :: v) ∧
      rows.map Row.nm = ws.take i ∧ (∀ r ∈ rows, RowOk ns ax r) ∧ s'.Ok (k + 7 * i)) ⟨none, none, none, none, none, [], s, rfl, rfl, rfl, by simp, h⟩ (fun i d ρ vh hd ⟨x8, x9, x10, x11, x12, rows, s1, e1, e2, hn, hr, ho⟩ => by
      subst e1 e2
      obtain ⟨nm, hw, rfl⟩ := enum_at hd
      have hi : i < ws.length := (List.getElem?_eq_some_iff.mp hw).1
      have hrl : rows.length = i := by
        have z := congrArg List.length hn
        rw [List.length_map, List.length_take] at z
        omega
      obtain ⟨a, b, s2, f1, ha, hb, o2⟩ := pP1_ok (t := u ++ some (.lst (rows.map Row.d)) :: v) ho (by omega) h0 (by omega) (some (.int ax)) x2 x3 (some (.int w)) x6 (some (.ref (u.length + 3))) (some (.int (i : Nat))) (some (strD' nm)) x10 x11 x12 none
      obtain ⟨a', b', s3, f2, ha', hb', o3⟩ := pP2_ok (t := u ++ some (.lst (rows.map Row.d)) :: v) o2 (by omega) h0 (by omega) i ha hb (some (.int ax)) x2 x3 (some (.int w)) x6 (some (.ref (u.length + 3))) (some (strD' nm)) x12 none
      obtain ⟨is, s4, f3, hl, o4⟩ := pP3_ok (t := u ++ some (.lst (rows.map Row.d)) :: v) o3 (by omega) a0 (by omega) w0 w1 x2 x3 (some (.lst (ns.map strD'))) x6 (some (.ref (u.length + 3))) (some (.int (i : Nat))) (some (strD' nm)) (some (strD' a')) (some (strD' b')) x12 none
      have f4 := pP4_ok (s := s4) (u := u) (v := v) ⟨nm, a', b', is⟩ rows (by omega) (some (.ref 2)) (some (.int ax)) x2 x3 (some (.int w)) (some (.lst (ns.map strD'))) x6 (some (.int (i : Nat))) none
      refine ⟨_, _, _, rfl, (sq f1).trans ((sq f2).trans ((sq f3).trans f4)), _, _, _, _, _, rows ++ [⟨nm, a', b', is⟩], s4, rfl, rfl, ?_, ?_, o4.mono (by omega)⟩
      · rw [List.map_append, hn, List.take_add_one, hw]
        rfl
      · intro r hr'
        rcases List.mem_append.mp hr' with z | z
        · exact hr r z
        · rw [List.mem_singleton.mp z]
          exact ⟨ha', hb', hl⟩)
  rw [enum_len, List.length_map] at hn ho
  rw [List.take_length] at hn
  exact ⟨x8, x9, x10, x11, x12, rows, s', e, hn, hr, ho⟩
theorem plan_ok (h : s.Ok k) (hk : k < 1000000) {ax halls many w : Int} (a0 : 0 ≤ ax) (a1 : ax ≤ 4) (b0 : 0 < halls) (b1 : halls ≤ 20) (c0 : 0 < many) (c1 : many ≤ 20) (w0 : 0 ≤ w) (w1 : w ≤ 1000) : ∃ (ns : List (List Nat)) (rows : List Row) (s' : SS) (t' : VH),
    d__law_n_plan [.ref 2, .int ax, .int halls, .int many, .int w] (s.vh t) = some (.tup [.int ax, .lst (ns.map strD'), .lst (rows.map Row.d)], s'.vh t') ∧ 0 < ns.length ∧ ns.length ≤ 20 ∧ ns.Nodup ∧ (∀ w ∈ ns, Wo w ∧ NoR w) ∧
      0 < rows.length ∧ rows.length ≤ 20 ∧ (rows.map Row.nm).Nodup ∧ (∀ r ∈ rows, RowOk ns ax r ∧ Wo r.nm ∧ NoR r.nm) ∧ s'.Ok (k + 400) := by
  obtain ⟨j1, s1, e1, j10, j11, o1⟩ := draw_ok (t := t) h (by omega) (n := halls) b0 (by omega)
  obtain ⟨ns, s2, e2, l2, nd2, w2, o2⟩ := words_ok (t := t) o1 (n := 1 + j1) (by omega) (by omega) (by omega)
  obtain ⟨j3, s3, e3, j30, j31, o3⟩ := draw_ok (t := t ++ [none]) o2 (by omega) (n := many) c0 (by omega)
  obtain ⟨ws, s4, e4, l4, nd4, w4, o4⟩ := words_ok (t := t ++ [none] ++ [some (.lst [])]) o3 (n := 1 + j3) (by omega) (by omega) (by omega)
  obtain ⟨x8, x9, x10, x11, x12, rows, s5, e5, hn, hr, o5⟩ := plan_loop (u := t ++ [none]) (v := [none]) (ns := ns) (ws := ws) o4 (by omega) a0 a1 w0 w1 (by omega) (by omega) (by omega) (some (.int halls)) (some (.int many)) (some (.int (1 + j3)))
  have hrl : rows.length = ws.length := by rw [← hn, List.length_map]
  have eA : pA [some (.ref 2), some (.int ax), some (.int halls), some (.int many), some (.int w), none, none, none, none, none, none, none, none, none] (s.vh t) = some (.nx [some (.ref 2), some (.int ax), some (.int halls), some (.int many), some (.int w), some (.lst (ns.map strD')), none, none, none, none, none, none, none, none], s2.vh (t ++ [none])) := by
    simp only [VL.bind, VL.ret, VL.fail, denF, denA, den1, den2, denC, consA, nilA, var, kst, seqS, nopS, ifS, retS, asgS, nameG, subG, dropS, cmpT, valT, andB, orB, notB, toB, ifD, andD, orD, notD, methD, List.map_cons, List.map_nil, List.cons_append, List.nil_append, List.length_cons, List.length_nil, List.replicate, List.getElem?_cons_zero, List.getElem?_cons_succ, List.set_cons_zero, List.set_cons_succ, List.set_nil, List.getElem?_nil, Option.map_some, Option.map_none, Option.bind_some, Option.bind_none, if_true, if_false, Bool.false_eq_true, reduceIte, Nat.reduceAdd, Nat.reduceSub, Int.reduceAdd, Int.reduceNeg, pA, e1, add_int, e2]
  have nw : mkLstM [] (s3.vh (t ++ [none])) = some (.ref ((t ++ [none]).length + 3), s3.vh (t ++ [none] ++ [some (.lst [])])) := rfl
  have eB : pB [some (.ref 2), some (.int ax), some (.int halls), some (.int many), some (.int w), some (.lst (ns.map strD')), none, none, none, none, none, none, none, none] (s2.vh (t ++ [none])) =
      some (.nx [some (.ref 2), some (.int ax), some (.int halls), some (.int many), some (.int w), some (.lst (ns.map strD')), some (.int (1 + j3)), some (.ref ((t ++ [none]).length + 3)), none, none, none, none, none, none], s3.vh (t ++ [none] ++ [some (.lst [])])) := by
    simp only [VL.bind, VL.ret, VL.fail, denF, denA, den1, den2, denC, consA, nilA, var, kst, seqS, nopS, ifS, retS, asgS, nameG, subG, dropS, cmpT, valT, andB, orB, notB, toB, ifD, andD, orD, notD, methD, List.map_cons, List.map_nil, List.cons_append, List.nil_append, List.length_cons, List.length_nil, List.replicate, List.getElem?_cons_zero, List.getElem?_cons_succ, List.set_cons_zero, List.set_cons_succ, List.set_nil, List.getElem?_nil, Option.map_some, Option.map_none, Option.bind_some, Option.bind_none, if_true, if_false, Bool.false_eq_true, reduceIte, Nat.reduceAdd, Nat.reduceSub, Int.reduceAdd, Int.reduceNeg, pB, parS, e3, add_int, nw]
  have en : ∀ (xs : List D) (vh : VH), enumIt [.lst xs] vh = some (enumL xs, vh) := fun _ _ => rfl
  have eF : (forS pI pG (seqS pP1 (seqS pP2 (seqS pP3 pP4)))) [some (.ref 2), some (.int ax), some (.int halls), some (.int many), some (.int w), some (.lst (ns.map strD')), some (.int (1 + j3)), some (.ref ((t ++ [none]).length + 3)), none, none, none, none, none, none] (s3.vh (t ++ [none] ++ [some (.lst [])])) =
      some (.nx [some (.ref 2), some (.int ax), some (.int halls), some (.int many), some (.int w), some (.lst (ns.map strD')), some (.int (1 + j3)), some (.ref ((t ++ [none]).length + 3)), x8, x9, x10, x11, x12, none], s5.vh (t ++ [none] ++ some (.lst (rows.map Row.d)) :: [none])) := by
    have ei : pI [some (.ref 2), some (.int ax), some (.int halls), some (.int many), some (.int w), some (.lst (ns.map strD')), some (.int (1 + j3)), some (.ref ((t ++ [none]).length + 3)), none, none, none, none, none, none] (s3.vh (t ++ [none] ++ [some (.lst [])])) = some (enumL (ws.map strD'), s4.vh (t ++ [none] ++ some (.lst []) :: [none])) := by
      have ap : t ++ [none] ++ some (MO.lst []) :: [none] = t ++ [none] ++ [some (.lst [])] ++ [none] := by simp
      rw [ap]
      simp only [VL.bind, VL.ret, VL.fail, denF, denA, den1, den2, denC, consA, nilA, var, kst, seqS, nopS, ifS, retS, asgS, nameG, subG, dropS, cmpT, valT, andB, orB, notB, toB, ifD, andD, orD, notD, methD, List.map_cons, List.map_nil, List.cons_append, List.nil_append, List.length_cons, List.length_nil, List.replicate, List.getElem?_cons_zero, List.getElem?_cons_succ, List.set_cons_zero, List.set_cons_succ, List.set_nil, List.getElem?_nil, Option.map_some, Option.map_none, Option.bind_some, Option.bind_none, if_true, if_false, Bool.false_eq_true, reduceIte, Nat.reduceAdd, Nat.reduceSub, Int.reduceAdd, Int.reduceNeg, pI, argI, e4, en]
    unfold forS VL.bind
    rw [ei]
    exact e5
  have mt : ∀ a b c : D, mkTup [a, b, c] = VL.ret (.tup [a, b, c]) := fun _ _ _ => rfl
  have st := still_mid (s := s5) (u := t ++ [none]) (v := [none]) (xs := rows.map Row.d)
  refine ⟨ns, rows, s5, t ++ [none] ++ none :: [none], denF_rt ?_, by omega, by omega, nd2, w2, by omega, by omega, by rw [hn]; exact nd4, fun r h => ⟨hr r h, ?_⟩, o5.mono (by omega)⟩
  · rw [g_plan]
    refine (sq eA).trans ((sq eB).trans ((sq eF).trans ?_))
    simp only [VL.bind, VL.ret, VL.fail, denF, denA, den1, den2, denC, consA, nilA, var, kst, seqS, nopS, ifS, retS, asgS, nameG, subG, dropS, cmpT, valT, andB, orB, notB, toB, ifD, andD, orD, notD, methD, List.map_cons, List.map_nil, List.cons_append, List.nil_append, List.length_cons, List.length_nil, List.replicate, List.getElem?_cons_zero, List.getElem?_cons_succ, List.set_cons_zero, List.set_cons_succ, List.set_nil, List.getElem?_nil, Option.map_some, Option.map_none, Option.bind_some, Option.bind_none, if_true, if_false, Bool.false_eq_true, reduceIte, Nat.reduceAdd, Nat.reduceSub, Int.reduceAdd, Int.reduceNeg, stE, st, mt]
  · exact w4 r.nm (by rw [← hn]; exact List.mem_map_of_mem h)
end
end K41

namespace K41
open PySem VL L2
/-! ### what the net asks of its parts -/
theorem tn_int : tnOf "int" = some .int := by simp [tnOf]
theorem tn_bool : tnOf "bool" = some .bl := by simp [tnOf]
theorem tn_str : tnOf "str" = some .str := by simp [tnOf]
theorem tn_list : tnOf "list" = some .lst := by simp [tnOf]
theorem tn_tuple : tnOf "tuple" = some .tup := by simp [tnOf]
theorem isi_ok {d : D} {n : String} {vh : VH} {a b : Tn} (h : tnD vh d = some a) (h2 : tnOf n = some b) : isiD [d, .ty n] vh = some (.bl (isT a b), vh) := by
  unfold isiD pureD isiR
  simp only [h, h2]
  rfl
theorem isi_two {d : D} {vh : VH} {a : Tn} (h : tnD vh d = some a) : isiD [d, .tup [.ty "list", .ty "tuple"]] vh = some (.bl (isT a .lst || isT a .tup), vh) := by
  have e : tnsOf [.ty "list", .ty "tuple"] = some [.lst, .tup] := by
    unfold tnsOf
    rw [tn_list]
    unfold tnsOf
    rw [tn_tuple]
    rfl
  unfold isiD pureD isiR
  simp only [h, e]
  simp only [Option.map_some, List.any_cons, List.any_nil, Bool.or_false]
theorem mkTup2 (a b : D) : mkTup [a, b] = VL.ret (.tup [a, b]) := rfl
theorem list_ok {d : D} {vh : VH} {a : Tn} (h : tnD vh d = some a) : d_is_list [d] vh = some (.bl (isT a .lst || isT a .tup), vh) := by
  simp only [VL.bind, VL.ret, VL.fail, denF, denA, den1, den2, denC, consA, nilA, var, kst, seqS, nopS, ifS, retS, asgS, nameG, subG, dropS, cmpT, valT, andB, orB, notB, toB, ifD, andD, orD, notD, methD, List.map_cons, List.map_nil, List.cons_append, List.nil_append, List.length_cons, List.length_nil, List.replicate, List.getElem?_cons_zero, List.getElem?_cons_succ, List.set_cons_zero, List.set_cons_succ, List.set_nil, List.getElem?_nil, Option.map_some, Option.map_none, Option.bind_some, Option.bind_none, if_true, if_false, Bool.false_eq_true, reduceIte, Nat.reduceAdd, Nat.reduceSub, Int.reduceAdd, Int.reduceNeg, d_is_list, g_is_list, mkTup2, isi_two h]
theorem whole_int (i : Int) (vh : VH) : d_is_whole [.int i] vh = some (.bl true, vh) := by
  simp only [VL.bind, VL.ret, VL.fail, denF, denA, den1, den2, denC, consA, nilA, var, kst, seqS, nopS, ifS, retS, asgS, nameG, subG, dropS, cmpT, valT, andB, orB, notB, toB, ifD, andD, orD, notD, methD, List.map_cons, List.map_nil, List.cons_append, List.nil_append, List.length_cons, List.length_nil, List.replicate, List.getElem?_cons_zero, List.getElem?_cons_succ, List.set_cons_zero, List.set_cons_succ, List.set_nil, List.getElem?_nil, Option.map_some, Option.map_none, Option.bind_some, Option.bind_none, if_true, if_false, Bool.false_eq_true, reduceIte, Nat.reduceAdd, Nat.reduceSub, Int.reduceAdd, Int.reduceNeg, d_is_whole, g_is_whole, isi_ok (d := .int i) (vh := vh) rfl tn_int, isi_ok (d := .int i) (vh := vh) rfl tn_bool, isT, Bool.not_false]
theorem le_int {i j : Int} : leD (.int i) (.int j) = VL.ret (.bl (decide (i ≤ j))) := rfl
theorem between_int {i a b : Int} (h1 : a ≤ i) (h2 : i ≤ b) (vh : VH) : d_is_between [.int i, .int a, .int b] vh = some (.bl true, vh) := by
  simp only [VL.bind, VL.ret, VL.fail, denF, denA, den1, den2, denC, consA, nilA, var, kst, seqS, nopS, ifS, retS, asgS, nameG, subG, dropS, cmpT, valT, andB, orB, notB, toB, ifD, andD, orD, notD, methD, List.map_cons, List.map_nil, List.cons_append, List.nil_append, List.length_cons, List.length_nil, List.replicate, List.getElem?_cons_zero, List.getElem?_cons_succ, List.set_cons_zero, List.set_cons_succ, List.set_nil, List.getElem?_nil, Option.map_some, Option.map_none, Option.bind_some, Option.bind_none, if_true, if_false, Bool.false_eq_true, reduceIte, Nat.reduceAdd, Nat.reduceSub, Int.reduceAdd, Int.reduceNeg, d_is_between, g_is_between, whole_int, chainD, le_int, decide_eq_true h1, decide_eq_true h2]
theorem all_bls (bs : List Bool) (vh : VH) : allD [.lst (bs.map D.bl)] vh = some (.bl (bs.all id), vh) := by
  have e : ∀ bs : List Bool, blsOf (bs.map D.bl) = some bs := fun bs => by
    induction bs with
    | nil => rfl
    | cons b bs ih => rw [List.map_cons, blsOf, ih]; rfl
  unfold allD pureD allR
  simp only [lstV, Option.bind_some, e]
  rfl
theorem any_bls_false {ds : List D} (vh : VH) (h : ∀ d ∈ ds, d = .bl true) : allD [.lst ds] vh = some (.bl true, vh) := by
  have e : ds = (ds.map fun _ => true).map D.bl := by
    rw [List.map_map]
    conv => lhs; rw [← List.map_id ds]
    exact List.map_congr_left fun d hd => h d hd
  rw [e, all_bls]
  congr 2
  simp
/-- names of rooms and ties -/
structure Nm (l : List Nat) : Prop where
  n0 : 0 < l.length
  n1 : l.length ≤ 1000
  ok : ∀ c ∈ l, c ∈ Sg
theorem Wo.nm {l : List Nat} (w : Wo l) : Nm l := ⟨w.n0, by have := w.n1; omega, w.ok⟩
theorem in_sg {c : Nat} (h : c ∈ Sg) (vh : VH) : inD (.str ⟨#[c]⟩) (.str "abcdefghijklmnopqrstuvwxyz0123456789.") vh = some (.bl true, vh) := by
  show (some (decide (c ∈ Sg))).map _ = _
  rw [decide_eq_true h]
  rfl
theorem len_strD {l : List Nat} (h : l.length ≤ 1000) (vh : VH) : lenD [strD' l] vh = some (.int (l.length : Nat), vh) := by
  have := len_str (z := SX.S l) (vh := vh) (by rw [SX.S_len]; show _ ≤ 16777216; omega)
  rw [SX.S_len] at this
  exact this
theorem signs_strD (l : List Nat) (vh : VH) : seqIt (strD' l) vh = some (l.map (fun c => D.str ⟨#[c]⟩), vh) := by
  show some (l.toArray.toList.map _, vh) = _
  simp
theorem name_ok {l : List Nat} (h : Nm l) (vh : VH) : d_is_name [strD' l] vh = some (.bl true, vh) := by
  have z := comp_map (g := nameG 1) (e := den2 inD (var 1) (kst (.str "abcdefghijklmnopqrstuvwxyz0123456789."))) (ρ := wipeR [some (strD' l), none] [1]) (vh := vh) (f := fun _ => .bl true) (l.map fun c => D.str ⟨#[c]⟩) (fun d hd => by
    obtain ⟨c, hc, rfl⟩ := List.mem_map.mp hd
    exact ⟨_, rfl, by simp only [VL.bind, VL.ret, VL.fail, denF, denA, den1, den2, denC, consA, nilA, var, kst, seqS, nopS, ifS, retS, asgS, nameG, subG, dropS, cmpT, valT, andB, orB, notB, toB, ifD, andD, orD, notD, methD, List.map_cons, List.map_nil, List.cons_append, List.nil_append, List.length_cons, List.length_nil, List.replicate, List.getElem?_cons_zero, List.getElem?_cons_succ, List.set_cons_zero, List.set_cons_succ, List.set_nil, List.getElem?_nil, Option.map_some, Option.map_none, Option.bind_some, Option.bind_none, if_true, if_false, Bool.false_eq_true, reduceIte, Nat.reduceAdd, Nat.reduceSub, Int.reduceAdd, Int.reduceNeg, wipeR, in_sg (h.ok c hc)]⟩)
  have el := lc_eq (f := seqI (var 0)) (mk := still0) (vs := [1]) (ρ := [some (strD' l), none]) (vh := vh) (by simp only [VL.bind, VL.ret, VL.fail, denF, denA, den1, den2, denC, consA, nilA, var, kst, seqS, nopS, ifS, retS, asgS, nameG, subG, dropS, cmpT, valT, andB, orB, notB, toB, ifD, andD, orD, notD, methD, List.map_cons, List.map_nil, List.cons_append, List.nil_append, List.length_cons, List.length_nil, List.replicate, List.getElem?_cons_zero, List.getElem?_cons_succ, List.set_cons_zero, List.set_cons_succ, List.set_nil, List.getElem?_nil, Option.map_some, Option.map_none, Option.bind_some, Option.bind_none, if_true, if_false, Bool.false_eq_true, reduceIte, Nat.reduceAdd, Nat.reduceSub, Int.reduceAdd, Int.reduceNeg, seqI, signs_strD]) (by rw [List.length_map]; have := h.n1; show _ < 16777216; omega) z
  have al := any_bls_false (ds := (l.map fun c => D.str ⟨#[c]⟩).map fun _ => D.bl true) vh (by simp)
  have l0 : (0 : Int) < (l.length : Nat) := by have := h.n0; omega
  simp only [VL.bind, VL.ret, VL.fail, denF, denA, den1, den2, denC, consA, nilA, var, kst, seqS, nopS, ifS, retS, asgS, nameG, subG, dropS, cmpT, valT, andB, orB, notB, toB, ifD, andD, orD, notD, methD, List.map_cons, List.map_nil, List.cons_append, List.nil_append, List.length_cons, List.length_nil, List.replicate, List.getElem?_cons_zero, List.getElem?_cons_succ, List.set_cons_zero, List.set_cons_succ, List.set_nil, List.getElem?_nil, Option.map_some, Option.map_none, Option.bind_some, Option.bind_none, if_true, if_false, Bool.false_eq_true, reduceIte, Nat.reduceAdd, Nat.reduceSub, Int.reduceAdd, Int.reduceNeg, d_is_name, g_is_name, isi_ok (d := strD' l) (vh := vh) rfl tn_str, isT, len_strD h.n1, gt_int, decide_eq_true l0, el, still0, al]
theorem key_ok {l : List Nat} {tb : D} {ks : List Key} {vs : List D} {vh : VH} (h : dctV vh tb = some (ks, vs)) (hs : seqV vh tb = none) (hstr : ∀ z, tb ≠ .str z) : d_is_key [strD' l, tb] vh = some (.bl (valD ks vs (.inr (SX.S l))).isSome, vh) := by
  have i : inRes vh (strD' l) tb = some (valD ks vs (.inr (SX.S l))).isSome := by
    unfold inRes
    cases tb with
    | str z => exact absurd rfl (hstr z)
    | _ => simp only [hs, h]; rfl
  have e : inD (strD' l) tb vh = some (.bl (valD ks vs (.inr (SX.S l))).isSome, vh) := by
    unfold inD
    rw [i]
    rfl
  simp only [VL.bind, VL.ret, VL.fail, denF, denA, den1, den2, denC, consA, nilA, var, kst, seqS, nopS, ifS, retS, asgS, nameG, subG, dropS, cmpT, valT, andB, orB, notB, toB, ifD, andD, orD, notD, methD, List.map_cons, List.map_nil, List.cons_append, List.nil_append, List.length_cons, List.length_nil, List.replicate, List.getElem?_cons_zero, List.getElem?_cons_succ, List.set_cons_zero, List.set_cons_succ, List.set_nil, List.getElem?_nil, Option.map_some, Option.map_none, Option.bind_some, Option.bind_none, if_true, if_false, Bool.false_eq_true, reduceIte, Nat.reduceAdd, Nat.reduceSub, Int.reduceAdd, Int.reduceNeg, d_is_key, g_is_key, isi_ok (d := strD' l) (vh := vh) rfl tn_str, isT, e]
/-! ### lists, frozen or changing, and tuples -/
/-- d has these items now; a changing list is one of those that P allows -/
def Sq (P : Nat → Prop) (vh : VH) (d : D) (xs : List D) : Prop := d = .lst xs ∨ d = .tup xs ∨ ∃ n, d = .ref n ∧ P n ∧ vh[n]? = some (some (.lst xs))
/-- .. the same, locked -/
def Lk (vh vh' : VH) (d : D) (xs : List D) : Prop := ((d = .lst xs ∨ d = .tup xs) ∧ vh' = vh) ∨ ∃ n, d = .ref n ∧ vh[n]? = some (some (.lst xs)) ∧ vh' = vh.set n (some (.lstL xs))
section
variable {P : Nat → Prop} {vh vh' : VH} {d : D} {xs : List D}
theorem Sq.mono {Q : Nat → Prop} (h : Sq P vh d xs) (k : ∀ n, P n → Q n) : Sq Q vh d xs := by
  rcases h with h | h | ⟨n, h1, h2, h3⟩
  · exact Or.inl h
  · exact Or.inr (Or.inl h)
  · exact Or.inr (Or.inr ⟨n, h1, k n h2, h3⟩)
theorem Sq.to (h : Sq P vh d xs) (k : ∀ n, P n → vh'[n]? = vh[n]?) : Sq P vh' d xs := by
  rcases h with h | h | ⟨n, h1, h2, h3⟩
  · exact Or.inl h
  · exact Or.inr (Or.inl h)
  · exact Or.inr (Or.inr ⟨n, h1, h2, (k n h2).trans h3⟩)
theorem Sq.seq (h : Sq P vh d xs) : seqV vh d = some xs := by
  rcases h with rfl | rfl | ⟨n, rfl, _, h⟩
  · rfl
  · rfl
  · show lstAt _ = _
    rw [h]
    rfl
theorem Sq.tn (h : Sq P vh d xs) : tnD vh d = some .lst ∨ tnD vh d = some .tup := by
  rcases h with rfl | rfl | ⟨n, rfl, _, h⟩
  · exact Or.inl rfl
  · exact Or.inr rfl
  · refine Or.inl ?_
    show moAt _ = _
    rw [h]
    rfl
theorem Sq.list (h : Sq P vh d xs) : d_is_list [d] vh = some (.bl true, vh) := by
  rcases h.tn with e | e
  · exact list_ok e
  · exact list_ok e
theorem Sq.len (h : Sq P vh d xs) : lenD [d] vh = some (.int (xs.length : Nat), vh) := by
  unfold lenD pureD lenR
  simp only [h.seq]
  rfl
theorem Sq.ix (h : Sq P vh d xs) {i : Int} {x : D} (e : atI xs i = some x) : ixD d (.int i) vh = some (x, vh) := by
  have hs := h.seq
  have : ixRes vh d (.int i) = some x := by
    rcases h with rfl | rfl | ⟨n, rfl, _, h⟩ <;> (unfold ixRes; simp only [hs, e])
  unfold ixD
  rw [this]
  rfl
theorem Sq.tup (h : Sq P vh d xs) : tupleD [d] vh = some (.tup xs, vh) := by
  rcases h with rfl | rfl | ⟨n, rfl, _, h⟩
  · rfl
  · rfl
  · have e : lstV vh (.ref n) = some xs := by
      show lstAt _ = _
      rw [h]
      rfl
    show (match lstV vh (.ref n) with
      | some xs => some (D.tup xs, vh)
      | none => none) = _
    rw [e]
theorem set_back {n : Nat} {x y : Option MO} (h : vh[n]? = some x) : (vh.set n y).set n x = vh := by
  apply List.ext_getElem?
  intro i
  by_cases e : n = i
  · subst e
    rw [List.getElem?_set_self (by rw [List.length_set]; exact (List.getElem?_eq_some_iff.mp h).1), h]
  · rw [List.getElem?_set_ne e, List.getElem?_set_ne e]
theorem set_at {n : Nat} {x y : Option MO} (h : vh[n]? = some x) : (vh.set n y)[n]? = some y := List.getElem?_set_self (List.getElem?_eq_some_iff.mp h).1
/-- a reading part under the lock -/
theorem lock_ok {α : Type} {i : Nat} {f : Rho → M α} {ρ : Rho} {r : α} (hd : ρ[i]? = some (some d)) (h : Sq P vh d xs) (hf : ∀ vh', Lk vh vh' d xs → f ρ vh' = some (r, vh')) : lockL i f ρ vh = some (r, vh) := by
  rcases h with rfl | rfl | ⟨n, rfl, _, h⟩
  · unfold lockL
    simp only [hd]
    exact hf vh (Or.inl ⟨Or.inl rfl, rfl⟩)
  · unfold lockL
    simp only [hd]
    exact hf vh (Or.inl ⟨Or.inr rfl, rfl⟩)
  · have e := hf (vh.set n (some (.lstL xs))) (Or.inr ⟨n, rfl, h, rfl⟩)
    unfold lockL
    simp only [hd, h, e, set_at h, set_back h]
theorem Lk.it (h : Lk vh vh' d xs) : seqIt d vh' = some (xs, vh') := by
  rcases h with ⟨rfl | rfl, rfl⟩ | ⟨n, rfl, h, rfl⟩
  · rfl
  · rfl
  · show (lckAt ((vh.set n _)[n]?)).map _ = _
    rw [set_at h]
    rfl
theorem Lk.enum (h : Lk vh vh' d xs) (hd : ∀ ys, d ≠ .tup ys) : enumIt [d] vh' = some (enumL xs, vh') := by
  rcases h with ⟨rfl | rfl, rfl⟩ | ⟨n, rfl, h, rfl⟩
  · rfl
  · exact absurd rfl (hd xs)
  · show (lckAt ((vh.set n _)[n]?)).map _ = _
    rw [set_at h]
    rfl
/-- [e for x in d] under the lock, e reading alone -/
theorem lc_lock {i : Nat} {ρ : Rho} {g : Tg} {e : Rho → M D} {vs : List Nat} {f : D → D} (hd : ρ[i]? = some (some d)) (h : Sq P vh d xs) (hl : xs.length < line)
    (step : ∀ vh', Lk vh vh' d xs → ∀ x ∈ xs, ∃ ρ', g x (wipeR ρ vs) vh' = some (ρ', vh') ∧ e ρ' vh' = some (f x, vh')) : lockL i (lcD (seqI (var i)) g yesT e vs still0) ρ vh = some (.lst (xs.map f), vh) :=
  lock_ok hd h fun vh' L => by
    have z := comp_map (g := g) (e := e) (ρ := wipeR ρ vs) (vh := vh') (f := f) xs (step vh' L)
    have ev : (seqI (var i)) ρ vh' = some (xs, vh') := by
      unfold seqI var VL.bind
      simp only [hd]
      exact L.it
    exact lc_eq (mk := still0) ev hl z
end
theorem wholes_ok {P : Nat → Prop} {d : D} {is : List Int} (hl : is.length ≤ 1000) {ax : Int} (h : ax = (is.length : Nat)) {vh : VH} (hq : Sq P vh d (is.map D.int)) : d_are_whole [d, .int ax] vh = some (.bl true, vh) := by
  subst h
  have el := lc_lock (i := 0) (ρ := [some d, some (.int (is.length : Nat)), none]) (g := nameG 2) (e := denA (denC 1 d_is_whole) (consA (var 2) nilA)) (vs := [2]) (f := fun _ => .bl true) rfl hq (by rw [List.length_map]; show _ < 16777216; omega) (fun vh' _ x hx => by
    obtain ⟨c, hc, rfl⟩ := List.mem_map.mp hx
    exact ⟨_, rfl, by simp only [VL.bind, VL.ret, VL.fail, denF, denA, den1, den2, denC, consA, nilA, var, kst, seqS, nopS, ifS, retS, asgS, nameG, subG, dropS, cmpT, valT, andB, orB, notB, toB, ifD, andD, orD, notD, methD, List.map_cons, List.map_nil, List.cons_append, List.nil_append, List.length_cons, List.length_nil, List.replicate, List.getElem?_cons_zero, List.getElem?_cons_succ, List.set_cons_zero, List.set_cons_succ, List.set_nil, List.getElem?_nil, Option.map_some, Option.map_none, Option.bind_some, Option.bind_none, if_true, if_false, Bool.false_eq_true, reduceIte, Nat.reduceAdd, Nat.reduceSub, Int.reduceAdd, Int.reduceNeg, wipeR, whole_int]⟩)
  have al := any_bls_false (ds := (is.map D.int).map fun _ => D.bl true) vh (by simp)
  have lt := hq.len
  rw [List.length_map] at lt
  simp only [VL.bind, VL.ret, VL.fail, denF, denA, den1, den2, denC, consA, nilA, var, kst, seqS, nopS, ifS, retS, asgS, nameG, subG, dropS, cmpT, valT, andB, orB, notB, toB, ifD, andD, orD, notD, methD, List.map_cons, List.map_nil, List.cons_append, List.nil_append, List.length_cons, List.length_nil, List.replicate, List.getElem?_cons_zero, List.getElem?_cons_succ, List.set_cons_zero, List.set_cons_succ, List.set_nil, List.getElem?_nil, Option.map_some, Option.map_none, Option.bind_some, Option.bind_none, if_true, if_false, Bool.false_eq_true, reduceIte, Nat.reduceAdd, Nat.reduceSub, Int.reduceAdd, Int.reduceNeg, d_are_whole, g_are_whole, hq.list, lt, eq_int, beq_self_eq_true, el, al]
end K41

namespace K41
open PySem VL L2
def ky (l : List Nat) : Key := .inr (SX.S l)
theorem ky_inj {a b : List Nat} (h : ky a = ky b) : a = b := SX.S_inj (Sum.inr.inj h)
theorem nd_map {α β : Type} {f : α → β} (inj : ∀ a b, f a = f b → a = b) : ∀ {xs : List α}, xs.Nodup → (xs.map f).Nodup
  | [], _ => .nil
  | x :: xs, h => by
    obtain ⟨n1, n2⟩ := List.nodup_cons.mp h
    rw [List.map_cons]
    refine List.nodup_cons.mpr ⟨fun m => ?_, nd_map inj n2⟩
    obtain ⟨y, hy, e⟩ := List.mem_map.mp m
    exact n1 (inj _ _ e ▸ hy)
theorem put_new {ks : List Key} {vs : List D} {j : Key} {d : D} (h : j ∉ ks) : putKs ks j = ks ++ [j] ∧ putVs ks vs j d = vs ++ [d] := by
  have e : hasK ks j = false := List.any_eq_false.mpr fun k hk => by
    rw [decide_eq_true_iff]
    exact fun e => h (e ▸ hk)
  unfold putKs putVs
  rw [e]
  exact ⟨rfl, rfl⟩
theorem dcomp_nd {g : Tg} {ek ev : Rho → M D} {ρ : Rho} {vh : VH} {kf : D → Key} {vf : D → D} : ∀ (items : List D) (ks : List Key) (vs : List D),
    (∀ d ∈ items, ∃ (ρ' : Rho) (y : D), g d ρ vh = some (ρ', vh) ∧ ek ρ' vh = some (y, vh) ∧ toKey y = some (kf d) ∧ ev ρ' vh = some (vf d, vh)) → (items.map kf).Nodup → (∀ d ∈ items, kf d ∉ ks) →
    dcompL g yesT ek ev ρ items ks vs vh = some ((ks ++ items.map kf, vs ++ items.map vf), vh)
  | [], ks, vs, _, _, _ => by simp [dcompL, VL.ret]
  | d :: ds, ks, vs, h, nd, no => by
    obtain ⟨ρ', y, e1, e2, e3, e4⟩ := h d (List.mem_cons_self ..)
    rw [List.map_cons] at nd
    obtain ⟨n1, n2⟩ := List.nodup_cons.mp nd
    obtain ⟨p1, p2⟩ := put_new (vs := vs) (d := vf d) (no d (List.mem_cons_self ..))
    have ih := dcomp_nd (kf := kf) (vf := vf) ds (ks ++ [kf d]) (vs ++ [vf d]) (fun x hx => h x (List.mem_cons_of_mem _ hx)) n2 (fun x hx m => by
      rcases List.mem_append.mp m with m | m
      · exact no x (List.mem_cons_of_mem _ hx) m
      · exact n1 (by rw [← List.mem_singleton.mp m]; exact List.mem_map_of_mem hx))
    have y1 : yesT ρ' vh = some (true, vh) := rfl
    simp only [dcompL, VL.bind, e1, y1, if_true, e2, e4, e3, p1, p2, ih]
    simp
theorem dc_eq {f : Rho → M (List D)} {g : Tg} {c : Rho → M Bool} {ek ev : Rho → M D} {vs : List Nat} {mk : List Key × List D → M D} {ρ : Rho} {vh vh1 vh2 : VH} {items : List D} {p : List Key × List D} (hf : f ρ vh = some (items, vh1)) (hl : items.length < line)
    (hc : dcompL g c ek ev (wipeR ρ vs) items [] [] vh1 = some (p, vh2)) : dcD f g c ek ev vs mk ρ vh = mk p vh2 := by
  unfold dcD VL.bind
  simp only [hf, if_pos hl, VL.bind, hc]
theorem len_map {α : Type} {f : α → D} {xs : List α} (vh : VH) : lenD [.lst (xs.map f)] vh = some (.int (xs.length : Nat), vh) := by
  rw [len_lst, List.length_map]
theorem kf_nd {ns : List (List Nat)} (nd : ns.Nodup) : ((ns.map strD').map fun d => (match d with | .str s => .inr s | _ => .inl 0 : Key)).Nodup := by
  rw [List.map_map]
  exact nd_map (f := ky) (fun a b h => ky_inj h) nd
theorem rooms_ok {P : Nat → Prop} {d : D} {vh : VH} {ns : List (List Nat)} (h0 : 0 < ns.length) (h1 : ns.length ≤ 1000) (nd : ns.Nodup) (hn : ∀ l ∈ ns, Nm l) (hq : Sq P vh d (ns.map strD')) : d_are_rooms [d] vh = some (.bl true, vh) := by
  have hl : (ns.map strD').length < line := by rw [List.length_map]; show _ < 16777216; omega
  have el := lc_lock (i := 0) (ρ := [some d, none]) (g := nameG 1) (e := denA (denC 1 d_is_name) (consA (var 1) nilA)) (vs := [1]) (f := fun _ => .bl true) rfl hq hl (fun vh' _ x hx => by
    obtain ⟨w, hw, rfl⟩ := of_strs hx
    exact ⟨_, rfl, by simp only [VL.bind, VL.ret, VL.fail, denF, denA, den1, den2, denC, consA, nilA, var, kst, seqS, nopS, ifS, retS, asgS, nameG, subG, dropS, cmpT, valT, andB, orB, notB, toB, ifD, andD, orD, notD, methD, List.map_cons, List.map_nil, List.cons_append, List.nil_append, List.length_cons, List.length_nil, List.replicate, List.getElem?_cons_zero, List.getElem?_cons_succ, List.set_cons_zero, List.set_cons_succ, List.set_nil, List.getElem?_nil, Option.map_some, Option.map_none, Option.bind_some, Option.bind_none, if_true, if_false, Bool.false_eq_true, reduceIte, Nat.reduceAdd, Nat.reduceSub, Int.reduceAdd, Int.reduceNeg, wipeR, name_ok (hn w hw)]⟩)
  have al := any_bls_false (ds := (ns.map strD').map fun _ => D.bl true) vh (by simp)
  have ed : lockL 0 (dcD (seqI (var 0)) (nameG 1) yesT (var 1) (kst (.bl true)) [1] stillD) [some d, none] vh = some (.dct (ns.map ky) (ns.map fun _ => .bl true), vh) := lock_ok rfl hq fun vh' L => by
    have z2 := dcomp_nd (g := nameG 1) (ek := var 1) (ev := kst (.bl true)) (ρ := wipeR [some d, none] [1]) (vh := vh') (kf := fun d => match d with | .str s => .inr s | _ => .inl 0) (vf := fun _ => .bl true) (ns.map strD') [] [] (fun d hd => by
      obtain ⟨w, hw, rfl⟩ := of_strs hd
      exact ⟨_, strD' w, rfl, by simp only [VL.bind, VL.ret, VL.fail, denF, denA, den1, den2, denC, consA, nilA, var, kst, seqS, nopS, ifS, retS, asgS, nameG, subG, dropS, cmpT, valT, andB, orB, notB, toB, ifD, andD, orD, notD, methD, List.map_cons, List.map_nil, List.cons_append, List.nil_append, List.length_cons, List.length_nil, List.replicate, List.getElem?_cons_zero, List.getElem?_cons_succ, List.set_cons_zero, List.set_cons_succ, List.set_nil, List.getElem?_nil, Option.map_some, Option.map_none, Option.bind_some, Option.bind_none, if_true, if_false, Bool.false_eq_true, reduceIte, Nat.reduceAdd, Nat.reduceSub, Int.reduceAdd, Int.reduceNeg, wipeR], rfl, rfl⟩) (kf_nd nd) (by simp)
    have ev1 : (seqI (var 0)) [some d, none] vh' = some (ns.map strD', vh') := by simp only [VL.bind, VL.ret, VL.fail, denF, denA, den1, den2, denC, consA, nilA, var, kst, seqS, nopS, ifS, retS, asgS, nameG, subG, dropS, cmpT, valT, andB, orB, notB, toB, ifD, andD, orD, notD, methD, List.map_cons, List.map_nil, List.cons_append, List.nil_append, List.length_cons, List.length_nil, List.replicate, List.getElem?_cons_zero, List.getElem?_cons_succ, List.set_cons_zero, List.set_cons_succ, List.set_nil, List.getElem?_nil, Option.map_some, Option.map_none, Option.bind_some, Option.bind_none, if_true, if_false, Bool.false_eq_true, reduceIte, Nat.reduceAdd, Nat.reduceSub, Int.reduceAdd, Int.reduceNeg, seqI, L.it]
    have := dc_eq (mk := stillD) (vs := [1]) ev1 hl z2
    rw [this, List.map_map, List.map_map]
    rfl
  have ld : ∀ ks vs, lenD [.dct ks vs] vh = some (.int (ks.length : Nat), vh) := fun _ _ => rfl
  have n0 : ((ns.length : Int) == 0) = false := beq_eq_false_iff_ne.mpr (by omega)
  have lt := hq.len
  rw [List.length_map] at lt
  simp only [VL.bind, VL.ret, VL.fail, denF, denA, den1, den2, denC, consA, nilA, var, kst, seqS, nopS, ifS, retS, asgS, nameG, subG, dropS, cmpT, valT, andB, orB, notB, toB, ifD, andD, orD, notD, methD, List.map_cons, List.map_nil, List.cons_append, List.nil_append, List.length_cons, List.length_nil, List.replicate, List.getElem?_cons_zero, List.getElem?_cons_succ, List.set_cons_zero, List.set_cons_succ, List.set_nil, List.getElem?_nil, Option.map_some, Option.map_none, Option.bind_some, Option.bind_none, if_true, if_false, Bool.false_eq_true, reduceIte, Nat.reduceAdd, Nat.reduceSub, Int.reduceAdd, Int.reduceNeg, d_are_rooms, g_are_rooms, hq.list, Bool.not_true, lt, eq_int, n0, el, al, ed, ld, List.length_map, beq_self_eq_true]
end K41

namespace K41
open PySem VL L2
theorem val_not : ∀ {ks : List Key} {vs : List D} {j : Key}, j ∉ ks → valD ks vs j = none
  | [], _, _, _ => by unfold valD; rfl
  | k :: ks, [], _, _ => by unfold valD; rfl
  | k :: ks, v :: vs, j, h => by
    rw [List.mem_cons, not_or] at h
    unfold valD
    rw [if_neg (fun e => h.1 e.symm)]
    exact val_not h.2
theorem val_mem : ∀ {ks : List Key} {vs : List D} {j : Key}, j ∈ ks → ks.length = vs.length → (valD ks vs j).isSome = true
  | [], _, _, h, _ => by cases h
  | k :: ks, [], _, _, hl => by cases hl
  | k :: ks, v :: vs, j, h, hl => by
    unfold valD
    by_cases e : k = j
    · rw [if_pos e]
      rfl
    · rw [if_neg e]
      rcases List.mem_cons.mp h with z | z
      · exact absurd z.symm e
      · exact val_mem z (by simpa using hl)
def known (ns : List (List Nat)) : D := .dct (ns.map ky) (ns.map fun _ => .bl true)
/-- a row that the net takes -/
structure RowGood (ns : List (List Nat)) (ax : Int) (r : Row) : Prop where
  nm : Nm r.nm
  st : r.st ∈ ns
  en : r.en ∈ ns
  le : ax = (r.step.length : Nat)
  l1 : r.step.length ≤ 1000
theorem known_ok {ns : List (List Nat)} {l : List Nat} (h : l ∈ ns) (vh : VH) : d_is_key [strD' l, known ns] vh = some (.bl true, vh) := by
  have z := key_ok (l := l) (tb := known ns) (vh := vh) rfl rfl (fun z e => by cases e)
  rw [z]
  have : (valD (ns.map ky) (ns.map fun _ => D.bl true) (.inr (SX.S l))).isSome = true := val_mem (List.mem_map_of_mem (f := ky) h) (by simp)
  rw [this]
/-- d is the row r, however it is told -/
def RowAt (P : Nat → Prop) (vh : VH) (d : D) (r : Row) : Prop := ∃ e, Sq P vh d [strD' r.nm, strD' r.st, strD' r.en, e] ∧ Sq P vh e (r.step.map D.int)
theorem RowAt.to {P : Nat → Prop} {vh vh' : VH} {d : D} {r : Row} (h : RowAt P vh d r) (k : ∀ n, P n → vh'[n]? = vh[n]?) : RowAt P vh' d r := by
  obtain ⟨e, a, b⟩ := h
  exact ⟨e, a.to k, b.to k⟩
theorem Sq.app {P : Nat → Prop} {vh u : VH} {d : D} {xs : List D} (h : Sq P vh d xs) : Sq P (vh ++ u) d xs := by
  rcases h with h | h | ⟨n, h1, h2, h3⟩
  · exact Or.inl h
  · exact Or.inr (Or.inl h)
  · exact Or.inr (Or.inr ⟨n, h1, h2, by rw [List.getElem?_append_left (List.getElem?_eq_some_iff.mp h3).1]; exact h3⟩)
theorem RowAt.app {P : Nat → Prop} {vh u : VH} {d : D} {r : Row} (h : RowAt P vh d r) : RowAt P (vh ++ u) d r := by
  obtain ⟨e, a, b⟩ := h
  exact ⟨e, a.app, b.app⟩
theorem RowAt.frozen {P : Nat → Prop} {vh : VH} (r : Row) : RowAt P vh r.d r := ⟨_, Or.inr (Or.inl rfl), Or.inr (Or.inl rfl)⟩
theorem tie_ok {P : Nat → Prop} {ns : List (List Nat)} {ax : Int} {d : D} {r : Row} {vh : VH} (g : RowGood ns ax r) (h : RowAt P vh d r) : d_is_tie [.int ax, known ns, d] vh = some (.bl true, vh) := by
  obtain ⟨e, ha, hb⟩ := h
  have le : lenD [d] vh = some (.int 4, vh) := ha.len
  have ne : neD (.int 4) (.int 4) vh = some (.bl false, vh) := rfl
  have un : ∀ (a b c d1 e1 f h1 : Option D), unpG 4 (consG (nameG 3) (consG (nameG 4) (consG (nameG 5) (consG (nameG 6) nilG)))) d [a, b, c, d1, e1, f, h1] vh = some ([a, b, c, some (strD' r.nm), some (strD' r.st), some (strD' r.en), some e], vh) := fun _ _ _ _ _ _ _ => by
    unfold unpG
    simp only [ha.seq]
    rfl
  simp only [VL.bind, VL.ret, VL.fail, denF, denA, den1, den2, denC, consA, nilA, var, kst, seqS, nopS, ifS, retS, asgS, nameG, subG, dropS, cmpT, valT, andB, orB, notB, toB, ifD, andD, orD, notD, methD, List.map_cons, List.map_nil, List.cons_append, List.nil_append, List.length_cons, List.length_nil, List.replicate, List.getElem?_cons_zero, List.getElem?_cons_succ, List.set_cons_zero, List.set_cons_succ, List.set_nil, List.getElem?_nil, Option.map_some, Option.map_none, Option.bind_some, Option.bind_none, if_true, if_false, Bool.false_eq_true, reduceIte, Nat.reduceAdd, Nat.reduceSub, Int.reduceAdd, Int.reduceNeg, d_is_tie, g_is_tie, ha.list, Bool.not_true, le, ne, un, name_ok g.nm, known_ok g.st, known_ok g.en, wholes_ok g.l1 g.le hb]
theorem rat {vh : VH} {x : Option MO} : (vh ++ [x])[vh.length]? = some x := by simp
theorem rset {vh : VH} {x y : Option MO} : (vh ++ [x]).set vh.length y = vh ++ [y] := by simp
def fB : Bk := seqS (ifS (orB (notB (valT (denA (denC 3 d_is_tie) (consA (var 0) (consA (var 4) (consA (var 7) nilA)))))) (orB (cmpT inD (den2 ixD (var 7) (kst (.int 0))) (var 2)) (cmpT inD (den2 ixD (var 7) (kst (.int 0))) (var 5))))
  (retS (var 6)) nopS)
  (asgS (kst (.bl true)) (subG (var 5) (den2 ixD (var 7) (kst (.int 0)))))
def fG : Tg := unpG 2 (consG (nameG 6) (consG (nameG 7) nilG))
theorem g_first : g_first_no_tie = seqS (ifS (notB (valT (denA (denC 1 d_is_list) (consA (var 3) nilA)))) (retS (kst (.int 0))) nopS)
  (seqS (lockL 1 (asgS (dcD (seqI (var 1)) (nameG 8) yesT (var 8) (kst (.bl true)) [8] stillD) (nameG 4)))
  (seqS (asgS (fun _ => freshD ([], [])) (nameG 5)) (seqS (lockL 3 (forS (argI enumIt (consA (var 3) nilA)) fG fB)) (retS (kst .non))))) := rfl
theorem lock_app {P : Nat → Prop} {α : Type} {vh u u' : VH} {d : D} {xs : List D} {i : Nat} {f : Rho → M α} {ρ : Rho} {r : α} (hd : ρ[i]? = some (some d)) (h : Sq P vh d xs) (hf : ∀ w, Lk vh w d xs → f ρ (w ++ u) = some (r, w ++ u')) : lockL i f ρ (vh ++ u) = some (r, vh ++ u') := by
  rcases h with rfl | rfl | ⟨n, rfl, _, h⟩
  · unfold lockL
    simp only [hd]
    exact hf vh (Or.inl ⟨Or.inl rfl, rfl⟩)
  · unfold lockL
    simp only [hd]
    exact hf vh (Or.inl ⟨Or.inr rfl, rfl⟩)
  · have e := hf (vh.set n (some (.lstL xs))) (Or.inr ⟨n, rfl, h, rfl⟩)
    have hn := (List.getElem?_eq_some_iff.mp h).1
    have e1 : (vh ++ u)[n]? = some (some (.lst xs)) := by rw [List.getElem?_append_left hn]; exact h
    have e2 : (vh ++ u).set n (some (.lstL xs)) = vh.set n (some (.lstL xs)) ++ u := List.set_append_left _ _ hn
    have e3 : (vh.set n (some (MO.lstL xs)) ++ u')[n]? = some (some (.lstL xs)) := by rw [List.getElem?_append_left (by simpa using hn)]; exact set_at h
    have e4 : (vh.set n (some (MO.lstL xs)) ++ u').set n (some (.lst xs)) = vh ++ u' := by rw [List.set_append_left _ _ (by simpa using hn), set_back h]
    unfold lockL
    simp only [hd, e1, e2, e, e3, e4]
theorem Lk.len {vh w : VH} {d : D} {xs : List D} (h : Lk vh w d xs) : w.length = vh.length := by
  rcases h with ⟨_, rfl⟩ | ⟨n, _, _, rfl⟩
  · rfl
  · simp
theorem Lk.row {P : Nat → Prop} {vh w : VH} {d0 d : D} {xs : List D} {r : Row} (h : Lk vh w d0 xs) (hp : ∀ n, P n → d0 ≠ .ref n) (q : RowAt P vh d r) : RowAt P w d r := q.to fun n hn => by
  rcases h with ⟨_, rfl⟩ | ⟨m, e, _, rfl⟩
  · rfl
  · rw [List.getElem?_set_ne]
    exact fun z => hp n hn (by rw [e, z])
theorem enum_row {xs : List D} {i : Nat} {d : D} (h : (enumL xs)[i]? = some d) : ∃ x, xs[i]? = some x ∧ d = .tup [.int (i : Nat), x] := by
  unfold enumL pairL at h
  rw [List.getElem?_map] at h
  obtain ⟨p, hp, rfl⟩ := Option.map_eq_some_iff.mp h
  obtain ⟨h1, h2⟩ := List.getElem?_zip_eq_some.mp hp
  rw [List.getElem?_map] at h1
  obtain ⟨j, hj, e1⟩ := Option.map_eq_some_iff.mp h1
  have : j = i := by
    obtain ⟨hl, ej⟩ := List.getElem?_eq_some_iff.mp hj
    simp at ej
    exact ej.symm
  subst this
  exact ⟨_, h2, by rw [← e1]⟩
theorem first_body {P : Nat → Prop} {ns : List (List Nat)} {ax : Int} {d : D} {r : Row} (g : RowGood ns ax r) (vh : VH) (ra : RowAt P vh d r) (ks : List Key) (hk : ky r.nm ∉ ks) (hl : ks.length ≤ 1000) (x1 x3 x6 x8 : Option D) :
    fB [some (.int ax), x1, some (.dct [] []), x3, some (known ns), some (.ref vh.length), x6, some d, x8] (vh ++ [some (.dct ks (ks.map fun _ => .bl true))]) =
      some (.nx [some (.int ax), x1, some (.dct [] []), x3, some (known ns), some (.ref vh.length), x6, some d, x8], vh ++ [some (.dct (ks ++ [ky r.nm]) ((ks ++ [ky r.nm]).map fun _ => .bl true))]) := by
  have i0 : ∀ u, ixD d (.int 0) (vh ++ u) = some (strD' r.nm, vh ++ u) := fun u => by
    obtain ⟨e, ha, _⟩ := ra.app (u := u)
    exact ha.ix rfl
  have n1 : ∀ w, inD (strD' r.nm) (.dct [] []) w = some (.bl false, w) := fun _ => rfl
  have n2 : inD (strD' r.nm) (.ref vh.length) (vh ++ [some (.dct ks (ks.map fun _ => .bl true))]) = some (.bl false, vh ++ [some (.dct ks (ks.map fun _ => .bl true))]) := by
    have s0 : seqV (vh ++ [some (.dct ks (ks.map fun _ => .bl true))]) (.ref vh.length) = none := by
      show lstAt _ = _
      rw [rat]
      rfl
    have s1 : dctV (vh ++ [some (.dct ks (ks.map fun _ => .bl true))]) (.ref vh.length) = some (ks, ks.map fun _ => .bl true) := by
      show dctRd _ = _
      rw [rat]
      rfl
    have s2 : inRes (vh ++ [some (.dct ks (ks.map fun _ => .bl true))]) (strD' r.nm) (.ref vh.length) = some (valD ks (ks.map fun _ => .bl true) (ky r.nm)).isSome := by
      unfold inRes
      simp only [s0, s1]
      rfl
    unfold inD
    rw [s2, val_not hk]
    rfl
  have st : setD (.ref vh.length) (strD' r.nm) (.bl true) (vh ++ [some (.dct ks (ks.map fun _ => .bl true))]) = some (.non, vh ++ [some (.dct (ks ++ [ky r.nm]) ((ks ++ [ky r.nm]).map fun _ => .bl true))]) := by
    obtain ⟨p1, p2⟩ := put_new (vs := ks.map fun _ => D.bl true) (d := .bl true) hk
    unfold setD
    simp only [rat, lstAt, dctAt]
    show (if ks.length < line then some (D.non, (vh ++ [some (MO.dct ks (ks.map fun _ => .bl true))]).set vh.length (some (.dct (putKs ks (ky r.nm)) (putVs ks (ks.map fun _ => .bl true) (ky r.nm) (.bl true))))) else none) = _
    rw [if_pos (by show _ < 16777216; omega), rset, p1, p2]
    simp
  simp only [VL.bind, VL.ret, VL.fail, denF, denA, den1, den2, denC, consA, nilA, var, kst, seqS, nopS, ifS, retS, asgS, nameG, subG, dropS, cmpT, valT, andB, orB, notB, toB, ifD, andD, orD, notD, methD, List.map_cons, List.map_nil, List.cons_append, List.nil_append, List.length_cons, List.length_nil, List.replicate, List.getElem?_cons_zero, List.getElem?_cons_succ, List.set_cons_zero, List.set_cons_succ, List.set_nil, List.getElem?_nil, Option.map_some, Option.map_none, Option.bind_some, Option.bind_none, if_true, if_false, Bool.false_eq_true, reduceIte, Nat.reduceAdd, Nat.reduceSub, Int.reduceAdd, Int.reduceNeg, fB, tie_ok g ra.app, Bool.not_true, i0, n1, n2, st]
/-- these things are these rows -/
structure RowsAt (P : Nat → Prop) (vh : VH) (ds : List D) (R : List Row) : Prop where
  len : ds.length = R.length
  at_ : ∀ (i : Nat) d r, ds[i]? = some d → R[i]? = some r → RowAt P vh d r
theorem first_ok {P : Nat → Prop} {ns : List (List Nat)} {ax : Int} {R : List Row} {dr dt : D} {ts : List D} {vh : VH} (nd : ns.Nodup) (hns : ns.length ≤ 1000) (hR : R.length ≤ 1000) (ndR : (R.map Row.nm).Nodup) (g : ∀ r ∈ R, RowGood ns ax r)
    (qr : Sq (fun _ => True) vh dr (ns.map strD')) (qt : Sq (fun n => ¬ P n) vh dt ts) (nt : ∀ ys, dt ≠ .tup ys) (ra : RowsAt P vh ts R) :
    ∃ ks, d_first_no_tie [.int ax, dr, .dct [] [], dt] vh = some (.non, vh ++ [some (.dct ks (ks.map fun _ => .bl true))]) := by
  have pn : ∀ n, P n → dt ≠ .ref n := fun n hn e => by
    rcases qt with h | h | ⟨m, h1, h2, _⟩
    · rw [h] at e; cases e
    · rw [h] at e; cases e
    · rw [h1] at e
      cases e
      exact h2 hn
  have hl : (ns.map strD').length < line := by rw [List.length_map]; show _ < 16777216; omega
  have s1 : (ifS (notB (valT (denA (denC 1 d_is_list) (consA (var 3) nilA)))) (retS (kst (.int 0))) nopS) [some (.int ax), some dr, some (.dct [] []), some dt, none, none, none, none, none] vh = some (.nx [some (.int ax), some dr, some (.dct [] []), some dt, none, none, none, none, none], vh) := by
    simp only [VL.bind, VL.ret, VL.fail, denF, denA, den1, den2, denC, consA, nilA, var, kst, seqS, nopS, ifS, retS, asgS, nameG, subG, dropS, cmpT, valT, andB, orB, notB, toB, ifD, andD, orD, notD, methD, List.map_cons, List.map_nil, List.cons_append, List.nil_append, List.length_cons, List.length_nil, List.replicate, List.getElem?_cons_zero, List.getElem?_cons_succ, List.set_cons_zero, List.set_cons_succ, List.set_nil, List.getElem?_nil, Option.map_some, Option.map_none, Option.bind_some, Option.bind_none, if_true, if_false, Bool.false_eq_true, reduceIte, Nat.reduceAdd, Nat.reduceSub, Int.reduceAdd, Int.reduceNeg, qt.list, Bool.not_true]
  have s2 : (lockL 1 (asgS (dcD (seqI (var 1)) (nameG 8) yesT (var 8) (kst (.bl true)) [8] stillD) (nameG 4))) [some (.int ax), some dr, some (.dct [] []), some dt, none, none, none, none, none] vh = some (.nx [some (.int ax), some dr, some (.dct [] []), some dt, some (known ns), none, none, none, none], vh) :=
    lock_ok (d := dr) rfl qr fun vh' L => by
      have z2 := dcomp_nd (g := nameG 8) (ek := var 8) (ev := kst (.bl true)) (ρ := wipeR [some (.int ax), some dr, some (.dct [] []), some dt, none, none, none, none, none] [8]) (vh := vh') (kf := fun d => match d with | .str s => .inr s | _ => .inl 0) (vf := fun _ => .bl true) (ns.map strD') [] [] (fun d hd => by
        obtain ⟨w, hw, rfl⟩ := of_strs hd
        exact ⟨_, strD' w, rfl, by simp only [VL.bind, VL.ret, VL.fail, denF, denA, den1, den2, denC, consA, nilA, var, kst, seqS, nopS, ifS, retS, asgS, nameG, subG, dropS, cmpT, valT, andB, orB, notB, toB, ifD, andD, orD, notD, methD, List.map_cons, List.map_nil, List.cons_append, List.nil_append, List.length_cons, List.length_nil, List.replicate, List.getElem?_cons_zero, List.getElem?_cons_succ, List.set_cons_zero, List.set_cons_succ, List.set_nil, List.getElem?_nil, Option.map_some, Option.map_none, Option.bind_some, Option.bind_none, if_true, if_false, Bool.false_eq_true, reduceIte, Nat.reduceAdd, Nat.reduceSub, Int.reduceAdd, Int.reduceNeg, wipeR], rfl, rfl⟩) (kf_nd nd) (by simp)
      have ev1 : (seqI (var 1)) [some (.int ax), some dr, some (.dct [] []), some dt, none, none, none, none, none] vh' = some (ns.map strD', vh') := by simp only [VL.bind, VL.ret, VL.fail, denF, denA, den1, den2, denC, consA, nilA, var, kst, seqS, nopS, ifS, retS, asgS, nameG, subG, dropS, cmpT, valT, andB, orB, notB, toB, ifD, andD, orD, notD, methD, List.map_cons, List.map_nil, List.cons_append, List.nil_append, List.length_cons, List.length_nil, List.replicate, List.getElem?_cons_zero, List.getElem?_cons_succ, List.set_cons_zero, List.set_cons_succ, List.set_nil, List.getElem?_nil, Option.map_some, Option.map_none, Option.bind_some, Option.bind_none, if_true, if_false, Bool.false_eq_true, reduceIte, Nat.reduceAdd, Nat.reduceSub, Int.reduceAdd, Int.reduceNeg, seqI, L.it]
      have ed := dc_eq (mk := stillD) (vs := [8]) ev1 hl z2
      have ek : stillD ([] ++ (ns.map strD').map (fun d => match d with | .str s => (.inr s : Key) | _ => .inl 0), [] ++ (ns.map strD').map fun _ => D.bl true) = VL.ret (known ns) := by
        rw [List.map_map, List.map_map]
        rfl
      rw [ek] at ed
      simp only [VL.bind, VL.ret, VL.fail, denF, denA, den1, den2, denC, consA, nilA, var, kst, seqS, nopS, ifS, retS, asgS, nameG, subG, dropS, cmpT, valT, andB, orB, notB, toB, ifD, andD, orD, notD, methD, List.map_cons, List.map_nil, List.cons_append, List.nil_append, List.length_cons, List.length_nil, List.replicate, List.getElem?_cons_zero, List.getElem?_cons_succ, List.set_cons_zero, List.set_cons_succ, List.set_nil, List.getElem?_nil, Option.map_some, Option.map_none, Option.bind_some, Option.bind_none, if_true, if_false, Bool.false_eq_true, reduceIte, Nat.reduceAdd, Nat.reduceSub, Int.reduceAdd, Int.reduceNeg, ed]
  have s3 : (asgS (fun _ => freshD ([], [])) (nameG 5)) [some (.int ax), some dr, some (.dct [] []), some dt, some (known ns), none, none, none, none] vh = some (.nx [some (.int ax), some dr, some (.dct [] []), some dt, some (known ns), some (.ref vh.length), none, none, none], vh ++ [some (.dct [] [])]) := rfl
  have s4 : ∃ ks ρ', (lockL 3 (forS (argI enumIt (consA (var 3) nilA)) fG fB)) [some (.int ax), some dr, some (.dct [] []), some dt, some (known ns), some (.ref vh.length), none, none, none] (vh ++ [some (.dct [] [])]) = some (.nx ρ', vh ++ [some (.dct ks (ks.map fun _ => .bl true))]) := by
    have go : ∀ w, Lk vh w dt ts → ∃ a b, (forS (argI enumIt (consA (var 3) nilA)) fG fB) [some (.int ax), some dr, some (.dct [] []), some dt, some (known ns), some (.ref vh.length), none, none, none] (w ++ [some (.dct [] [])]) =
        some (.nx [some (.int ax), some dr, some (.dct [] []), some dt, some (known ns), some (.ref vh.length), a, b, none], w ++ [some (.dct (R.map fun r => ky r.nm) ((R.map fun r => ky r.nm).map fun _ => .bl true))]) := by
      intro w L
      have wl := L.len
      obtain ⟨ρ', vh', e, a, b, rfl, rfl⟩ := for_inv (g := fG) (b := fB) (items := enumL ts) (ρ := [some (.int ax), some dr, some (.dct [] []), some dt, some (known ns), some (.ref vh.length), none, none, none]) (vh := w ++ [some (.dct [] [])])
        (fun i ρ v => ∃ (a b : Option D), ρ = [some (.int ax), some dr, some (.dct [] []), some dt, some (known ns), some (.ref vh.length), a, b, none] ∧ v = w ++ [some (.dct ((R.take i).map fun r => ky r.nm) (((R.take i).map fun r => ky r.nm).map fun _ => .bl true))])
        ⟨none, none, rfl, rfl⟩ (fun i d ρ v hd ⟨a, b, e1, e2⟩ => by
          subst e1 e2
          obtain ⟨x, hx, rfl⟩ := enum_row hd
          have hi : i < R.length := by rw [← ra.len]; exact (List.getElem?_eq_some_iff.mp hx).1
          have hr : R[i]? = some R[i] := List.getElem?_eq_getElem hi
          generalize R[i] = r at hr
          have hk : ky r.nm ∉ (R.take i).map fun r => ky r.nm := fun m => by
            obtain ⟨y, hy, e⟩ := List.mem_map.mp m
            obtain ⟨j, hj⟩ := List.mem_iff_getElem?.mp hy
            rw [List.getElem?_take] at hj
            split at hj
            · have e := ky_inj e
              have p1 : (R.map Row.nm)[j]? = some y.nm := by rw [List.getElem?_map, hj]; rfl
              have p2 : (R.map Row.nm)[i]? = some r.nm := by rw [List.getElem?_map, hr]; rfl
              obtain ⟨q1, q2⟩ := List.getElem?_eq_some_iff.mp p1
              obtain ⟨q3, q4⟩ := List.getElem?_eq_some_iff.mp p2
              exact List.pairwise_iff_getElem.mp ndR j i q1 q3 (by assumption) (by rw [q2, q4, e])
            · cases hj
          have f := first_body (g r (List.mem_of_getElem? hr)) w (L.row pn (ra.at_ i x r hx hr)) ((R.take i).map fun r => ky r.nm) hk (by rw [List.length_map, List.length_take]; omega) (some dr) (some dt) (some (.int (i : Nat))) none
          rw [wl] at f
          refine ⟨_, _, _, rfl, f, some (.int (i : Nat)), some x, rfl, ?_⟩
          rw [List.take_add_one, hr]
          simp)
      refine ⟨a, b, ?_⟩
      have ee : enumIt [dt] (w ++ [some (.dct [] [])]) = some (enumL ts, w ++ [some (.dct [] [])]) := by
        rcases L with ⟨rfl | rfl, rfl⟩ | ⟨n, rfl, h, rfl⟩
        · rfl
        · exact absurd rfl (nt ts)
        · show (lckAt ((vh.set n _ ++ _)[n]?)).map _ = _
          rw [List.getElem?_append_left (by rw [List.length_set]; exact (List.getElem?_eq_some_iff.mp h).1), set_at h]
          rfl
      have el : (enumL ts).length = R.length := by rw [enum_len, ra.len]
      rw [el, List.take_length] at e
      unfold forS VL.bind
      have e1 : argI enumIt (consA (var 3) nilA) [some (.int ax), some dr, some (.dct [] []), some dt, some (known ns), some (.ref vh.length), none, none, none] (w ++ [some (.dct [] [])]) = some (enumL ts, w ++ [some (.dct [] [])]) := by simp only [VL.bind, VL.ret, VL.fail, denF, denA, den1, den2, denC, consA, nilA, var, kst, seqS, nopS, ifS, retS, asgS, nameG, subG, dropS, cmpT, valT, andB, orB, notB, toB, ifD, andD, orD, notD, methD, List.map_cons, List.map_nil, List.cons_append, List.nil_append, List.length_cons, List.length_nil, List.replicate, List.getElem?_cons_zero, List.getElem?_cons_succ, List.set_cons_zero, List.set_cons_succ, List.set_nil, List.getElem?_nil, Option.map_some, Option.map_none, Option.bind_some, Option.bind_none, if_true, if_false, Bool.false_eq_true, reduceIte, Nat.reduceAdd, Nat.reduceSub, Int.reduceAdd, Int.reduceNeg, argI, ee]
      rw [e1]
      exact e
    obtain ⟨w0, L0⟩ : ∃ w, Lk vh w dt ts := by
      rcases qt with h | h | ⟨n, h1, _, h3⟩
      · exact ⟨vh, Or.inl ⟨Or.inl h, rfl⟩⟩
      · exact ⟨vh, Or.inl ⟨Or.inr h, rfl⟩⟩
      · exact ⟨_, Or.inr ⟨n, h1, h3, rfl⟩⟩
    obtain ⟨a, b, e0⟩ := go w0 L0
    refine ⟨R.map fun r => ky r.nm, [some (.int ax), some dr, some (.dct [] []), some dt, some (known ns), some (.ref vh.length), a, b, none], lock_app (d := dt) rfl qt fun w L => ?_⟩
    have : w = w0 := by
      rcases L with ⟨h, rfl⟩ | ⟨n, h1, h2, rfl⟩
      · rcases L0 with ⟨_, rfl⟩ | ⟨m, g1, g2, rfl⟩
        · rfl
        · rcases h with h | h <;> (rw [g1] at h; cases h)
      · rcases L0 with ⟨h, rfl⟩ | ⟨m, g1, g2, rfl⟩
        · rcases h with h | h <;> (rw [h1] at h; cases h)
        · rw [h1] at g1
          cases g1
          rfl
    subst this
    exact e0
  obtain ⟨ks, ρ', s4⟩ := s4
  refine ⟨ks, denF_rt ?_⟩
  rw [g_first]
  exact (sq s1).trans ((sq s2).trans ((sq s3).trans ((sq s4).trans rfl)))
end K41

namespace K41
open PySem VL L2
theorem putF_new {f : Str} {d : D} : ∀ {ks : List Str} {vs : List D}, f ∉ ks → ks.length = vs.length → putFn ks f = ks ++ [f] ∧ putFv ks vs f d = vs ++ [d]
  | [], [], _, _ => ⟨rfl, rfl⟩
  | [], _ :: _, _, h => by cases h
  | _ :: _, [], _, h => by cases h
  | k :: ks, v :: vs, h, hl => by
    rw [List.mem_cons, not_or] at h
    have ih := putF_new (d := d) (ks := ks) (vs := vs) h.2 (by simpa using hl)
    have n : ¬ k = f := fun e => h.1 e.symm
    unfold putFn putFv
    rw [if_neg n, if_neg n, ih.1, ih.2]
    exact ⟨rfl, rfl⟩
theorem atv {vh u : VH} {x : Option MO} : (vh ++ x :: u)[vh.length]? = some x := by simp
theorem setv {vh u : VH} {x y : Option MO} : (vh ++ x :: u).set vh.length y = vh ++ y :: u := by simp
theorem setF {vh u : VH} {ks : List Str} {vs : List D} {f : Str} {d : D} (h : f ∉ ks) (hl : ks.length = vs.length) (h2 : ks.length < 1000) :
    setFD 0 f (.ref vh.length) d (vh ++ some (.obj 0 ks vs) :: u) = some (.non, vh ++ some (.obj 0 (ks ++ [f]) (vs ++ [d])) :: u) := by
  obtain ⟨p1, p2⟩ := putF_new (d := d) h hl
  unfold setFD
  simp only [atv, objAt, if_true, if_pos h2, setv, p1, p2]
def netD (ax : Int) (ns : List (List Nat)) (R : List Row) : D := .obj 0 ["axes", "_rooms", "_ties", "_named"] [.int ax, .tup (ns.map strD'), .tup (R.map Row.d), .dct (R.map fun r => ky r.nm) (R.map Row.d)]
def netO (ax : Int) (ns : List (List Nat)) (R : List Row) : MO := .obj 0 ["axes", "_rooms", "_ties", "_named"] [.int ax, .tup (ns.map strD'), .tup (R.map Row.d), .dct (R.map fun r => ky r.nm) (R.map Row.d)]
theorem tup_lst (xs : List D) (vh : VH) : tupleD [.lst xs] vh = some (.tup xs, vh) := rfl
theorem tup_tup (xs : List D) (vh : VH) : tupleD [.tup xs] vh = some (.tup xs, vh) := rfl
theorem mkTup4 (a b c d : D) : mkTup [a, b, c, d] = VL.ret (.tup [a, b, c, d]) := rfl
theorem mkTup3 (a b c : D) : mkTup [a, b, c] = VL.ret (.tup [a, b, c]) := rfl
theorem init_ok {P : Nat → Prop} {ns : List (List Nat)} {ax : Int} {R : List Row} {dr dt : D} {ts : List D} {vh : VH} (a0 : 0 ≤ ax) (a1 : ax ≤ 4) (n0 : 0 < ns.length) (hns : ns.length ≤ 1000) (nd : ns.Nodup) (hn : ∀ l ∈ ns, Nm l) (hR : R.length ≤ 1000) (ndR : (R.map Row.nm).Nodup) (g : ∀ r ∈ R, RowGood ns ax r)
    (qr : Sq (fun _ => True) vh dr (ns.map strD')) (qt : Sq (fun n => ¬ P n) vh dt ts) (nt : ∀ ys, dt ≠ .tup ys) (ra : RowsAt P vh ts R) :
    ∃ u, d_Net___init__ [.ref vh.length, .int ax, dr, dt] (vh ++ [some (.obj 0 [] [])]) =
      some (.non, vh ++ some (.obj 0 ["axes", "_rooms", "_ties", "_named"] [.int ax, .tup (ns.map strD'), .tup (R.map Row.d), .dct (R.map fun r => ky r.nm) (R.map Row.d)]) :: u) := by
  have ra' : ∀ u, RowsAt P (vh ++ u) ts R := fun u => ⟨ra.len, fun i d r h1 h2 => (ra.at_ i d r h1 h2).app⟩
  obtain ⟨ks, ef⟩ := first_ok (vh := vh ++ [some (.obj 0 [] [])]) nd hns hR ndR g qr.app qt.app nt (ra' _)
  refine ⟨[some (.dct ks (ks.map fun _ => .bl true))], ?_⟩
  have ef : d_first_no_tie [.int ax, dr, .dct [] [], dt] (vh ++ [some (.obj 0 [] [])]) = some (.non, vh ++ some (.obj 0 [] []) :: [some (.dct ks (ks.map fun _ => .bl true))]) := by
    rw [ef]
    simp
  have sd : stillD ([], []) = VL.ret (.dct [] []) := rfl
  have isn : isNotD .non .non = VL.ret (.bl false) := rfl
  have f1 := setF (vh := vh) (u := [some (.dct ks (ks.map fun _ => .bl true))]) (ks := []) (vs := []) (f := "axes") (d := .int ax) (by simp) rfl (by decide)
  have f2 := setF (vh := vh) (u := [some (.dct ks (ks.map fun _ => .bl true))]) (ks := ["axes"]) (vs := [.int ax]) (f := "_rooms") (d := .tup (ns.map strD')) (by decide +kernel) rfl (by decide)
  have f3 := setF (vh := vh) (u := [some (.dct ks (ks.map fun _ => .bl true))]) (ks := ["axes", "_rooms"]) (vs := [.int ax, .tup (ns.map strD')]) (f := "_ties") (d := .tup (R.map Row.d)) (by decide +kernel) rfl (by decide)
  have f4 := setF (vh := vh) (u := [some (.dct ks (ks.map fun _ => .bl true))]) (ks := ["axes", "_rooms", "_ties"]) (vs := [.int ax, .tup (ns.map strD'), .tup (R.map Row.d)]) (f := "_named") (d := .dct (R.map fun r => ky r.nm) (R.map Row.d)) (by decide +kernel) rfl (by decide)
  simp only [List.nil_append, List.cons_append] at f1 f2 f3 f4
  have ff : fldD 0 "_ties" (.ref vh.length) (vh ++ some (.obj 0 ["axes", "_rooms", "_ties"] [.int ax, .tup (ns.map strD'), .tup (R.map Row.d)]) :: [some (.dct ks (ks.map fun _ => .bl true))]) = some (.tup (R.map Row.d), vh ++ some (.obj 0 ["axes", "_rooms", "_ties"] [.int ax, .tup (ns.map strD'), .tup (R.map Row.d)]) :: [some (.dct ks (ks.map fun _ => .bl true))]) := by
    have lk : lookupF ["axes", "_rooms", "_ties"] [.int ax, .tup (ns.map strD'), .tup (R.map Row.d)] "_ties" = some (.tup (R.map Row.d)) := by
      unfold lookupF
      rw [if_neg (by decide +kernel)]
      unfold lookupF
      rw [if_neg (by decide +kernel)]
      unfold lookupF
      rw [if_pos rfl]
    unfold fldD
    simp only [objV, atv, objAt, if_true, lk, Option.map_some]
  have tr : ∀ u, tupleD [dr] (vh ++ u) = some (.tup (ns.map strD'), vh ++ u) := fun u => qr.app.tup
  -- the ties once more, and by their names
  have pn : ∀ n, P n → dt ≠ .ref n := fun n hn e => by
    rcases qt with h | h | ⟨m, h1, h2, _⟩
    · rw [h] at e; cases e
    · rw [h] at e; cases e
    · rw [h1] at e
      cases e
      exact h2 hn
  have lts : ts.length < line := by rw [ra.len]; show _ < 16777216; omega
  have e1 : ∀ (x4 : Option D) u, lockL 3 (lcD (seqI (var 3)) (unpG 4 (consG (nameG 6) (consG (nameG 7) (consG (nameG 8) (consG (nameG 9) nilG))))) yesT (denA mkTup (consA (var 6) (consA (var 7) (consA (var 8) (consA (denA tupleD (consA (var 9) nilA)) nilA))))) [6, 7, 8, 9] still0)
      [some (.ref vh.length), some (.int ax), some dr, some dt, x4, none, none, none, none, none] (vh ++ u) = some (.lst (R.map Row.d), vh ++ u) := by
    intro x4 u
    refine lock_app (d := dt) rfl qt fun w L => ?_
    have it : seqIt dt (w ++ u) = some (ts, w ++ u) := by
      rcases L with ⟨rfl | rfl, rfl⟩ | ⟨n, rfl, h, rfl⟩
      · rfl
      · rfl
      · show (lckAt ((vh.set n _ ++ _)[n]?)).map _ = _
        rw [List.getElem?_append_left (by rw [List.length_set]; exact (List.getElem?_eq_some_iff.mp h).1), set_at h]
        rfl
    have main : ∀ (xs : List D) (S : List Row), RowsAt P w xs S → compL (unpG 4 (consG (nameG 6) (consG (nameG 7) (consG (nameG 8) (consG (nameG 9) nilG))))) yesT (denA mkTup (consA (var 6) (consA (var 7) (consA (var 8) (consA (denA tupleD (consA (var 9) nilA)) nilA)))))
        [some (.ref vh.length), some (.int ax), some dr, some dt, x4, none, none, none, none, none] xs (w ++ u) = some (S.map Row.d, w ++ u) := by
      intro xs
      induction xs with
      | nil =>
        intro S h
        have : S = [] := List.eq_nil_of_length_eq_zero h.len.symm
        subst this
        rfl
      | cons x xs ih =>
        intro S h
        cases S with
        | nil => exact absurd h.len (by simp)
        | cons r S =>
          obtain ⟨e, ha, hb⟩ := h.at_ 0 x r rfl rfl
          have ih := ih S ⟨by simpa using h.len, fun i d r h1 h2 => h.at_ (i + 1) d r (by simpa using h1) (by simpa using h2)⟩
          have un : unpG 4 (consG (nameG 6) (consG (nameG 7) (consG (nameG 8) (consG (nameG 9) nilG)))) x [some (.ref vh.length), some (.int ax), some dr, some dt, x4, none, none, none, none, none] (w ++ u) =
              some ([some (.ref vh.length), some (.int ax), some dr, some dt, x4, none, some (strD' r.nm), some (strD' r.st), some (strD' r.en), some e], w ++ u) := by
            unfold unpG
            simp only [ha.app.seq]
            rfl
          have te : tupleD [e] (w ++ u) = some (.tup (r.step.map D.int), w ++ u) := hb.app.tup
          have y1 : ∀ ρ', yesT ρ' (w ++ u) = some (true, w ++ u) := fun _ => rfl
          have el : (denA mkTup (consA (var 6) (consA (var 7) (consA (var 8) (consA (denA tupleD (consA (var 9) nilA)) nilA))))) [some (.ref vh.length), some (.int ax), some dr, some dt, x4, none, some (strD' r.nm), some (strD' r.st), some (strD' r.en), some e] (w ++ u) = some (r.d, w ++ u) := by
            simp only [VL.bind, VL.ret, VL.fail, denF, denA, den1, den2, denC, consA, nilA, var, kst, seqS, nopS, ifS, retS, asgS, nameG, subG, dropS, cmpT, valT, andB, orB, notB, toB, ifD, andD, orD, notD, methD, List.map_cons, List.map_nil, List.cons_append, List.nil_append, List.length_cons, List.length_nil, List.replicate, List.getElem?_cons_zero, List.getElem?_cons_succ, List.set_cons_zero, List.set_cons_succ, List.set_nil, List.getElem?_nil, Option.map_some, Option.map_none, Option.bind_some, Option.bind_none, if_true, if_false, Bool.false_eq_true, reduceIte, Nat.reduceAdd, Nat.reduceSub, Int.reduceAdd, Int.reduceNeg, te, mkTup4]
            rfl
          simp only [compL, VL.bind, un, y1, if_true, el, ih, VL.ret, List.map_cons]
    have z := main ts R ⟨ra.len, fun i d r h1 h2 => L.row pn (ra.at_ i d r h1 h2)⟩
    have ev1 : (seqI (var 3)) [some (.ref vh.length), some (.int ax), some dr, some dt, x4, none, none, none, none, none] (w ++ u) = some (ts, w ++ u) := by simp only [VL.bind, VL.ret, VL.fail, denF, denA, den1, den2, denC, consA, nilA, var, kst, seqS, nopS, ifS, retS, asgS, nameG, subG, dropS, cmpT, valT, andB, orB, notB, toB, ifD, andD, orD, notD, methD, List.map_cons, List.map_nil, List.cons_append, List.nil_append, List.length_cons, List.length_nil, List.replicate, List.getElem?_cons_zero, List.getElem?_cons_succ, List.set_cons_zero, List.set_cons_succ, List.set_nil, List.getElem?_nil, Option.map_some, Option.map_none, Option.bind_some, Option.bind_none, if_true, if_false, Bool.false_eq_true, reduceIte, Nat.reduceAdd, Nat.reduceSub, Int.reduceAdd, Int.reduceNeg, seqI, it]
    exact lc_eq (mk := still0) (vs := [6, 7, 8, 9]) ev1 lts z
  have z2 := dcomp_nd (g := nameG 5) (ek := den2 ixD (var 5) (kst (.int 0))) (ev := var 5) (ρ := wipeR [some (.ref vh.length), some (.int ax), some dr, some dt, some .non, none, none, none, none, none] [5]) (vh := vh ++ some (.obj 0 ["axes", "_rooms", "_ties"] [.int ax, .tup (ns.map strD'), .tup (R.map Row.d)]) :: [some (.dct ks (ks.map fun _ => .bl true))])
    (kf := fun d => match d with | .tup (.str s :: _) => .inr s | _ => .inl 0) (vf := fun d => d) (R.map Row.d) [] [] (fun d hd => by
      obtain ⟨r, hr, rfl⟩ := List.mem_map.mp hd
      have i0 : ∀ w, ixD r.d (.int 0) w = some (strD' r.nm, w) := fun _ => rfl
      exact ⟨[some (.ref vh.length), some (.int ax), some dr, some dt, some .non, some r.d, none, none, none, none], strD' r.nm, rfl, by simp only [VL.bind, VL.ret, VL.fail, denF, denA, den1, den2, denC, consA, nilA, var, kst, seqS, nopS, ifS, retS, asgS, nameG, subG, dropS, cmpT, valT, andB, orB, notB, toB, ifD, andD, orD, notD, methD, List.map_cons, List.map_nil, List.cons_append, List.nil_append, List.length_cons, List.length_nil, List.replicate, List.getElem?_cons_zero, List.getElem?_cons_succ, List.set_cons_zero, List.set_cons_succ, List.set_nil, List.getElem?_nil, Option.map_some, Option.map_none, Option.bind_some, Option.bind_none, if_true, if_false, Bool.false_eq_true, reduceIte, Nat.reduceAdd, Nat.reduceSub, Int.reduceAdd, Int.reduceNeg, i0], rfl, rfl⟩) (by
      rw [List.map_map]
      have : (R.map ((fun d => match d with | .tup (.str s :: _) => (.inr s : Key) | _ => .inl 0) ∘ Row.d)) = (R.map Row.nm).map ky := by rw [List.map_map]; rfl
      rw [this]
      exact nd_map (fun a b h => ky_inj h) ndR) (by simp)
  have e2 := dc_eq (f := seqI (den1 (fldD 0 "_ties") (var 0))) (mk := stillD) (vs := [5]) (ρ := [some (.ref vh.length), some (.int ax), some dr, some dt, some .non, none, none, none, none, none]) (vh := vh ++ some (.obj 0 ["axes", "_rooms", "_ties"] [.int ax, .tup (ns.map strD'), .tup (R.map Row.d)]) :: [some (.dct ks (ks.map fun _ => .bl true))]) (by simp only [VL.bind, VL.ret, VL.fail, denF, denA, den1, den2, denC, consA, nilA, var, kst, seqS, nopS, ifS, retS, asgS, nameG, subG, dropS, cmpT, valT, andB, orB, notB, toB, ifD, andD, orD, notD, methD, List.map_cons, List.map_nil, List.cons_append, List.nil_append, List.length_cons, List.length_nil, List.replicate, List.getElem?_cons_zero, List.getElem?_cons_succ, List.set_cons_zero, List.set_cons_succ, List.set_nil, List.getElem?_nil, Option.map_some, Option.map_none, Option.bind_some, Option.bind_none, if_true, if_false, Bool.false_eq_true, reduceIte, Nat.reduceAdd, Nat.reduceSub, Int.reduceAdd, Int.reduceNeg, seqI, ff, seqIt]) (by rw [List.length_map]; show _ < 16777216; omega) z2
  have e3 : stillD ([] ++ (R.map Row.d).map (fun d => match d with | .tup (.str s :: _) => (.inr s : Key) | _ => .inl 0), [] ++ (R.map Row.d).map fun d => d) = VL.ret (.dct (R.map fun r => ky r.nm) (R.map Row.d)) := by
    rw [List.map_map, List.map_id']
    rfl
  rw [e3] at e2
  simp only [VL.bind, VL.ret, VL.fail, denF, denA, den1, den2, denC, consA, nilA, var, kst, seqS, nopS, ifS, retS, asgS, nameG, subG, dropS, cmpT, valT, andB, orB, notB, toB, ifD, andD, orD, notD, methD, List.map_cons, List.map_nil, List.cons_append, List.nil_append, List.length_cons, List.length_nil, List.replicate, List.getElem?_cons_zero, List.getElem?_cons_succ, List.set_cons_zero, List.set_cons_succ, List.set_nil, List.getElem?_nil, Option.map_some, Option.map_none, Option.bind_some, Option.bind_none, if_true, if_false, Bool.false_eq_true, reduceIte, Nat.reduceAdd, Nat.reduceSub, Int.reduceAdd, Int.reduceNeg, d_Net___init__, g_Net___init__, between_int a0 a1, Bool.not_true, rooms_ok n0 hns nd hn qr.app, sd, ef, isn, fldS, f1, tr, tup_lst, f2, e1, f3, e2, f4]
/-- a net that is made -/
theorem mk_ok {P : Nat → Prop} {ns : List (List Nat)} {ax : Int} {R : List Row} {dr dt : D} {ts : List D} {vh : VH} (a0 : 0 ≤ ax) (a1 : ax ≤ 4) (n0 : 0 < ns.length) (hns : ns.length ≤ 1000) (nd : ns.Nodup) (hn : ∀ l ∈ ns, Nm l) (hR : R.length ≤ 1000) (ndR : (R.map Row.nm).Nodup) (g : ∀ r ∈ R, RowGood ns ax r)
    (qr : Sq (fun _ => True) vh dr (ns.map strD')) (qt : Sq (fun n => ¬ P n) vh dt ts) (nt : ∀ ys, dt ≠ .tup ys) (ra : RowsAt P vh ts R) :
    ∃ u, mkD 0 4 d_Net___init__ [.int ax, dr, dt] vh = some (netD ax ns R, vh ++ u) := by
  obtain ⟨u, e⟩ := init_ok a0 a1 n0 hns nd hn hR ndR g qr qt nt ra
  refine ⟨none :: u, ?_⟩
  have dn : denC 4 d_Net___init__ [.ref vh.length, .int ax, dr, dt] = d_Net___init__ [.ref vh.length, .int ax, dr, dt] := if_pos rfl
  unfold mkD
  rw [dn, e]
  show (match (vh ++ some (netO ax ns R) :: u)[vh.length]? with
    | some (some o) => (stillO o).map fun d => (d, List.set (vh ++ some (netO ax ns R) :: u) vh.length none)
    | _ => none) = _
  rw [atv]
  show some (netD ax ns R, List.set _ _ _) = _
  rw [setv]
theorem rowsF {P : Nat → Prop} {vh : VH} (R : List Row) : RowsAt P vh (R.map Row.d) R := ⟨by simp, fun i d r h1 h2 => by
  rw [List.getElem?_map, h2] at h1
  cases h1
  exact RowAt.frozen r⟩
/-- .. of frozen lists -/
theorem mkF_ok {ns : List (List Nat)} {ax : Int} {R : List Row} {vh : VH} (a0 : 0 ≤ ax) (a1 : ax ≤ 4) (n0 : 0 < ns.length) (hns : ns.length ≤ 1000) (nd : ns.Nodup) (hn : ∀ l ∈ ns, Nm l) (hR : R.length ≤ 1000) (ndR : (R.map Row.nm).Nodup) (g : ∀ r ∈ R, RowGood ns ax r) :
    ∃ u, mkD 0 4 d_Net___init__ [.int ax, .lst (ns.map strD'), .lst (R.map Row.d)] vh = some (netD ax ns R, vh ++ u) :=
  mk_ok (P := fun _ => False) a0 a1 n0 hns nd hn hR ndR g (Or.inl rfl) (Or.inl rfl) (fun _ e => by cases e) (rowsF R)
end K41

namespace K41
open PySem VL L2
def planD (ax : Int) (ns : List (List Nat)) (R : List Row) : D := .tup [.int ax, .lst (ns.map strD'), .lst (R.map Row.d)]
theorem pl0 {ax : Int} {ns : List (List Nat)} {R : List Row} (w : VH) : ixD (planD ax ns R) (.int 0) w = some (.int ax, w) := rfl
theorem pl1 {ax : Int} {ns : List (List Nat)} {R : List Row} (w : VH) : ixD (planD ax ns R) (.int 1) w = some (.lst (ns.map strD'), w) := rfl
theorem pl2 {ax : Int} {ns : List (List Nat)} {R : List Row} (w : VH) : ixD (planD ax ns R) (.int 2) w = some (.lst (R.map Row.d), w) := rfl
theorem rw0 {r : Row} (w : VH) : ixD r.d (.int 0) w = some (strD' r.nm, w) := rfl
theorem rw1 {r : Row} (w : VH) : ixD r.d (.int 1) w = some (strD' r.st, w) := rfl
theorem rw2 {r : Row} (w : VH) : ixD r.d (.int 2) w = some (strD' r.en, w) := rfl
theorem rw3 {r : Row} (w : VH) : ixD r.d (.int 3) w = some (.tup (r.step.map D.int), w) := rfl
/-! ### comparing texts and rows -/
theorem sg_small : ∀ c ∈ Sg, c < 0x110000 := by decide +kernel
theorem strOk_nm {l : List Nat} (h : Nm l) : PyData.strOk (SX.S l) = true := by
  show l.toArray.all (fun c => decide (c < 0x110000)) = true
  rw [List.all_toArray, List.all_eq_true]
  exact fun c hc => decide_eq_true (sg_small c (h.ok c hc))
theorem shaped_nm {l : List Nat} (h : Nm l) : SeqAt.shaped (.str (SX.S l)) = true := by
  have a : PyData.canLay0 (.str (SX.S l)) = true := strOk_nm h
  have b : PyData.depth (.str (SX.S l)) = 0 := by rw [PyData.depth]
  unfold SeqAt.shaped
  rw [a, b]
  rfl
theorem eq_str {a b : List Nat} (ha : Nm a) (hb : Nm b) (w : VH) : eqD (strD' a) (strD' b) w = some (.bl (decide (a = b)), w) := by
  have e : eqPy w (strD' a) (strD' b) = some (decide (a = b)) := by
    have t1 : topPy w (strD' a) = some (.str (SX.S a)) := rfl
    have t2 : topPy w (strD' b) = some (.str (SX.S b)) := rfl
    unfold eqPy
    simp only [t1, t2, shaped_nm ha, shaped_nm hb, Bool.and_self, if_true]
    show some (SX.S a == SX.S b) = _
    congr 1
    by_cases h : a = b
    · subst h
      simp
    · rw [decide_eq_false h]
      exact beq_eq_false_iff_ne.mpr fun e => h (SX.S_inj e)
  unfold eqD
  rw [e]
theorem ne_str {a b : List Nat} (ha : Nm a) (hb : Nm b) (w : VH) : neD (strD' a) (strD' b) w = some (.bl (!decide (a = b)), w) := by
  have e := eq_str ha hb w
  unfold eqD at e
  unfold neD
  cases h : eqPy w (strD' a) (strD' b) with
  | none => rw [h] at e; cases e
  | some r =>
    rw [h] at e
    injection e with e
    injection e with e1 e2
    injection e1 with e1
    rw [e1]
/-- a row whose texts are names -/
structure RowNm (r : Row) : Prop where
  nm : Nm r.nm
  st : Nm r.st
  en : Nm r.en
def pyRow (r : Row) : PyData := .tuple [.str (SX.S r.nm), .str (SX.S r.st), .str (SX.S r.en), .tuple (r.step.map PyData.int)]
theorem toPy_row (r : Row) : toPy r.d = some (pyRow r) := by
  have e : toPys [strD' r.nm, strD' r.st, strD' r.en, .tup (r.step.map D.int)] = some [.str (SX.S r.nm), .str (SX.S r.st), .str (SX.S r.en), .tuple (r.step.map PyData.int)] := by
    have e4 : toPy (.tup (r.step.map D.int)) = some (.tuple (r.step.map PyData.int)) := by
      unfold toPy
      rw [toPys_ints]
      rfl
    unfold toPys strD' toPy
    unfold toPys toPy
    unfold toPys toPy
    unfold toPys
    rw [e4]
    unfold toPys
    rfl
  unfold Row.d toPy
  rw [e]
  rfl
theorem toPys_rows : ∀ rs : List Row, toPys (rs.map Row.d) = some (rs.map pyRow)
  | [] => by unfold toPys; rfl
  | r :: rs => by
    rw [List.map_cons]
    unfold toPys
    rw [toPy_row, toPys_rows rs]
    rfl
theorem lay_row {r : Row} (h : RowNm r) : PyData.canLay0 (pyRow r) = true ∧ PyData.depth (pyRow r) = 2 := by
  constructor
  · unfold pyRow
    simp only [PyData.canLay0, PyData.canLayAll0, strOk_nm h.nm, strOk_nm h.st, strOk_nm h.en, canLay_ints, Bool.and_self]
  · unfold pyRow
    simp only [PyData.depth, PyData.depthAll, depth_ints]
    rfl
theorem lay_rows : ∀ {rs : List Row}, (∀ r ∈ rs, RowNm r) → PyData.canLayAll0 (rs.map pyRow) = true ∧ PyData.depthAll (rs.map pyRow) ≤ 2
  | [], _ => ⟨by simp [PyData.canLayAll0], by simp [PyData.depthAll]⟩
  | r :: rs, h => by
    obtain ⟨a, b⟩ := lay_row (h r (List.mem_cons_self ..))
    obtain ⟨c, d⟩ := lay_rows fun x hx => h x (List.mem_cons_of_mem _ hx)
    rw [List.map_cons, PyData.canLayAll0, PyData.depthAll, a, b, c]
    exact ⟨rfl, by omega⟩
theorem ne_rows {rs : List Row} (h : ∀ r ∈ rs, RowNm r) (w : VH) : neD (.lst (rs.map Row.d)) (.lst []) w = some (.bl (decide (rs ≠ [])), w) := by
  obtain ⟨c, d⟩ := lay_rows h
  have a : topPy w (.lst (rs.map Row.d)) = some (.list (rs.map pyRow)) := by
    show toPy _ = _
    unfold toPy
    rw [toPys_rows]
    rfl
  have b : topPy w (.lst []) = some (.list []) := rfl
  have s1 : SeqAt.shaped (.list (rs.map pyRow)) = true := by
    have x : PyData.canLay0 (.list (rs.map pyRow)) = true := c
    unfold SeqAt.shaped
    rw [x, PyData.depth]
    simp only [Bool.true_and, decide_eq_true_eq]
    omega
  have s2 : SeqAt.shaped (.list ([] : List PyData)) = true := shaped_ints []
  unfold neD eqPy
  simp only [a, b, s1, s2, Bool.and_self, if_true]
  cases rs <;> rfl
end K41

namespace K41
open PySem VL L2
def c1 : Bk := (asgS (den2 addD (kst (.int 1)) (denA (denC 2 d__law_draw) (consA (var 1) (consA (kst (.int 3)) nilA)))) (nameG 4))
def c2 : Bk := (asgS (denA (denC 5 d__law_n_plan) (consA (var 1) (consA (var 4) (consA (kst (.int 3)) (consA (kst (.int 5)) (consA (kst (.int 2)) nilA)))))) (nameG 5))
def c3 : Bk := (asgS (denA mkTup (consA (denA (denC 1 d__law_n_made) (consA (var 5) nilA)) (consA (lcD (seqI (den2 ixD (var 5) (kst (.int 2)))) (nameG 13) yesT (den2 ixD (var 13) (kst (.int 0))) [13] still0) nilA))) (unpG 2 (consG (nameG 6) (consG (nameG 7) nilG))))
def c4 : Bk := (asgS (den2 mulD (denA mkLst (consA (kst (.int 2)) nilA)) (var 4)) (nameG 8))
def c5 : Bk := (asgS (denA mkLst (consA (kst .non) (consA (kst (.int 5)) (consA (kst (.str "12")) (consA (fun _ => stillD ([], [])) (consA (den2 addD (var 8) (denA mkLst (consA (kst (.int 1)) nilA))) (consA (sliceD (var 8) (optI (kst (.int 1))) noI) (consA (den2 addD (sliceD (var 8) (optI (kst (.int 1))) noI) (denA mkLst (consA (kst (.int 0)) nilA))) (consA (den2 addD (sliceD (var 8) (optI (kst (.int 1))) noI) (denA mkLst (consA (den1 negD (kst (.int 1))) nilA))) nilA))))))))) (nameG 9))
def b6I : Rho → M (List D) := (seqI (den2 addD (var 9) (denA mkLst (consA (den2 addD (sliceD (var 8) (optI (kst (.int 1))) noI) (denA mkLst (consA (kst (.bl true)) nilA))) (consA (den2 mulD (denA mkLst (consA (kst .non) nilA)) (var 4)) nilA)))))
def b6_1 : Bk := (asgS (denA mkLstM (consA (lamD qsL t__law_tried (callX (denCX 2 x_box_way) (okE (consA (var 6) (consA (var 10) nilA))))) nilA)) (nameG 3))
def b6_2 : Bk := (dropS (methD isLst (var 3) (consA (lamD qsL t__law_tried (callX (denCX 3 x_is_box_way) (okE (consA (var 6) (consA (var 10) (consA (kst .non) nilA)))))) nilA) appendD))
def b6_3 : Bk := (dropS (methD isLst (var 3) (consA (lamD qsL t__law_tried (callX (denCX 2 x_longest_way) (okE (consA (var 6) (consA (var 10) nilA))))) nilA) appendD))
def b6_4 : Bk := (ifS (notB (valT (denA (denC 2 (d__law_same 6)) (consA (denA (denC 1 (d__law_frozen 5)) (consA (var 3) nilA)) (consA (denA (denC 1 (d__law_frozen 5)) (consA (den2 mulD (denA mkLst (consA (denA mkTup (consA (kst (.str "sizes")) (consA (var 10) nilA))) nilA)) (kst (.int 3))) nilA)) nilA)))))
  (retS (kst (.bl false))) nopS)
def b6B : Bk := (seqS b6_1 (seqS b6_2 (seqS b6_3 b6_4)))
def b6 : Bk := forS b6I (nameG 10) b6B
def b7I : Rho → M (List D) := (seqI (denA mkLst (consA (kst .non) (consA (den1 negD (kst (.int 1))) (consA (var 4) (consA (kst (.str "0")) (consA (kst (.bl true)) (consA (denA mkTup (consA (kst (.int 0)) nilA)) (consA (denA mkLst (consA (kst (.int 0)) nilA)) (consA (fun _ => stillD ([], [])) nilA))))))))))
def b7B : Bk := (ifS (notB (valT (denA (denC 2 (d__law_same 6)) (consA (denA (denC 1 (d__law_frozen 5)) (consA (lamD qsL t__law_tried (callX (denCX 3 x_boxed) (okE (consA (var 6) (consA (var 10) (consA (kst .non) nilA)))))) nilA)) (consA (denA mkTup (consA (kst (.str "axis")) (consA (denA (denC 1 (d__law_frozen 5)) (consA (var 10) nilA)) nilA))) nilA)))))
  (retS (kst (.bl false))) nopS)
def b7 : Bk := forS b7I (nameG 10) b7B
def b8I : Rho → M (List D) := (seqI (denA mkLst (consA (kst .non) (consA (kst (.int 0)) (consA (den1 negD (kst (.int 1))) (consA (kst (.int 41)) (consA (kst (.str "1")) (consA (kst (.bl true)) (consA (denA mkTup (consA (kst (.int 1)) nilA)) (consA (denA mkLst (consA (kst (.int 1)) nilA)) (consA (fun _ => stillD ([], [])) nilA)))))))))))
def b8B : Bk := (ifS (notB (valT (denA (denC 2 (d__law_same 6)) (consA (denA (denC 1 (d__law_frozen 5)) (consA (lamD qsL t__law_tried (callX (denCX 3 x_boxed) (okE (consA (var 6) (consA (kst (.int 0)) (consA (var 10) nilA)))))) nilA)) (consA (denA mkTup (consA (kst (.str "number")) (consA (denA (denC 1 (d__law_frozen 5)) (consA (var 10) nilA)) nilA))) nilA)))))
  (retS (kst (.bl false))) nopS)
def b8 : Bk := forS b8I (nameG 10) b8B
def b9I : Rho → M (List D) := (seqI (denA mkLst (consA (kst .non) (consA (kst (.int 5)) (consA (den2 ixD (var 7) (kst (.int 0))) (consA (fun _ => stillD ([], [])) (consA (kst (.bl true)) nilA)))))))
def b9B : Bk := (ifS (notB (valT (denA (denC 2 (d__law_same 6)) (consA (lamD qsL t__law_tried (callX (denCX 2 x_cuts) (okE (consA (var 6) (consA (var 10) nilA))))) (consA (denA mkTup (consA (kst (.str "tie")) (consA (var 10) nilA))) nilA)))))
  (retS (kst (.bl false))) nopS)
def b9 : Bk := forS b9I (nameG 10) b9B
def b10I : Rho → M (List D) := (seqI (denA mkLst (consA (kst .non) (consA (kst (.int 5)) (consA (kst (.str "")) (consA (kst (.str "Q")) (consA (den2 addD (den2 ixD (var 7) (kst (.int 0))) (kst (.str "qq"))) (consA (denA mkLst (consA (den2 ixD (var 7) (kst (.int 0))) nilA)) (consA (denA mkTup (consA (den2 ixD (var 7) (kst (.int 0))) nilA)) (consA (kst (.bl true)) (consA (den2 ixD (var 7) (kst (.int 0))) nilA)))))))))))
def b10_1 : Bk := (asgS (den2 addD (kst (.int 1)) (denA (denC 2 d__law_draw) (consA (var 1) (consA (denA lenD (consA (var 7) nilA)) nilA)))) (nameG 11))
def b10_2 : Bk := (asgS (den2 addD (den2 addD (den2 addD (sliceD (var 7) noI (optI (var 11))) (denA mkLst (consA (var 10) nilA))) (sliceD (var 7) (optI (var 11)) noI)) (denA mkLst (consA (kst .non) nilA))) (nameG 12))
def b10_3 : Bk := (ifS (notB (valT (denA (denC 2 (d__law_same 6)) (consA (denA (denC 1 (d__law_frozen 5)) (consA (lamD qsL t__law_tried (callX (denCX 2 x_cuts) (okE (consA (var 6) (consA (var 12) nilA))))) nilA)) (consA (denA mkTup (consA (kst (.str "tie")) (consA (denA (denC 1 (d__law_frozen 5)) (consA (var 10) nilA)) nilA))) nilA)))))
  (retS (kst (.bl false))) nopS)
def b10B : Bk := (seqS b10_1 (seqS b10_2 b10_3))
def b10 : Bk := forS b10I (nameG 10) b10B
def b11 : Bk := (ifS (cmpT neD (omethD 0 "ties" 1 d_Net_ties (var 6) nilA) (den2 ixD (var 5) (kst (.int 2))))
  (retS (kst (.bl false))) nopS)
def turnB : Bk := (seqS c1 (seqS c2 (seqS c3 (seqS c4 (seqS c5 (seqS b6 (seqS b7 (seqS b8 (seqS b9 (seqS b10 b11))))))))))
def z1 : Bk := (asgS (lamD qsL t__law_tried (callX (denCX 2 x_box_way) (okE (consA (denA (mkD 0 4 d_Net___init__) (consA (kst (.int 0)) (consA (denA mkLst (consA (kst (.str "a")) nilA)) (consA (denA mkLst nilA) nilA)))) (consA (denA mkLst (consA (kst (.int 1)) nilA)) nilA))))) (nameG 3))
def z2 : Bk := (retS (denA (denC 2 (d__law_same 6)) (consA (denA (denC 1 (d__law_frozen 5)) (consA (var 3) nilA)) (consA (denA mkTup (consA (kst (.str "sizes")) (consA (denA mkTup (consA (kst (.int 1)) nilA)) nilA))) nilA))))
theorem g_law_eq (L : List D → M D) : g_law L = seqS (asgS (denA (denC 1 (d__law_start L)) (consA (var 0) nilA)) (nameG 1)) (seqS (forS (argI range1It (consA (kst (.int 4)) nilA)) (nameG 2) turnB) (seqS z1 z2)) := rfl
theorem comp_of {α : Type} {g : Tg} {e : Rho → M D} {ρ : Rho} {vh : VH} {a b : α → D} : ∀ (xs : List α), (∀ x ∈ xs, ∃ ρ', g (a x) ρ vh = some (ρ', vh) ∧ e ρ' vh = some (b x, vh)) → compL g yesT e ρ (xs.map a) vh = some (xs.map b, vh)
  | [], _ => rfl
  | x :: xs, h => by
    obtain ⟨ρ', e1, e2⟩ := h x (List.mem_cons_self ..)
    have ih := comp_of (a := a) (b := b) xs fun y hy => h y (List.mem_cons_of_mem _ hy)
    have y1 : yesT ρ' vh = some (true, vh) := rfl
    rw [List.map_cons, List.map_cons]
    simp only [compL, VL.bind, e1, y1, if_true, e2, ih, VL.ret]
theorem val_row : ∀ {R : List Row} {r : Row}, (R.map Row.nm).Nodup → r ∈ R → valD (R.map fun r => ky r.nm) (R.map Row.d) (ky r.nm) = some r.d
  | [], _, _, h => by cases h
  | x :: R, r, nd, h => by
    rw [List.map_cons] at nd
    obtain ⟨n1, n2⟩ := List.nodup_cons.mp nd
    rw [List.map_cons, List.map_cons]
    unfold valD
    by_cases e : ky x.nm = ky r.nm
    · rw [if_pos e]
      rcases List.mem_cons.mp h with rfl | z
      · rfl
      · exact absurd (List.mem_map_of_mem (f := Row.nm) z) (by rw [← ky_inj e]; exact n1)
    · rw [if_neg e]
      rcases List.mem_cons.mp h with rfl | z
      · exact absurd rfl e
      · exact val_row n2 z
section
variable {ax : Int} {ns : List (List Nat)} {R : List Row}
def netK : List Str := ["axes", "_rooms", "_ties", "_named"]
def netV (ax : Int) (ns : List (List Nat)) (R : List Row) : List D := [.int ax, .tup (ns.map strD'), .tup (R.map Row.d), .dct (R.map fun r => ky r.nm) (R.map Row.d)]
theorem net_obj (w : VH) : objV 0 w (netD ax ns R) = some (netK, netV ax ns R) := rfl
theorem lkA : lookupF netK (netV ax ns R) "axes" = some (.int ax) := by
  unfold netK netV lookupF
  rw [if_pos rfl]
theorem lkN : lookupF netK (netV ax ns R) "_named" = some (.dct (R.map fun r => ky r.nm) (R.map Row.d)) := by
  unfold netK netV lookupF
  rw [if_neg (by decide +kernel)]
  unfold lookupF
  rw [if_neg (by decide +kernel)]
  unfold lookupF
  rw [if_neg (by decide +kernel)]
  unfold lookupF
  rw [if_pos rfl]
theorem net_axes (w : VH) : fldD 0 "axes" (netD ax ns R) w = some (.int ax, w) := by
  unfold fldD
  simp only [net_obj, lkA, Option.map_some]
theorem net_named (w : VH) : fldD 0 "_named" (netD ax ns R) w = some (.dct (R.map fun r => ky r.nm) (R.map Row.d), w) := by
  unfold fldD
  simp only [net_obj, lkN, Option.map_some]
theorem has_ok (nd : (R.map Row.nm).Nodup) {r : Row} (h : r ∈ R) (w : VH) : d_Net___contains__ [netD ax ns R, strD' r.nm] w = some (.bl true, w) := by
  have z := key_ok (l := r.nm) (tb := .dct (R.map fun r => ky r.nm) (R.map Row.d)) (vh := w) rfl rfl (fun z e => by cases e)
  have v : valD (R.map fun r => ky r.nm) (R.map Row.d) (.inr (SX.S r.nm)) = some r.d := val_row nd h
  rw [v] at z
  simp only [VL.bind, VL.ret, VL.fail, denF, denA, den1, den2, denC, consA, nilA, var, kst, seqS, nopS, ifS, retS, asgS, nameG, subG, dropS, cmpT, valT, andB, orB, notB, toB, ifD, andD, orD, notD, methD, List.map_cons, List.map_nil, List.cons_append, List.nil_append, List.length_cons, List.length_nil, List.replicate, List.getElem?_cons_zero, List.getElem?_cons_succ, List.set_cons_zero, List.set_cons_succ, List.set_nil, List.getElem?_nil, Option.map_some, Option.map_none, Option.bind_some, Option.bind_none, if_true, if_false, Bool.false_eq_true, reduceIte, Nat.reduceAdd, Nat.reduceSub, Int.reduceAdd, Int.reduceNeg, d_Net___contains__, g_Net___contains__, net_named, z]
  rfl
theorem lkT : lookupF netK (netV ax ns R) "_ties" = some (.tup (R.map Row.d)) := by
  unfold netK netV lookupF
  rw [if_neg (by decide +kernel)]
  unfold lookupF
  rw [if_neg (by decide +kernel)]
  unfold lookupF
  rw [if_pos rfl]
theorem net_ties (w : VH) : fldD 0 "_ties" (netD ax ns R) w = some (.tup (R.map Row.d), w) := by
  unfold fldD
  simp only [net_obj, lkT, Option.map_some]
theorem ties_r (w : VH) : d_Net_ties [netD ax ns R] w = some (.lst (R.map Row.d), w) := by
  have e : ∀ xs : List D, listD [.tup xs] w = some (.lst xs, w) := fun _ => rfl
  simp only [VL.bind, VL.ret, VL.fail, denF, denA, den1, den2, denC, consA, nilA, var, kst, seqS, nopS, ifS, retS, asgS, nameG, subG, dropS, cmpT, valT, andB, orB, notB, toB, ifD, andD, orD, notD, methD, List.map_cons, List.map_nil, List.cons_append, List.nil_append, List.length_cons, List.length_nil, List.replicate, List.getElem?_cons_zero, List.getElem?_cons_succ, List.set_cons_zero, List.set_cons_succ, List.set_nil, List.getElem?_nil, Option.map_some, Option.map_none, Option.bind_some, Option.bind_none, if_true, if_false, Bool.false_eq_true, reduceIte, Nat.reduceAdd, Nat.reduceSub, Int.reduceAdd, Int.reduceNeg, d_Net_ties, g_Net_ties, net_ties, e]
end
noncomputable def dB (p : Prop) : Bool := @decide p (Classical.propDecidable p)
theorem dB_pos {p : Prop} (h : p) : dB p = true := @decide_eq_true p (Classical.propDecidable p) h
theorem dB_neg {p : Prop} (h : ¬ p) : dB p = false := @decide_eq_false p (Classical.propDecidable p) h
theorem dB_of {p : Prop} {b : Bool} (h1 : p → b = true) (h2 : ¬ p → b = false) : b = dB p := by
  by_cases h : p
  · rw [dB_pos h, h1 h]
  · rw [dB_neg h, h2 h]
theorem eqvAll_map {α : Type} {f : α → PyData} : ∀ (xs ys : List α), (∀ x ∈ xs, ∀ y ∈ ys, PyData.eqv (f x) (f y) = dB (x = y)) → PyData.eqvAll (xs.map f) (ys.map f) = dB (xs = ys)
  | [], [], _ => by rw [dB_pos rfl]; simp [PyData.eqvAll]
  | [], y :: ys, _ => by rw [dB_neg (by simp)]; simp [PyData.eqvAll]
  | x :: xs, [], _ => by rw [dB_neg (by simp)]; simp [PyData.eqvAll]
  | x :: xs, y :: ys, h => by
    have ih := eqvAll_map xs ys fun a ha b hb => h a (List.mem_cons_of_mem _ ha) b (List.mem_cons_of_mem _ hb)
    rw [List.map_cons, List.map_cons, PyData.eqvAll, ih, h x (List.mem_cons_self ..) y (List.mem_cons_self ..)]
    refine dB_of (fun e => ?_) fun e => ?_
    · obtain ⟨rfl, rfl⟩ := List.cons.inj e
      rw [dB_pos rfl, dB_pos rfl]
      rfl
    · by_cases e1 : x = y
      · subst e1
        rw [dB_pos rfl, dB_neg (p := xs = ys) (fun z => e (by rw [z]))]
        rfl
      · rw [dB_neg e1]
        rfl
theorem eqv_nm (a b : List Nat) : PyData.eqv (.str (SX.S a)) (.str (SX.S b)) = dB (a = b) := by
  rw [PyData.eqv]
  refine dB_of (fun h => ?_) fun h => ?_
  · subst h
    simp
  · exact beq_eq_false_iff_ne.mpr fun e => h (SX.S_inj e)
theorem eqv_ints (a b : List Int) : PyData.eqvAll (a.map PyData.int) (b.map PyData.int) = dB (a = b) := eqvAll_map a b fun x _ y _ => by
  rw [PyData.eqv]
  refine dB_of (fun h => ?_) fun h => ?_
  · subst h
    simp
  · exact beq_eq_false_iff_ne.mpr h
theorem eqv_row (r s : Row) : PyData.eqv (pyRow r) (pyRow s) = dB (r = s) := by
  obtain ⟨a, b, c, d⟩ := r
  obtain ⟨a', b', c', d'⟩ := s
  have e1 := eqv_nm a a'
  have e2 := eqv_nm b b'
  have e3 := eqv_nm c c'
  have e4 := eqv_ints d d'
  have e : PyData.eqv (pyRow ⟨a, b, c, d⟩) (pyRow ⟨a', b', c', d'⟩) = (dB (a = a') && (dB (b = b') && (dB (c = c') && dB (d = d')))) := by
    unfold pyRow
    simp only [PyData.eqv, PyData.eqvAll, e4, Bool.and_true]
    rw [PyData.eqv] at e1 e2 e3
    rw [e1, e2, e3]
  rw [e]
  refine dB_of (fun h => ?_) fun h => ?_
  · cases h
    rw [dB_pos rfl, dB_pos rfl, dB_pos rfl, dB_pos rfl]
    rfl
  · by_cases h1 : a = a'
    · by_cases h2 : b = b'
      · by_cases h3 : c = c'
        · by_cases h4 : d = d'
          · exact absurd (by rw [h1, h2, h3, h4]) h
          · rw [dB_neg h4]; simp
        · rw [dB_neg h3]; simp
      · rw [dB_neg h2]; simp
    · rw [dB_neg h1]; simp
theorem ne_rows2 {rs : List Row} (h : ∀ r ∈ rs, RowNm r) (w : VH) : neD (.lst (rs.map Row.d)) (.lst (rs.map Row.d)) w = some (.bl false, w) := by
  obtain ⟨c, d⟩ := lay_rows h
  have a : topPy w (.lst (rs.map Row.d)) = some (.list (rs.map pyRow)) := by
    show toPy _ = _
    unfold toPy
    rw [toPys_rows]
    rfl
  have s1 : SeqAt.shaped (.list (rs.map pyRow)) = true := by
    have x : PyData.canLay0 (.list (rs.map pyRow)) = true := c
    unfold SeqAt.shaped
    rw [x, PyData.depth]
    simp only [Bool.true_and, decide_eq_true_eq]
    omega
  have e : PyData.eqv (.list (rs.map pyRow)) (.list (rs.map pyRow)) = true := by
    rw [PyData.eqv]
    exact (eqvAll_map rs rs fun x _ y _ => eqv_row x y).trans (dB_pos rfl)
  unfold neD eqPy
  simp only [a, s1, Bool.and_self, if_true, e]
  rfl
end K41

namespace K41
open PySem VL L2
/-! ### sizes -/
def fineD (a : Nat) : D := .lst (List.replicate a (.int 2))
def someL (a : Nat) : List D := [.non, .int 5, .str "12", .dct [] [], .lst (List.replicate a (.int 2) ++ [.int 1]), .lst (List.replicate (a - 1) (.int 2)), .lst (List.replicate (a - 1) (.int 2) ++ [.int 0]), .lst (List.replicate (a - 1) (.int 2) ++ [.int (-1)])]
def odd6 (a : Nat) : List D := someL a ++ [.lst (List.replicate (a - 1) (.int 2) ++ [.bl true]), .lst (List.replicate a .non)]
def Ax (a : Nat) : Prop := a = 1 ∨ a = 2 ∨ a = 3
section
variable {a : Nat} {s : SS} {t : VH} {ns : List (List Nat)} {R : List Row}
theorem c4_ok (h : Ax a) (vh : VH) (x0 x1 x2 x3 x5 x6 x7 x8 x9 x10 x11 x12 x13 : Option D) : c4 [x0, x1, x2, x3, some (.int (a : Nat)), x5, x6, x7, x8, x9, x10, x11, x12, x13] vh = some (.nx [x0, x1, x2, x3, some (.int (a : Nat)), x5, x6, x7, some (fineD a), x9, x10, x11, x12, x13], vh) := by
  rcases h with rfl | rfl | rfl <;> kernel_rfl
theorem c5_ok (h : Ax a) (vh : VH) (x0 x1 x2 x3 x4 x5 x6 x7 x9 x10 x11 x12 x13 : Option D) : c5 [x0, x1, x2, x3, x4, x5, x6, x7, some (fineD a), x9, x10, x11, x12, x13] vh = some (.nx [x0, x1, x2, x3, x4, x5, x6, x7, some (fineD a), some (.lst (someL a)), x10, x11, x12, x13], vh) := by
  rcases h with rfl | rfl | rfl <;> kernel_rfl
theorem b6I_ok (h : Ax a) (vh : VH) (x0 x1 x2 x3 x5 x6 x7 x10 x11 x12 x13 : Option D) : b6I [x0, x1, x2, x3, some (.int (a : Nat)), x5, x6, x7, some (fineD a), some (.lst (someL a)), x10, x11, x12, x13] vh = some (odd6 a, vh) := by
  rcases h with rfl | rfl | rfl <;> kernel_rfl
theorem b7_ok (h : Ax a) (x0 x2 x3 x5 x7 x8 x9 x10 x11 x12 x13 : Option D) : b7 [x0, some (.ref 2), x2, x3, some (.int (a : Nat)), x5, some (netD a ns R), x7, x8, x9, x10, x11, x12, x13] (s.vh t) = some (.nx [x0, some (.ref 2), x2, x3, some (.int (a : Nat)), x5, some (netD a ns R), x7, x8, x9, some (.dct [] []), x11, x12, x13], s.vh t) := by
  rcases h with rfl | rfl | rfl <;> kernel_rfl
theorem b8_ok (h : Ax a) (x0 x2 x3 x4 x5 x7 x8 x9 x10 x11 x12 x13 : Option D) : b8 [x0, some (.ref 2), x2, x3, x4, x5, some (netD a ns R), x7, x8, x9, x10, x11, x12, x13] (s.vh t) = some (.nx [x0, some (.ref 2), x2, x3, x4, x5, some (netD a ns R), x7, x8, x9, some (.dct [] []), x11, x12, x13], s.vh t) := by
  rcases h with rfl | rfl | rfl <;> kernel_rfl
def exS (d : D) : D := .exc 103 ["sizes"] [d]
def tgS (d : D) : D := .tup [.str "sizes", d]
def frO (n : Nat) (d : D) : D := match d__law_frozen n [d] [] with
  | some (x, _) => x
  | none => .non
structure Odd (a : Nat) (d : D) : Prop where
  box : ∀ ns R vh, x_box_way [netD a ns R, d] vh = some (.ex (exS d), vh)
  isb : ∀ ns R vh, x_is_box_way [netD a ns R, d, .non] vh = some (.ex (exS d), vh)
  lon : ∀ ns R vh, x_longest_way [netD a ns R, d] vh = some (.ex (exS d), vh)
  one : ∀ vh, d__law_frozen 4 [tgS d] vh = some (frO 4 (tgS d), vh)
  all : ∀ vh, d__law_frozen 5 [.lst [tgS d, tgS d, tgS d]] vh = some (.tup [frO 4 (tgS d), frO 4 (tgS d), frO 4 (tgS d)], vh)
  sam : ∀ vh, d__law_same 6 [.tup [frO 4 (tgS d), frO 4 (tgS d), frO 4 (tgS d)], .tup [frO 4 (tgS d), frO 4 (tgS d), frO 4 (tgS d)]] vh = some (.bl true, vh)
theorem odds_ok (h : Ax a) : ∀ d ∈ odd6 a, Odd a d := by
  rcases h with rfl | rfl | rfl <;> refine forall_cons ?_ (forall_cons ?_ (forall_cons ?_ (forall_cons ?_ (forall_cons ?_ (forall_cons ?_ (forall_cons ?_ (forall_cons ?_ (forall_cons ?_ (forall_cons ?_ forall_nil))))))))) <;> exact ⟨fun ns R vh => by kernel_rfl, fun ns R vh => by kernel_rfl, fun ns R vh => by kernel_rfl, fun vh => by kernel_rfl, fun vh => by kernel_rfl, fun vh => by kernel_rfl⟩
end
end K41

namespace K41
open PySem VL L2
section
variable {a : Nat} {s : SS} {t : VH} {ns : List (List Nat)} {R : List Row} {d : D}
theorem tn_dict : tnOf "dict" = some .dct := by simp [tnOf]
theorem tabs_s : tabsB 0 qsL (s.vh t) = true := by kernel_rfl
theorem lam_s {f : Rho → M (Rs D)} {ρ : Rho} (h : f ρ (s.vh t) = some (.ex (exS d), s.vh t)) : lamD qsL t__law_tried f ρ (s.vh t) = some (tgS d, s.vh t) := by
  unfold lamD
  rw [if_pos tabs_s]
  unfold t__law_tried triedD VL.bind
  rw [h]
  kernel_rfl
theorem fr_ref {k n : Nat} {xs : List D} {f : D → D} {vh : VH} (h : vh[n]? = some (some (.lst xs))) (hl : xs.length < line) (hx : ∀ x ∈ xs, ∀ vh, d__law_frozen k [x] vh = some (f x, vh)) : d__law_frozen (k + 1) [.ref n] vh = some (.tup (xs.map f), vh) := by
  have tn : tnD vh (.ref n) = some .lst := by
    show moAt vh[n]? = _
    rw [h]
    rfl
  have i1 := isi_ok (d := .ref n) (vh := vh) tn tn_dict
  have i2 := isi_two (d := .ref n) (vh := vh) tn
  have z := lc_lock (P := fun _ => True) (i := 0) (ρ := [some (.ref n), none, none]) (g := nameG 2) (e := denA (denC 1 (d__law_frozen k)) (consA (var 2) nilA)) (vs := [2]) (f := f) (vh := vh) (d := .ref n) (xs := xs) rfl (Or.inr (Or.inr ⟨n, rfl, True.intro, h⟩)) hl (fun vh' L x hxm => by
    refine ⟨[some (.ref n), none, some x], rfl, ?_⟩
    have e := hx x hxm vh'
    simp only [VL.bind, VL.ret, VL.fail, denF, denA, den1, den2, denC, consA, nilA, var, kst, seqS, nopS, ifS, retS, asgS, nameG, subG, dropS, cmpT, valT, andB, orB, notB, toB, ifD, andD, orD, notD, methD, List.map_cons, List.map_nil, List.cons_append, List.nil_append, List.length_cons, List.length_nil, List.replicate, List.getElem?_cons_zero, List.getElem?_cons_succ, List.set_cons_zero, List.set_cons_succ, List.set_nil, List.getElem?_nil, Option.map_some, Option.map_none, Option.bind_some, Option.bind_none, if_true, if_false, Bool.false_eq_true, reduceIte, Nat.reduceAdd, Nat.reduceSub, Int.reduceAdd, Int.reduceNeg, e])
  have m2 : mkTup [D.ty "list", D.ty "tuple"] = VL.ret (.tup [.ty "list", .ty "tuple"]) := rfl
  show denF 3 (g__law_frozen (d__law_frozen k)) [.ref n] vh = _
  have b1 : (isT Tn.lst Tn.dct) = false := rfl
  have b2 : (isT Tn.lst Tn.lst || isT Tn.lst Tn.tup) = true := rfl
  rw [b1] at i1
  rw [b2] at i2
  simp only [VL.bind, VL.ret, VL.fail, denF, denA, den1, den2, denC, consA, nilA, var, kst, seqS, nopS, ifS, retS, asgS, nameG, subG, dropS, cmpT, valT, andB, orB, notB, toB, ifD, andD, orD, notD, methD, List.map_cons, List.map_nil, List.cons_append, List.nil_append, List.length_cons, List.length_nil, List.replicate, List.getElem?_cons_zero, List.getElem?_cons_succ, List.set_cons_zero, List.set_cons_succ, List.set_nil, List.getElem?_nil, Option.map_some, Option.map_none, Option.bind_some, Option.bind_none, if_true, if_false, Bool.false_eq_true, reduceIte, Nat.reduceAdd, Nat.reduceSub, Int.reduceAdd, Int.reduceNeg, g__law_frozen, m2, i1, i2, z, tup_lst]
theorem b6B_ok (o : Odd a d) (x0 x2 x3 x4 x5 x7 x8 x9 x11 x12 x13 : Option D) : b6B [x0, some (.ref 2), x2, x3, x4, x5, some (netD a ns R), x7, x8, x9, some d, x11, x12, x13] (s.vh t) =
    some (.nx [x0, some (.ref 2), x2, some (.ref (t.length + 3)), x4, x5, some (netD a ns R), x7, x8, x9, some d, x11, x12, x13], s.vh (t ++ [some (.lst [tgS d, tgS d, tgS d])])) := by
  have l1 : ∀ t x3, lamD qsL t__law_tried (callX (denCX 2 x_box_way) (okE (consA (var 6) (consA (var 10) nilA)))) [x0, some (.ref 2), x2, x3, x4, x5, some (netD a ns R), x7, x8, x9, some d, x11, x12, x13] (s.vh t) = some (tgS d, s.vh t) := fun t x3 => lam_s (o.box ns R _)
  have l2 : ∀ t x3, lamD qsL t__law_tried (callX (denCX 3 x_is_box_way) (okE (consA (var 6) (consA (var 10) (consA (kst .non) nilA))))) [x0, some (.ref 2), x2, x3, x4, x5, some (netD a ns R), x7, x8, x9, some d, x11, x12, x13] (s.vh t) = some (tgS d, s.vh t) := fun t x3 => lam_s (o.isb ns R _)
  have l3 : ∀ t x3, lamD qsL t__law_tried (callX (denCX 2 x_longest_way) (okE (consA (var 6) (consA (var 10) nilA)))) [x0, some (.ref 2), x2, x3, x4, x5, some (netD a ns R), x7, x8, x9, some d, x11, x12, x13] (s.vh t) = some (tgS d, s.vh t) := fun t x3 => lam_s (o.lon ns R _)
  have nw : mkLstM [tgS d] (s.vh t) = some (.ref (t.length + 3), s.vh (t ++ [some (.lst [tgS d])])) := rfl
  have il : ∀ xs : List D, isLst (s.vh (t ++ [some (.lst xs)])) (.ref (t.length + 3)) = true := fun xs => by
    show (lstV _ _).isSome = true
    rw [lst_end]
    rfl
  have e1 : b6_1 [x0, some (.ref 2), x2, x3, x4, x5, some (netD a ns R), x7, x8, x9, some d, x11, x12, x13] (s.vh t) = some (.nx [x0, some (.ref 2), x2, some (.ref (t.length + 3)), x4, x5, some (netD a ns R), x7, x8, x9, some d, x11, x12, x13], s.vh (t ++ [some (.lst [tgS d])])) := by
    simp only [VL.bind, VL.ret, VL.fail, denF, denA, den1, den2, denC, consA, nilA, var, kst, seqS, nopS, ifS, retS, asgS, nameG, subG, dropS, cmpT, valT, andB, orB, notB, toB, ifD, andD, orD, notD, methD, List.map_cons, List.map_nil, List.cons_append, List.nil_append, List.length_cons, List.length_nil, List.replicate, List.getElem?_cons_zero, List.getElem?_cons_succ, List.set_cons_zero, List.set_cons_succ, List.set_nil, List.getElem?_nil, Option.map_some, Option.map_none, Option.bind_some, Option.bind_none, if_true, if_false, Bool.false_eq_true, reduceIte, Nat.reduceAdd, Nat.reduceSub, Int.reduceAdd, Int.reduceNeg, b6_1, l1, nw]
  have e2 : b6_2 [x0, some (.ref 2), x2, some (.ref (t.length + 3)), x4, x5, some (netD a ns R), x7, x8, x9, some d, x11, x12, x13] (s.vh (t ++ [some (.lst [tgS d])])) = some (.nx [x0, some (.ref 2), x2, some (.ref (t.length + 3)), x4, x5, some (netD a ns R), x7, x8, x9, some d, x11, x12, x13], s.vh (t ++ [some (.lst [tgS d, tgS d])])) := by
    have ap := app_end (s := s) (t := t) (xs := [tgS d]) (d := tgS d) (show 1 < 16777216 by decide)
    simp only [VL.bind, VL.ret, VL.fail, denF, denA, den1, den2, denC, consA, nilA, var, kst, seqS, nopS, ifS, retS, asgS, nameG, subG, dropS, cmpT, valT, andB, orB, notB, toB, ifD, andD, orD, notD, methD, List.map_cons, List.map_nil, List.cons_append, List.nil_append, List.length_cons, List.length_nil, List.replicate, List.getElem?_cons_zero, List.getElem?_cons_succ, List.set_cons_zero, List.set_cons_succ, List.set_nil, List.getElem?_nil, Option.map_some, Option.map_none, Option.bind_some, Option.bind_none, if_true, if_false, Bool.false_eq_true, reduceIte, Nat.reduceAdd, Nat.reduceSub, Int.reduceAdd, Int.reduceNeg, b6_2, il, l2, ap]
  have e3 : b6_3 [x0, some (.ref 2), x2, some (.ref (t.length + 3)), x4, x5, some (netD a ns R), x7, x8, x9, some d, x11, x12, x13] (s.vh (t ++ [some (.lst [tgS d, tgS d])])) = some (.nx [x0, some (.ref 2), x2, some (.ref (t.length + 3)), x4, x5, some (netD a ns R), x7, x8, x9, some d, x11, x12, x13], s.vh (t ++ [some (.lst [tgS d, tgS d, tgS d])])) := by
    have ap := app_end (s := s) (t := t) (xs := [tgS d, tgS d]) (d := tgS d) (show 2 < 16777216 by decide)
    simp only [VL.bind, VL.ret, VL.fail, denF, denA, den1, den2, denC, consA, nilA, var, kst, seqS, nopS, ifS, retS, asgS, nameG, subG, dropS, cmpT, valT, andB, orB, notB, toB, ifD, andD, orD, notD, methD, List.map_cons, List.map_nil, List.cons_append, List.nil_append, List.length_cons, List.length_nil, List.replicate, List.getElem?_cons_zero, List.getElem?_cons_succ, List.set_cons_zero, List.set_cons_succ, List.set_nil, List.getElem?_nil, Option.map_some, Option.map_none, Option.bind_some, Option.bind_none, if_true, if_false, Bool.false_eq_true, reduceIte, Nat.reduceAdd, Nat.reduceSub, Int.reduceAdd, Int.reduceNeg, b6_3, il, l3, ap]
  have e4 : b6_4 [x0, some (.ref 2), x2, some (.ref (t.length + 3)), x4, x5, some (netD a ns R), x7, x8, x9, some d, x11, x12, x13] (s.vh (t ++ [some (.lst [tgS d, tgS d, tgS d])])) = some (.nx [x0, some (.ref 2), x2, some (.ref (t.length + 3)), x4, x5, some (netD a ns R), x7, x8, x9, some d, x11, x12, x13], s.vh (t ++ [some (.lst [tgS d, tgS d, tgS d])])) := by
    have fr := fr_ref (k := 4) (n := t.length + 3) (xs := [tgS d, tgS d, tgS d]) (f := fun _ => frO 4 (tgS d)) (vh := s.vh (t ++ [some (.lst [tgS d, tgS d, tgS d])])) at_end (show 3 < 16777216 by decide) (fun x hx vh => by
      have : x = tgS d := by simpa using hx
      subst this
      exact o.one vh)
    have fa := o.all (s.vh (t ++ [some (.lst [tgS d, tgS d, tgS d])]))
    have sm := o.sam (s.vh (t ++ [some (.lst [tgS d, tgS d, tgS d])]))
    have m2 : mkTup [D.str "sizes", d] = VL.ret (tgS d) := rfl
    have m1 : mkLst [tgS d] = VL.ret (.lst [tgS d]) := rfl
    have mu : mulD (.lst [tgS d]) (.int 3) = VL.ret (.lst [tgS d, tgS d, tgS d]) := rfl
    have tr : truD (.bl true) = VL.ret true := rfl
    rw [List.map_cons, List.map_cons, List.map_cons, List.map_nil] at fr
    simp only [VL.bind, VL.ret, VL.fail, denF, denA, den1, den2, denC, consA, nilA, var, kst, seqS, nopS, ifS, retS, asgS, nameG, subG, dropS, cmpT, valT, andB, orB, notB, toB, ifD, andD, orD, notD, methD, List.map_cons, List.map_nil, List.cons_append, List.nil_append, List.length_cons, List.length_nil, List.replicate, List.getElem?_cons_zero, List.getElem?_cons_succ, List.set_cons_zero, List.set_cons_succ, List.set_nil, List.getElem?_nil, Option.map_some, Option.map_none, Option.bind_some, Option.bind_none, if_true, if_false, Bool.false_eq_true, reduceIte, Nat.reduceAdd, Nat.reduceSub, Int.reduceAdd, Int.reduceNeg, b6_4, fr, m2, m1, mu, fa, sm, Bool.not_true]
  exact (sq e1).trans ((sq e2).trans ((sq e3).trans e4))
theorem b6_ok (h : Ax a) (x0 x2 x3 x5 x7 x10 x11 x12 x13 : Option D) : ∃ (y3 y10 : Option D) (t' : VH), b6 [x0, some (.ref 2), x2, x3, some (.int (a : Nat)), x5, some (netD a ns R), x7, some (fineD a), some (.lst (someL a)), x10, x11, x12, x13] (s.vh t) =
    some (.nx [x0, some (.ref 2), x2, y3, some (.int (a : Nat)), x5, some (netD a ns R), x7, some (fineD a), some (.lst (someL a)), y10, x11, x12, x13], s.vh t') := by
  obtain ⟨ρ', vh', e, y3, y10, t', rfl, rfl⟩ := for_inv (g := nameG 10) (b := b6B) (items := odd6 a) (ρ := [x0, some (.ref 2), x2, x3, some (.int (a : Nat)), x5, some (netD a ns R), x7, some (fineD a), some (.lst (someL a)), x10, x11, x12, x13]) (vh := s.vh t)
    (fun i ρ w => ∃ (y3 y10 : Option D) (t' : VH), ρ = [x0, some (.ref 2), x2, y3, some (.int (a : Nat)), x5, some (netD a ns R), x7, some (fineD a), some (.lst (someL a)), y10, x11, x12, x13] ∧ w = s.vh t')
    ⟨x3, x10, t, rfl, rfl⟩ (fun i d ρ w hd ⟨y3, y10, t', e1, e2⟩ => by
      subst e1 e2
      exact ⟨_, _, _, rfl, b6B_ok (odds_ok h d (List.mem_of_getElem? hd)) _ _ _ _ _ _ _ _ _ _ _, _, _, _, rfl, rfl⟩)
  refine ⟨y3, y10, t', ?_⟩
  unfold b6 forS VL.bind
  rw [b6I_ok h]
  exact e
end
end K41

namespace K41
open PySem VL L2
/-! ### the law's own comparing of a thing with itself -/
def Same (n : Nat) (d : D) : Prop := ∀ w, d__law_same n [d, d] w = some (.bl true, w)
theorem pair_self : ∀ xs : List D, pairL xs xs = xs.map fun x => .tup [x, x]
  | [] => rfl
  | x :: xs => by
    have ih := pair_self xs
    unfold pairL at ih ⊢
    rw [List.zip_cons_cons, List.map_cons, ih, List.map_cons]
theorem mkTup2t : mkTup [D.ty "list", D.ty "tuple"] = VL.ret (.tup [.ty "list", .ty "tuple"]) := rfl
theorem ne_bl (b : Bool) (w : VH) : neD (.bl b) (.bl b) w = some (.bl false, w) := by cases b <;> rfl
theorem eqK_int {i j : Int} {vh : VH} : eqKD (.int i) (.int j) vh = some (.bl (i == j), vh) := rfl
theorem same_seq {n : Nat} {d : D} {xs : List D} {t : Tn} (ht : t = .lst ∨ t = .tup) (hd : ∀ w, tnD w d = some t) (hl : xs.length < line) (he : ∀ w, lenD [d] w = some (.int (xs.length : Nat), w)) (hz : ∀ w, zipMIt [d, d] w = some (pairL xs xs, w)) (h : ∀ x ∈ xs, Same n x) : Same (n + 1) d := by
  intro w
  have z := comp_of (g := unpG 2 (consG (nameG 2) (consG (nameG 3) nilG))) (e := denA (denC 2 (d__law_same n)) (consA (var 2) (consA (var 3) nilA))) (ρ := wipeR [some d, some d, none, none] [2, 3]) (vh := w) (a := fun x : D => .tup [x, x]) (b := fun _ => .bl true) xs (fun x hx => by
    have e1 := h x hx w
    exact ⟨[some d, some d, some x, some x], rfl, by simp only [VL.bind, VL.ret, VL.fail, denF, denA, den1, den2, denC, consA, nilA, var, kst, seqS, nopS, ifS, retS, asgS, nameG, subG, dropS, cmpT, valT, andB, orB, notB, toB, ifD, andD, orD, notD, methD, List.map_cons, List.map_nil, List.cons_append, List.nil_append, List.length_cons, List.length_nil, List.replicate, List.getElem?_cons_zero, List.getElem?_cons_succ, List.set_cons_zero, List.set_cons_succ, List.set_nil, List.getElem?_nil, Option.map_some, Option.map_none, Option.bind_some, Option.bind_none, if_true, if_false, Bool.false_eq_true, reduceIte, Nat.reduceAdd, Nat.reduceSub, Int.reduceAdd, Int.reduceNeg, e1]⟩)
  have ev1 : (argI zipMIt (consA (var 0) (consA (var 1) nilA))) [some d, some d, none, none] w = some (xs.map fun x => .tup [x, x], w) := by
    rw [← pair_self]
    simp only [VL.bind, VL.ret, VL.fail, denF, denA, den1, den2, denC, consA, nilA, var, kst, seqS, nopS, ifS, retS, asgS, nameG, subG, dropS, cmpT, valT, andB, orB, notB, toB, ifD, andD, orD, notD, methD, List.map_cons, List.map_nil, List.cons_append, List.nil_append, List.length_cons, List.length_nil, List.replicate, List.getElem?_cons_zero, List.getElem?_cons_succ, List.set_cons_zero, List.set_cons_succ, List.set_nil, List.getElem?_nil, Option.map_some, Option.map_none, Option.bind_some, Option.bind_none, if_true, if_false, Bool.false_eq_true, reduceIte, Nat.reduceAdd, Nat.reduceSub, Int.reduceAdd, Int.reduceNeg, argI, hz]
  have el := lc_eq (mk := still0) (vs := [2, 3]) ev1 (by rw [List.length_map]; exact hl) z
  have al := any_bls_false (ds := xs.map fun _ => D.bl true) w (by simp)
  have i2 := isi_two (d := d) (vh := w) (hd w)
  have i3 := isi_ok (d := d) (vh := w) (hd w) tn_list
  have i4 := isi_ok (d := d) (vh := w) (hd w) tn_tuple
  have tt : (isT t .lst || isT t .tup) = true := by rcases ht with rfl | rfl <;> rfl
  rw [tt] at i2
  show denF 4 (g__law_same (d__law_same n)) [d, d] w = _
  simp only [VL.bind, VL.ret, VL.fail, denF, denA, den1, den2, denC, consA, nilA, var, kst, seqS, nopS, ifS, retS, asgS, nameG, subG, dropS, cmpT, valT, andB, orB, notB, toB, ifD, andD, orD, notD, methD, List.map_cons, List.map_nil, List.cons_append, List.nil_append, List.length_cons, List.length_nil, List.replicate, List.getElem?_cons_zero, List.getElem?_cons_succ, List.set_cons_zero, List.set_cons_succ, List.set_nil, List.getElem?_nil, Option.map_some, Option.map_none, Option.bind_some, Option.bind_none, if_true, if_false, Bool.false_eq_true, reduceIte, Nat.reduceAdd, Nat.reduceSub, Int.reduceAdd, Int.reduceNeg, g__law_same, mkTup2t, i2, i3, i4, ne_bl, he, eqK_int, beq_self_eq_true, el, still0, al]
theorem same_tup {n : Nat} {xs : List D} (hl : xs.length < line) (h : ∀ x ∈ xs, Same n x) : Same (n + 1) (.tup xs) :=
  same_seq (Or.inr rfl) (fun _ => rfl) hl (fun _ => rfl) (fun _ => rfl) h
theorem mkTup3t : mkTup [D.ty "int", D.ty "list", D.ty "tuple"] = VL.ret (.tup [.ty "int", .ty "list", .ty "tuple"]) := rfl
theorem same_nm {n : Nat} {l : List Nat} (h : Nm l) : Same (n + 1) (strD' l) := by
  intro w
  have i2 := isi_two (d := strD' l) (vh := w) rfl
  have i3 := isi_ok (d := strD' l) (vh := w) rfl tn_int
  have e3 : tnsOf [.ty "int", .ty "list", .ty "tuple"] = some [.int, .lst, .tup] := by
    unfold tnsOf
    rw [tn_int]
    unfold tnsOf
    rw [tn_list]
    unfold tnsOf
    rw [tn_tuple]
    rfl
  have i5 : isiD [strD' l, .tup [.ty "int", .ty "list", .ty "tuple"]] w = some (.bl false, w) := by
    unfold isiD pureD isiR
    simp only [show tnD w (strD' l) = some .str from rfl, e3]
    rfl
  have ib : isBlD (.bl false) (.bl false) = VL.ret (.bl true) := rfl
  have es : eqKD (strD' l) (strD' l) w = some (.bl true, w) := by
    have es := eq_str h h w
    rw [decide_eq_true rfl] at es
    exact es
  show denF 4 (g__law_same (d__law_same n)) [strD' l, strD' l] w = _
  simp only [VL.bind, VL.ret, VL.fail, denF, denA, den1, den2, denC, consA, nilA, var, kst, seqS, nopS, ifS, retS, asgS, nameG, subG, dropS, cmpT, valT, andB, orB, notB, toB, ifD, andD, orD, notD, methD, List.map_cons, List.map_nil, List.cons_append, List.nil_append, List.length_cons, List.length_nil, List.replicate, List.getElem?_cons_zero, List.getElem?_cons_succ, List.set_cons_zero, List.set_cons_succ, List.set_nil, List.getElem?_nil, Option.map_some, Option.map_none, Option.bind_some, Option.bind_none, if_true, if_false, Bool.false_eq_true, reduceIte, Nat.reduceAdd, Nat.reduceSub, Int.reduceAdd, Int.reduceNeg, g__law_same, mkTup2t, i2, isT, Bool.or_false, i3, mkTup3t, i5, ib, es]
theorem same_two {n : Nat} {a b : D} (ha : Same n a) (hb : Same n b) : Same (n + 1) (.tup [a, b]) :=
  same_tup (show 2 < 16777216 by decide) fun x hx => by
    simp only [List.mem_cons, List.not_mem_nil, or_false] at hx
    rcases hx with rfl | rfl
    · exact ha
    · exact hb
theorem same_tie {d : D} (h : Same 5 d) : Same 6 (.tup [.str "tie", d]) := same_two (fun w => by kernel_rfl) h
/-! ### cuts -/
def exT (d : D) : D := .exc 100 ["name"] [d]
def X4B : BkX := seqX (ifX (orB (cmpT (chkO 0 (ownNinD d_Net___contains__)) (var 3) (var 0)) (cmpT inD (var 3) (var 2)))
  (raiseX 100 "name" (consA (var 3) nilA)) (okE nopS))
  (okE (asgS (kst (.bl true)) (subG (var 2) (var 3))))
theorem g_unlike : xg_ask_unlike_names = seqX (ifX (notB (valT (denA (denC 1 d_is_list) (consA (var 1) nilA))))
  (raiseX 100 "name" (consA (var 1) nilA)) (okE nopS))
  (seqX (okE (asgS (fun _ => freshD ([], [])) (nameG 2))) (forX (seqI (var 1)) (nameG 3) X4B)) := rfl
section
variable {ax : Int} {ns : List (List Nat)} {R : List Row} {vh : VH}
def dctO (ks : List Key) : Option MO := some (.dct ks (ks.map fun _ => .bl true))
theorem io_net (w : VH) : VL.isObj 0 w (netD ax ns R) = true := by unfold VL.isObj; rw [net_obj]; rfl
theorem nin_net {d : D} {b : Bool} {w : VH} (h : d_Net___contains__ [netD ax ns R, d] w = some (.bl b, w)) : chkO 0 (ownNinD d_Net___contains__) d (netD ax ns R) w = some (.bl (!b), w) := by
  have dn : denC 2 d_Net___contains__ [netD ax ns R, d] = d_Net___contains__ [netD ax ns R, d] := if_pos rfl
  unfold chkO ownNinD
  rw [if_pos (io_net w), dn]
  unfold VL.bind
  rw [h]
  rfl
theorem rs_A {d : D} {w : VH} (h : d_Net___contains__ [netD ax ns R, d] w = some (.bl false, w)) (x1 x2 : Option D) : X4B [some (netD ax ns R), x1, x2, some d] w = some (.ex (exT d), w) := by
  have n := nin_net h
  rw [Bool.not_false] at n
  simp only [VL.bind, VL.ret, VL.fail, denF, denA, den1, den2, denC, consA, nilA, var, kst, seqS, nopS, ifS, retS, asgS, nameG, subG, dropS, cmpT, valT, andB, orB, notB, toB, ifD, andD, orD, notD, methD, List.map_cons, List.map_nil, List.cons_append, List.nil_append, List.length_cons, List.length_nil, List.replicate, List.getElem?_cons_zero, List.getElem?_cons_succ, List.set_cons_zero, List.set_cons_succ, List.set_nil, List.getElem?_nil, Option.map_some, Option.map_none, Option.bind_some, Option.bind_none, if_true, if_false, Bool.false_eq_true, reduceIte, Nat.reduceAdd, Nat.reduceSub, Int.reduceAdd, Int.reduceNeg, X4B, seqX, ifX, raiseX, bindX, n, exT]
theorem in_dct {l : List Nat} {ks : List Key} {b : Bool} (h : (valD ks (ks.map fun _ => D.bl true) (ky l)).isSome = b) : inD (strD' l) (.ref vh.length) (vh ++ [dctO ks]) = some (.bl b, vh ++ [dctO ks]) := by
  have s0 : seqV (vh ++ [dctO ks]) (.ref vh.length) = none := by
    show lstAt _ = _
    rw [rat]
    rfl
  have s1 : dctV (vh ++ [dctO ks]) (.ref vh.length) = some (ks, ks.map fun _ => .bl true) := by
    show dctRd _ = _
    rw [rat]
    rfl
  have s2 : inRes (vh ++ [dctO ks]) (strD' l) (.ref vh.length) = some (valD ks (ks.map fun _ => .bl true) (ky l)).isSome := by
    unfold inRes
    simp only [s0, s1]
    rfl
  unfold inD
  rw [s2, h]
  rfl
theorem rs_B {l : List Nat} {ks : List Key} (hc : ∀ w, d_Net___contains__ [netD ax ns R, strD' l] w = some (.bl true, w)) (hk : ky l ∈ ks) (x1 : Option D) : X4B [some (netD ax ns R), x1, some (.ref vh.length), some (strD' l)] (vh ++ [dctO ks]) = some (.ex (exT (strD' l)), vh ++ [dctO ks]) := by
  have n := nin_net (hc (vh ++ [dctO ks]))
  rw [Bool.not_true] at n
  have i := in_dct (vh := vh) (ks := ks) (l := l) (val_mem hk (by simp))
  simp only [VL.bind, VL.ret, VL.fail, denF, denA, den1, den2, denC, consA, nilA, var, kst, seqS, nopS, ifS, retS, asgS, nameG, subG, dropS, cmpT, valT, andB, orB, notB, toB, ifD, andD, orD, notD, methD, List.map_cons, List.map_nil, List.cons_append, List.nil_append, List.length_cons, List.length_nil, List.replicate, List.getElem?_cons_zero, List.getElem?_cons_succ, List.set_cons_zero, List.set_cons_succ, List.set_nil, List.getElem?_nil, Option.map_some, Option.map_none, Option.bind_some, Option.bind_none, if_true, if_false, Bool.false_eq_true, reduceIte, Nat.reduceAdd, Nat.reduceSub, Int.reduceAdd, Int.reduceNeg, X4B, seqX, ifX, raiseX, bindX, n, i, exT]
theorem rs_C {l : List Nat} {ks : List Key} (hc : ∀ w, d_Net___contains__ [netD ax ns R, strD' l] w = some (.bl true, w)) (hk : ky l ∉ ks) (hl : ks.length ≤ 1000) (x1 : Option D) : X4B [some (netD ax ns R), x1, some (.ref vh.length), some (strD' l)] (vh ++ [dctO ks]) = some (.ok (.nx [some (netD ax ns R), x1, some (.ref vh.length), some (strD' l)]), vh ++ [dctO (ks ++ [ky l])]) := by
  have n := nin_net (hc (vh ++ [dctO ks]))
  rw [Bool.not_true] at n
  have i := in_dct (vh := vh) (ks := ks) (l := l) (b := false) (by rw [val_not hk]; rfl)
  have st : setD (.ref vh.length) (strD' l) (.bl true) (vh ++ [dctO ks]) = some (.non, vh ++ [dctO (ks ++ [ky l])]) := by
    obtain ⟨p1, p2⟩ := put_new (vs := ks.map fun _ => D.bl true) (d := .bl true) hk
    unfold setD dctO
    simp only [rat, lstAt, dctAt]
    show (if ks.length < line then some (D.non, (vh ++ [some (MO.dct ks (ks.map fun _ => .bl true))]).set vh.length (some (.dct (putKs ks (ky l)) (putVs ks (ks.map fun _ => .bl true) (ky l) (.bl true))))) else none) = _
    rw [if_pos (by show _ < 16777216; omega), rset, p1, p2]
    simp
  simp only [VL.bind, VL.ret, VL.fail, denF, denA, den1, den2, denC, consA, nilA, var, kst, seqS, nopS, ifS, retS, asgS, nameG, subG, dropS, cmpT, valT, andB, orB, notB, toB, ifD, andD, orD, notD, methD, List.map_cons, List.map_nil, List.cons_append, List.nil_append, List.length_cons, List.length_nil, List.replicate, List.getElem?_cons_zero, List.getElem?_cons_succ, List.set_cons_zero, List.set_cons_succ, List.set_nil, List.getElem?_nil, Option.map_some, Option.map_none, Option.bind_some, Option.bind_none, if_true, if_false, Bool.false_eq_true, reduceIte, Nat.reduceAdd, Nat.reduceSub, Int.reduceAdd, Int.reduceNeg, X4B, seqX, ifX, raiseX, bindX, okE, n, i, st]
theorem cut_loop {d h : D} {rest : List D} : ∀ (us : List (List Nat)) (ks : List Key) (x3 : Option D), us.Nodup → (∀ u ∈ us, ∀ w, d_Net___contains__ [netD ax ns R, strD' u] w = some (.bl true, w)) → (∀ u ∈ us, ky u ∉ ks) → ks.length + us.length ≤ 1000 →
    X4B [some (netD ax ns R), some h, some (.ref vh.length), some d] (vh ++ [dctO (ks ++ us.map ky)]) = some (.ex (exT d), vh ++ [dctO (ks ++ us.map ky)]) →
    forLX (nameG 3) X4B (us.map strD' ++ d :: rest) [some (netD ax ns R), some h, some (.ref vh.length), x3] (vh ++ [dctO ks]) = some (.ex (exT d), vh ++ [dctO (ks ++ us.map ky)])
  | [], ks, x3, nd, hc, hk, hl, hd => by
    rw [List.map_nil, List.append_nil] at hd
    rw [List.map_nil, List.map_nil, List.append_nil, List.nil_append]
    simp only [VL.bind, VL.ret, VL.fail, denF, denA, den1, den2, denC, consA, nilA, var, kst, seqS, nopS, ifS, retS, asgS, nameG, subG, dropS, cmpT, valT, andB, orB, notB, toB, ifD, andD, orD, notD, methD, List.map_cons, List.map_nil, List.cons_append, List.nil_append, List.length_cons, List.length_nil, List.replicate, List.getElem?_cons_zero, List.getElem?_cons_succ, List.set_cons_zero, List.set_cons_succ, List.set_nil, List.getElem?_nil, Option.map_some, Option.map_none, Option.bind_some, Option.bind_none, if_true, if_false, Bool.false_eq_true, reduceIte, Nat.reduceAdd, Nat.reduceSub, Int.reduceAdd, Int.reduceNeg, forLX, bindX, hd]
  | u :: us, ks, x3, nd, hc, hk, hl, hd => by
    obtain ⟨n1, n2⟩ := List.nodup_cons.mp nd
    rw [List.length_cons] at hl
    have e1 := rs_C (vh := vh) (ks := ks) (hc u (List.mem_cons_self ..)) (hk u (List.mem_cons_self ..)) (by omega) (some h)
    have ek : ks ++ (u :: us).map ky = (ks ++ [ky u]) ++ us.map ky := by simp
    rw [ek] at hd ⊢
    have ih := cut_loop (d := d) (h := h) (rest := rest) us (ks ++ [ky u]) (some (strD' u)) n2 (fun v hv => hc v (List.mem_cons_of_mem _ hv)) (fun v hv z => by
      rcases List.mem_append.mp z with z | z
      · exact hk v (List.mem_cons_of_mem _ hv) z
      · exact n1 (by rw [← ky_inj (List.mem_singleton.mp z)]; exact hv)) (by simp; omega) hd
    rw [List.map_cons]
    have fl : forLX (nameG 3) X4B (strD' u :: us.map strD' ++ d :: rest) [some (netD ax ns R), some h, some (.ref vh.length), x3] (vh ++ [dctO ks]) = forLX (nameG 3) X4B (us.map strD' ++ d :: rest) [some (netD ax ns R), some h, some (.ref vh.length), some (strD' u)] (vh ++ [dctO (ks ++ [ky u])]) := by
      rw [List.cons_append]
      simp only [VL.bind, VL.ret, VL.fail, denF, denA, den1, den2, denC, consA, nilA, var, kst, seqS, nopS, ifS, retS, asgS, nameG, subG, dropS, cmpT, valT, andB, orB, notB, toB, ifD, andD, orD, notD, methD, List.map_cons, List.map_nil, List.cons_append, List.nil_append, List.length_cons, List.length_nil, List.replicate, List.getElem?_cons_zero, List.getElem?_cons_succ, List.set_cons_zero, List.set_cons_succ, List.set_nil, List.getElem?_nil, Option.map_some, Option.map_none, Option.bind_some, Option.bind_none, if_true, if_false, Bool.false_eq_true, reduceIte, Nat.reduceAdd, Nat.reduceSub, Int.reduceAdd, Int.reduceNeg, forLX, bindX, e1]
    exact fl.trans ih
theorem cuts_of {d h : D} {vh' : VH} (e : x_ask_unlike_names [netD ax ns R, h] vh = some (.ex d, vh')) : x_cuts [netD ax ns R, h] vh = some (.ex d, vh') := by
  have dn : denCX 2 x_ask_unlike_names [netD ax ns R, h] = x_ask_unlike_names [netD ax ns R, h] := if_pos rfl
  unfold x_cuts denFX
  simp only [VL.bind, VL.ret, VL.fail, denF, denA, den1, den2, denC, consA, nilA, var, kst, seqS, nopS, ifS, retS, asgS, nameG, subG, dropS, cmpT, valT, andB, orB, notB, toB, ifD, andD, orD, notD, methD, List.map_cons, List.map_nil, List.cons_append, List.nil_append, List.length_cons, List.length_nil, List.replicate, List.getElem?_cons_zero, List.getElem?_cons_succ, List.set_cons_zero, List.set_cons_succ, List.set_nil, List.getElem?_nil, Option.map_some, Option.map_none, Option.bind_some, Option.bind_none, if_true, if_false, Bool.false_eq_true, reduceIte, Nat.reduceAdd, Nat.reduceSub, Int.reduceAdd, Int.reduceNeg, xg_cuts, seqX, dropX, callX, bindX, okE, dn, e]
theorem cuts_ok {us : List (List Nat)} {d : D} {rest : List D} (nd : us.Nodup) (hc : ∀ u ∈ us, ∀ w, d_Net___contains__ [netD ax ns R, strD' u] w = some (.bl true, w)) (hl : us.length ≤ 1000)
    (hd : ∀ h, X4B [some (netD ax ns R), some h, some (.ref vh.length), some d] (vh ++ [dctO (us.map ky)]) = some (.ex (exT d), vh ++ [dctO (us.map ky)])) :
    x_cuts [netD ax ns R, .lst (us.map strD' ++ d :: rest)] vh = some (.ex (exT d), vh ++ [dctO (us.map ky)]) := by
  refine cuts_of ?_
  have lp := cut_loop (vh := vh) (ax := ax) (ns := ns) (R := R) (d := d) (h := .lst (us.map strD' ++ d :: rest)) (rest := rest) us [] none nd hc (fun _ _ z => by cases z) (by simpa using hl) (by simpa using hd _)
  have il : d_is_list [.lst (us.map strD' ++ d :: rest)] vh = some (.bl true, vh) := by
    rw [list_ok (a := .lst) rfl]
    rfl
  have fr : freshD ([], []) vh = some (.ref vh.length, vh ++ [dctO []]) := rfl
  have it : seqIt (.lst (us.map strD' ++ d :: rest)) (vh ++ [dctO []]) = some (us.map strD' ++ d :: rest, vh ++ [dctO []]) := rfl
  rw [List.nil_append] at lp
  unfold x_ask_unlike_names denFX
  rw [g_unlike]
  simp only [VL.bind, VL.ret, VL.fail, denF, denA, den1, den2, denC, consA, nilA, var, kst, seqS, nopS, ifS, retS, asgS, nameG, subG, dropS, cmpT, valT, andB, orB, notB, toB, ifD, andD, orD, notD, methD, List.map_cons, List.map_nil, List.cons_append, List.nil_append, List.length_cons, List.length_nil, List.replicate, List.getElem?_cons_zero, List.getElem?_cons_succ, List.set_cons_zero, List.set_cons_succ, List.set_nil, List.getElem?_nil, Option.map_some, Option.map_none, Option.bind_some, Option.bind_none, if_true, if_false, Bool.false_eq_true, reduceIte, Nat.reduceAdd, Nat.reduceSub, Int.reduceAdd, Int.reduceNeg, seqX, ifX, bindX, okE, il, Bool.not_true, fr, forX, seqI, it, lp]
end
end K41

namespace K41
open PySem VL L2
section
variable {a : Nat} {ax : Int} {s : SS} {t t' : VH} {ns : List (List Nat)} {R : List Row} {d : D} {k : Nat}
theorem tgT_eq (d : D) : D.tup [.str "tie", d] = .tup [.str "tie", d] := rfl
def tgT (d : D) : D := .tup [.str "tie", d]
theorem lam_t {f : Rho → M (Rs D)} {ρ : Rho} (h : f ρ (s.vh t) = some (.ex (exT d), s.vh t')) : lamD qsL t__law_tried f ρ (s.vh t) = some (tgT d, s.vh t') := by
  unfold lamD
  rw [if_pos tabs_s]
  unfold t__law_tried triedD VL.bind
  rw [h]
  kernel_rfl
/-! ### cuts of what is no list -/
theorem ix_hd {x : D} {xs : List D} (w : VH) : ixD (.lst (x :: xs)) (.int 0) w = some (x, w) := by
  show (atI (x :: xs) 0).map _ = _
  unfold atI ixN
  rw [if_pos (by decide), if_pos (by rw [List.length_cons]; omega)]
  rfl
theorem b9_str {l : List Nat} (hl : Nm l) (x0 x1 x2 x3 x4 x5 x7 x8 x9 x11 x12 x13 : Option D) : b9B [x0, x1, x2, x3, x4, x5, some (netD ax ns R), x7, x8, x9, some (strD' l), x11, x12, x13] (s.vh t) = some (.nx [x0, x1, x2, x3, x4, x5, some (netD ax ns R), x7, x8, x9, some (strD' l), x11, x12, x13], s.vh t) := by
  have l1 : lamD qsL t__law_tried (callX (denCX 2 x_cuts) (okE (consA (var 6) (consA (var 10) nilA)))) [x0, x1, x2, x3, x4, x5, some (netD ax ns R), x7, x8, x9, some (strD' l), x11, x12, x13] (s.vh t) = some (tgT (strD' l), s.vh t) :=
    lam_t (by kernel_rfl)
  have m2 : mkTup [D.str "tie", strD' l] = VL.ret (tgT (strD' l)) := rfl
  have sm : d__law_same 6 [tgT (strD' l), tgT (strD' l)] (s.vh t) = some (.bl true, s.vh t) := same_tie (same_nm hl) _
  simp only [VL.bind, VL.ret, VL.fail, denF, denA, den1, den2, denC, consA, nilA, var, kst, seqS, nopS, ifS, retS, asgS, nameG, subG, dropS, cmpT, valT, andB, orB, notB, toB, ifD, andD, orD, notD, methD, List.map_cons, List.map_nil, List.cons_append, List.nil_append, List.length_cons, List.length_nil, List.replicate, List.getElem?_cons_zero, List.getElem?_cons_succ, List.set_cons_zero, List.set_cons_succ, List.set_nil, List.getElem?_nil, Option.map_some, Option.map_none, Option.bind_some, Option.bind_none, if_true, if_false, Bool.false_eq_true, reduceIte, Nat.reduceAdd, Nat.reduceSub, Int.reduceAdd, Int.reduceNeg, b9B, l1, m2, sm, Bool.not_true]
theorem forL_step {g : Tg} {b : Bk} {d : D} {ds : List D} {ρ ρ1 ρ' : Rho} {vh vh' : VH} (e1 : g d ρ vh = some (ρ1, vh)) (e2 : b ρ1 vh = some (.nx ρ', vh')) : forL g b (d :: ds) ρ vh = forL g b ds ρ' vh' := by
  simp only [forL, VL.bind, e1, e2]
theorem b9_ok {l : List Nat} {ls : List (List Nat)} (hl : Nm l) (x0 x1 x2 x3 x4 x5 x8 x9 x10 x11 x12 x13 : Option D) : b9 [x0, x1, x2, x3, x4, x5, some (netD ax ns R), some (.lst ((l :: ls).map strD')), x8, x9, x10, x11, x12, x13] (s.vh t) = some (.nx [x0, x1, x2, x3, x4, x5, some (netD ax ns R), some (.lst ((l :: ls).map strD')), x8, x9, some (.bl true), x11, x12, x13], s.vh t) := by
  have ei : b9I [x0, x1, x2, x3, x4, x5, some (netD ax ns R), some (.lst ((l :: ls).map strD')), x8, x9, x10, x11, x12, x13] (s.vh t) = some ([.non, .int 5, strD' l, .dct [] [], .bl true], s.vh t) := by
    have m5 : mkLst [.non, .int 5, strD' l, .dct [] [], .bl true] = VL.ret (.lst [.non, .int 5, strD' l, .dct [] [], .bl true]) := rfl
    have it : seqIt (.lst [.non, .int 5, strD' l, .dct [] [], .bl true]) (s.vh t) = some ([.non, .int 5, strD' l, .dct [] [], .bl true], s.vh t) := rfl
    simp only [VL.bind, VL.ret, VL.fail, denF, denA, den1, den2, denC, consA, nilA, var, kst, seqS, nopS, ifS, retS, asgS, nameG, subG, dropS, cmpT, valT, andB, orB, notB, toB, ifD, andD, orD, notD, methD, List.map_cons, List.map_nil, List.cons_append, List.nil_append, List.length_cons, List.length_nil, List.replicate, List.getElem?_cons_zero, List.getElem?_cons_succ, List.set_cons_zero, List.set_cons_succ, List.set_nil, List.getElem?_nil, Option.map_some, Option.map_none, Option.bind_some, Option.bind_none, if_true, if_false, Bool.false_eq_true, reduceIte, Nat.reduceAdd, Nat.reduceSub, Int.reduceAdd, Int.reduceNeg, b9I, seqI, ix_hd, stillD, m5, it]
  have st : ∀ d, (d = .non ∨ d = .int 5 ∨ d = .dct [] [] ∨ d = .bl true) → b9B [x0, x1, x2, x3, x4, x5, some (netD ax ns R), some (.lst ((l :: ls).map strD')), x8, x9, some d, x11, x12, x13] (s.vh t) = some (.nx [x0, x1, x2, x3, x4, x5, some (netD ax ns R), some (.lst ((l :: ls).map strD')), x8, x9, some d, x11, x12, x13], s.vh t) := by
    rintro d (rfl | rfl | rfl | rfl) <;> kernel_rfl
  unfold b9 forS VL.bind
  rw [ei]
  refine (forL_step rfl (st .non (.inl rfl))).trans ((forL_step rfl (st (.int 5) (.inr (.inl rfl)))).trans ((forL_step rfl (b9_str hl _ _ _ _ _ _ _ _ _ _ _ _)).trans ((forL_step rfl (st (.dct [] []) (.inr (.inr (.inl rfl))))).trans ((forL_step rfl (st (.bl true) (.inr (.inr (.inr rfl))))).trans ?_))))
  rfl
/-! ### cuts of lists -/
theorem has_no {l : List Nat} (h : ∀ r ∈ R, r.nm ≠ l) (w : VH) : d_Net___contains__ [netD ax ns R, strD' l] w = some (.bl false, w) := by
  have z := key_ok (l := l) (tb := .dct (R.map fun r => ky r.nm) (R.map Row.d)) (vh := w) rfl rfl (fun z e => by cases e)
  have v : valD (R.map fun r => ky r.nm) (R.map Row.d) (.inr (SX.S l)) = none := val_not (j := ky l) fun hm => by
    obtain ⟨r, hr, e⟩ := List.mem_map.mp hm
    exact h r hr (ky_inj e)
  rw [v] at z
  simp only [VL.bind, VL.ret, VL.fail, denF, denA, den1, den2, denC, consA, nilA, var, kst, seqS, nopS, ifS, retS, asgS, nameG, subG, dropS, cmpT, valT, andB, orB, notB, toB, ifD, andD, orD, notD, methD, List.map_cons, List.map_nil, List.cons_append, List.nil_append, List.length_cons, List.length_nil, List.replicate, List.getElem?_cons_zero, List.getElem?_cons_succ, List.set_cons_zero, List.set_cons_succ, List.set_nil, List.getElem?_nil, Option.map_some, Option.map_none, Option.bind_some, Option.bind_none, if_true, if_false, Bool.false_eq_true, reduceIte, Nat.reduceAdd, Nat.reduceSub, Int.reduceAdd, Int.reduceNeg, d_Net___contains__, g_Net___contains__, net_named, z]
  rfl
/-- a thing that is refused behind the names ks -/
structure Bad (ax : Int) (ns : List (List Nat)) (R : List Row) (us : List (List Nat)) (d : D) : Prop where
  rs : ∀ (vh : VH) (m : Nat), 0 < m → ∀ h, X4B [some (netD ax ns R), some h, some (.ref vh.length), some d] (vh ++ [dctO ((us.take m).map ky)]) = some (.ex (exT d), vh ++ [dctO ((us.take m).map ky)])
  fz : ∃ f, (∀ vh, d__law_frozen 5 [tgT d] vh = some (tgT f, vh)) ∧ (∀ vh, d__law_frozen 5 [d] vh = some (f, vh)) ∧ Same 6 (tgT f)
theorem bad_no {f : D} {us : List (List Nat)} (h : ∀ w, d_Net___contains__ [netD ax ns R, d] w = some (.bl false, w)) (h1 : ∀ vh, d__law_frozen 5 [tgT d] vh = some (tgT f, vh)) (h2 : ∀ vh, d__law_frozen 5 [d] vh = some (f, vh)) (h3 : Same 5 f) : Bad ax ns R us d :=
  ⟨fun vh m _ h' => rs_A (h _) _ _, f, h1, h2, same_tie h3⟩
/-- the things that are handed -/
def odd10 (l : List Nat) : List D := [.non, .int 5, .str "", .str "Q", strD' (l ++ [113, 113]), .lst [strD' l], .tup [strD' l], .bl true, strD' l]
theorem bads {l : List Nat} {ls : List (List Nat)} (hw : ∀ r ∈ R, Wo r.nm ∧ NoR r.nm) (hl : Wo l) (hin : ∀ w, d_Net___contains__ [netD ax ns R, strD' l] w = some (.bl true, w)) : ∀ d ∈ odd10 l, Bad ax ns R (l :: ls) d := by
  refine forall_cons ?_ (forall_cons ?_ (forall_cons ?_ (forall_cons ?_ (forall_cons ?_ (forall_cons ?_ (forall_cons ?_ (forall_cons ?_ (forall_cons ?_ forall_nil))))))))
  · exact bad_no (f := .non) (fun w => by kernel_rfl) (fun w => by kernel_rfl) (fun w => by kernel_rfl) (fun w => by kernel_rfl)
  · exact bad_no (f := .int 5) (fun w => by kernel_rfl) (fun w => by kernel_rfl) (fun w => by kernel_rfl) (fun w => by kernel_rfl)
  · exact bad_no (f := .str "") (fun w => has_no (l := []) (fun r hr e => by have := (hw r hr).1.n0; rw [e] at this; simp at this) w) (fun w => by kernel_rfl) (fun w => by kernel_rfl) (fun w => by kernel_rfl)
  · exact bad_no (f := .str "Q") (fun w => has_no (l := [81]) (fun r hr e => absurd ((hw r hr).1.ok 81 (by rw [e]; simp)) (by decide +kernel)) w) (fun w => by kernel_rfl) (fun w => by kernel_rfl) (fun w => by kernel_rfl)
  · refine bad_no (f := strD' (l ++ [113, 113])) (fun w => has_no (fun r hr e => (hw r hr).2.2 l hl.n0 e) w) (fun w => by kernel_rfl) (fun w => by kernel_rfl) (same_nm ⟨by simp, by have := hl.n1; simp; omega, fun c hc => ?_⟩)
    rcases List.mem_append.mp hc with hc | hc
    · exact hl.ok c hc
    · have : c = 113 := by simpa using hc
      subst this
      decide +kernel
  · exact bad_no (f := .tup [strD' l]) (fun w => by kernel_rfl) (fun w => by kernel_rfl) (fun w => by kernel_rfl) (same_tup (show 1 < 16777216 by decide) (forall_cons (same_nm hl.nm) forall_nil))
  · exact bad_no (f := .tup [strD' l]) (fun w => by kernel_rfl) (fun w => by kernel_rfl) (fun w => by kernel_rfl) (same_tup (show 1 < 16777216 by decide) (forall_cons (same_nm hl.nm) forall_nil))
  · exact bad_no (f := .bl true) (fun w => by kernel_rfl) (fun w => by kernel_rfl) (fun w => by kernel_rfl) (fun w => by kernel_rfl)
  · refine ⟨fun vh m hm h' => rs_B hin (by cases m with
      | zero => exact absurd hm (by decide)
      | succ m => rw [List.take_succ_cons, List.map_cons]; exact List.mem_cons_self ..) _, strD' l, fun w => by kernel_rfl, fun w => by kernel_rfl, same_tie (same_nm hl.nm)⟩
theorem cut_hd {α : Type} {xs : List α} {m : Nat} (h : m ≤ xs.length) : cutL xs none (some (m : Int)) = xs.take m := by
  unfold cutL
  rw [HT.sIx_none, HT.sIx_nat, List.drop_zero, Nat.min_eq_left h, Nat.sub_zero]
theorem cut_tl {α : Type} {xs : List α} {m : Nat} (h : m ≤ xs.length) : cutL xs (some (m : Int)) none = xs.drop m := by
  unfold cutL
  rw [HT.sIx_none, HT.sIx_nat, Nat.min_eq_left h]
  exact List.take_of_length_le (by rw [List.length_drop]; omega)
theorem add_lst {xs ys : List D} (h : xs.length + ys.length ≤ line) (w : VH) : addD (.lst xs) (.lst ys) w = some (.lst (xs ++ ys), w) := by
  show (if xs.length + ys.length ≤ line then some (D.lst (xs ++ ys), w) else none) = _
  rw [if_pos h]
theorem b10B_ok {us : List (List Nat)} (h : s.Ok k) (hk : k < 1000000000) (h0 : 0 < us.length) (h1 : us.length ≤ 900) (nd : us.Nodup) (hin : ∀ u ∈ us, ∀ w, d_Net___contains__ [netD ax ns R, strD' u] w = some (.bl true, w)) (b : Bad ax ns R us d) (x0 x2 x3 x4 x5 x8 x9 x11 x12 x13 : Option D) :
    ∃ (y11 y12 : Option D) (s' : SS) (t' : VH), b10B [x0, some (.ref 2), x2, x3, x4, x5, some (netD ax ns R), some (.lst (us.map strD')), x8, x9, some d, x11, x12, x13] (s.vh t) = some (.nx [x0, some (.ref 2), x2, x3, x4, x5, some (netD ax ns R), some (.lst (us.map strD')), x8, x9, some d, y11, y12, x13], s'.vh t') ∧ s'.Ok (k + 1) := by
  obtain ⟨j, s1, e1, j0, j1, o1⟩ := draw_ok (t := t) h (by omega) (n := (us.length : Nat)) (by omega) (by omega)
  obtain ⟨m, rfl⟩ : ∃ m : Nat, j = (m : Int) := ⟨j.toNat, by omega⟩
  have hm : m + 1 ≤ us.length := by omega
  obtain ⟨f, f1, f2, f3⟩ := b.fz
  have le := len_map (f := strD') (xs := us) (s.vh t)
  have q1 : b10_1 [x0, some (.ref 2), x2, x3, x4, x5, some (netD ax ns R), some (.lst (us.map strD')), x8, x9, some d, x11, x12, x13] (s.vh t) = some (.nx [x0, some (.ref 2), x2, x3, x4, x5, some (netD ax ns R), some (.lst (us.map strD')), x8, x9, some d, some (.int ((m + 1 : Nat) : Int)), x12, x13], s1.vh t) := by
    have : (1 : Int) + (m : Int) = ((m + 1 : Nat) : Int) := by omega
    simp only [VL.bind, VL.ret, VL.fail, denF, denA, den1, den2, denC, consA, nilA, var, kst, seqS, nopS, ifS, retS, asgS, nameG, subG, dropS, cmpT, valT, andB, orB, notB, toB, ifD, andD, orD, notD, methD, List.map_cons, List.map_nil, List.cons_append, List.nil_append, List.length_cons, List.length_nil, List.replicate, List.getElem?_cons_zero, List.getElem?_cons_succ, List.set_cons_zero, List.set_cons_succ, List.set_nil, List.getElem?_nil, Option.map_some, Option.map_none, Option.bind_some, Option.bind_none, if_true, if_false, Bool.false_eq_true, reduceIte, Nat.reduceAdd, Nat.reduceSub, Int.reduceAdd, Int.reduceNeg, b10_1, le, e1, add_int, this]
  have c1 : slD (.lst (us.map strD')) none (some ((m + 1 : Nat) : Int)) (s1.vh t) = some (.lst ((us.take (m + 1)).map strD'), s1.vh t) := by
    show some (D.lst (cutL (us.map strD') none (some ((m + 1 : Nat) : Int))), s1.vh t) = _
    rw [cut_hd (by rw [List.length_map]; exact hm), List.map_take]
  have c2 : slD (.lst (us.map strD')) (some ((m + 1 : Nat) : Int)) none (s1.vh t) = some (.lst ((us.drop (m + 1)).map strD'), s1.vh t) := by
    show some (D.lst (cutL (us.map strD') (some ((m + 1 : Nat) : Int)) none), s1.vh t) = _
    rw [cut_tl (by rw [List.length_map]; exact hm), List.map_drop]
  have m1 : ∀ x : D, mkLst [x] = VL.ret (.lst [x]) := fun _ => rfl
  have a1 := add_lst (xs := (us.take (m + 1)).map strD') (ys := [d]) (by simp; show _ ≤ 16777216; omega) (s1.vh t)
  have a2 := add_lst (xs := (us.take (m + 1)).map strD' ++ [d]) (ys := (us.drop (m + 1)).map strD') (by simp; show _ ≤ 16777216; omega) (s1.vh t)
  have a3 := add_lst (xs := (us.take (m + 1)).map strD' ++ [d] ++ (us.drop (m + 1)).map strD') (ys := [.non]) (by simp; show _ ≤ 16777216; omega) (s1.vh t)
  have hh : (us.take (m + 1)).map strD' ++ [d] ++ (us.drop (m + 1)).map strD' ++ [.non] = (us.take (m + 1)).map strD' ++ d :: ((us.drop (m + 1)).map strD' ++ [.non]) := by simp
  rw [hh] at a3
  have q2 : b10_2 [x0, some (.ref 2), x2, x3, x4, x5, some (netD ax ns R), some (.lst (us.map strD')), x8, x9, some d, some (.int ((m + 1 : Nat) : Int)), x12, x13] (s1.vh t) = some (.nx [x0, some (.ref 2), x2, x3, x4, x5, some (netD ax ns R), some (.lst (us.map strD')), x8, x9, some d, some (.int ((m + 1 : Nat) : Int)), some (.lst ((us.take (m + 1)).map strD' ++ d :: ((us.drop (m + 1)).map strD' ++ [.non]))), x13], s1.vh t) := by
    simp only [b10_2, sliceD, optI, noI, den2, denA, consA, nilA, var, kst, asgS, nameG, VL.bind, VL.ret, List.getElem?_cons_zero, List.getElem?_cons_succ, c1, c2, m1, a1, a2, a3, List.set_cons_succ, List.set_cons_zero]
  have cu := cuts_ok (vh := s1.vh t) (ax := ax) (ns := ns) (R := R) (us := us.take (m + 1)) (d := d) (rest := (us.drop (m + 1)).map strD' ++ [.non]) (nd.sublist (List.take_sublist ..)) (fun u hu => hin u (List.mem_of_mem_take hu)) (by rw [List.length_take]; omega) (fun h => b.rs _ _ (by omega) h)
  have l1 : lamD qsL t__law_tried (callX (denCX 2 x_cuts) (okE (consA (var 6) (consA (var 12) nilA)))) [x0, some (.ref 2), x2, x3, x4, x5, some (netD ax ns R), some (.lst (us.map strD')), x8, x9, some d, some (.int ((m + 1 : Nat) : Int)), some (.lst ((us.take (m + 1)).map strD' ++ d :: ((us.drop (m + 1)).map strD' ++ [.non]))), x13] (s1.vh t) = some (tgT d, s1.vh (t ++ [dctO ((us.take (m + 1)).map ky)])) :=
    lam_t cu
  have q3 : b10_3 [x0, some (.ref 2), x2, x3, x4, x5, some (netD ax ns R), some (.lst (us.map strD')), x8, x9, some d, some (.int ((m + 1 : Nat) : Int)), some (.lst ((us.take (m + 1)).map strD' ++ d :: ((us.drop (m + 1)).map strD' ++ [.non]))), x13] (s1.vh t) = some (.nx [x0, some (.ref 2), x2, x3, x4, x5, some (netD ax ns R), some (.lst (us.map strD')), x8, x9, some d, some (.int ((m + 1 : Nat) : Int)), some (.lst ((us.take (m + 1)).map strD' ++ d :: ((us.drop (m + 1)).map strD' ++ [.non]))), x13], s1.vh (t ++ [dctO ((us.take (m + 1)).map ky)])) := by
    have m2 : mkTup [D.str "tie", f] = VL.ret (tgT f) := rfl
    simp only [VL.bind, VL.ret, VL.fail, denF, denA, den1, den2, denC, consA, nilA, var, kst, seqS, nopS, ifS, retS, asgS, nameG, subG, dropS, cmpT, valT, andB, orB, notB, toB, ifD, andD, orD, notD, methD, List.map_cons, List.map_nil, List.cons_append, List.nil_append, List.length_cons, List.length_nil, List.replicate, List.getElem?_cons_zero, List.getElem?_cons_succ, List.set_cons_zero, List.set_cons_succ, List.set_nil, List.getElem?_nil, Option.map_some, Option.map_none, Option.bind_some, Option.bind_none, if_true, if_false, Bool.false_eq_true, reduceIte, Nat.reduceAdd, Nat.reduceSub, Int.reduceAdd, Int.reduceNeg, b10_3, l1, f1, f2, m2, f3 _, Bool.not_true]
  exact ⟨_, _, s1, _, (sq q1).trans ((sq q2).trans q3), o1⟩
theorem b10_ok {l : List Nat} {ls : List (List Nat)} (h : s.Ok k) (hk : k < 100000000) (h1 : ls.length ≤ 800) (hl : Wo l) (nd : (l :: ls).Nodup) (hin : ∀ u ∈ l :: ls, ∀ w, d_Net___contains__ [netD ax ns R, strD' u] w = some (.bl true, w)) (hw : ∀ r ∈ R, Wo r.nm ∧ NoR r.nm) (x0 x2 x3 x4 x5 x8 x9 x10 x11 x12 x13 : Option D) :
    ∃ (y10 y11 y12 : Option D) (s' : SS) (t' : VH), b10 [x0, some (.ref 2), x2, x3, x4, x5, some (netD ax ns R), some (.lst ((l :: ls).map strD')), x8, x9, x10, x11, x12, x13] (s.vh t) = some (.nx [x0, some (.ref 2), x2, x3, x4, x5, some (netD ax ns R), some (.lst ((l :: ls).map strD')), x8, x9, y10, y11, y12, x13], s'.vh t') ∧ s'.Ok (k + 9) := by
  have bd := bads (ax := ax) (ns := ns) (ls := ls) hw hl (hin l (List.mem_cons_self ..))
  obtain ⟨ρ', vh', e, y10, y11, y12, s', t', rfl, rfl, o⟩ := for_inv (g := nameG 10) (b := b10B) (items := odd10 l) (ρ := [x0, some (.ref 2), x2, x3, x4, x5, some (netD ax ns R), some (.lst ((l :: ls).map strD')), x8, x9, x10, x11, x12, x13]) (vh := s.vh t)
    (fun i ρ w => ∃ (y10 y11 y12 : Option D) (s' : SS) (t' : VH), ρ = [x0, some (.ref 2), x2, x3, x4, x5, some (netD ax ns R), some (.lst ((l :: ls).map strD')), x8, x9, y10, y11, y12, x13] ∧ w = s'.vh t' ∧ s'.Ok (k + i))
    ⟨x10, x11, x12, s, t, rfl, rfl, h⟩ (fun i d ρ w hd ⟨y10, y11, y12, s', t', e1, e2, o⟩ => by
      subst e1 e2
      have hi : i < 9 := (List.getElem?_eq_some_iff.mp hd).1
      obtain ⟨y11, y12, s2, t2, e2, o2⟩ := b10B_ok (t := t') o (by omega) (show 0 < (l :: ls).length by simp) (show (l :: ls).length ≤ 900 by rw [List.length_cons]; omega) nd hin (bd d (List.mem_of_getElem? hd)) x0 x2 x3 x4 x5 x8 x9 y11 y12 x13
      exact ⟨_, _, _, rfl, e2, _, _, _, _, _, rfl, rfl, o2⟩)
  refine ⟨y10, y11, y12, s', t', ?_, o⟩
  have ei : b10I [x0, some (.ref 2), x2, x3, x4, x5, some (netD ax ns R), some (.lst ((l :: ls).map strD')), x8, x9, x10, x11, x12, x13] (s.vh t) = some (odd10 l, s.vh t) := by
    have ad : addD (strD' l) (.str "qq") = VL.ret (strD' (l ++ [113, 113])) := add_str (b := [113, 113]) (by have := hl.n1; simp; omega)
    have i0 : ixD (.lst ((l :: ls).map strD')) (.int 0) (s.vh t) = some (strD' l, s.vh t) := ix_hd _
    have m9 : mkLst [.non, .int 5, .str "", .str "Q", strD' (l ++ [113, 113]), .lst [strD' l], .tup [strD' l], .bl true, strD' l] = VL.ret (.lst (odd10 l)) := rfl
    have m1 : mkLst [strD' l] = VL.ret (.lst [strD' l]) := rfl
    have m2 : mkTup [strD' l] = VL.ret (.tup [strD' l]) := rfl
    have it : seqIt (.lst (odd10 l)) (s.vh t) = some (odd10 l, s.vh t) := rfl
    rw [List.map_cons] at i0 ⊢
    simp only [VL.bind, VL.ret, VL.fail, denF, denA, den1, den2, denC, consA, nilA, var, kst, seqS, nopS, ifS, retS, asgS, nameG, subG, dropS, cmpT, valT, andB, orB, notB, toB, ifD, andD, orD, notD, methD, List.map_cons, List.map_nil, List.cons_append, List.nil_append, List.length_cons, List.length_nil, List.replicate, List.getElem?_cons_zero, List.getElem?_cons_succ, List.set_cons_zero, List.set_cons_succ, List.set_nil, List.getElem?_nil, Option.map_some, Option.map_none, Option.bind_some, Option.bind_none, if_true, if_false, Bool.false_eq_true, reduceIte, Nat.reduceAdd, Nat.reduceSub, Int.reduceAdd, Int.reduceNeg, b10I, seqI, i0, ad, m1, m2, m9, it]
  unfold b10 forS VL.bind
  rw [ei]
  exact e
end
end K41

namespace K41
open PySem VL L2
section
variable {a : Nat} {s : SS} {t t' : VH} {k : Nat}
theorem lam_s2 {f : Rho → M (Rs D)} {ρ : Rho} {d : D} (h : f ρ (s.vh t) = some (.ex (exS d), s.vh t')) : lamD qsL t__law_tried f ρ (s.vh t) = some (tgS d, s.vh t') := by
  unfold lamD
  rw [if_pos tabs_s]
  unfold t__law_tried triedD VL.bind
  rw [h]
  kernel_rfl
theorem made_ok {ns : List (List Nat)} {ax : Int} {R : List Row} {vh : VH} (a0 : 0 ≤ ax) (a1 : ax ≤ 4) (n0 : 0 < ns.length) (hns : ns.length ≤ 1000) (nd : ns.Nodup) (hn : ∀ l ∈ ns, Nm l) (hR : R.length ≤ 1000) (ndR : (R.map Row.nm).Nodup) (g : ∀ r ∈ R, RowGood ns ax r) :
    ∃ u, d__law_n_made [planD ax ns R] vh = some (netD ax ns R, vh ++ u) := by
  obtain ⟨u, e⟩ := mkF_ok (vh := vh) a0 a1 n0 hns nd hn hR ndR g
  refine ⟨u, ?_⟩
  unfold d__law_n_made
  simp only [VL.bind, VL.ret, VL.fail, denF, denA, den1, den2, denC, consA, nilA, var, kst, seqS, nopS, ifS, retS, asgS, nameG, subG, dropS, cmpT, valT, andB, orB, notB, toB, ifD, andD, orD, notD, methD, List.map_cons, List.map_nil, List.cons_append, List.nil_append, List.length_cons, List.length_nil, List.replicate, List.getElem?_cons_zero, List.getElem?_cons_succ, List.set_cons_zero, List.set_cons_succ, List.set_nil, List.getElem?_nil, Option.map_some, Option.map_none, Option.bind_some, Option.bind_none, if_true, if_false, Bool.false_eq_true, reduceIte, Nat.reduceAdd, Nat.reduceSub, Int.reduceAdd, Int.reduceNeg, g__law_n_made, pl0, pl1, pl2, e]
theorem turn_ok (h : s.Ok k) (hk : k < 100000) (x0 x2 x3 x4 x5 x6 x7 x8 x9 x10 x11 x12 x13 : Option D) : ∃ (y3 y4 y5 y6 y7 y8 y9 y10 y11 y12 : Option D) (s' : SS) (t' : VH), turnB [x0, some (.ref 2), x2, x3, x4, x5, x6, x7, x8, x9, x10, x11, x12, none] (s.vh t) =
    some (.nx [x0, some (.ref 2), x2, y3, y4, y5, y6, y7, y8, y9, y10, y11, y12, none], s'.vh t') ∧ s'.Ok (k + 1000) := by
  obtain ⟨j, s1, e1, j0, j1, o1⟩ := draw_ok (t := t) h (by omega) (n := 3) (by decide) (by decide)
  obtain ⟨a, ea, hA⟩ : ∃ a : Nat, (1 : Int) + j = (a : Nat) ∧ Ax a := ⟨(1 + j).toNat, by omega, by unfold Ax; omega⟩
  have ha : a ≤ 3 := by rcases hA with rfl | rfl | rfl <;> decide
  obtain ⟨ns, R, s2, t2, e2, n0, n1, nd, hw, r0, r1, ndR, hr, o2⟩ := plan_ok (t := t) o1 (by omega) (ax := (a : Nat)) (halls := 3) (many := 5) (w := 2) (by omega) (by omega) (by decide) (by decide) (by decide) (by decide) (by decide) (by decide)
  have hn : ∀ l ∈ ns, Nm l := fun l hl => (hw l hl).1.nm
  have good : ∀ r ∈ R, RowGood ns (a : Nat) r := fun r h => ⟨(hr r h).2.1.nm, (hr r h).1.st, (hr r h).1.en, by have := (hr r h).1.le; omega, by have := (hr r h).1.le; omega⟩
  have rnm : ∀ r ∈ R, RowNm r := fun r h => ⟨(hr r h).2.1.nm, hn _ (hr r h).1.st, hn _ (hr r h).1.en⟩
  obtain ⟨u, e3⟩ := made_ok (vh := s2.vh t2) (ax := (a : Nat)) (by omega) (by omega) n0 (by omega) nd hn (by omega) ndR good
  have ap : s2.vh t2 ++ u = s2.vh (t2 ++ u) := rfl
  rw [ap] at e3
  have q1 : c1 [x0, some (.ref 2), x2, x3, x4, x5, x6, x7, x8, x9, x10, x11, x12, none] (s.vh t) = some (.nx [x0, some (.ref 2), x2, x3, some (.int (a : Nat)), x5, x6, x7, x8, x9, x10, x11, x12, none], s1.vh t) := by
    simp only [VL.bind, VL.ret, VL.fail, denF, denA, den1, den2, denC, consA, nilA, var, kst, seqS, nopS, ifS, retS, asgS, nameG, subG, dropS, cmpT, valT, andB, orB, notB, toB, ifD, andD, orD, notD, methD, List.map_cons, List.map_nil, List.cons_append, List.nil_append, List.length_cons, List.length_nil, List.replicate, List.getElem?_cons_zero, List.getElem?_cons_succ, List.set_cons_zero, List.set_cons_succ, List.set_nil, List.getElem?_nil, Option.map_some, Option.map_none, Option.bind_some, Option.bind_none, if_true, if_false, Bool.false_eq_true, reduceIte, Nat.reduceAdd, Nat.reduceSub, Int.reduceAdd, Int.reduceNeg, c1, e1, add_int, ea]
  have q2 : c2 [x0, some (.ref 2), x2, x3, some (.int (a : Nat)), x5, x6, x7, x8, x9, x10, x11, x12, none] (s1.vh t) = some (.nx [x0, some (.ref 2), x2, x3, some (.int (a : Nat)), some (planD (a : Nat) ns R), x6, x7, x8, x9, x10, x11, x12, none], s2.vh t2) := by
    simp only [VL.bind, VL.ret, VL.fail, denF, denA, den1, den2, denC, consA, nilA, var, kst, seqS, nopS, ifS, retS, asgS, nameG, subG, dropS, cmpT, valT, andB, orB, notB, toB, ifD, andD, orD, notD, methD, List.map_cons, List.map_nil, List.cons_append, List.nil_append, List.length_cons, List.length_nil, List.replicate, List.getElem?_cons_zero, List.getElem?_cons_succ, List.set_cons_zero, List.set_cons_succ, List.set_nil, List.getElem?_nil, Option.map_some, Option.map_none, Option.bind_some, Option.bind_none, if_true, if_false, Bool.false_eq_true, reduceIte, Nat.reduceAdd, Nat.reduceSub, Int.reduceAdd, Int.reduceNeg, c2, e2, planD]
  have q3 : c3 [x0, some (.ref 2), x2, x3, some (.int (a : Nat)), some (planD (a : Nat) ns R), x6, x7, x8, x9, x10, x11, x12, none] (s2.vh t2) = some (.nx [x0, some (.ref 2), x2, x3, some (.int (a : Nat)), some (planD (a : Nat) ns R), some (netD (a : Nat) ns R), some (.lst ((R.map Row.nm).map strD')), x8, x9, x10, x11, x12, none], s2.vh (t2 ++ u)) := by
    have z := comp_of (g := nameG 13) (e := den2 ixD (var 13) (kst (.int 0))) (ρ := wipeR [x0, some (.ref 2), x2, x3, some (.int (a : Nat)), some (planD (a : Nat) ns R), x6, x7, x8, x9, x10, x11, x12, none] [13]) (vh := s2.vh (t2 ++ u)) (a := Row.d) (b := fun r => strD' r.nm) R (fun r hr => ⟨_, rfl, by simp only [VL.bind, VL.ret, VL.fail, denF, denA, den1, den2, denC, consA, nilA, var, kst, seqS, nopS, ifS, retS, asgS, nameG, subG, dropS, cmpT, valT, andB, orB, notB, toB, ifD, andD, orD, notD, methD, List.map_cons, List.map_nil, List.cons_append, List.nil_append, List.length_cons, List.length_nil, List.replicate, List.getElem?_cons_zero, List.getElem?_cons_succ, List.set_cons_zero, List.set_cons_succ, List.set_nil, List.getElem?_nil, Option.map_some, Option.map_none, Option.bind_some, Option.bind_none, if_true, if_false, Bool.false_eq_true, reduceIte, Nat.reduceAdd, Nat.reduceSub, Int.reduceAdd, Int.reduceNeg, wipeR, rw0]⟩)
    have it : seqIt (.lst (R.map Row.d)) (s2.vh (t2 ++ u)) = some (R.map Row.d, s2.vh (t2 ++ u)) := rfl
    have ei : (seqI (den2 ixD (var 5) (kst (.int 2)))) [x0, some (.ref 2), x2, x3, some (.int (a : Nat)), some (planD (a : Nat) ns R), x6, x7, x8, x9, x10, x11, x12, none] (s2.vh (t2 ++ u)) = some (R.map Row.d, s2.vh (t2 ++ u)) := by
      simp only [VL.bind, VL.ret, VL.fail, denF, denA, den1, den2, denC, consA, nilA, var, kst, seqS, nopS, ifS, retS, asgS, nameG, subG, dropS, cmpT, valT, andB, orB, notB, toB, ifD, andD, orD, notD, methD, List.map_cons, List.map_nil, List.cons_append, List.nil_append, List.length_cons, List.length_nil, List.replicate, List.getElem?_cons_zero, List.getElem?_cons_succ, List.set_cons_zero, List.set_cons_succ, List.set_nil, List.getElem?_nil, Option.map_some, Option.map_none, Option.bind_some, Option.bind_none, if_true, if_false, Bool.false_eq_true, reduceIte, Nat.reduceAdd, Nat.reduceSub, Int.reduceAdd, Int.reduceNeg, seqI, pl2, it]
    have el := lc_eq (mk := still0) (vs := [13]) ei (by rw [List.length_map]; show _ < 16777216; omega) z
    have em : R.map (fun r => strD' r.nm) = (R.map Row.nm).map strD' := by rw [List.map_map]; rfl
    rw [em] at el
    have m2 : mkTup [netD (a : Nat) ns R, .lst ((R.map Row.nm).map strD')] = VL.ret (.tup [netD (a : Nat) ns R, .lst ((R.map Row.nm).map strD')]) := rfl
    have un : ∀ (x y : D) (ρ : Rho) (w : VH), unpG 2 (consG (nameG 6) (consG (nameG 7) nilG)) (.tup [x, y]) ρ w = some ((ρ.set 6 (some x)).set 7 (some y), w) := fun _ _ _ _ => rfl
    simp only [VL.bind, VL.ret, VL.fail, denF, denA, den1, den2, denC, consA, nilA, var, kst, seqS, nopS, ifS, retS, asgS, nameG, subG, dropS, cmpT, valT, andB, orB, notB, toB, ifD, andD, orD, notD, methD, List.map_cons, List.map_nil, List.cons_append, List.nil_append, List.length_cons, List.length_nil, List.replicate, List.getElem?_cons_zero, List.getElem?_cons_succ, List.set_cons_zero, List.set_cons_succ, List.set_nil, List.getElem?_nil, Option.map_some, Option.map_none, Option.bind_some, Option.bind_none, if_true, if_false, Bool.false_eq_true, reduceIte, Nat.reduceAdd, Nat.reduceSub, Int.reduceAdd, Int.reduceNeg, c3, e3, el, still0, m2, un]
  have hR : R = R.head (by intro z; rw [z] at r0; cases r0) :: R.tail := (List.cons_head_tail _).symm
  generalize R.head (by intro z; rw [z] at r0; cases r0) = r at hR
  generalize R.tail = rs at hR
  have hm : R.map Row.nm = r.nm :: rs.map Row.nm := by rw [hR]; rfl
  have hrR : r ∈ R := by rw [hR]; exact List.mem_cons_self ..
  rw [hm] at q3
  have q4 := c4_ok hA (s2.vh (t2 ++ u)) x0 (some (.ref 2)) x2 x3 (some (planD (a : Nat) ns R)) (some (netD (a : Nat) ns R)) (some (.lst ((r.nm :: rs.map Row.nm).map strD'))) x8 x9 x10 x11 x12 none
  have q5 := c5_ok hA (s2.vh (t2 ++ u)) x0 (some (.ref 2)) x2 x3 (some (.int (a : Nat))) (some (planD (a : Nat) ns R)) (some (netD (a : Nat) ns R)) (some (.lst ((r.nm :: rs.map Row.nm).map strD'))) x9 x10 x11 x12 none
  obtain ⟨y3, y10, t3, q6⟩ := b6_ok (s := s2) (t := t2 ++ u) (ns := ns) (R := R) hA x0 x2 x3 (some (planD (a : Nat) ns R)) (some (.lst ((r.nm :: rs.map Row.nm).map strD'))) x10 x11 x12 none
  have q7 := b7_ok (s := s2) (t := t3) (ns := ns) (R := R) hA x0 x2 y3 (some (planD (a : Nat) ns R)) (some (.lst ((r.nm :: rs.map Row.nm).map strD'))) (some (fineD a)) (some (.lst (someL a))) y10 x11 x12 none
  have q8 := b8_ok (s := s2) (t := t3) (ns := ns) (R := R) hA x0 x2 y3 (some (.int (a : Nat))) (some (planD (a : Nat) ns R)) (some (.lst ((r.nm :: rs.map Row.nm).map strD'))) (some (fineD a)) (some (.lst (someL a))) (some (.dct [] [])) x11 x12 none
  have q9 := b9_ok (s := s2) (t := t3) (ax := (a : Nat)) (ns := ns) (R := R) (l := r.nm) (ls := rs.map Row.nm) (hr r hrR).2.1.nm x0 (some (.ref 2)) x2 y3 (some (.int (a : Nat))) (some (planD (a : Nat) ns R)) (some (fineD a)) (some (.lst (someL a))) (some (.dct [] [])) x11 x12 none
  have hlen : (rs.map Row.nm).length ≤ 800 := by
    have : R.length = rs.length + 1 := by rw [hR]; rfl
    rw [List.length_map]
    omega
  obtain ⟨z10, z11, z12, s4, t4, q10, o4⟩ := b10_ok (t := t3) (ax := (a : Nat)) (ns := ns) (R := R) (l := r.nm) (ls := rs.map Row.nm) o2 (by omega) hlen (hr r hrR).2.1 (by rw [← hm]; exact ndR) (fun v hv w => by
    rw [← hm] at hv
    obtain ⟨r', hr', rfl⟩ := List.mem_map.mp hv
    exact has_ok ndR hr' w) (fun r h => (hr r h).2) x0 x2 y3 (some (.int (a : Nat))) (some (planD (a : Nat) ns R)) (some (fineD a)) (some (.lst (someL a))) (some (.bl true)) x11 x12 none
  have q11 : b11 [x0, some (.ref 2), x2, y3, some (.int (a : Nat)), some (planD (a : Nat) ns R), some (netD (a : Nat) ns R), some (.lst ((r.nm :: rs.map Row.nm).map strD')), some (fineD a), some (.lst (someL a)), z10, z11, z12, none] (s4.vh t4) = some (.nx [x0, some (.ref 2), x2, y3, some (.int (a : Nat)), some (planD (a : Nat) ns R), some (netD (a : Nat) ns R), some (.lst ((r.nm :: rs.map Row.nm).map strD')), some (fineD a), some (.lst (someL a)), z10, z11, z12, none], s4.vh t4) := by
    have lt : lookupF netK (netV (a : Nat) ns R) "ties" = none := by kernel_rfl
    have dn : denC 1 d_Net_ties [netD (a : Nat) ns R] = d_Net_ties [netD (a : Nat) ns R] := if_pos rfl
    have tr := ties_r (ax := (a : Nat)) (ns := ns) (R := R) (s4.vh t4)
    have om : ∀ ρ : Rho, ρ[6]? = some (some (netD (a : Nat) ns R)) → omethD 0 "ties" 1 d_Net_ties (var 6) nilA ρ (s4.vh t4) = some (.lst (R.map Row.d), s4.vh t4) := fun ρ h => by
      unfold omethD
      simp only [VL.bind, VL.ret, VL.fail, denF, denA, den1, den2, denC, consA, nilA, var, kst, seqS, nopS, ifS, retS, asgS, nameG, subG, dropS, cmpT, valT, andB, orB, notB, toB, ifD, andD, orD, notD, methD, List.map_cons, List.map_nil, List.cons_append, List.nil_append, List.length_cons, List.length_nil, List.replicate, List.getElem?_cons_zero, List.getElem?_cons_succ, List.set_cons_zero, List.set_cons_succ, List.set_nil, List.getElem?_nil, Option.map_some, Option.map_none, Option.bind_some, Option.bind_none, if_true, if_false, Bool.false_eq_true, reduceIte, Nat.reduceAdd, Nat.reduceSub, Int.reduceAdd, Int.reduceNeg, h, net_obj, lt, dn, tr]
    have om := om [x0, some (.ref 2), x2, y3, some (.int (a : Nat)), some (planD (a : Nat) ns R), some (netD (a : Nat) ns R), some (.lst ((r.nm :: rs.map Row.nm).map strD')), some (fineD a), some (.lst (someL a)), z10, z11, z12, none] rfl
    simp only [List.map_cons] at om
    have nr := ne_rows2 rnm (s4.vh t4)
    simp only [VL.bind, VL.ret, VL.fail, denF, denA, den1, den2, denC, consA, nilA, var, kst, seqS, nopS, ifS, retS, asgS, nameG, subG, dropS, cmpT, valT, andB, orB, notB, toB, ifD, andD, orD, notD, methD, List.map_cons, List.map_nil, List.cons_append, List.nil_append, List.length_cons, List.length_nil, List.replicate, List.getElem?_cons_zero, List.getElem?_cons_succ, List.set_cons_zero, List.set_cons_succ, List.set_nil, List.getElem?_nil, Option.map_some, Option.map_none, Option.bind_some, Option.bind_none, if_true, if_false, Bool.false_eq_true, reduceIte, Nat.reduceAdd, Nat.reduceSub, Int.reduceAdd, Int.reduceNeg, b11, om, pl2, nr]
  exact ⟨_, _, _, _, _, _, _, _, _, _, s4, t4, (sq q1).trans ((sq q2).trans ((sq q3).trans ((sq q4).trans ((sq q5).trans ((sq q6).trans ((sq q7).trans ((sq q8).trans ((sq q9).trans ((sq q10).trans q11))))))))), o4.mono (by omega)⟩
theorem z1_ok (x0 x2 y3 y4 y5 y6 y7 y8 y9 y10 y11 y12 : Option D) : ∃ t', z1 [x0, some (.ref 2), x2, y3, y4, y5, y6, y7, y8, y9, y10, y11, y12, none] (s.vh t) = some (.nx [x0, some (.ref 2), x2, some (tgS (.lst [.int 1])), y4, y5, y6, y7, y8, y9, y10, y11, y12, none], s.vh t') := by
  obtain ⟨u, e⟩ := mkF_ok (ns := [[97]]) (ax := 0) (R := []) (vh := s.vh t) (by decide) (by decide) (by decide) (by decide) (by simp) (forall_cons ⟨by decide, by decide, by decide +kernel⟩ forall_nil) (by decide) (by simp) (fun r h => by cases h)
  have ap : s.vh t ++ u = s.vh (t ++ u) := rfl
  rw [ap] at e
  have sa : D.str "a" = strD' [97] := by kernel_rfl
  have m1 : ∀ x : D, mkLst [x] = VL.ret (.lst [x]) := fun _ => rfl
  have bx : x_box_way [netD 0 [[97]] [], .lst [.int 1]] (s.vh (t ++ u)) = some (.ex (exS (.lst [.int 1])), s.vh (t ++ u)) := by kernel_rfl
  have dn : ∀ x y : D, denCX 2 x_box_way [x, y] = x_box_way [x, y] := fun _ _ => if_pos rfl
  refine ⟨t ++ u, ?_⟩
  rw [List.map_cons, List.map_nil, List.map_nil] at e
  have l1 : lamD qsL t__law_tried (callX (denCX 2 x_box_way) (okE (consA (denA (mkD 0 4 d_Net___init__) (consA (kst (.int 0)) (consA (denA mkLst (consA (kst (.str "a")) nilA)) (consA (denA mkLst nilA) nilA)))) (consA (denA mkLst (consA (kst (.int 1)) nilA)) nilA)))) [x0, some (.ref 2), x2, y3, y4, y5, y6, y7, y8, y9, y10, y11, y12, none] (s.vh t) = some (tgS (.lst [.int 1]), s.vh (t ++ u)) := lam_s2 (by
    simp only [VL.bind, VL.ret, VL.fail, denF, denA, den1, den2, denC, consA, nilA, var, kst, seqS, nopS, ifS, retS, asgS, nameG, subG, dropS, cmpT, valT, andB, orB, notB, toB, ifD, andD, orD, notD, methD, List.map_cons, List.map_nil, List.cons_append, List.nil_append, List.length_cons, List.length_nil, List.replicate, List.getElem?_cons_zero, List.getElem?_cons_succ, List.set_cons_zero, List.set_cons_succ, List.set_nil, List.getElem?_nil, Option.map_some, Option.map_none, Option.bind_some, Option.bind_none, if_true, if_false, Bool.false_eq_true, reduceIte, Nat.reduceAdd, Nat.reduceSub, Int.reduceAdd, Int.reduceNeg, callX, okE, bindX, sa, m1, mkLst_nil, e, dn, bx])
  simp only [VL.bind, VL.ret, VL.fail, denF, denA, den1, den2, denC, consA, nilA, var, kst, seqS, nopS, ifS, retS, asgS, nameG, subG, dropS, cmpT, valT, andB, orB, notB, toB, ifD, andD, orD, notD, methD, List.map_cons, List.map_nil, List.cons_append, List.nil_append, List.length_cons, List.length_nil, List.replicate, List.getElem?_cons_zero, List.getElem?_cons_succ, List.set_cons_zero, List.set_cons_succ, List.set_nil, List.getElem?_nil, Option.map_some, Option.map_none, Option.bind_some, Option.bind_none, if_true, if_false, Bool.false_eq_true, reduceIte, Nat.reduceAdd, Nat.reduceSub, Int.reduceAdd, Int.reduceNeg, z1, l1]
theorem z2_ok (x0 x2 y4 y5 y6 y7 y8 y9 y10 y11 y12 : Option D) : z2 [x0, some (.ref 2), x2, some (tgS (.lst [.int 1])), y4, y5, y6, y7, y8, y9, y10, y11, y12, none] (s.vh t) = some (.rt (.bl true), s.vh t) := by
  kernel_rfl
end
theorem math : ∀ (L : List D → M D) (s : D) (ns : List Int), ns.length ≤ 63 → (∀ vh, L [s] vh = new (.lst (ns.map D.int)) vh) → ∃ vh', d_law L [s] (tabVH 0 qsL) = some (.bl true, vh') := by
  intro L s ns hl hL
  have e0 : d__law_start L [s] (tabVH 0 qsL) = some (.ref 2, SS.vh ⟨ns, 0, 0, 11⟩ []) := by
    have l0 := hL (tabVH 0 qsL)
    have n0 : new (.lst (ns.map D.int)) (tabVH 0 qsL) = some (.ref 1, [some (.tab 200 (qsL.getD 0 "")), some (.lst (ns.map D.int))]) := rfl
    have nl : mkLstM [.ref 1, .int 0, .int 0, .int 11] [some (.tab 200 (qsL.getD 0 "")), some (.lst (ns.map D.int))] = some (.ref 2, SS.vh ⟨ns, 0, 0, 11⟩ []) := rfl
    rw [n0] at l0
    simp only [VL.bind, VL.ret, VL.fail, denF, denA, den1, den2, denC, consA, nilA, var, kst, seqS, nopS, ifS, retS, asgS, nameG, subG, dropS, cmpT, valT, andB, orB, notB, toB, ifD, andD, orD, notD, methD, List.map_cons, List.map_nil, List.cons_append, List.nil_append, List.length_cons, List.length_nil, List.replicate, List.getElem?_cons_zero, List.getElem?_cons_succ, List.set_cons_zero, List.set_cons_succ, List.set_nil, List.getElem?_nil, Option.map_some, Option.map_none, Option.bind_some, Option.bind_none, if_true, if_false, Bool.false_eq_true, reduceIte, Nat.reduceAdd, Nat.reduceSub, Int.reduceAdd, Int.reduceNeg, d__law_start, g__law_start, l0, nl]
  have f0 : (asgS (denA (denC 1 (d__law_start L)) (consA (var 0) nilA)) (nameG 1)) [some s, none, none, none, none, none, none, none, none, none, none, none, none, none] (tabVH 0 qsL) = some (.nx [some s, some (.ref 2), none, none, none, none, none, none, none, none, none, none, none, none], SS.vh ⟨ns, 0, 0, 11⟩ []) := by
    simp only [VL.bind, VL.ret, VL.fail, denF, denA, den1, den2, denC, consA, nilA, var, kst, seqS, nopS, ifS, retS, asgS, nameG, subG, dropS, cmpT, valT, andB, orB, notB, toB, ifD, andD, orD, notD, methD, List.map_cons, List.map_nil, List.cons_append, List.nil_append, List.length_cons, List.length_nil, List.replicate, List.getElem?_cons_zero, List.getElem?_cons_succ, List.set_cons_zero, List.set_cons_succ, List.set_nil, List.getElem?_nil, Option.map_some, Option.map_none, Option.bind_some, Option.bind_none, if_true, if_false, Bool.false_eq_true, reduceIte, Nat.reduceAdd, Nat.reduceSub, Int.reduceAdd, Int.reduceNeg, e0]
  obtain ⟨ρ', vh', e5, y2, y3, y4, y5, y6, y7, y8, y9, y10, y11, y12, s5, t5, rfl, rfl, o5⟩ := for_inv (g := nameG 2) (b := turnB) (items := rangeL 0 4) (ρ := [some s, some (.ref 2), none, none, none, none, none, none, none, none, none, none, none, none]) (vh := SS.vh ⟨ns, 0, 0, 11⟩ [])
    (fun i ρ w => ∃ (y2 y3 y4 y5 y6 y7 y8 y9 y10 y11 y12 : Option D) (s' : SS) (t' : VH), ρ = [some s, some (.ref 2), y2, y3, y4, y5, y6, y7, y8, y9, y10, y11, y12, none] ∧ w = s'.vh t' ∧ s'.Ok (1000 * i))
    ⟨none, none, none, none, none, none, none, none, none, none, none, ⟨ns, 0, 0, 11⟩, [], rfl, rfl, ⟨Int.le_refl _, Int.le_refl _, (show (0 : Int) ≤ 11 by decide), (show (11 : Int) < 2147483647 by decide), hl⟩⟩ (fun i d ρ w hd ⟨y2, y3, y4, y5, y6, y7, y8, y9, y10, y11, y12, s1, t1, e1, e2, ho⟩ => by
      subst e1 e2
      have hi : i < 4 := by
        have z := (List.getElem?_eq_some_iff.mp hd).1
        rw [range_len] at z
        exact z
      obtain ⟨z3, z4, z5, z6, z7, z8, z9, z10, z11, z12, s3, t3, f, o3⟩ := turn_ok (t := t1) ho (by omega) (some s) (some d) y3 y4 y5 y6 y7 y8 y9 y10 y11 y12 none
      exact ⟨_, _, _, rfl, f, some d, z3, z4, z5, z6, z7, z8, z9, z10, z11, z12, s3, t3, rfl, rfl, o3.mono (by omega)⟩)
  obtain ⟨t6, f6⟩ := z1_ok (s := s5) (t := t5) (some s) y2 y3 y4 y5 y6 y7 y8 y9 y10 y11 y12
  have f7 := z2_ok (s := s5) (t := t6) (some s) y2 y4 y5 y6 y7 y8 y9 y10 y11 y12
  refine ⟨s5.vh t6, denF_rt ?_⟩
  rw [g_law_eq]
  refine (sq f0).trans ?_
  have f5 : (forS (argI range1It (consA (kst (.int 4)) nilA)) (nameG 2) turnB) [some s, some (.ref 2), none, none, none, none, none, none, none, none, none, none, none, none] (SS.vh ⟨ns, 0, 0, 11⟩ []) = some (.nx [some s, some (.ref 2), y2, y3, y4, y5, y6, y7, y8, y9, y10, y11, y12, none], s5.vh t5) := by
    have er : (argI range1It (consA (kst (.int 4)) nilA)) [some s, some (.ref 2), none, none, none, none, none, none, none, none, none, none, none, none] (SS.vh ⟨ns, 0, 0, 11⟩ []) = some (rangeL 0 4, SS.vh ⟨ns, 0, 0, 11⟩ []) := rfl
    unfold forS VL.bind
    rw [er]
    exact e5
  exact (sq f5).trans ((sq f6).trans f7)
end K41

namespace H41
open PySem PySem.Spec PyProof.Rows L2 VL K41
set_option maxHeartbeats 0 in
theorem facts {l : PySem.W.OpenLaw} {w : World} {K : PySem.W.Frag} {h : Heap} {mg : Str → Option Value} {fa : Addr} (X : K.In h) (G : h.Ns mainGlobals mg) (hfa : mg "law" = some (.ref fa)) (c : He.SaysX [] fnH [] tfH exH w h K) :
    ∃ (fd : FuncData) (cs : List (Addr × Addr)), (∀ p ∈ cs, h.get? p.2 = some { cls := .none, data := .fields #[] }) ∧ (∀ p ∈ cs, K.lookup p.2 = none) ∧ (∀ p ∈ cs, PySem.W.CodeHd h p.1 p.2) ∧ (∀ (s : Shared) (u : Value), BindsTo s fd ⟨[u], []⟩ [("_law_script", u)]) ∧ ∀ base : Heap, K.In base → base.Ns mainGlobals mg → (∀ p ∈ cs, LamX.TabB base mg p.1 p.2) → FnOk l.prog w K mg base CX0 9 fa fd ["_law_script"] (spLawT K (cs.map (·.2))) := by
  have m : ∀ i b, (exL K)[i]? = some b → b = true := fun i b e => List.all_eq_true.mp c.more b (List.mem_of_getElem? e)
  have a_NoTie : PySem.W.nsIn K mainGlobals "NoTie" = some (some (.ref (He.ga K "NoTie"))) := bo (m 0 _ rfl)
  have ty_NoTie : PySem.W.typeIn K (.ref (He.ga K "NoTie")) = some (.type "type") := of_decide_eq_true (m 1 _ rfl)
  have c_NoTie : ∃ cd, PySem.W.clsIn K (He.ga K "NoTie") = some cd ∧ cd.mro = .ref (He.ga K "NoTie") :: .ref (He.ga K "NetError") :: [.type "ValueError", .type "Exception", .type "BaseException", .type "object"] := mroB_ok (m 2 _ rfl)
  have sb_NoTie : PySem.W.subIn K (.ref (He.ga K "NoTie")) (.type "BaseException") = some true := of_decide_eq_true (m 3 _ rfl)
  have ga_NoTie : PySem.W.findIn K (.ref (He.ga K "NoTie")) "__getattribute__" = some (some (.builtin "BaseException.__getattribute__")) := bo (m 4 _ rfl)
  have gt_NoTie : PySem.W.findIn K (.ref (He.ga K "NoTie")) "__getattr__" = some none := bo (m 5 _ rfl)
  have hd_NoTie : PySem.W.hasDictIn K (He.ga K "NoTie") = true := (m 6 _ rfl)
  have no_NoTie : PySem.W.findIn K (.ref (He.ga K "NoTie")) "name" = some none := bo (m 7 _ rfl)
  have kc_NoTie : PySem.W.keepIn K (.ref (He.ga K "NoTie")) = true := (m 8 _ rfl)
  have o_NoTie : ∃ nm q N bs bm sn sub ab col dd k0 k1 k2 k3 k5, K.lookup (He.ga K "NoTie") = some (excClassObj nm q (He.ga K "NoTie") N bs bm true sn sub ab col dd k0 k1 k2 k3 k5 "ValueError.__new__") ∧ PySem.HandSPX.refsVE bm = true := oexB_ok (m 9 _ rfl)
  have sa_NoTie : PySem.W.findIn K (.ref (He.ga K "NoTie")) "__setattr__" = some (some (.builtin "object.__setattr__")) := bo (m 10 _ rfl)
  have i_NoTie : PySem.W.findIn K (.ref (He.ga K "NoTie")) "__init__" = some (some (.ref (He.fAd K ("NoTie", some "__init__")))) := bo (m 11 _ rfl)
  have ti_NoTie : PySem.W.typeIn K (.ref (He.fAd K ("NoTie", some "__init__"))) = some (.type "function") := of_decide_eq_true (m 12 _ rfl)
  have F_NoTie : ∃ fd, Fun K "__init__" "NoTie.__init__" s_NoTie___init__ (He.fAd K ("NoTie", some "__init__")) fd := by
    obtain ⟨fd, F⟩ := c.t.d.def_ (d := dH0) 0 rfl
    exact ⟨fd, He5.fun_of F⟩
  have a_BadNumber : PySem.W.nsIn K mainGlobals "BadNumber" = some (some (.ref (He.ga K "BadNumber"))) := bo (m 13 _ rfl)
  have ty_BadNumber : PySem.W.typeIn K (.ref (He.ga K "BadNumber")) = some (.type "type") := of_decide_eq_true (m 14 _ rfl)
  have c_BadNumber : ∃ cd, PySem.W.clsIn K (He.ga K "BadNumber") = some cd ∧ cd.mro = .ref (He.ga K "BadNumber") :: .ref (He.ga K "NetError") :: [.type "ValueError", .type "Exception", .type "BaseException", .type "object"] := mroB_ok (m 15 _ rfl)
  have sb_BadNumber : PySem.W.subIn K (.ref (He.ga K "BadNumber")) (.type "BaseException") = some true := of_decide_eq_true (m 16 _ rfl)
  have ga_BadNumber : PySem.W.findIn K (.ref (He.ga K "BadNumber")) "__getattribute__" = some (some (.builtin "BaseException.__getattribute__")) := bo (m 17 _ rfl)
  have gt_BadNumber : PySem.W.findIn K (.ref (He.ga K "BadNumber")) "__getattr__" = some none := bo (m 18 _ rfl)
  have hd_BadNumber : PySem.W.hasDictIn K (He.ga K "BadNumber") = true := (m 19 _ rfl)
  have no_BadNumber : PySem.W.findIn K (.ref (He.ga K "BadNumber")) "number" = some none := bo (m 20 _ rfl)
  have kc_BadNumber : PySem.W.keepIn K (.ref (He.ga K "BadNumber")) = true := (m 21 _ rfl)
  have o_BadNumber : ∃ nm q N bs bm sn sub ab col dd k0 k1 k2 k3 k5, K.lookup (He.ga K "BadNumber") = some (excClassObj nm q (He.ga K "BadNumber") N bs bm true sn sub ab col dd k0 k1 k2 k3 k5 "ValueError.__new__") ∧ PySem.HandSPX.refsVE bm = true := oexB_ok (m 22 _ rfl)
  have sa_BadNumber : PySem.W.findIn K (.ref (He.ga K "BadNumber")) "__setattr__" = some (some (.builtin "object.__setattr__")) := bo (m 23 _ rfl)
  have i_BadNumber : PySem.W.findIn K (.ref (He.ga K "BadNumber")) "__init__" = some (some (.ref (He.fAd K ("BadNumber", some "__init__")))) := bo (m 24 _ rfl)
  have ti_BadNumber : PySem.W.typeIn K (.ref (He.fAd K ("BadNumber", some "__init__"))) = some (.type "function") := of_decide_eq_true (m 25 _ rfl)
  have F_BadNumber : ∃ fd, Fun K "__init__" "BadNumber.__init__" s_BadNumber___init__ (He.fAd K ("BadNumber", some "__init__")) fd := by
    obtain ⟨fd, F⟩ := c.t.d.def_ (d := dH1) 1 rfl
    exact ⟨fd, He5.fun_of F⟩
  have a_NoAxis : PySem.W.nsIn K mainGlobals "NoAxis" = some (some (.ref (He.ga K "NoAxis"))) := bo (m 26 _ rfl)
  have ty_NoAxis : PySem.W.typeIn K (.ref (He.ga K "NoAxis")) = some (.type "type") := of_decide_eq_true (m 27 _ rfl)
  have c_NoAxis : ∃ cd, PySem.W.clsIn K (He.ga K "NoAxis") = some cd ∧ cd.mro = .ref (He.ga K "NoAxis") :: .ref (He.ga K "NetError") :: [.type "ValueError", .type "Exception", .type "BaseException", .type "object"] := mroB_ok (m 28 _ rfl)
  have sb_NoAxis : PySem.W.subIn K (.ref (He.ga K "NoAxis")) (.type "BaseException") = some true := of_decide_eq_true (m 29 _ rfl)
  have ga_NoAxis : PySem.W.findIn K (.ref (He.ga K "NoAxis")) "__getattribute__" = some (some (.builtin "BaseException.__getattribute__")) := bo (m 30 _ rfl)
  have gt_NoAxis : PySem.W.findIn K (.ref (He.ga K "NoAxis")) "__getattr__" = some none := bo (m 31 _ rfl)
  have hd_NoAxis : PySem.W.hasDictIn K (He.ga K "NoAxis") = true := (m 32 _ rfl)
  have no_NoAxis : PySem.W.findIn K (.ref (He.ga K "NoAxis")) "axis" = some none := bo (m 33 _ rfl)
  have kc_NoAxis : PySem.W.keepIn K (.ref (He.ga K "NoAxis")) = true := (m 34 _ rfl)
  have o_NoAxis : ∃ nm q N bs bm sn sub ab col dd k0 k1 k2 k3 k5, K.lookup (He.ga K "NoAxis") = some (excClassObj nm q (He.ga K "NoAxis") N bs bm true sn sub ab col dd k0 k1 k2 k3 k5 "ValueError.__new__") ∧ PySem.HandSPX.refsVE bm = true := oexB_ok (m 35 _ rfl)
  have sa_NoAxis : PySem.W.findIn K (.ref (He.ga K "NoAxis")) "__setattr__" = some (some (.builtin "object.__setattr__")) := bo (m 36 _ rfl)
  have i_NoAxis : PySem.W.findIn K (.ref (He.ga K "NoAxis")) "__init__" = some (some (.ref (He.fAd K ("NoAxis", some "__init__")))) := bo (m 37 _ rfl)
  have ti_NoAxis : PySem.W.typeIn K (.ref (He.fAd K ("NoAxis", some "__init__"))) = some (.type "function") := of_decide_eq_true (m 38 _ rfl)
  have F_NoAxis : ∃ fd, Fun K "__init__" "NoAxis.__init__" s_NoAxis___init__ (He.fAd K ("NoAxis", some "__init__")) fd := by
    obtain ⟨fd, F⟩ := c.t.d.def_ (d := dH2) 2 rfl
    exact ⟨fd, He5.fun_of F⟩
  have a_BadSizes : PySem.W.nsIn K mainGlobals "BadSizes" = some (some (.ref (He.ga K "BadSizes"))) := bo (m 39 _ rfl)
  have ty_BadSizes : PySem.W.typeIn K (.ref (He.ga K "BadSizes")) = some (.type "type") := of_decide_eq_true (m 40 _ rfl)
  have c_BadSizes : ∃ cd, PySem.W.clsIn K (He.ga K "BadSizes") = some cd ∧ cd.mro = .ref (He.ga K "BadSizes") :: .ref (He.ga K "NetError") :: [.type "ValueError", .type "Exception", .type "BaseException", .type "object"] := mroB_ok (m 41 _ rfl)
  have sb_BadSizes : PySem.W.subIn K (.ref (He.ga K "BadSizes")) (.type "BaseException") = some true := of_decide_eq_true (m 42 _ rfl)
  have ga_BadSizes : PySem.W.findIn K (.ref (He.ga K "BadSizes")) "__getattribute__" = some (some (.builtin "BaseException.__getattribute__")) := bo (m 43 _ rfl)
  have gt_BadSizes : PySem.W.findIn K (.ref (He.ga K "BadSizes")) "__getattr__" = some none := bo (m 44 _ rfl)
  have hd_BadSizes : PySem.W.hasDictIn K (He.ga K "BadSizes") = true := (m 45 _ rfl)
  have no_BadSizes : PySem.W.findIn K (.ref (He.ga K "BadSizes")) "sizes" = some none := bo (m 46 _ rfl)
  have kc_BadSizes : PySem.W.keepIn K (.ref (He.ga K "BadSizes")) = true := (m 47 _ rfl)
  have o_BadSizes : ∃ nm q N bs bm sn sub ab col dd k0 k1 k2 k3 k5, K.lookup (He.ga K "BadSizes") = some (excClassObj nm q (He.ga K "BadSizes") N bs bm true sn sub ab col dd k0 k1 k2 k3 k5 "ValueError.__new__") ∧ PySem.HandSPX.refsVE bm = true := oexB_ok (m 48 _ rfl)
  have sa_BadSizes : PySem.W.findIn K (.ref (He.ga K "BadSizes")) "__setattr__" = some (some (.builtin "object.__setattr__")) := bo (m 49 _ rfl)
  have i_BadSizes : PySem.W.findIn K (.ref (He.ga K "BadSizes")) "__init__" = some (some (.ref (He.fAd K ("BadSizes", some "__init__")))) := bo (m 50 _ rfl)
  have ti_BadSizes : PySem.W.typeIn K (.ref (He.fAd K ("BadSizes", some "__init__"))) = some (.type "function") := of_decide_eq_true (m 51 _ rfl)
  have F_BadSizes : ∃ fd, Fun K "__init__" "BadSizes.__init__" s_BadSizes___init__ (He.fAd K ("BadSizes", some "__init__")) fd := by
    obtain ⟨fd, F⟩ := c.t.d.def_ (d := dH3) 3 rfl
    exact ⟨fd, He5.fun_of F⟩
  have xnd : [(He.ga K "NetError"), (He.ga K "NoTie"), (He.ga K "BadNumber"), (He.ga K "NoAxis"), (He.ga K "BadSizes")].Nodup := of_decide_eq_true (m 52 _ rfl)
  have a_Net : PySem.W.nsIn K mainGlobals "Net" = some (some (.ref (He.ga K "Net"))) := bo (m 53 _ rfl)
  have a__law_start : PySem.W.nsIn K mainGlobals "_law_start" = some (some (.ref (He.fAd K ("_law_start", none)))) := bo (m 54 _ rfl)
  have F__law_start : ∃ fd, Fun K "_law_start" "_law_start" s__law_start (He.fAd K ("_law_start", none)) fd := by
    obtain ⟨fd, F⟩ := c.t.d.def_ (d := dH4) 4 rfl
    exact ⟨fd, He5.fun_of F⟩
  have a__law_draw : PySem.W.nsIn K mainGlobals "_law_draw" = some (some (.ref (He.fAd K ("_law_draw", none)))) := bo (m 55 _ rfl)
  have F__law_draw : ∃ fd, Fun K "_law_draw" "_law_draw" s__law_draw (He.fAd K ("_law_draw", none)) fd := by
    obtain ⟨fd, F⟩ := c.t.d.def_ (d := dH5) 5 rfl
    exact ⟨fd, He5.fun_of F⟩
  have a__law_pick : PySem.W.nsIn K mainGlobals "_law_pick" = some (some (.ref (He.fAd K ("_law_pick", none)))) := bo (m 56 _ rfl)
  have F__law_pick : ∃ fd, Fun K "_law_pick" "_law_pick" s__law_pick (He.fAd K ("_law_pick", none)) fd := by
    obtain ⟨fd, F⟩ := c.t.d.def_ (d := dH6) 6 rfl
    exact ⟨fd, He5.fun_of F⟩
  have a__law_n_words : PySem.W.nsIn K mainGlobals "_law_n_words" = some (some (.ref (He.fAd K ("_law_n_words", none)))) := bo (m 57 _ rfl)
  have F__law_n_words : ∃ fd, Fun K "_law_n_words" "_law_n_words" s__law_n_words (He.fAd K ("_law_n_words", none)) fd := by
    obtain ⟨fd, F⟩ := c.t.d.def_ (d := dH7) 7 rfl
    exact ⟨fd, He5.fun_of F⟩
  have a__law_n_plan : PySem.W.nsIn K mainGlobals "_law_n_plan" = some (some (.ref (He.fAd K ("_law_n_plan", none)))) := bo (m 58 _ rfl)
  have F__law_n_plan : ∃ fd, Fun K "_law_n_plan" "_law_n_plan" s__law_n_plan (He.fAd K ("_law_n_plan", none)) fd := by
    obtain ⟨fd, F⟩ := c.t.d.def_ (d := dH8) 8 rfl
    exact ⟨fd, He5.fun_of F⟩
  have a_is_whole : PySem.W.nsIn K mainGlobals "is_whole" = some (some (.ref (He.fAd K ("is_whole", none)))) := bo (m 59 _ rfl)
  have F_is_whole : ∃ fd, Fun K "is_whole" "is_whole" s_is_whole (He.fAd K ("is_whole", none)) fd := by
    obtain ⟨fd, F⟩ := c.t.d.def_ (d := dH9) 9 rfl
    exact ⟨fd, He5.fun_of F⟩
  have a_is_between : PySem.W.nsIn K mainGlobals "is_between" = some (some (.ref (He.fAd K ("is_between", none)))) := bo (m 60 _ rfl)
  have F_is_between : ∃ fd, Fun K "is_between" "is_between" s_is_between (He.fAd K ("is_between", none)) fd := by
    obtain ⟨fd, F⟩ := c.t.d.def_ (d := dH10) 10 rfl
    exact ⟨fd, He5.fun_of F⟩
  have a_is_list : PySem.W.nsIn K mainGlobals "is_list" = some (some (.ref (He.fAd K ("is_list", none)))) := bo (m 61 _ rfl)
  have F_is_list : ∃ fd, Fun K "is_list" "is_list" s_is_list (He.fAd K ("is_list", none)) fd := by
    obtain ⟨fd, F⟩ := c.t.d.def_ (d := dH11) 11 rfl
    exact ⟨fd, He5.fun_of F⟩
  have a_is_name : PySem.W.nsIn K mainGlobals "is_name" = some (some (.ref (He.fAd K ("is_name", none)))) := bo (m 62 _ rfl)
  have F_is_name : ∃ fd, Fun K "is_name" "is_name" s_is_name (He.fAd K ("is_name", none)) fd := by
    obtain ⟨fd, F⟩ := c.t.d.def_ (d := dH12) 12 rfl
    exact ⟨fd, He5.fun_of F⟩
  have a_are_rooms : PySem.W.nsIn K mainGlobals "are_rooms" = some (some (.ref (He.fAd K ("are_rooms", none)))) := bo (m 63 _ rfl)
  have F_are_rooms : ∃ fd, Fun K "are_rooms" "are_rooms" s_are_rooms (He.fAd K ("are_rooms", none)) fd := by
    obtain ⟨fd, F⟩ := c.t.d.def_ (d := dH13) 13 rfl
    exact ⟨fd, He5.fun_of F⟩
  have a_is_key : PySem.W.nsIn K mainGlobals "is_key" = some (some (.ref (He.fAd K ("is_key", none)))) := bo (m 64 _ rfl)
  have F_is_key : ∃ fd, Fun K "is_key" "is_key" s_is_key (He.fAd K ("is_key", none)) fd := by
    obtain ⟨fd, F⟩ := c.t.d.def_ (d := dH14) 14 rfl
    exact ⟨fd, He5.fun_of F⟩
  have a_are_whole : PySem.W.nsIn K mainGlobals "are_whole" = some (some (.ref (He.fAd K ("are_whole", none)))) := bo (m 65 _ rfl)
  have F_are_whole : ∃ fd, Fun K "are_whole" "are_whole" s_are_whole (He.fAd K ("are_whole", none)) fd := by
    obtain ⟨fd, F⟩ := c.t.d.def_ (d := dH15) 15 rfl
    exact ⟨fd, He5.fun_of F⟩
  have a_is_tie : PySem.W.nsIn K mainGlobals "is_tie" = some (some (.ref (He.fAd K ("is_tie", none)))) := bo (m 66 _ rfl)
  have F_is_tie : ∃ fd, Fun K "is_tie" "is_tie" s_is_tie (He.fAd K ("is_tie", none)) fd := by
    obtain ⟨fd, F⟩ := c.t.d.def_ (d := dH16) 16 rfl
    exact ⟨fd, He5.fun_of F⟩
  have a_first_no_tie : PySem.W.nsIn K mainGlobals "first_no_tie" = some (some (.ref (He.fAd K ("first_no_tie", none)))) := bo (m 67 _ rfl)
  have F_first_no_tie : ∃ fd, Fun K "first_no_tie" "first_no_tie" s_first_no_tie (He.fAd K ("first_no_tie", none)) fd := by
    obtain ⟨fd, F⟩ := c.t.d.def_ (d := dH17) 17 rfl
    exact ⟨fd, He5.fun_of F⟩
  have a_Net___init__ : PySem.W.findIn K (.ref (He.ga K "Net")) "__init__" = some (some (.ref (He.fAd K ("Net", some "__init__")))) := bo (m 68 _ rfl)
  have i_Net___init__ : PySem.W.isFn K (.ref (He.fAd K ("Net", some "__init__"))) = true := (m 69 _ rfl)
  have F_Net___init__ : ∃ fd, Fun K "__init__" "Net.__init__" s_Net___init__ (He.fAd K ("Net", some "__init__")) fd := by
    obtain ⟨fd, F⟩ := c.t.d.def_ (d := dH18) 18 rfl
    exact ⟨fd, He5.fun_of F⟩
  have a__law_n_made : PySem.W.nsIn K mainGlobals "_law_n_made" = some (some (.ref (He.fAd K ("_law_n_made", none)))) := bo (m 70 _ rfl)
  have F__law_n_made : ∃ fd, Fun K "_law_n_made" "_law_n_made" s__law_n_made (He.fAd K ("_law_n_made", none)) fd := by
    obtain ⟨fd, F⟩ := c.t.d.def_ (d := dH19) 19 rfl
    exact ⟨fd, He5.fun_of F⟩
  have a__law_tried : PySem.W.nsIn K mainGlobals "_law_tried" = some (some (.ref (He.fAd K ("_law_tried", none)))) := bo (m 71 _ rfl)
  have F__law_tried : ∃ fd, Fun K "_law_tried" "_law_tried" s__law_tried (He.fAd K ("_law_tried", none)) fd := by
    obtain ⟨fd, F⟩ := c.t.d.def_ (d := dH20) 20 rfl
    exact ⟨fd, He5.fun_of F⟩
  have a_are_counts : PySem.W.nsIn K mainGlobals "are_counts" = some (some (.ref (He.fAd K ("are_counts", none)))) := bo (m 72 _ rfl)
  have F_are_counts : ∃ fd, Fun K "are_counts" "are_counts" s_are_counts (He.fAd K ("are_counts", none)) fd := by
    obtain ⟨fd, F⟩ := c.t.d.def_ (d := dH21) 21 rfl
    exact ⟨fd, He5.fun_of F⟩
  have a_ask_sizes : PySem.W.nsIn K mainGlobals "ask_sizes" = some (some (.ref (He.fAd K ("ask_sizes", none)))) := bo (m 73 _ rfl)
  have F_ask_sizes : ∃ fd, Fun K "ask_sizes" "ask_sizes" s_ask_sizes (He.fAd K ("ask_sizes", none)) fd := by
    obtain ⟨fd, F⟩ := c.t.d.def_ (d := dH22) 22 rfl
    exact ⟨fd, He5.fun_of F⟩
  have a_box_way : PySem.W.nsIn K mainGlobals "box_way" = some (some (.ref (He.fAd K ("box_way", none)))) := bo (m 74 _ rfl)
  have F_box_way : ∃ fd, Fun K "box_way" "box_way" s_box_way (He.fAd K ("box_way", none)) fd := by
    obtain ⟨fd, F⟩ := c.t.d.def_ (d := dH23) 23 rfl
    exact ⟨fd, He5.fun_of F⟩
  have a_is_box_way : PySem.W.nsIn K mainGlobals "is_box_way" = some (some (.ref (He.fAd K ("is_box_way", none)))) := bo (m 75 _ rfl)
  have F_is_box_way : ∃ fd, Fun K "is_box_way" "is_box_way" s_is_box_way (He.fAd K ("is_box_way", none)) fd := by
    obtain ⟨fd, F⟩ := c.t.d.def_ (d := dH24) 24 rfl
    exact ⟨fd, He5.fun_of F⟩
  have a_longest_way : PySem.W.nsIn K mainGlobals "longest_way" = some (some (.ref (He.fAd K ("longest_way", none)))) := bo (m 76 _ rfl)
  have F_longest_way : ∃ fd, Fun K "longest_way" "longest_way" s_longest_way (He.fAd K ("longest_way", none)) fd := by
    obtain ⟨fd, F⟩ := c.t.d.def_ (d := dH25) 25 rfl
    exact ⟨fd, He5.fun_of F⟩
  have a__law_same : PySem.W.nsIn K mainGlobals "_law_same" = some (some (.ref (He.fAd K ("_law_same", none)))) := bo (m 77 _ rfl)
  have F__law_same : ∃ fd, Fun K "_law_same" "_law_same" s__law_same (He.fAd K ("_law_same", none)) fd := by
    obtain ⟨fd, F⟩ := c.t.d.def_ (d := dH26) 26 rfl
    exact ⟨fd, He5.fun_of F⟩
  have a__law_frozen : PySem.W.nsIn K mainGlobals "_law_frozen" = some (some (.ref (He.fAd K ("_law_frozen", none)))) := bo (m 78 _ rfl)
  have F__law_frozen : ∃ fd, Fun K "_law_frozen" "_law_frozen" s__law_frozen (He.fAd K ("_law_frozen", none)) fd := by
    obtain ⟨fd, F⟩ := c.t.d.def_ (d := dH27) 27 rfl
    exact ⟨fd, He5.fun_of F⟩
  have a_ask_axis : PySem.W.nsIn K mainGlobals "ask_axis" = some (some (.ref (He.fAd K ("ask_axis", none)))) := bo (m 79 _ rfl)
  have F_ask_axis : ∃ fd, Fun K "ask_axis" "ask_axis" s_ask_axis (He.fAd K ("ask_axis", none)) fd := by
    obtain ⟨fd, F⟩ := c.t.d.def_ (d := dH28) 28 rfl
    exact ⟨fd, He5.fun_of F⟩
  have a_ask_cells : PySem.W.nsIn K mainGlobals "ask_cells" = some (some (.ref (He.fAd K ("ask_cells", none)))) := bo (m 80 _ rfl)
  have F_ask_cells : ∃ fd, Fun K "ask_cells" "ask_cells" s_ask_cells (He.fAd K ("ask_cells", none)) fd := by
    obtain ⟨fd, F⟩ := c.t.d.def_ (d := dH29) 29 rfl
    exact ⟨fd, He5.fun_of F⟩
  have a_boxed : PySem.W.nsIn K mainGlobals "boxed" = some (some (.ref (He.fAd K ("boxed", none)))) := bo (m 81 _ rfl)
  have F_boxed : ∃ fd, Fun K "boxed" "boxed" s_boxed (He.fAd K ("boxed", none)) fd := by
    obtain ⟨fd, F⟩ := c.t.d.def_ (d := dH30) 30 rfl
    exact ⟨fd, He5.fun_of F⟩
  have a_Net___contains__ : PySem.W.findIn K (.ref (He.ga K "Net")) "__contains__" = some (some (.ref (He.fAd K ("Net", some "__contains__")))) := bo (m 82 _ rfl)
  have i_Net___contains__ : PySem.W.isFn K (.ref (He.fAd K ("Net", some "__contains__"))) = true := (m 83 _ rfl)
  have F_Net___contains__ : ∃ fd, Fun K "__contains__" "Net.__contains__" s_Net___contains__ (He.fAd K ("Net", some "__contains__")) fd := by
    obtain ⟨fd, F⟩ := c.t.d.def_ (d := dH31) 31 rfl
    exact ⟨fd, He5.fun_of F⟩
  have a_ask_unlike_names : PySem.W.nsIn K mainGlobals "ask_unlike_names" = some (some (.ref (He.fAd K ("ask_unlike_names", none)))) := bo (m 84 _ rfl)
  have F_ask_unlike_names : ∃ fd, Fun K "ask_unlike_names" "ask_unlike_names" s_ask_unlike_names (He.fAd K ("ask_unlike_names", none)) fd := by
    obtain ⟨fd, F⟩ := c.t.d.def_ (d := dH32) 32 rfl
    exact ⟨fd, He5.fun_of F⟩
  have a_cuts : PySem.W.nsIn K mainGlobals "cuts" = some (some (.ref (He.fAd K ("cuts", none)))) := bo (m 85 _ rfl)
  have F_cuts : ∃ fd, Fun K "cuts" "cuts" s_cuts (He.fAd K ("cuts", none)) fd := by
    obtain ⟨fd, F⟩ := c.t.d.def_ (d := dH33) 33 rfl
    exact ⟨fd, He5.fun_of F⟩
  have a_Net_ties : PySem.W.findIn K (.ref (He.ga K "Net")) "ties" = some (some (.ref (He.fAd K ("Net", some "ties")))) := bo (m 86 _ rfl)
  have i_Net_ties : PySem.W.isFn K (.ref (He.fAd K ("Net", some "ties"))) = true := (m 87 _ rfl)
  have F_Net_ties : ∃ fd, Fun K "ties" "Net.ties" s_Net_ties (He.fAd K ("Net", some "ties")) fd := by
    obtain ⟨fd, F⟩ := c.t.d.def_ (d := dH34) 34 rfl
    exact ⟨fd, He5.fun_of F⟩
  have a_law : PySem.W.nsIn K mainGlobals "law" = some (some (.ref (He.fAd K ("law", none)))) := bo (m 88 _ rfl)
  have F_law : ∃ fd, FunC K "law" "law" s_law (He.fAd K ("law", none)) (He.codeOf K ("law", none)) fd := by
    obtain ⟨fd, F⟩ := c.t.d.def_ (d := dH35) 35 rfl
    exact ⟨fd, funC_of (He5.fun_of F)⟩
  have t_law : PySem.W.CodeHd h (He.codeOf K ("law", none)) (He.tabOf K (He.codeOf K ("law", none))) ∧ h.get? (He.tabOf K (He.codeOf K ("law", none))) = some (PySem.W.tabObj #[]) := ⟨PySem.W.codeHd_of_K X (c.hd ("law", none) (by simp [tfH])), c.empty ("law", none) (by simp [tfH])⟩
  have u_law : K.lookup (He.tabOf K (He.codeOf K ("law", none))) = none := c.out ("law", none) (by simp [tfH])
  have pg_Net : PySem.W.plainGet K (He.ga K "Net") Str.empty = true := (m 89 _ rfl)
  have hd_Net : PySem.W.hasDictIn K (He.ga K "Net") = true := (m 90 _ rfl)
  have po_Net : PySem.W.plainOver K (He.ga K "Net") = true := (m 91 _ rfl)
  have sa_Net : PySem.W.findIn K (.ref (He.ga K "Net")) "__setattr__" = some (some (.builtin "object.__setattr__")) := bo (m 92 _ rfl)
  have mk_Net : PySem.W.makesIn K (He.ga K "Net") = true := (m 93 _ rfl)
  have kc_Net : PySem.W.keepIn K (.ref (He.ga K "Net")) = true := (m 94 _ rfl)
  have n_Net__named : PySem.W.findIn K (.ref (He.ga K "Net")) "_named" = some none := bo (m 95 _ rfl)
  have n_Net__rooms : PySem.W.findIn K (.ref (He.ga K "Net")) "_rooms" = some none := bo (m 96 _ rfl)
  have n_Net__ties : PySem.W.findIn K (.ref (He.ga K "Net")) "_ties" = some none := bo (m 97 _ rfl)
  have n_Net_axes : PySem.W.findIn K (.ref (He.ga K "Net")) "axes" = some none := bo (m 98 _ rfl)
  have z_all : PySem.W.nsIn K mainGlobals "all" = some none := bo (m 99 _ rfl)
  have z_bool : PySem.W.nsIn K mainGlobals "bool" = some none := bo (m 100 _ rfl)
  have z_dict : PySem.W.nsIn K mainGlobals "dict" = some none := bo (m 101 _ rfl)
  have z_enumerate : PySem.W.nsIn K mainGlobals "enumerate" = some none := bo (m 102 _ rfl)
  have z_int : PySem.W.nsIn K mainGlobals "int" = some none := bo (m 103 _ rfl)
  have z_isinstance : PySem.W.nsIn K mainGlobals "isinstance" = some none := bo (m 104 _ rfl)
  have z_len : PySem.W.nsIn K mainGlobals "len" = some none := bo (m 105 _ rfl)
  have z_list : PySem.W.nsIn K mainGlobals "list" = some none := bo (m 106 _ rfl)
  have z_range : PySem.W.nsIn K mainGlobals "range" = some none := bo (m 107 _ rfl)
  have z_str : PySem.W.nsIn K mainGlobals "str" = some none := bo (m 108 _ rfl)
  have z_tuple : PySem.W.nsIn K mainGlobals "tuple" = some none := bo (m 109 _ rfl)
  have z_zip : PySem.W.nsIn K mainGlobals "zip" = some none := bo (m 110 _ rfl)
  obtain ⟨_, _, c_SIGNS, e_SIGNS⟩ := strB_ok (m 111 _ rfl)
  obtain ⟨_, c_MOST_CELLS⟩ := intB_ok (m 112 _ rfl)
  obtain ⟨_, c_MOST_AXES⟩ := intB_ok (m 113 _ rfl)
  have pnd : [(He.tabOf K (He.codeOf K ("law", none)))].Nodup := of_decide_eq_true (m 114 _ rfl)
  exact all_mk X G hfa a_NoTie ty_NoTie c_NoTie sb_NoTie ga_NoTie gt_NoTie hd_NoTie no_NoTie kc_NoTie o_NoTie sa_NoTie i_NoTie ti_NoTie F_NoTie a_BadNumber ty_BadNumber c_BadNumber sb_BadNumber ga_BadNumber gt_BadNumber hd_BadNumber no_BadNumber kc_BadNumber o_BadNumber sa_BadNumber i_BadNumber ti_BadNumber F_BadNumber a_NoAxis ty_NoAxis c_NoAxis sb_NoAxis ga_NoAxis gt_NoAxis hd_NoAxis no_NoAxis kc_NoAxis o_NoAxis sa_NoAxis i_NoAxis ti_NoAxis F_NoAxis a_BadSizes ty_BadSizes c_BadSizes sb_BadSizes ga_BadSizes gt_BadSizes hd_BadSizes no_BadSizes kc_BadSizes o_BadSizes sa_BadSizes i_BadSizes ti_BadSizes F_BadSizes xnd a_Net a__law_start F__law_start a__law_draw F__law_draw a__law_pick F__law_pick a__law_n_words F__law_n_words a__law_n_plan F__law_n_plan a_is_whole F_is_whole a_is_between F_is_between a_is_list F_is_list a_is_name F_is_name a_are_rooms F_are_rooms a_is_key F_is_key a_are_whole F_are_whole a_is_tie F_is_tie a_first_no_tie F_first_no_tie a_Net___init__ i_Net___init__ F_Net___init__ a__law_n_made F__law_n_made a__law_tried F__law_tried a_are_counts F_are_counts a_ask_sizes F_ask_sizes a_box_way F_box_way a_is_box_way F_is_box_way a_longest_way F_longest_way a__law_same F__law_same a__law_frozen F__law_frozen a_ask_axis F_ask_axis a_ask_cells F_ask_cells a_boxed F_boxed a_Net___contains__ i_Net___contains__ F_Net___contains__ a_ask_unlike_names F_ask_unlike_names a_cuts F_cuts a_Net_ties i_Net_ties F_Net_ties a_law F_law t_law u_law pg_Net hd_Net po_Net sa_Net mk_Net kc_Net n_Net__named n_Net__rooms n_Net__ties n_Net_axes z_all z_bool z_dict z_enumerate z_int z_isinstance z_len z_list z_range z_str z_tuple z_zip c_SIGNS e_SIGNS c_MOST_CELLS c_MOST_AXES pnd math
end H41
open PySem PySem.W PySem.Calls PyProof.Rows
set_option maxRecDepth 100000 in
set_option maxHeartbeats 0 in
theorem PySem.Challenge.cw_repeatnets_k41_boxes_refused_holds : PySem.Challenge.rw_repeatnets_k41_boxes_refused.Holds := by
  w_on; o_law
  refine HandSHeadRun.head_imp (r := OpenLaw.row PySem.Challenge.rw_repeatnets_k41_boxes_refused) (q := H41.qv) (H := H41.hk) (ob := H41.ob) (M := 9000) (loose := H41.looseH) (d := HandSHeadRun.topDef (OpenLaw.row PySem.Challenge.rw_repeatnets_k41_boxes_refused).prog 91) (kwd := []) H41.ob_eq
    H41.run (by kernel_rfl) (by kernel_rfl) (by kernel_rfl) (by rfl) (by first | assumption | decide +kernel) (by decide +kernel) ⟨rfl, rfl, rfl, rfl, rfl, by decide +kernel⟩ ?hw ?hc
  case hw => w_witness2
  case hc =>
    refine VL.walkX (l := PySem.Challenge.rw_repeatnets_k41_boxes_refused) (k := 9) (x := "_law_script") rfl (by kernel_rfl) ⟨rfl, by decide, by decide⟩ ?F
    intro w mg f h K X G hmg c
    have hmg : mg ("law" : PySem.Str) = some (.ref f) := by
      have e : (HandSHeadRun.topDef (OpenLaw.row PySem.Challenge.rw_repeatnets_k41_boxes_refused).prog 91).name = ("law" : PySem.Str) := by kernel_rfl
      rw [← e]
      exact hmg
    exact H41.facts X G hmg c