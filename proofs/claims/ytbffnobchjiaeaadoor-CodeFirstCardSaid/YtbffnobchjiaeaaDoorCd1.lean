/- Layer 3: the tables, held against each other. -/
import Derived.Test.YtbffnobchjiaeaaDoorCd0
namespace Go.Proofs.YtbffnobchjiaeaaDoor
open Go
theorem tab_ok : (winT ++ drawT ++ handT ++ evT).all (fun e => okS e.2.1 && !e.1.isEmpty && (e.2.2 == [45] || okS e.2.2) && !e.2.2.isEmpty) = true := by decide +kernel
def eqReq (k : Nat) : Bool := (formF (reqT (k + 1)).2.1).1 == formR ((partsF (reqL.getD k []) 124).getD 1 []) && (reqT (k + 1)).1 == (partsF (reqL.getD k []) 124).getD 0 [] && (partsF (reqL.getD k []) 124).length == 2 && okR ((partsF (reqL.getD k []) 124).getD 1 [])
theorem req_eq : (List.range 58).all eqReq = true := by decide +kernel
def eqEve (k : Nat) : Bool := (formF (eveT (k + 1)).2.1).1 == formR ((partsF (evL.getD k []) 124).getD 1 []) && (eveT (k + 1)).1 == (partsF (evL.getD k []) 124).getD 0 [] && (partsF (evL.getD k []) 124).length == 2 && okR ((partsF (evL.getD k []) 124).getD 1 [])
theorem eve_eq : (List.range 25).all eqEve = true := by decide +kernel
def eqRep (k : Nat) : Bool := ((reqT (k + 1)).2.2 == [45] && repL.getD k [] == [45]) || (!((reqT (k + 1)).2.2 == [45]) && !(repL.getD k [] == [45]) && okR (repL.getD k []) && (formF (reqT (k + 1)).2.2).1 == formR (repL.getD k []))
theorem rep_eq : (List.range 58).all eqRep = true := by decide +kernel
def eqNames (i j : Nat) : Bool := i == j || !((reqT (i + 1)).1 == (reqT (j + 1)).1)
theorem names_ne : ((List.range 58).all fun i => (List.range 58).all fun j => eqNames i j) = true := by decide +kernel
def eqNamesE (i j : Nat) : Bool := i == j || !((eveT (i + 1)).1 == (eveT (j + 1)).1)
theorem namesE_ne : ((List.range 25).all fun i => (List.range 25).all fun j => eqNamesE i j) = true := by decide +kernel
end Go.Proofs.YtbffnobchjiaeaaDoor
