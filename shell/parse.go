package shell

import (
	"strings"

	"messuage/api"
	"messuage/nodeset"
	"messuage/policy"
	"messuage/script"
)

// maxWords is how many words a step has at most, its first one among them.
const maxWords = 5

// maxDigits is how many digits a number has at most.
const maxDigits = 4

// What a word tells of a step.
const (
	itsCPU = iota
	itsObj
	itsAt
	itsN
	itsBytes
	itsPolicy
)

// parseStep is the step that a line's words tell; false if they tell none.
func parseStep(words []string) (script.Step, bool) {
	rest := words[1:]
	switch words[0] {
	case "malloc":
		return fill(script.Step{Kind: script.Malloc}, rest, itsCPU, itsN)
	case "free":
		return fill(script.Step{Kind: script.Free}, rest, itsCPU, itsObj)
	case "read":
		return fill(script.Step{Kind: script.Read}, rest, itsCPU, itsObj, itsAt, itsN)
	case "write":
		return fill(script.Step{Kind: script.Write}, rest, itsCPU, itsObj, itsAt, itsBytes)
	case "policy":
		return fill(script.Step{Kind: script.Policy}, rest, itsCPU, itsPolicy)
	case "mbind":
		return fill(script.Step{Kind: script.MBind}, rest, itsObj, itsPolicy)
	case "migrate":
		return fill(script.Step{Kind: script.Migrate}, rest, itsObj, itsN)
	case "force":
		return fill(script.Step{Kind: script.Migrate, Told: true}, rest, itsObj, itsN)
	case "query":
		return fill(script.Step{Kind: script.Query}, rest, itsObj)
	case "drain":
		return fill(script.Step{Kind: script.Drain}, rest, itsN)
	case "flush":
		return fill(script.Step{Kind: script.Flush}, rest, itsCPU)
	case "release":
		return fill(script.Step{Kind: script.Release}, rest)
	case "tick":
		return fill(script.Step{Kind: script.Tick}, rest, itsN)
	}
	return script.Step{}, false
}

// fill lays each word into a step, as what it tells; false if there are more words or less, or one doesn't tell it.
func fill(x script.Step, words []string, places ...int) (script.Step, bool) {
	if len(words) != len(places) {
		return script.Step{}, false
	}
	for i, place := range places {
		if !lay(&x, place, words[i]) {
			return script.Step{}, false
		}
	}
	return x, true
}

// lay lays one word into a step.
func lay(x *script.Step, place int, word string) bool {
	var ok bool
	switch place {
	case itsCPU:
		x.CPU, ok = parseNumber(word)
	case itsObj:
		x.Obj, ok = parseNumber(word)
	case itsAt:
		x.At, ok = parseNumber(word)
	case itsN:
		x.N, ok = parseNumber(word)
	case itsBytes:
		x.Bytes, ok = []byte(word), true
	case itsPolicy:
		x.Policy, ok = parsePolicy(word)
	}
	return ok
}

func parsePolicy(word string) (policy.Policy, bool) {
	if word == "default" {
		return policy.Policy{Mode: policy.Default}, true
	}
	name, rest, _ := strings.Cut(word, ":")
	switch name {
	case "bind":
		return parseSet(policy.Bind, rest)
	case "interleave":
		return parseSet(policy.Interleave, rest)
	case "prefer":
		node, ok := parseNumber(rest)
		return policy.Policy{Mode: policy.Preferred, Node: node}, ok
	}
	return policy.Policy{}, false
}

// parseSet is a policy of a set. Also one without a node is a set: it is the machine that refuses it.
func parseSet(mode int, text string) (policy.Policy, bool) {
	set, e := nodeset.Parse(text)
	return policy.Policy{Mode: mode, Set: set}, e == api.OK
}

func parseNumber(word string) (int, bool) {
	if len(word) < 1 || len(word) > maxDigits || len(word) > 1 && word[0] == '0' {
		return 0, false
	}
	number := 0
	for i := range len(word) {
		if word[i] < '0' || word[i] > '9' {
			return 0, false
		}
		number = 10*number + int(word[i]-'0')
	}
	return number, true
}
