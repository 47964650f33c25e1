package shell

import (
	"strconv"

	"messuage/api"
	"messuage/script"
)

const hexDigits = "0123456789abcdef"

// tell is what comes of a step, of a kind, that a line with this first word told.
func tell(word string, kind int, r script.Result) string {
	if r.Err != api.OK {
		return "error " + strconv.Itoa(int(r.Err))
	}
	switch kind {
	case script.Malloc:
		return "object " + strconv.Itoa(r.N)
	case script.Read:
		return "bytes " + hexText(r.Bytes)
	case script.Migrate:
		return "moved " + strconv.Itoa(r.N)
	case script.Query:
		return "nodes" + nodesText(r.Nodes)
	case script.Drain, script.Flush, script.Release, script.Tick:
		return word + " " + strconv.Itoa(r.N)
	}
	return "ok"
}

// hexText is each byte in two signs.
func hexText(b []byte) string {
	var signs []byte
	for _, x := range b {
		signs = append(signs, hexDigits[x>>4], hexDigits[x&15])
	}
	return string(signs)
}

// nodesText is a blank and the node, for each page; a page that stands on no frame has a node below 0.
func nodesText(nodes []int) string {
	text := ""
	for _, node := range nodes {
		if node < 0 {
			text += " -"
		} else {
			text += " " + strconv.Itoa(node)
		}
	}
	return text
}
